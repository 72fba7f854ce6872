import PyProof.Rows.All
import Wide.All
import OpenK.AllK
import Wide.FinOn
import Lean
import PyProof.EqAt
import PyProof.EqKinds
import PyProof.TupleCall
import KE.KRevSl
import PyProof.NeData
import PyProof.P3Eq
import PyProof.Rows.Range3
import PyProof.EnumMake
import PyProof.Draws
import PyProof.SetKind
import PyProof.TupleKey
import PyProof.DictKinds
import PyProof.CollectWalk
import PyProof.Rows.SetFrom
import PyProof.Rows.SortShell
import PyProof.SetRoads
import PyProof.IsRules
import KE.KDictSum
import PyProof.ZipIter
import PyProof.DictItems
import KE.KDictList
import PyProof.WalkInts
import PyProof.Rows.SeqCalls
import PySem.Challenge.RW_rootprime_k75_sums_of_squares_gone_throu
set_option Elab.async false
local macro_rules | `(tactic| omega) => `(tactic| lia)
set_option linter.all false
set_option maxRecDepth 100000
namespace L2
open PySem PySem.Spec PyProof.Rows
abbrev Key:=Sum Int Str
def gn:Key->Value->Bool
 | .inl k,v=>Value.isInt k v
 | .inr x,v=>Value.isStrOf x v
def w6 (w:World):Key->Int
 | .inl k=>hashInt k
 | .inr x=>hashStr w x
theorem aM:∀{k:Key} {v:Value},gn k v=true->(∃ i t,k=Sum.inl i/\v=Value.int i t)∨(∃ x t,k=Sum.inr x/\v=Value.str x t)
 | .inl i,v,h=>by
  obtain⟨t,e⟩:=Value.isInt_shape (k:=i) (v:=v) h
  exact .inl ⟨i,t,rfl,e⟩
 | .inr x,v,h=>by
  obtain⟨t,e⟩:=Value.isStrOf_shape (x:=x) (v:=v) h
  exact .inr ⟨x,t,rfl,e⟩
theorem lP (i:Int) (t:Tok):gn (.inl i) (.int i t)=true:=by simp [gn,Value.isInt]
theorem lQ (x:Str) (t:Tok):gn (.inr x) (.str x t)=true:=by simp [gn,Value.isStrOf]
theorem tG (a b:Int):decide ((Sum.inl a:Key)=Sum.inl b)=(a==b):=by
 by_cases e:a=b
 ·subst e;simp
 ·have h:¬(Sum.inl a:Key)=Sum.inl b:=λq=>e (Sum.inl.inj q)
  rw [decide_eq_false h]
  exact (beq_eq_false_iff_ne.mpr e).symm
theorem tJ (a b:Str):decide ((Sum.inr a:Key)=Sum.inr b)=decide (a=b):=by
 by_cases e:a=b
 ·subst e;simp
 ·have h:¬(Sum.inr a:Key)=Sum.inr b:=λq=>e (Sum.inr.inj q)
  rw [decide_eq_false h,decide_eq_false e]
theorem tH (a:Int) (b:Str):decide ((Sum.inl a:Key)=Sum.inr b)=false:=decide_eq_false (λq=>nomatch q)
theorem tI (a:Str) (b:Int):decide ((Sum.inr a:Key)=Sum.inl b)=false:=decide_eq_false (λq=>nomatch q)
def aK (prog:Program) (w:World):PySem.KeyKind prog w Key where
 is:=gn
 hash:=w6 w
 inj:=λv a b ha hb=>by
  rcases aM ha with⟨i,t,rfl,rfl⟩|⟨x,t,rfl,rfl⟩
  ·rcases aM hb with⟨j,u,rfl,e⟩|⟨y,u,rfl,e⟩
   ·injection e with e1 _;rw [e1]
   ·exact nomatch e
  ·rcases aM hb with⟨j,u,rfl,e⟩|⟨y,u,rfl,e⟩
   ·exact nomatch e
   ·injection e with e1 _;rw [e1]
 byValue:=λk v h=>by
  rcases aM h with⟨i,t,rfl,rfl⟩|⟨x,t,rfl,rfl⟩<;>rfl
 pyHash:=λhv h=>by
  rcases aM hv with⟨i,t,rfl,rfl⟩|⟨x,t,rfl,rfl⟩
  ·exact wpAny_pyHash_int h
  ·exact wpAny_pyHash_str h
 eqBool:=λhu hv h=>by
  rcases aM hu with⟨i,t,rfl,rfl⟩|⟨x,t,rfl,rfl⟩
  ·rcases aM hv with⟨j,u,rfl,rfl⟩|⟨y,u,rfl,rfl⟩
   ·rw [tG] at h;exact wpAny_eqBool_int h
   ·rw [tH] at h;exact SeqAt.EqAt.int_str i t y u _ _ _ _ h
  ·rcases aM hv with⟨j,u,rfl,rfl⟩|⟨y,u,rfl,rfl⟩
   ·rw [tI] at h;exact SeqAt.EqAt.str_int x t j u _ _ _ _ h
   ·rw [tJ] at h;exact wpAny_eqBool_str h
 «strs»:=λk x t v h=>by
  rcases aM h with⟨i,u,rfl,e⟩|⟨y,u,rfl,e⟩
  ·exact nomatch e
  ·injection e with e1 _
   subst e1
   cases v<;>rfl
theorem jg (prog:Program) (w:World) (i:Int) (t:Tok):(aK prog w).is (.inl i) (.int i t)=true:=lP i t
theorem jh (prog:Program) (w:World) (x:Str) (t:Tok):(aK prog w).is (.inr x) (.str x t)=true:=lQ x t
inductive V where
 | non | bl (b:Bool) | int (i:Int) | str (x:Str) | byt (b:Array UInt8) | flt (b:UInt64) | ref (a:Addr) | ty (n:String)
 deriving DecidableEq
def RelV:V->Value->Prop
 | .non,u=>u=Value.none
 | .bl b,u=>u=Value.bool b
 | .int i,u=>∃ t,u=Value.int i t
 | .str x,u=>∃ t,u=Value.str x t
 | .byt b,u=>∃ t,u=Value.bytes b t
 | .flt b,u=>∃ t,u=Value.float b t
 | .ref a,u=>u=Value.ref a
 | .ty n,u=>u=Value.type n
abbrev Vals:List V->List Value->Prop:=Paired RelV
theorem Vals.length {xs:List V} {us:List Value} (r:Vals xs us):xs.length=us.length:=Paired.length r
theorem Vals.get:∀{xs:List V} {us:List Value} {i:Nat} {x:V},Vals xs us->xs[i]?=some x->∃ u,us[i]?=some u/\RelV x u
 | _,_,_,_,.nil,e=>by simp at e
 | _,_,0,_,.cons r _,e=>by simp at e;subst e;exact⟨_,rfl,r⟩
 | _,_,i+1,x,.cons _ t,e=>by
  obtain⟨u,h1,h2⟩:=Vals.get (i:=i) (x:=x) t (by simpa using e)
  exact⟨u,by simpa using h1,h2⟩
theorem Vals.set {x:V} {u:Value} (r:RelV x u):∀{xs:List V} {us:List Value} (i:Nat),Vals xs us->Vals (xs.set i x) (us.set i u)
 | _,_,_,.nil=>.nil
 | _,_,0,.cons _ t=>.cons r t
 | _,_,i+1,.cons q t=>.cons q (Vals.set r i t)
theorem Vals.append:∀{xs ys:List V} {us ws:List Value},Vals xs us->Vals ys ws->Vals (xs++ys) (us++ws)
 | _,_,_,_,.nil,s=>s
 | _,_,_,_,.cons r t,s=>.cons r (Vals.append t s)
theorem Vals.take:∀{xs:List V} {us:List Value} (n:Nat),Vals xs us->Vals (xs.take n) (us.take n)
 | _,_,0,_=>.nil
 | _,_,_+1,.nil=>.nil
 | _,_,n+1,.cons r t=>.cons r (Vals.take n t)
theorem Vals.drop:∀{xs:List V} {us:List Value} (n:Nat),Vals xs us->Vals (xs.drop n) (us.drop n)
 | _,_,0,r=>r
 | _,_,_+1,.nil=>.nil
 | _,_,n+1,.cons _ t=>Vals.drop n t
def dG:Option V->Option Value->Prop
 | some v,some u=>RelV v u
 | none,none=>True
 | _,_=>False
def KV {κ:Type}:List (κ × V)->List (κ × Value)->Prop:=Paired fun(p:κ × V) (q:κ × Value)=>p.1=q.1/\RelV p.2 q.2
def kV:Key->V
 | .inl i=>.int i
 | .inr x=>.str x
inductive HO where
  | lst (xs:List V)
  | tup (xs:List V)
  | dK (kvs:List (Key × V)) | dT (kvs:List (List Key × V))
  | set (S:Int->Bool) (n:Nat)
  | ins (C dx:Addr) (fs:List (Str × V))
  | own (x:Addr)
  | xd (fs:List (Str × V))
  | met (f x:Addr)
  | rng (lo hi:Int)
  | frz (o:Obj) (u:HO)
  | tbl (ps:Array Value)
  | ext (φ:Heap->Prop)
abbrev Hp:=Addr->Option HO
def upd (H:Hp) (a:Addr) (o:HO):Hp:=λb=>if b=a then some o else H b
theorem ae {H:Hp} {a:Addr} {o:HO}:upd H a o a=some o:=by unfold upd;rw [if_pos rfl]
theorem aj {H:Hp} {a b:Addr} {o:HO} (h:b≠a):upd H a o b=H b:=by unfold upd;rw [if_neg h]
theorem vA {H:Hp} {a b:Addr} {o u:HO} (h:H a=some o) (h':H b=some u) (d:o≠u):a≠b:=by
 intro e;subst e;rw [h] at h';exact d (Option.some.inj h')
theorem aH {H:Hp} {a b:Addr} {o:HO} (h:H a=some o) (h':H b=none):a≠b:=by
 intro e;subst e;rw [h] at h';cases h'
section
variable (P:Program) (w:World)
def aG (H:Hp) (h:Heap) (a:Addr):HO->Prop
 | .lst xs=>xs.length<=sizeLine/\∃(its:List Value) (n:Nat),Vals xs its/\h.get? a=some { cls:=.type "list",data:=.seq its.toArray n }
 | .tup xs=>xs.length<=sizeLine/\∃ its:List Value,Vals xs its/\IsTup h a its.toArray
 | .dK kvs=>kvs.length<=sizeLine/\(a==sysModules)=false/\∃ vs,KV kvs vs/\h.DictOf (aK P w) a vs
 | .dT kvs=>kvs.length<=sizeLine/\(a==sysModules)=false/\∃ xs:List (List Key × Addr × Value),
   Paired (fun(p:List Key × V) (q:List Key × Addr × Value)=>p.1=q.1/\H q.2.1=some (.tup (p.1.map kV))/\RelV p.2 q.2.2) kvs xs /\
   ∃ o es ep,h.get? a=some o/\o.ExactDict/\o.data=.dict es ep/\es.toList=xs.map (entryOfKey (tupleKind (aK P w)))/\(xs.map (·.1)).Nodup
 | .set S n=>h.SetOf (intKind P w) a S n
 | .ins C dx fs=>H dx=some (.own a)/\fs.length<=1000/\dx≠a/\h.get? a=some (PySem.W.instObj C dx) /\
   ∃ mA,h.Ns1 dx mA/\(∀ f,dG (fs.lookup f) (mA f))/\PySem.Within mA (fs.map (·.1))
 | .own _=>∃ o,h.get? a=some o
 | .xd fs=>∃ mA,h.Ns1 a mA/\∀ f,dG (fs.lookup f) (mA f)
 | .rng lo hi=>∃ t u v,h.get? a=some { cls:=.type "range",data:=.fields #[.int lo t,.int hi u,.int 1 v] }
 | .frz o u=>h.get? a=some o/\aG H h a u
 | .tbl ps=>h.get? a=some { cls:=.none,data:=.fields ps }
 | .met f x=>h.get? a=some (PySem.W.methodObj (.ref f) (.ref x))
 | .ext φ=>φ h/\(∃ o,h.get? a=some o)/\∀ h1 h2:Heap,φ h1->(∀ o,h1.get? a=some o->h2.get? a=some o)->φ h2
def cm (H:Hp) (h:Heap):Prop:=∀ a o,H a=some o->aG P w H h a o
end
section
variable {P:Program} {w:World} {H H':Hp} {h h':Heap} {a:Addr} {o:HO}
theorem aG.lt (x:aG P w H h a o):a<h.objs.size:=by
 cases o with
 | lst xs=>obtain⟨_,_,_,_,e⟩:=x;exact Heap.lt_size e
 | tup xs=>obtain⟨_,_,_,p⟩:=x;exact p.lt
 | dK kvs=>obtain⟨_,_,_,_,o,_,_,e,_⟩:=x;exact Heap.lt_size e
 | dT kvs=>obtain⟨_,_,_,_,o,_,_,e,_⟩:=x;exact Heap.lt_size e
 | set S n=>obtain⟨o,_,_,_,e,_⟩:=x;exact Heap.lt_size e
 | ins C dx fs=>obtain⟨_,_,_,e,_⟩:=x;exact Heap.lt_size e
 | own y=>obtain⟨_,e⟩:=x;exact Heap.lt_size e
 | xd fs=>obtain⟨_,⟨_,_,_,e,_⟩,_⟩:=x;exact Heap.lt_size e
 | rng lo hi=>obtain⟨_,_,_,e⟩:=x;exact Heap.lt_size e
 | frz ob u=>obtain⟨e,_⟩:=x;exact Heap.lt_size e
 | tbl ps=>exact Heap.lt_size (show h.get? a=some _ from x)
 | met f y=>exact Heap.lt_size (show h.get? a=some _ from x)
 | ext φ=>obtain⟨_,⟨_,e⟩,_⟩:=x;exact Heap.lt_size e
theorem Paired.tL {α β:Type} {F G:α->β->Prop}:∀{l₁:List α} {l₂:List β},Paired F l₁ l₂->(∀ a b,F a b->G a b)->Paired G l₁ l₂
 | _,_,.nil,_=>.nil
 | _,_,.cons r t,f=>.cons (f _ _ r) (Paired.tL t f)
theorem aG.cp (x:aG P w H h a o) (k:∀ b u,(b=a∨H b=some (.own a))->h.get? b=some u->h'.get? b=some u)
  (ho:∀ b,H b=some (.own a)->H' b=some (.own a)) (ht:∀ b xs,H b=some (.tup xs)->H' b=some (.tup xs)):aG P w H' h' a o:=by
 induction o with
 | lst xs=>obtain⟨z,its,n,r,e⟩:=x;exact⟨z,its,n,r,k _ _ (.inl rfl) e⟩
 | tup xs=>obtain⟨z,its,r,ob,e,c⟩:=x;exact⟨z,its,r,ob,k _ _ (.inl rfl) e,c⟩
 | dK kvs=>obtain⟨z,y,vs,r,ob,es,ep,e,c⟩:=x;exact⟨z,y,vs,r,ob,es,ep,k _ _ (.inl rfl) e,c⟩
 | dT kvs =>
  obtain⟨z,y,xs,r,ob,es,ep,e,c⟩:=x
  exact⟨z,y,xs,Paired.tL r λp q z=>⟨z.1,ht _ _ z.2.1,z.2.2⟩,ob,es,ep,k _ _ (.inl rfl) e,c⟩
 | set S n=>obtain⟨ob,es,ep,t,e,c⟩:=x;exact⟨ob,es,ep,t,k _ _ (.inl rfl) e,c⟩
 | ins C dx fs =>
  obtain⟨d,z,ne,e,mA,⟨od,es,ep,e2,c⟩,r⟩:=x
  exact⟨ho _ d,z,ne,k _ _ (.inl rfl) e,mA,⟨od,es,ep,k _ _ (.inr d) e2,c⟩,r⟩
 | own y=>obtain⟨ob,e⟩:=x;exact⟨ob,k _ _ (.inl rfl) e⟩
 | xd fs=>obtain⟨mA,⟨od,es,ep,e,c⟩,r⟩:=x;exact⟨mA,⟨od,es,ep,k _ _ (.inl rfl) e,c⟩,r⟩
 | rng lo hi=>obtain⟨t,u,v,e⟩:=x;exact⟨t,u,v,k _ _ (.inl rfl) e⟩
 | frz ob u ih=>obtain⟨e,q⟩:=x;exact⟨k _ _ (.inl rfl) e,ih q⟩
 | tbl ps =>
  have e:h.get? a=some { cls:=.none,data:=.fields ps }:=x
  show h'.get? a=some { cls:=.none,data:=.fields ps }
  exact k a _ (.inl rfl) e
 | met f y =>
  have e:h.get? a=some (PySem.W.methodObj (.ref f) (.ref y)):=x
  show h'.get? a=some (PySem.W.methodObj (.ref f) (.ref y))
  exact k a _ (.inl rfl) e
 | ext φ=>obtain⟨p,⟨o,e⟩,st⟩:=x;exact⟨st _ _ p λo q=>k _ _ (.inl rfl) q,⟨o,k _ _ (.inl rfl) e⟩,st⟩
theorem cm.lt (x:cm P w H h) (e:H a=some o):a<h.objs.size:=(x a o e).lt
theorem cm.fresh (x:cm P w H h) (e:h.objs.size<=a):H a=none:=by
 cases q:H a with
 | none=>rfl
 | some u=>exact absurd (Nat.lt_of_lt_of_le (x.lt q) e) (Nat.lt_irrefl _)
theorem cm.kept (x:cm P w H h) (k:∀ b u,h.get? b=some u->h'.get? b=some u):cm P w H h':=λa o e =>
 (x a o e).cp (λb u _ q=>k b u q) (λ_ q=>q) λ_ _ q=>q
theorem cm.laid (x:cm P w H h) (k:∀ b u,h.get? b=some u->h'.get? b=some u) (hp:h.objs.size<=a) (new:aG P w (upd H a o) h' a o):cm P w (upd H a o) h':=λb u e=>by
 have hn:=x.fresh hp
 by_cases hb:b=a
 ·subst hb;rw [ae] at e;cases e;exact new
 ·rw [aj hb] at e
  exact (x b u e).cp (λc v _ q=>k c v q) (λc q=>by rw [aj (aH q hn)];exact q) λc xs q=>by rw [aj (aH q hn)];exact q
end
def Rd (H:Hp) (a:Addr) (u:HO):Prop:=H a=some u∨∃ o,H a=some (.frz o u)
theorem Rd.of {H:Hp} {a:Addr} {u:HO} (h:H a=some u):Rd H a u:=.inl h
theorem Rd.ok {P:Program} {w:World} {H:Hp} {h:Heap} {a:Addr} {u:HO} (r:Rd H a u) (x:cm P w H h):aG P w H h a u:=by
 rcases r with r | ⟨o,r⟩
 ·exact x a u r
 ·obtain⟨_,q⟩:=x a _ r
  exact q
def uM:Option HO->Prop
 | some (.lst _)=>True
 | some (.dK _)=>True
 | some (.dT _)=>True
 | some (.set _ _)=>True
 | some (.ins _ _ _)=>True
 | some (.ext _)=>True
 | _=>False
section
variable {P:Program} {w:World} {H:Hp} {h h':Heap} {x e:Addr} {o':HO}
theorem cm.write (ok:cm P w H h) (mu:uM (H x)) (he:e=x∨H e=some (.own x)) (k:∀ b u,b≠e->h.get? b=some u->h'.get? b=some u) (heo:∃ u,h'.get? e=some u)
  (new:aG P w (upd H x o') h' x o'):cm P w (upd H x o') h':=λb u q=>by
 have nown:∀ c y,H c=some (.own y)->c≠x:=λc y r z=>by subst z;rw [r] at mu;exact mu
 have ntup:∀ c xs,H c=some (.tup xs)->c≠x:=λc xs r z=>by subst z;rw [r] at mu;exact mu
 by_cases hb:b=x
 ·subst hb;rw [ae] at q;cases q;exact new
 ·rw [aj hb] at q
  by_cases hbe:b=e
  ·have q':H b=some (.own x):=by
    rcases he with z | z
    ·exact absurd (hbe.trans z) hb
    ·rw [hbe];exact z
   rw [q] at q';cases q'
   obtain⟨v,hv⟩:=heo
   exact⟨v,by rw [hbe];exact hv⟩
  ·refine (ok b u q).cp (λc v hc r=>k c v ?_ r) (λc r=>by rw [aj (nown c b r)];exact r) λc xs r=>by rw [aj (ntup c xs r)];exact r
   rcases hc with rfl | hc
   ·exact hbe
   ·rintro rfl
    rcases he with z | z
    ·exact nown c b hc z
    ·rw [hc] at z;cases z;exact hb rfl
end
structure Un (fs ex:List Addr) (H H':Hp) (h h':Heap):Prop where
 keep:∀ b o,h.get? b=some o->H b=none->b∉fs->b∉ex->h'.get? b=some o
 slot:∀ b o,h.get? b=some o->H b=none->b∈fs->b∉ex->∃ sl,h'.get? b=some { o with slots:=sl }
 free:∀ b o,h.get? b=some o->H b=none->b∉ex->H' b=none
 there:∀ b o,h.get? b=some o->b∉ex->∃ o',h'.get? b=some o'
 tups:∀ b xs,H b=some (.tup xs)->H' b=some (.tup xs)
 frzs:∀ b o u,H b=some (.frz o u)->H' b=some (.frz o u)
 tbls:∀ b ps,H b=some (.tbl ps)->∃ more,H' b=some (.tbl (ps++more))
section
variable {fs fs' ex ex':List Addr} {H H1 H2:Hp} {h h1 h2 h':Heap} {a x e:Addr} {o:HO}
theorem Un.any (u:Un fs ex H H1 h h1) {b:Addr} {ob:Obj} (q:h.get? b=some ob) (n:H b=none) (hx:b∉ex):∃ sl,h1.get? b=some { ob with slots:=sl }:=by
 by_cases hb:b∈fs
 ·exact u.slot b ob q n hb hx
 ·exact⟨ob.slots,u.keep b ob q n hb hx⟩
theorem Un.trans (a:Un fs ex H H1 h h1) (b:Un fs ex H1 H2 h1 h2):Un fs ex H H2 h h2 where
 keep:=λc ob q n hc hx=>b.keep c ob (a.keep c ob q n hc hx) (a.free c ob q n hx) hc hx
 slot:=λc ob q n hc hx=>by
  obtain⟨sl,e1⟩:=a.slot c ob q n hc hx
  obtain⟨sl',e2⟩:=b.slot c _ e1 (a.free c ob q n hx) hc hx
  exact⟨sl',e2⟩
 free:=λc ob q n hx=>by
  obtain⟨o',e1⟩:=a.there c ob q hx
  exact b.free c o' e1 (a.free c ob q n hx) hx
 there:=λc ob q hx=>by
  obtain⟨o',e1⟩:=a.there c ob q hx
  exact b.there c o' e1 hx
 tups:=λc xs q=>b.tups c xs (a.tups c xs q)
 frzs:=λc ob xs q=>b.frzs c ob xs (a.frzs c ob xs q)
 tbls:=λc ps q=>by
  obtain⟨m1,e1⟩:=a.tbls c ps q
  obtain⟨m2,e2⟩:=b.tbls c _ e1
  exact⟨m1++m2,by rw [e2,Array.append_assoc]⟩
theorem Un.kept (k:∀ b u,h.get? b=some u->h'.get? b=some u):Un fs ex H H h h' :=
 ⟨λb ob q _ _ _=>k b ob q,λb ob q _ _ _=>⟨ob.slots,k b ob q⟩,λ_ _ _ n _=>n,λb ob q _=>⟨ob,k b ob q⟩,λ_ _ q=>q,λ_ _ _ q=>q,λ_ ps q=>⟨#[],by rw [q];simp⟩⟩
theorem Un.refl:Un fs ex H H h h:=Un.kept λ_ _ q=>q
theorem Un.laid (k:∀ b u,h.get? b=some u->h'.get? b=some u) (hp:h.objs.size<=a) (hn:H a=none):Un fs ex H (upd H a o) h h' where
 keep:=λb u q _ _ _=>k b u q
 slot:=λb u q _ _ _=>⟨u.slots,k b u q⟩
 free:=λb u q n _=>by rw [aj (Nat.ne_of_lt (Nat.lt_of_lt_of_le (Heap.lt_size q) hp))];exact n
 there:=λb u q _=>⟨u,k b u q⟩
 tups:=λb xs q=>by rw [aj (aH q hn)];exact q
 frzs:=λb u xs q=>by rw [aj (aH q hn)];exact q
 tbls:=λb ps q=>⟨#[],by rw [aj (aH q hn),q];simp⟩
theorem Un.write (mu:uM (H x)) (he:e=x∨H e=some (.own x)) (k:∀ b u,b≠e->h.get? b=some u->h'.get? b=some u) (heo:∃ u,h'.get? e=some u):Un fs ex H (upd H x o) h h':=by
 have hx:∀ b,H b=none->b≠x:=λb n z=>by subst z;rw [n] at mu;exact mu
 have hb:∀ b,H b=none->b≠e:=λb n z=>by
  subst z
  rcases he with r | r
  ·exact hx b n r
  ·rw [n] at r;cases r
 have hm:∀ b u,H b=some u->¬uM (some u)->b≠x:=λb u q nm z=>by subst z;rw [q] at mu;exact nm mu
 refine⟨λb u q n _ _=>k b u (hb b n) q,λb u q n _ _=>⟨u.slots,k b u (hb b n) q⟩,λb u q n _=>by rw [aj (hx b n)];exact n,λb u q _=>?_,
  λb xs q=>by rw [aj (hm b _ q λz=>z)];exact q,λb u xs q=>by rw [aj (hm b _ q λz=>z)];exact q,λb ps q=>⟨#[],by rw [aj (hm b _ q λz=>z),q];simp⟩⟩
 by_cases hbe:b=e
 ·subst hbe;exact heo
 ·exact⟨u,k b u hbe q⟩
theorem Un.mono (u:Un fs ex H H1 h h1) (hs:∀ b∈fs,b∈fs') (hx:∀ b∈ex,b∈ex'):Un fs' ex' H H1 h h1 :=
 ⟨λb ob q n hb he=>u.keep b ob q n (λz=>hb (hs b z)) λz=>he (hx b z),λ_ _ q n _ he=>u.any q n λz=>he (hx _ z),λb ob q n he=>u.free b ob q n λz=>he (hx b z),λb ob q he=>u.there b ob q λz=>he (hx b z),u.tups,u.frzs,u.tbls⟩
end
def wB (h:Heap) (H:Hp):List Addr:=(List.range h.objs.size).filter λa=>(H a).isSome
def h8 (h:Heap) (H:Hp):Heap:=PySem.W.hideAll h (wB h H)
theorem lN (h:Heap) (H:Hp):(h8 h H).objs.size=h.objs.size:=PySem.W.hideAll_size _ _
theorem mX {h:Heap} {H:Hp} {b:Addr} {o:Obj} (e:h.get? b=some o) (n:H b=none):(h8 h H).get? b=some o :=
 PySem.W.hideAll_get _ e λhm=>by
  have q:(H b).isSome=true:=(List.mem_filter.mp hm).2
  rw [n] at q;simp at q
theorem qp {h:Heap} {H:Hp} {b:Addr} {o:Obj} (e:(h8 h H).get? b=some o):h.get? b=some o/\H b=none:=by
 have e':h.get? b=some o:=PySem.W.of_hideAll (wB h H) e
 refine⟨e',?_⟩
 cases q:H b with
 | none=>rfl
 | some x =>
  have hm:b∈wB h H:=List.mem_filter.mpr ⟨List.mem_range.mpr (Heap.lt_size e'),by simp [q]⟩
  have z:(h8 h H).get? b=none:=PySem.W.hideAll_none (wB h H) hm
  rw [z] at e;cases e
def pM (g h:Heap) (L:Addr):List (Addr × Obj):=(List.range h.objs.size).filterMap λa=>if a=L∨(g.get? a).isSome=true then none else (h.get? a).map λo=>(a,o)
def rest (g h:Heap) (L d:Addr):List (Addr × Obj):=(pM g h L).filter λp=>decide (p.1≠d)
structure Mod (K:PySem.W.Frag) (mg:Str->Option Value) (base:Heap):Prop where
 kin:K.In base
 glob:base.Ns mainGlobals mg
 blt:∃ mb,base.Ns builtinsNs mb/\∀ x:Str,x ≠ "__name__"->mb x=bootBuiltins x
 nolimit:base.NoLimit
structure Cx where
 prog:Program
 w:World
 K:PySem.W.Frag
 mg:Str->Option Value
 base:Heap
 A:Around
 N:List Str
 s₀:Shared
 H₀:Hp
 env:Env
 outer:List Env
 stack:List Env
 ex:List Addr
 fn:Str->Bool
 calm:Bool
 pn:List (Addr × Obj)
 xe:Value->Shared->Prop
def cV (l:List Env):List Addr:=l.filterMap (·.frame)
abbrev Cx.fs (X:Cx):List Addr:=cV X.outer
def uE (sc:Scope) (x:Str):Prop:=sc.names.lookup x=some .local∨sc.names.lookup x=some .cell∨sc.names.lookup x=some .free
def Loc (sc:Scope) (x:Str):Prop:=sc.names.lookup x=some .local∨sc.names.lookup x=some .cell
def Look (env:Env) (h:Heap) (m:Str->Option Value) (x:Str) (u:Value):Prop :=
 (env.kindOf x=some .local/\m x=some u)∨((env.kindOf x=some .cell∨env.kindOf x=some .free)/\∃ c,env.cells.lookup x=some c/\h.IsCell c (some u))
structure Cx.Ok (X:Cx):Prop where
 mod:Mod X.K X.mg X.base
 kind:X.env.scope.kind=.function
 glob:X.env.globals=mainGlobals
 blt:X.env.builtins=builtinsNs
 above:X.s₀.heap.objs.size<=X.env.locals
 inj:∀ x y c,X.env.cells.lookup x=some c->X.env.cells.lookup y=some c->x=y
 has:∀ x,(X.env.kindOf x=some .cell∨X.env.kindOf x=some .free)->∃ c,X.env.cells.lookup x=some c
 cab:∀ x c,X.fn x=true->X.env.cells.lookup x=some c->X.s₀.heap.objs.size<=c
 hd:X.calm=true->X.A.handled=none
 frames:X.A.frames=some X.stack
 stk:X.stack=X.outer∨(X.stack=X.env::X.outer/\X.env.frame=some X.env.locals)
 exf:∀ b∈X.ex,b≠X.env.locals/\∀ x c,X.env.cells.lookup x=some c->c≠b
 bs:∀ b o,X.base.get? b=some o->X.s₀.heap.get? b=some o/\X.H₀ b=none
 bsz:X.base.objs.size<=X.s₀.heap.objs.size
 noex:∀ b o,X.base.get? b=some o->b∉X.ex
 exfs:∀ b∈X.ex,b∉X.fs
 eP:X.s₀.heap.FunFrames X.base X.outer
 frf:∀ b∈X.fs,X.H₀ b=none
structure Inv (X:Cx) (pins:List (Addr × Obj)) (σ:List (Option V)) (H:Hp) (s:Shared):Prop where
 ok:X.Ok
 os:s.os=X.s₀.os
 bare:AllBare s.gens
 base:Un X.fs X.ex X.H₀ H X.s₀.heap s.heap
 loc:∃ m,s.heap.Ns X.env.locals m/\∀(i:Nat) (x:Str) (v:V),X.N[i]?=some x->σ[i]?=some (some v)->uE X.env.scope x->∃ u,RelV v u/\Look X.env s.heap m x u
 cell:∀ x c,X.env.cells.lookup x=some c->∃ v,s.heap.IsCell c v
 free:H X.env.locals=none
 freeC:∀ x c,X.env.cells.lookup x=some c->H c=none
 pin:∀ p∈X.pn++pins,s.heap.get? p.1=some p.2/\H p.1=none/\p.1≠X.env.locals/\p.1∉X.fs/\∀ v,p.2.data≠.cell v
 hok:cm X.prog X.w H s.heap
 len:σ.length=X.N.length
section
variable {X:Cx} {pins:List (Addr × Obj)} {σ:List (Option V)} {H H':Hp} {s:Shared} {h':Heap}
theorem Cx.Ok.xc (ok:X.Ok) {b:Addr} {o:Obj} (e:X.base.get? b=some o):b∉X.fs:=λhb=>by
 have:=(ok.eP.mem hb).1
 rw [e] at this;cases this
theorem Inv.bs (I:Inv X pins σ H s):∀ b o,X.base.get? b=some o->s.heap.get? b=some o/\H b=none:=λb o e =>
 ⟨I.base.keep b o (I.ok.bs b o e).1 (I.ok.bs b o e).2 (I.ok.xc e) (I.ok.noex b o e),I.base.free b o (I.ok.bs b o e).1 (I.ok.bs b o e).2 (I.ok.noex b o e)⟩
theorem Inv.bk (I:Inv X pins σ H s):∀ b o,X.base.get? b=some o->s.heap.get? b=some o:=λb o e=>(I.bs b o e).1
theorem Inv.mod (I:Inv X pins σ H s):Mod X.K X.mg X.base:=I.ok.mod
theorem Inv.eE (I:Inv X pins σ H s):X.K.In s.heap:=I.ok.mod.kin.keeps I.bk
theorem Inv.lt (I:Inv X pins σ H s):X.env.locals<s.heap.objs.size:=let ⟨_,hn,_⟩:=I.loc;hn.lt
theorem Inv.sz (I:Inv X pins σ H s):X.s₀.heap.objs.size<=s.heap.objs.size:=Nat.le_trans I.ok.above (Nat.le_of_lt I.lt)
theorem Inv.nO (I:Inv X pins σ H s) {a:Addr} (h:s.heap.objs.size<=a):a∉X.fs:=λhb=>by
 obtain⟨_,o,ho,_⟩:=I.ok.eP.mem hb
 exact absurd (Nat.lt_of_lt_of_le (Heap.lt_size ho) (Nat.le_trans I.sz h)) (Nat.lt_irrefl _)
theorem Inv.sV (I:Inv X pins σ H s):∀ x c,X.env.cells.lookup x=some c->c≠X.env.locals:=λx c e z=>by
 obtain⟨v,o,ho,hd⟩:=I.cell x c e
 obtain⟨m,⟨o',es,ep,ho',hd',_⟩,_⟩:=I.loc
 rw [z,ho'] at ho;cases ho;rw [hd'] at hd;cases hd
theorem Inv.eP (I:Inv X pins σ H s):s.heap.FunFrames X.base X.outer:=by
 have all:∀(l:List Env),(∀ b∈cV l,b∈X.fs)->X.s₀.heap.FunFrames X.base l->s.heap.FunFrames X.base l:=by
  intro l
  induction l with
  | nil=>intro _ _;trivial
  | cons env r ih =>
   intro hs hl
   obtain⟨hk,⟨L,o,hf,hn,ho,hd⟩,hr⟩:=hl
   have hL:L∈X.fs:=hs L (by unfold cV;rw [List.filterMap_cons,hf];exact List.mem_cons_self)
   obtain⟨sl,e⟩:=I.base.slot L o ho (I.ok.frf L hL) hL λz=>I.ok.exfs L z hL
   exact⟨hk,⟨L,_,hf,hn,e,hd⟩,ih (λb hb=>hs b (by unfold cV;rw [List.filterMap_cons,hf];exact List.mem_cons_of_mem _ hb)) hr⟩
 exact all X.outer (λ_ hb=>hb) I.ok.eP
theorem Inv.stack (I:Inv X pins σ H s):s.heap.FunFrames X.base X.stack:=by
 rcases I.ok.stk with e | ⟨e,hf⟩
 ·rw [e];exact I.eP
 ·rw [e]
  obtain⟨m,hn,_⟩:=I.loc
  refine .cons (by rw [I.ok.kind];decide) hf hn ?_ I.eP
  exact Heap.get?_none_of_le (Nat.le_trans I.ok.bsz I.ok.above)
theorem Inv.bA (I:Inv X pins σ H s):∀ b∈cV X.stack,b∈X.env.locals::X.fs:=λb hb=>by
 rcases I.ok.stk with e | ⟨e,hf⟩
 ·rw [e] at hb;exact List.mem_cons_of_mem _ hb
 ·rw [e] at hb
  unfold cV at hb
  rw [List.filterMap_cons,hf] at hb
  exact hb
theorem Inv.cS (I:Inv X pins σ H s):∀ b∈cV X.stack,H b=none:=λb hb=>by
 rcases List.mem_cons.mp (I.bA b hb) with e | hb
 ·rw [e];exact I.free
 ·obtain⟨_,o,ho,_⟩:=I.ok.eP.mem hb
  exact I.base.free b o ho (I.ok.frf b hb) λz=>I.ok.exfs b z hb
theorem Inv.step {g':Array GenState} {t':Nat} {d':Drawn} {ch:List Addr} (I:Inv X pins σ H s)
  (hch:∀ b∈ch,(b∈X.ex∨X.s₀.heap.objs.size<=b)/\b≠X.env.locals/\(∀ x c,X.env.cells.lookup x=some c->c≠b)/\∀ p∈X.pn++pins,p.1≠b)
  (keep:∀ b o,b≠X.env.locals->b∉X.fs->b∉ch->s.heap.get? b=some o->H b=none->h'.get? b=some o)
  (slot:∀ b o,b≠X.env.locals->b∈X.fs->b∉ch->s.heap.get? b=some o->H b=none->∃ sl,h'.get? b=some { o with slots:=sl }) (free:∀ b o,b∉ch->s.heap.get? b=some o->H b=none->H' b=none)
  (there:∀ b o,b∉ch->s.heap.get? b=some o->∃ o',h'.get? b=some o')
  (tups:∀ b xs,H b=some (.tup xs)->H' b=some (.tup xs)) (frzs:∀ b o u,H b=some (.frz o u)->H' b=some (.frz o u)) (tbls:∀ b ps,H b=some (.tbl ps)->∃ more,H' b=some (.tbl (ps++more)))
  (ns:∀ m,s.heap.Ns X.env.locals m->h'.Ns X.env.locals m) (hok:cm X.prog X.w H' h') (hg:AllBare g') :
  Inv X pins σ H' { s with heap:=h',gens:=g',drawn:=d',toks:=t' }:=by
 have neL:∀ b o,X.s₀.heap.get? b=some o->b≠X.env.locals:=λb o e=>Nat.ne_of_lt (Nat.lt_of_lt_of_le (Heap.lt_size e) I.ok.above)
 have neC:∀ b o,X.s₀.heap.get? b=some o->b∉X.ex->b∉ch:=λb o e hx hb=>by
  rcases (hch b hb).1 with z | z
  ·exact hx z
  ·exact absurd (Nat.lt_of_lt_of_le (Heap.lt_size e) z) (Nat.lt_irrefl _)
 have cellK:∀ x c,X.env.cells.lookup x=some c->∀ v,s.heap.IsCell c v->h'.IsCell c v:=λx c e v ⟨o,ho,hd⟩=>by
  have nch:c∉ch:=λz=>(hch c z).2.2.1 x c e rfl
  by_cases hc:c∈X.fs
  ·obtain⟨sl,q⟩:=slot c o (I.sV x c e) hc nch ho (I.freeC x c e)
   exact⟨_,q,hd⟩
  ·exact⟨o,keep c o (I.sV x c e) hc nch ho (I.freeC x c e),hd⟩
 refine⟨I.ok,I.os,hg,⟨λb o e n hb hx=>?_,λb o e n hb hx=>?_,λb o e n hx=>?_,λb o e hx=>?_,λb xs e=>tups b xs (I.base.tups b xs e),λb o xs e=>frzs b o xs (I.base.frzs b o xs e),λb ps e=>?_⟩,?_,λx c e=>?_,?_,λx c e=>?_,λp hp=>?_,hok,I.len⟩
 ·exact keep b o (neL b o e) hb (neC b o e hx) (I.base.keep b o e n hb hx) (I.base.free b o e n hx)
 ·obtain⟨sl,e1⟩:=I.base.slot b o e n hb hx
  obtain⟨sl',e2⟩:=slot b _ (neL b o e) hb (neC b o e hx) e1 (I.base.free b o e n hx)
  exact⟨sl',e2⟩
 ·obtain⟨o',e1⟩:=I.base.there b o e hx
  exact free b o' (neC b o e hx) e1 (I.base.free b o e n hx)
 ·obtain⟨o',e1⟩:=I.base.there b o e hx
  exact there b o' (neC b o e hx) e1
 ·obtain⟨m1,e1⟩:=I.base.tbls b ps e
  obtain⟨m2,e2⟩:=tbls b _ e1
  exact⟨m1++m2,by rw [e2,Array.append_assoc]⟩
 ·obtain⟨m,hn,hl⟩:=I.loc
  refine⟨m,ns m hn,λi x v e1 e2 e3=>?_⟩
  obtain⟨u,r,l⟩:=hl i x v e1 e2 e3
  refine⟨u,r,?_⟩
  rcases l with l | ⟨k,c,e,z⟩
  ·exact .inl l
  ·exact .inr ⟨k,c,e,cellK x c e _ z⟩
 ·obtain⟨v,z⟩:=I.cell x c e
  exact⟨v,cellK x c e v z⟩
 ·obtain⟨m,⟨o,_,_,ho,_⟩,_⟩:=I.loc
  exact free _ o (λz=>(hch _ z).2.1 rfl) ho I.free
 ·obtain⟨v,o,ho,hd⟩:=I.cell x c e
  exact free c o (λz=>(hch c z).2.2.1 x c e rfl) ho (I.freeC x c e)
 ·obtain⟨e,n,ne,nf,d⟩:=I.pin p hp
  have nch:p.1∉ch:=λz=>(hch p.1 z).2.2.2 p hp rfl
  exact⟨keep p.1 p.2 ne nf nch e n,free p.1 p.2 nch e n,ne,nf,d⟩
theorem Inv.un {t':Nat} (I:Inv X pins σ H s) (u:Un X.fs [] H H' s.heap h') (hok:cm X.prog X.w H' h'):Inv X pins σ H' { s with heap:=h',toks:=t' }:=by
 obtain⟨m,⟨o,es,ep,ho,r⟩,_⟩:=id I.loc
 obtain⟨sl,hL⟩:=u.any ho I.free (by simp)
 exact I.step (g':=s.gens) (d':=s.drawn) (ch:=[]) (λ_ z=>nomatch z) (λb o _ hb _ e n=>u.keep b o e n hb (by simp)) (λb o _ hb _ e n=>u.slot b o e n hb (by simp)) (λb o _ e n=>u.free b o e n (by simp)) (λb o _ e=>u.there b o e (by simp)) u.tups u.frzs u.tbls (λm' hm=>by
  obtain⟨o',es',ep',ho',r'⟩:=hm
  rw [ho] at ho';cases ho'
  exact⟨_,es',ep',hL,r'⟩) hok I.bare
theorem Inv.call {g':Array GenState} {t':Nat} {d':Drawn} {ch:List Addr} (I:Inv X pins σ H s) (u:Un (cV X.stack) ch H H' s.heap h') (hok:cm X.prog X.w H' h') (hg:AllBare g')
  (hch:∀ b∈ch,(b∈X.ex∨X.s₀.heap.objs.size<=b)/\b≠X.env.locals/\(∀ x c,X.env.cells.lookup x=some c->c≠b)/\∀ p∈X.pn++pins,p.1≠b) :
  Inv X pins σ H' { s with heap:=h',gens:=g',drawn:=d',toks:=t' }:=by
 obtain⟨m,⟨o,es,ep,ho,r⟩,_⟩:=id I.loc
 obtain⟨sl,hL⟩:=u.any ho I.free λz=>(hch _ z).2.1 rfl
 exact I.step (ch:=ch) hch (λb o hL hb hc e n=>u.keep b o e n (λz=>(List.mem_cons.mp (I.bA b z)).elim hL hb) hc) (λb o _ _ hc e n=>u.any e n hc) (λb o hc e n=>u.free b o e n hc) (λb o hc e=>u.there b o e hc) u.tups u.frzs u.tbls (λm' hm=>by
  obtain⟨o',es',ep',ho',r'⟩:=hm
  rw [ho] at ho';cases ho'
  exact⟨_,es',ep',hL,r'⟩) hok hg
theorem Inv.turned {t':Nat} {it:Addr} (I:Inv X pins σ H s) (k:∀ b o,b≠it->s.heap.get? b=some o->h'.get? b=some o) (hn:H it=none) (hL:it≠X.env.locals)
  (h1:it∈X.ex∨X.s₀.heap.objs.size<=it) (h2:∀ x c,X.env.cells.lookup x=some c->c≠it) (h3:∀ p∈X.pn++pins,p.1≠it):Inv X pins σ H { s with heap:=h',toks:=t' }:=by
 have nit:∀ b u,H b=some u->b≠it:=λb u e z=>by rw [z,hn] at e;cases e
 refine I.step (g':=s.gens) (d':=s.drawn) (ch:=[it]) (λb hb=>?_) (λb o _ _ hc e _=>k b o (λz=>hc (by simp [z])) e) (λb o _ _ hc e _=>⟨o.slots,k b o (λz=>hc (by simp [z])) e⟩) (λ_ _ _ _ n=>n)
  (λb o hc e=>⟨o,k b o (λz=>hc (by simp [z])) e⟩) (λ_ _ e=>e) (λ_ _ _ e=>e) (λb ps e=>⟨#[],by rw [e];simp⟩) (λm hm=>?_) (λb u e=>?_) I.bare
 ·have e:b=it:=by simpa using hb
  subst e
  exact⟨h1,hL,h2,h3⟩
 ·obtain⟨o,es,ep,ho,r⟩:=hm
  exact⟨o,es,ep,k _ o (Ne.symm hL) ho,r⟩
 ·refine (I.hok b u e).cp (λc v hc q=>k c v ?_ q) (λ_ q=>q) λ_ _ q=>q
  rcases hc with z | z
  ·rw [z];exact nit b u e
  ·exact nit c _ z
theorem Inv.tok (I:Inv X pins σ H s) (t:Nat):Inv X pins σ H { s with toks:=t }:=I.un (h':=s.heap) (t':=t) Un.refl I.hok
theorem Inv.kept {t':Nat} (I:Inv X pins σ H s) (k:∀ b u,s.heap.get? b=some u->h'.get? b=some u):Inv X pins σ H { s with heap:=h',toks:=t' }:=I.un (Un.kept k) (I.hok.kept k)
theorem Inv.laid {a:Addr} {o:HO} {t':Nat} (I:Inv X pins σ H s) (k:∀ b u,s.heap.get? b=some u->h'.get? b=some u) (hp:s.heap.objs.size<=a) (new:aG X.prog X.w (upd H a o) h' a o) :
  Inv X pins σ (upd H a o) { s with heap:=h',toks:=t' }:=I.un (Un.laid k hp (I.hok.fresh hp)) (I.hok.laid k hp new)
theorem Inv.write {x e:Addr} {o:HO} {t':Nat} (I:Inv X pins σ H s) (mu:uM (H x)) (he:e=x∨H e=some (.own x)) (k:∀ b u,b≠e->s.heap.get? b=some u->h'.get? b=some u) (heo:∃ u,h'.get? e=some u)
  (new:aG X.prog X.w (upd H x o) h' x o):Inv X pins σ (upd H x o) { s with heap:=h',toks:=t' }:=I.un (Un.write mu he k heo) (I.hok.write mu he k heo new)
theorem Inv.weak {σ':List (Option V)} (I:Inv X pins σ H s) (hl:σ'.length=σ.length) (w:∀(i:Nat) v,σ'[i]?=some (some v)->σ[i]?=some (some v)):Inv X pins σ' H s :=
 ⟨I.ok,I.os,I.bare,I.base,let ⟨m,hn,hl'⟩:=I.loc;⟨m,hn,λi x v e1 e2 e3=>hl' i x v e1 (w i v e2) e3⟩,I.cell,I.free,I.freeC,I.pin,I.hok,hl.trans I.len⟩
theorem Inv.cR {pins':List (Addr × Obj)} (I:Inv X pins σ H s) (h:∀ p∈pins',s.heap.get? p.1=some p.2/\H p.1=none/\p.1≠X.env.locals/\p.1∉X.fs/\∀ v,p.2.data≠.cell v):Inv X pins' σ H s :=
 ⟨I.ok,I.os,I.bare,I.base,I.loc,I.cell,I.free,I.freeC,λp hp=>(List.mem_append.mp hp).elim (λz=>I.pin p (List.mem_append_left _ z)) (h p),I.hok,I.len⟩
theorem jj {N:List Str} (hN:N.Nodup) {i j:Nat} {x:Str} (a:N[i]?=some x) (b:N[j]?=some x):i=j:=by
 obtain⟨h1,e1⟩:=List.getElem?_eq_some_iff.mp a
 obtain⟨h2,e2⟩:=List.getElem?_eq_some_iff.mp b
 exact (List.getElem_inj hN).mp (e1.trans e2.symm)
theorem mq {M:Model} {A:Around} {E:Value->Shared->Prop} {i:Nat} {x:Str} {v:V} {u:Value} {Q:Unit->Shared->Prop} (I:Inv X pins σ H s) (hN:X.N.Nodup) (hi:X.N[i]?=some x) (hx:Loc X.env.scope x) (r:RelV v u)
  (h:∀ s',Inv X pins (σ.set i (some v)) H s'->(∃ a,Heap.SameBut a s.heap s'.heap/\(a=X.env.locals∨X.env.cells.lookup x=some a))->Q () s') (hf:X.fn x=true∨X.env.scope.names.lookup x=some .local:=by first | exact .inl rfl | exact .inr rfl | assumption):wpAny M A (storeName X.env x u) Q E s:=by
 obtain⟨m,hn,hl⟩:=id I.loc
 have hcls:(X.env.scope.kind==.class || (X.env.scope.kind==.module && X.env.locals != X.env.globals))=false:=by rw [I.ok.kind];rfl
 have hiσ:i<σ.length:=by rw [I.len];exact (List.getElem?_eq_some_iff.mp hi).1
 have sV:=I.sV
 have tracked:∀{a:Addr} {h':Heap},(∃ o,s.heap.get? a=some o/\H a=none)->Heap.SameBut a s.heap h'->cm X.prog X.w H h':=λ{a h'} ha hs b ob e=>by
  obtain⟨_,_,hfree⟩:=ha
  refine (I.hok b ob e).cp (λc w' hc q=>(hs.2 c ?_).trans q) (λ_ q=>q) λ_ _ q=>q
  rintro rfl
  rcases hc with rfl | hc
  ·rw [hfree] at e;cases e
  ·rw [hfree] at hc;cases hc
 rcases hx with hk | hk
 ·refine wpAny_storeName_local hk hn (λh' hn' hs=>?_) hcls
  obtain⟨oL,_,_,hoL,_⟩:=id hn
  refine h _ ⟨I.ok,I.os,I.bare,⟨λb o e n hb hx=>?_,λb o e n hb hx=>?_,I.base.free,λb o e hx=>?_,I.base.tups,I.base.frzs,I.base.tbls⟩,⟨_,hn',λj y v' e1 e2 e3=>?_⟩,λy c e=>?_,I.free,I.freeC,λp hp=>?_,tracked ⟨oL,hoL,I.free⟩ hs,by simpa using I.len⟩ ⟨_,hs,.inl rfl⟩
  ·exact (hs.2 b (Nat.ne_of_lt (Nat.lt_of_lt_of_le (Heap.lt_size e) I.ok.above))).trans (I.base.keep b o e n hb hx)
  ·obtain⟨sl,e1⟩:=I.base.slot b o e n hb hx
   exact⟨sl,(hs.2 b (Nat.ne_of_lt (Nat.lt_of_lt_of_le (Heap.lt_size e) I.ok.above))).trans e1⟩
  ·obtain⟨o',e1⟩:=I.base.there b o e hx
   exact⟨o',(hs.2 b (Nat.ne_of_lt (Nat.lt_of_lt_of_le (Heap.lt_size e) I.ok.above))).trans e1⟩
  ·by_cases hj:j=i
   ·subst hj
    rw [hi] at e1;cases e1
    rw [List.getElem?_set_self hiσ] at e2
    cases e2
    exact⟨u,r,.inl ⟨hk,by simp⟩⟩
   ·rw [List.getElem?_set_ne (Ne.symm hj)] at e2
    obtain⟨u',r',q⟩:=hl j y v' e1 e2 e3
    refine⟨u',r',?_⟩
    rcases q with⟨k,e⟩|⟨k,c,e,z⟩
    ·refine .inl ⟨k,?_⟩
     have:y≠x:=λe=>hj (jj hN e1 (e▸hi))
     simp [this,e]
    ·exact .inr ⟨k,c,e,z.sameBut hs (sV y c e)⟩
  ·obtain⟨w',z⟩:=I.cell y c e
   exact⟨w',z.sameBut hs (sV y c e)⟩
  ·obtain⟨e,n,ne,nf,d⟩:=I.pin p hp
   exact⟨(hs.2 p.1 ne).trans e,n,ne,nf,d⟩
 ·have hfn:X.fn x=true:=by
   rcases hf with z | z
   ·exact z
   ·rw [z] at hk;cases hk
  obtain⟨c,hc⟩:=I.ok.has x (.inl hk)
  obtain⟨w',z⟩:=I.cell x c hc
  refine wpAny_storeName_cell I.ok.kind hk hc z (λh' hc' hs=>?_)
  obtain⟨oc,hoc,hocd⟩:=id z
  refine h { s with heap:=h' } ⟨I.ok,I.os,I.bare,⟨λb o e n hb hx=>?_,λb o e n hb hx=>?_,I.base.free,λb o e hx=>?_,I.base.tups,I.base.frzs,I.base.tbls⟩,⟨m,hn.sameBut hs (Ne.symm (sV x c hc)),λj y v' e1 e2 e3=>?_⟩,λy c' e=>?_,I.free,I.freeC,λp hp=>?_,tracked ⟨oc,hoc,I.freeC x c hc⟩ hs,by simpa using I.len⟩ ⟨c,hs,.inr hc⟩
  ·exact (hs.2 b (Nat.ne_of_lt (Nat.lt_of_lt_of_le (Heap.lt_size e) (I.ok.cab x c hfn hc)))).trans (I.base.keep b o e n hb hx)
  ·obtain⟨sl,e1⟩:=I.base.slot b o e n hb hx
   exact⟨sl,(hs.2 b (Nat.ne_of_lt (Nat.lt_of_lt_of_le (Heap.lt_size e) (I.ok.cab x c hfn hc)))).trans e1⟩
  ·obtain⟨o',e1⟩:=I.base.there b o e hx
   exact⟨o',(hs.2 b (Nat.ne_of_lt (Nat.lt_of_lt_of_le (Heap.lt_size e) (I.ok.cab x c hfn hc)))).trans e1⟩
  ·by_cases hj:j=i
   ·subst hj
    rw [hi] at e1;cases e1
    rw [List.getElem?_set_self hiσ] at e2
    cases e2
    exact⟨u,r,.inr ⟨.inl hk,c,hc,hc'⟩⟩
   ·rw [List.getElem?_set_ne (Ne.symm hj)] at e2
    obtain⟨u',r',q⟩:=hl j y v' e1 e2 e3
    refine⟨u',r',?_⟩
    rcases q with q | ⟨k,c',e,z'⟩
    ·exact .inl q
    ·refine .inr ⟨k,c',e,z'.sameBut hs ?_⟩
     rintro rfl
     exact hj (jj hN e1 (I.ok.inj _ _ _ e hc▸hi))
  ·by_cases hcc:c'=c
   ·subst hcc;exact⟨_,hc'⟩
   ·obtain⟨w2,z2⟩:=I.cell y c' e
    exact⟨w2,z2.sameBut hs hcc⟩
  ·obtain⟨e,n,ne,nf,d⟩:=I.pin p hp
   refine⟨(hs.2 p.1 ?_).trans e,n,ne,nf,d⟩
   intro q
   rw [q,hoc] at e
   have q':oc=p.2:=Option.some.inj e
   exact d w' (by rw [<- q'];exact hocd)
theorem bo {M:Model} {A:Around} {E:Value->Shared->Prop} {i:Nat} {x:Str} {v:V} {u:Value} {Q:Unit->Shared->Prop} (I:Inv X pins σ H s) (hN:X.N.Nodup) (hi:X.N[i]?=some x) (hx:Loc X.env.scope x) (r:RelV v u)
  (h:∀ s',Inv X pins (σ.set i (some v)) H s'->Q () s') (hf:X.fn x=true∨X.env.scope.names.lookup x=some .local:=by first | exact .inl rfl | exact .inr rfl | assumption):wpAny M A (storeName X.env x u) Q E s :=
 mq I hN hi hx r (λs' I' _=>h s' I') hf
theorem Inv.rj {s':Shared} {ch:List Addr} (I:Inv X pins σ H s) (ho:s'.os=s.os) (u:Un (cV X.stack) ch H H' s.heap s'.heap) (hok:cm X.prog X.w H' s'.heap) (hg:AllBare s'.gens)
  (hch:∀ b∈ch,(b∈X.ex∨X.s₀.heap.objs.size<=b)/\b≠X.env.locals/\(∀ x c,X.env.cells.lookup x=some c->c≠b)/\∀ p∈X.pn++pins,p.1≠b):Inv X pins σ H' s':=by
 obtain⟨h',g',d',t',o'⟩:=s'
 have e:o'=s.os:=ho
 subst e
 exact I.call (g':=g') (t':=t') (d':=d') u hok hg hch
end
abbrev XK:=Value->Option Addr->Hp->Prop
abbrev St:=List (Option V)
abbrev VK:=V->Hp->Prop
abbrev TE:=St->Hp->VK->Prop
abbrev TT:=St->Hp->(Bool->Hp->Prop)->Prop
abbrev TA:=St->Hp->(List V->Hp->Prop)->Prop
structure Ends where
 nx:St->Hp->Prop
 rt:VK
 bk:St->Hp->Prop:=λ_ _=>False
 ct:St->Hp->Prop:=λ_ _=>False
abbrev TS:=Ends->St->Hp->Prop
def EP (X:Cx) (pins:List (Addr × Obj)) (σ:St) (Q:VK) (u:Value) (s':Shared):Prop:=∃ v H',Inv X pins σ H' s'/\RelV v u/\Q v H'
def TP (X:Cx) (pins:List (Addr × Obj)) (σ:St) (Q:Bool->Hp->Prop) (b:Bool) (s':Shared):Prop:=∃ H',Inv X pins σ H' s'/\Q b H'
def AP (X:Cx) (pins:List (Addr × Obj)) (σ:St) (Q:List V->Hp->Prop) (us:List Value) (s':Shared):Prop:=∃ vs H',Inv X pins σ H' s'/\Vals vs us/\Q vs H'
def SP (X:Cx) (pins:List (Addr × Obj)) (D:Ends) (f:Flow) (s':Shared):Prop :=
 match f with
 | .next=>∃ σ' H',Inv X pins σ' H' s'/\D.nx σ' H'
 | .brk=>∃ σ' H',Inv X pins σ' H' s'/\D.bk σ' H'
 | .cont=>∃ σ' H',Inv X pins σ' H' s'/\D.ct σ' H'
 | .ret u=>∃ v σ' H',Inv X pins σ' H' s'/\RelV v u/\D.rt v H'
def PE (X:Cx) (e:Expr) (t:TE):Prop :=
 ∀(pins:List (Addr × Obj)) (s:Shared) (σ:St) (H:Hp) (Q:VK),Inv X pins σ H s->t σ H Q->wpAny (model X.prog X.w) X.A (eval e X.env) (EP X pins σ Q) X.xe s
def PT (X:Cx) (e:Expr) (t:TT):Prop :=
 ∀(pins:List (Addr × Obj)) (s:Shared) (σ:St) (H:Hp) (Q:Bool->Hp->Prop),Inv X pins σ H s->t σ H Q->wpAny (model X.prog X.w) X.A (isTrue e X.env (eval e X.env)) (TP X pins σ Q) X.xe s
def PW (X:Cx) (e:Expr) (t:TT):Prop :=
 ∀(whole:Sem Value) (pins:List (Addr × Obj)) (s:Shared) (σ:St) (H:Hp) (Q:Bool->Hp->Prop),Inv X pins σ H s->t σ H Q->wpAny (model X.prog X.w) X.A (isTrue e X.env whole) (TP X pins σ Q) X.xe s
theorem PW.pt {X:Cx} {e:Expr} {t:TT} (h:PW X e t):PT X e t:=h _
def PA (X:Cx) (es:List Expr) (t:TA):Prop :=
 ∀(pos:Pos) (pins:List (Addr × Obj)) (s:Shared) (σ:St) (H:Hp) (Q:List V->Hp->Prop),Inv X pins σ H s->t σ H Q->wpAny (model X.prog X.w) X.A (spliced (backTo pos (starEach es X.env))) (AP X pins σ Q) X.xe s
def PS (X:Cx) (st:Stmt) (t:TS):Prop :=
 ∀(pins:List (Addr × Obj)) (s:Shared) (σ:St) (H:Hp) (D:Ends),Inv X pins σ H s->t D σ H->wpAny (model X.prog X.w) X.A (exec st X.env) (SP X pins D) X.xe s
def eY (X:Cx) (st:List Stmt) (t:TS):Prop :=
 ∀(pins:List (Addr × Obj)) (s:Shared) (σ:St) (H:Hp) (D:Ends),Inv X pins σ H s->t D σ H->wpAny (model X.prog X.w) X.A (execs st X.env) (SP X pins D) X.xe s
theorem aN {α:Type} {t:Sem α} {Q Q':α->Shared->Prop} {M:Model} {A:Around} {E:Value->Shared->Prop} {s:Shared} (h:wpAny M A t Q E s) (hQ:∀ a s,Q a s->Q' a s):wpAny M A t Q' E s:=wpAny_mono h hQ λ_ _ x=>x
section
variable {X:Cx}
def uy (i:Nat):TE:=λσ H Q=>∃ v,σ[i]?=some (some v)/\Q v H
def tC (v:V):TE:=λ_ H Q=>Q v H
theorem ki {i:Nat} {x:Str} {pos:Pos} (hN:X.N[i]?=some x) (hv:uE X.env.scope x) (hd:(x==("__debug__":Str))=false:=by decide) (hcd:(x==("__classdict__":Str))=false:=by decide):PE X (.Name x pos) (uy i):=by
 intro pins s σ H Q I h
 obtain⟨v,e,h⟩:=h
 obtain⟨m,hn,hl⟩:=I.loc
 obtain⟨u,r,l⟩:=hl i x v hN e hv
 have fin:EP X pins σ Q u s:=⟨v,H,I,r,h⟩
 rcases l with⟨hk,hm⟩|⟨hk,c,hc,hcell⟩
 ·exact wpAny_Name (wpAny_loadName_local I.ok.kind hk hn hm fin) hd
 ·rcases hk with hk | hk
  ·exact wpAny_Name (wpAny_loadName_cell I.ok.kind hk hc hcell fin) hd
  ·exact wpAny_Name (wpAny_loadName_free I.ok.kind hk hc hcell fin hcd) hd
theorem ag {i j pos}:PE X (.Constant (.int i) j pos) (tC (.int i)):=λ_ _ _ H _ I h=>wpAny_Constant_int ⟨.int i,H,I.tok _,⟨_,rfl⟩,h⟩
theorem gA {b j pos}:PE X (.Constant (.bool b) j pos) (tC (.bl b)):=λ_ _ _ H _ I h=>Constant_bool ⟨.bl b,H,I,rfl,h⟩
theorem ix {j pos}:PE X (.Constant .none j pos) (tC .non):=λ_ _ _ H _ I h=>Constant_none ⟨.non,H,I,rfl,h⟩
theorem a8 {x j pos}:PE X (.Constant (.str x) j pos) (tC (.str x)):=λ_ _ _ H _ I h=>Calls.Constant_str ⟨.str x,H,I.tok _,⟨_,rfl⟩,h⟩
def Gl (X:Cx) (x:Str):Prop:=X.env.kindOf x=some .globalImplicit
theorem ik {E:Value->Shared->Prop} {pins:List (Addr × Obj)} {s:Shared} {σ:St} {H:Hp} {x:Str} {u:Value} {pos:Pos} {Q:Value->Shared->Prop} (I:Inv X pins σ H s) (hg:Gl X x) (hm:X.mg x=some u) (h:Q u s)
  (hd:(x==("__debug__":Str))=false:=by decide):wpAny (model X.prog X.w) X.A (eval (.Name x pos) X.env) Q E s :=
 Calls.Name_function_global I.ok.kind hg (Calls.loadGlobal_global (by rw [I.ok.glob];exact I.mod.glob.keeps I.bk) hm h) hd
theorem fo {E:Value->Shared->Prop} {pins:List (Addr × Obj)} {s:Shared} {σ:St} {H:Hp} {x:Str} {u:Value} {pos:Pos} {Q:Value->Shared->Prop} (I:Inv X pins σ H s) (hg:Gl X x) (hm:X.mg x=none) (hv:bootBuiltins x=some u) (h:Q u s)
  (hn:x ≠ "__name__":=by decide) (hd:(x==("__debug__":Str))=false:=by decide):wpAny (model X.prog X.w) X.A (eval (.Name x pos) X.env) Q E s:=by
 obtain⟨mb,h1,h2⟩:=I.mod.blt
 exact Calls.Name_function_global I.ok.kind hg (Calls.loadGlobal_builtin (by rw [I.ok.glob];exact I.mod.glob.keeps I.bk) hm (by rw [I.ok.blt];exact h1.keeps I.bk) ((h2 x hn).trans hv) h) hd
theorem qE {x:Str} {v:V} {u:Value} {pos:Pos} (hg:Gl X x) (hm:X.mg x=some u) (r:RelV v u) (hd:(x==("__debug__":Str))=false:=by decide):PE X (.Name x pos) (tC v) :=
 λ_ _ _ H _ I h=>ik I hg hm ⟨v,H,I,r,h⟩ hd
theorem dQ {x:Str} {v:V} {u:Value} {pos:Pos} (hg:Gl X x) (hm:X.mg x=none) (hv:bootBuiltins x=some u) (r:RelV v u) (hn:x ≠ "__name__":=by decide) (hd:(x==("__debug__":Str))=false:=by decide):PE X (.Name x pos) (tC v) :=
 λ_ _ _ H _ I h=>fo I hg hm hv ⟨v,H,I,r,h⟩ hn hd
variable {a b:Expr} {ta tb:TE} {pos:Pos}
def PC (X:Cx) (op:CmpOp) (a b:Expr) (t:TE):Prop :=
 ∀(pins:List (Addr × Obj)) (s:Shared) (σ:St) (H:Hp) (Q:VK),Inv X pins σ H s->t σ H Q ->
  wpAny (model X.prog X.w) X.A (eval a X.env) (λv s₁=>wpAny (model X.prog X.w) X.A (eval b X.env) (λu s₂=>wpAny (model X.prog X.w) X.A (compareOp op v u) (EP X pins σ Q) X.xe s₂) X.xe s₁) X.xe s
theorem nN (b:Expr) {op:CmpOp} (h:op≠.In) (h2:op≠.NotIn):behindInMarks op b=false:=by
 have e1:(op==CmpOp.In)=false:=by cases op<;>first | rfl | exact absurd rfl h
 have e2:(op==CmpOp.NotIn)=false:=by cases op<;>first | rfl | exact absurd rfl h2
 cases b with
 | Set elts k pos =>
  show (k==0 && (op==.In || op==.NotIn) && elts.all (constantsAlone 8))=false
  rw [e1,e2]
  cases k==0<;>rfl
 | _=>rfl
def tB (t:TE):TT:=λσ H Q=>t σ H λx H1=>∃ c,x=.bl c/\Q c H1
theorem uf {op:CmpOp} {t:TE} (h:PC X op a b t) (h1:behindInMarks op b=false:=by first | exact nN _ (by decide) (by decide) | rfl):PT X (.Compare a [op] [b] pos) (tB t):=by
 intro pins s σ H Q I hw
 refine wpAny_isTrue_Compare1 (aN (h pins s σ H _ I hw) λv s1 h1=>aN h1 λu s2 h2=>aN h2 λc s3 ⟨x,H1,I1,r1,q1⟩=>?_) h1
 obtain⟨d,rfl,q⟩:=q1
 cases r1
 exact wpAny_truthy_bool ⟨H1,I1,q⟩
variable {tA tB':TT} {rest:List Expr}
def v7 (t u:TT):TT:=λσ H Q=>t σ H λc H1=>if c=true then u σ H1 Q else Q false H1
def xW (t u:TT):TT:=λσ H Q=>t σ H λc H1=>if c=true then Q true H1 else u σ H1 Q
def wj (t:TT):TT:=λσ H Q=>t σ H λc H1=>Q (!c) H1
theorem iI (ha:PT X a tA):PW X (.BoolOp .And [a] pos) tA:=by
 intro wh pins s σ H Q I h
 refine isTrue_and (aN (ha pins s σ H Q I h) λc s1 e=>?_)
 cases c with
 | true=>exact isTrue_and_nil e
 | false=>exact e
theorem oJ (ha:PT X a tA):PW X (.BoolOp .Or [a] pos) tA:=by
 intro wh pins s σ H Q I h
 refine isTrue_or (aN (ha pins s σ H Q I h) λc s1 e=>?_)
 cases c with
 | false=>exact isTrue_or_nil e
 | true=>exact e
theorem km (ha:PT X a tA) (hb:PW X (.BoolOp .And (b::rest) pos) tB'):PW X (.BoolOp .And (a::b::rest) pos) (v7 tA tB'):=by
 intro wh pins s σ H Q I h
 refine isTrue_and (aN (ha pins s σ H _ I h) λc s1 ⟨H1,I1,q1⟩=>?_)
 cases c with
 | true=>exact hb wh pins s1 σ H1 Q I1 q1
 | false=>exact⟨H1,I1,q1⟩
theorem oI (ha:PT X a tA) (hb:PW X (.BoolOp .Or (b::rest) pos) tB'):PW X (.BoolOp .Or (a::b::rest) pos) (xW tA tB'):=by
 intro wh pins s σ H Q I h
 refine isTrue_or (aN (ha pins s σ H _ I h) λc s1 ⟨H1,I1,q1⟩=>?_)
 cases c with
 | true=>exact⟨H1,I1,q1⟩
 | false=>exact hb wh pins s1 σ H1 Q I1 q1
theorem iH (ha:PT X a tA):PT X (.UnaryOp .Not a pos) (wj tA):=by
 intro pins s σ H Q I h
 exact isTrue_not (ha pins s σ H (λc H1=>Q (!c) H1) I h)
def se (ta tb:TE):TE:=λσ H Q=>ta σ H λx H1=>∃ c,x=.bl c/\if c=true then tb σ H1 Q else Q (.bl false) H1
def xE (ta tb:TE):TE:=λσ H Q=>ta σ H λx H1=>∃ c,x=.bl c/\if c=true then Q (.bl true) H1 else tb σ H1 Q
def sq (ta:TE):TE:=λσ H Q=>ta σ H λx H1=>∃ c,x=.bl c/\Q (.bl (!c)) H1
theorem ub {op} {t:TE} (h:PE X a t):PE X (.BoolOp op [a] pos) t:=λpins s σ H Q I hw=>BoolOp_one (h pins s σ H Q I hw)
theorem tY (ha:PE X a ta) (hb:PE X (.BoolOp .And (b::rest) pos) tb):PE X (.BoolOp .And (a::b::rest) pos) (se ta tb):=by
 intro pins s σ H Q I h
 refine BoolOp_and (aN (ha pins s σ H _ I h) λv s1 ⟨x,H1,I1,r1,q1⟩=>?_)
 obtain⟨c,rfl,q1⟩:=q1
 cases r1
 refine wpAny_truthy_bool ?_
 cases c with
 | true=>exact hb pins s1 σ H1 Q I1 q1
 | false=>exact⟨.bl false,H1,I1,rfl,q1⟩
theorem ua (ha:PE X a ta):PE X (.UnaryOp .Not a pos) (sq ta):=by
 intro pins s σ H Q I h
 refine UnaryOp_ (aN (ha pins s σ H _ I h) λv s1 ⟨x,H1,I1,r1,q1⟩=>?_)
 obtain⟨c,rfl,q1⟩:=q1
 cases r1
 exact not_of (wpAny_truthy_bool ⟨.bl (!c),H1,I1,rfl,q1⟩)
def xU (t:TT) (ta tb:TE):TE:=λσ H Q=>t σ H λc H1=>if c=true then ta σ H1 Q else tb σ H1 Q
theorem fx {c:Expr} (hc:PT X c tA) (ha:PE X a ta) (hb:PE X b tb):PE X (.IfExp c a b pos) (xU tA ta tb):=by
 intro pins s σ H Q I h
 refine wpAny_IfExp (aN (hc pins s σ H _ I h) λd s1 ⟨H1,I1,q1⟩=>?_)
 cases d with
 | true=>exact ha pins s1 σ H1 Q I1 q1
 | false=>exact hb pins s1 σ H1 Q I1 q1
end
def aT (K:PySem.W.Frag) (H:Hp) (a:Addr) (xs:List V):Prop :=
 Rd H a (.lst xs) ∨
  ∃(o:Obj) (its:Array Value) (n:Nat),K.lookup a=some o/\o.cls=.type "list"/\o.dict=none/\o.data=.seq its n/\its.size<=sizeLine/\Vals xs its.toList
def a9 (K:PySem.W.Frag) (H:Hp) (a:Addr) (xs:List V):Prop :=
 Rd H a (.tup xs) ∨
  ∃(o:Obj) (its:Array Value) (n:Nat),K.lookup a=some o/\o.cls=.type "tuple"/\o.data=.seq its n/\its.size<=sizeLine/\Vals xs its.toList
def wU:Value->Option V
 | .none=>some .non
 | .bool b=>some (.bl b)
 | .int i _=>some (.int i)
 | .str x _=>some (.str x)
 | .bytes b _=>some (.byt b)
 | .float b _=>some (.flt b)
 | .ref a=>some (.ref a)
 | .type n=>some (.ty n)
 | _=>none
theorem RelV.abs {x:V} {u:Value} (r:RelV x u):wU u=some x:=by
 cases x with
 | non=>cases r;rfl
 | bl _=>cases r;rfl
 | int _=>obtain⟨t,rfl⟩:=r;rfl
 | str _=>obtain⟨t,rfl⟩:=r;rfl
 | byt _=>obtain⟨t,rfl⟩:=r;rfl
 | flt _=>obtain⟨t,rfl⟩:=r;rfl
 | ref _=>cases r;rfl
 | ty _=>cases r;rfl
theorem RelV.inj {x y:V} {u:Value} (r:RelV x u) (q:RelV y u):x=y:=Option.some.inj (r.abs.symm.trans q.abs)
theorem Vals.inj:∀{xs ys:List V} {us:List Value},Vals xs us->Vals ys us->xs=ys
 | _,_,_,.nil,.nil=>rfl
 | _,_,_,.cons r t,.cons r' t'=>by rw [r.inj r',Vals.inj t t']
section
variable {X:Cx} {pins:List (Addr × Obj)} {σ:St} {H:Hp} {s:Shared} {a:Addr} {xs ys:List V}
theorem aT.of {K:PySem.W.Frag} (h:H a=some (.lst xs)):aT K H a xs:=.inl (.inl h)
theorem a9.of {K:PySem.W.Frag} (h:H a=some (.tup xs)):a9 K H a xs:=.inl (.inl h)
theorem Inv.list (I:Inv X pins σ H s) (h:aT X.K H a xs):∃ its:List Value,Vals xs its/\PlainL s.heap a its.toArray/\xs.length<=sizeLine:=by
 rcases h with h | ⟨o,its,n,hk,hc,hd,hs,hz,r⟩
 ·obtain⟨z,its,n,r,e⟩:=h.ok I.hok
  exact⟨its,r,⟨_,n,e,rfl,rfl,rfl⟩,z⟩
 ·refine⟨its.toList,r,⟨o,n,I.eE a o hk,hc,hd,by simpa using hs⟩,?_⟩
  have e:=r.length
  simp only [Array.length_toList] at e
  omega
theorem Inv.tuple (I:Inv X pins σ H s) (h:a9 X.K H a xs):∃ its:List Value,Vals xs its/\IsTup s.heap a its.toArray/\xs.length<=sizeLine:=by
 rcases h with h | ⟨o,its,n,hk,hc,hs,hz,r⟩
 ·obtain⟨z,its,r,p⟩:=h.ok I.hok
  exact⟨its,r,p,z⟩
 ·refine⟨its.toList,r,⟨o,I.eE a o hk,hc,n,by simpa using hs⟩,?_⟩
  have e:=r.length
  simp only [Array.length_toList] at e
  omega
theorem Inv.nB (I:Inv X pins σ H s) (h:aT X.K H a xs) (h':aT X.K H a ys):xs=ys:=by
 obtain⟨its,r,⟨o,n,e,_,_,d⟩,_⟩:=I.list h
 obtain⟨its',r',⟨o',n',e',_,_,d'⟩,_⟩:=I.list h'
 rw [e] at e';cases e'
 rw [d] at d'
 injection d' with d1 _
 have:its=its':=by simpa using congrArg Array.toList d1
 subst this
 exact r.inj r'
theorem Inv.mr (I:Inv X pins σ H s) (h:a9 X.K H a xs) (h':a9 X.K H a ys):xs=ys:=by
 obtain⟨its,r,⟨o,e,_,n,d⟩,_⟩:=I.tuple h
 obtain⟨its',r',⟨o',e',_,n',d'⟩,_⟩:=I.tuple h'
 rw [e] at e';cases e'
 rw [d] at d'
 injection d' with d1 _
 have:its=its':=by simpa using congrArg Array.toList d1
 subst this
 exact r.inj r'
end
abbrev Cx.eR (X:Cx) (E:Value->Shared->Prop):Cx:={ X with xe:=E }
abbrev Cx.j8 (X:Cx):Cx:=X.eR λ_ _=>False
theorem Cx.Ok.eR {X:Cx} (ok:X.Ok) (E:Value->Shared->Prop):(X.eR E).Ok :=
 ⟨ok.mod,ok.kind,ok.glob,ok.blt,ok.above,ok.inj,ok.has,ok.cab,ok.hd,ok.frames,ok.stk,ok.exf,ok.bs,ok.bsz,ok.noex,ok.exfs,ok.eP,ok.frf⟩
theorem Cx.Ok.bS {X:Cx} {E:Value->Shared->Prop} (ok:(X.eR E).Ok):X.Ok :=
 ⟨ok.mod,ok.kind,ok.glob,ok.blt,ok.above,ok.inj,ok.has,ok.cab,ok.hd,ok.frames,ok.stk,ok.exf,ok.bs,ok.bsz,ok.noex,ok.exfs,ok.eP,ok.frf⟩
section
variable {X:Cx} {pins:List (Addr × Obj)} {σ:St} {H:Hp} {s:Shared} {E:Value->Shared->Prop}
theorem Inv.eR (I:Inv X pins σ H s) (E:Value->Shared->Prop):Inv (X.eR E) pins σ H s:=⟨I.ok.eR E,I.os,I.bare,I.base,I.loc,I.cell,I.free,I.freeC,I.pin,I.hok,I.len⟩
theorem Inv.bS (I:Inv (X.eR E) pins σ H s):Inv X pins σ H s:=⟨I.ok.bS,I.os,I.bare,I.base,I.loc,I.cell,I.free,I.freeC,I.pin,I.hok,I.len⟩
theorem SP.bS {D:Ends} {f:Flow} {s':Shared} (h:SP (X.eR E) pins D f s'):SP X pins D f s':=by
 cases f with
 | next=>obtain⟨σ',H',I,q⟩:=h;exact⟨σ',H',I.bS,q⟩
 | brk=>obtain⟨σ',H',I,q⟩:=h;exact⟨σ',H',I.bS,q⟩
 | cont=>obtain⟨σ',H',I,q⟩:=h;exact⟨σ',H',I.bS,q⟩
 | ret u=>obtain⟨v,σ',H',I,r,q⟩:=h;exact⟨v,σ',H',I.bS,r,q⟩
theorem PE.j8 {e:Expr} {t:TE} (h:PE X.j8 e t):PE X e t:=λpins s σ H Q I hw =>
 wpAny_mono (h pins s σ H Q (I.eR _) hw) (λ_ _ ⟨v,H',I',r,q⟩=>⟨v,H',I'.bS,r,q⟩) λ_ _ z=>False.elim z
theorem PT.j8 {e:Expr} {t:TT} (h:PT X.j8 e t):PT X e t:=λpins s σ H Q I hw =>
 wpAny_mono (h pins s σ H Q (I.eR _) hw) (λ_ _ ⟨H',I',q⟩=>⟨H',I'.bS,q⟩) λ_ _ z=>False.elim z
theorem eY.j8 {st:List Stmt} {t:TS} (h:eY X.j8 st t):eY X st t:=λpins s σ H D I hw =>
 wpAny_mono (h pins s σ H D (I.eR _) hw) (λ_ _ q=>q.bS) λ_ _ z=>False.elim z
end
section
variable {X:Cx} {st:Stmt} {rest:List Stmt} {t u:TS} {e:Expr} {te:TE} {pos:Pos}
def sj:TS:=λD σ H=>D.nx σ H
def bL (t u:TS):TS:=λD σ H=>t { D with nx:=u D } σ H
theorem aF:eY X [] sj:=λ_ _ σ H _ I h=>wpAny_execs_nil ⟨σ,H,I,h⟩
theorem af (h1:PS X st t) (h2:eY X rest u):eY X (st::rest) (bL t u):=by
 intro pins s σ H D I h
 refine wpAny_execs_cons (aN (h1 pins s σ H { D with nx:=u D } I h) λf s1 q=>?_)
 cases f with
 | next =>
  obtain⟨σ',H',I',q⟩:=q
  exact h2 pins s1 σ' H' D I' q
 | ret v=>exact q
 | brk=>exact q
 | cont=>exact q
theorem ak (h1:PS X st t):eY X [st] t:=by
 intro pins s σ H D I h
 refine wpAny_execs_cons (aN (h1 pins s σ H D I h) λf s1 q=>?_)
 cases f with
 | next=>exact wpAny_execs_nil q
 | ret v=>exact q
 | brk=>exact q
 | cont=>exact q
theorem Inv.quiet {pins:List (Addr × Obj)} {σ:St} {H:Hp} {s:Shared} (I:Inv X pins σ H s):interactive X.env=false:=by simp [interactive,I.ok.kind]
def si (te:TE):TS:=λD σ H=>te σ H λ_ H1=>D.nx σ H1
theorem iF (he:PE X e te) (hs:swapsWith e none pos.line X.env=pure false:=by rfl):PS X (.Expr e pos) (si te):=by
 intro pins s σ H D I h
 exact wpAny_Expr_any (aN (he pins s σ H _ I h) λv s1 ⟨x,H1,I1,r1,q1⟩=>⟨σ,H1,I1,q1⟩) I.quiet hs
def o9 (te:TE):TS:=λD σ H=>te σ H D.rt
theorem ay (he:PE X e te):PS X (.Return (some e) pos) (o9 te):=by
 intro pins s σ H D I h
 exact wpAny_Return_some (aN (he pins s σ H _ I h) λv s1 ⟨x,H1,I1,r1,q1⟩=>⟨x,σ,H1,I1,r1,q1⟩)
def wo:TS:=λD _ H=>D.rt .non H
def wc (c:TT) (t u:TS):TS:=λD σ H=>c σ H λb H1=>if b=true then t D σ H1 else u D σ H1
theorem a6 {c:Expr} {a b:List Stmt} {tc:TT} (hc:PT X c tc) (ha:eY X a t) (hb:eY X b u):PS X (.If c a b pos) (wc tc t u):=by
 intro pins s σ H D I h
 refine wpAny_If (aN (hc pins s σ H _ I h) λd s1 ⟨H1,I1,q1⟩=>?_)
 cases d with
 | true=>exact ha pins s1 σ H1 D I1 q1
 | false=>exact hb pins s1 σ H1 D I1 q1
end
abbrev TG:=V->St->Hp->(St->Hp->Prop)->Prop
abbrev ri:=List V->St->Hp->(St->Hp->Prop)->Prop
def PG (X:Cx) (target:Expr) (t:TG):Prop :=
 ∀(pins:List (Addr × Obj)) (s:Shared) (σ:St) (H:Hp) (v:V) (u:Value) (Q:St->Hp->Prop),Inv X pins σ H s->RelV v u->t v σ H Q ->
  wpAny (model X.prog X.w) X.A (assign target X.env u) (λ_ s'=>∃ σ' H',Inv X pins σ' H' s'/\Q σ' H') X.xe s
def uO (X:Cx) (ts:List Expr) (t:ri):Prop :=
 ∀(pins:List (Addr × Obj)) (s:Shared) (σ:St) (H:Hp) (vs:List V) (us:List Value) (Q:St->Hp->Prop),Inv X pins σ H s->Vals vs us->t vs σ H Q ->
  wpAny (model X.prog X.w) X.A (assignInOrder ((assignEach ts X.env).map (·.2)) us) (λ_ s'=>∃ σ' H',Inv X pins σ' H' s'/\Q σ' H') X.xe s
abbrev wL:=V->V->V->Hp->(Hp->Prop)->Prop
abbrev wK:=V->V->Hp->VK->Prop
def xM (X:Cx) (op:Operator) (t:wK):Prop :=
 ∀(pins:List (Addr × Obj)) (s:Shared) (σ:St) (H:Hp) (x y:V) (v u:Value) (Q:VK),Inv X pins σ H s->RelV x v->RelV y u->t x y H Q ->
  wpAny (model X.prog X.w) X.A (inplaceOp op v u) (EP X pins σ Q) X.xe s
section
variable {X:Cx} {pos:Pos}
def fh (i:Nat):TG:=λv σ H Q=>Q (σ.set i (some v)) H
theorem au {i:Nat} {x:Str} (hN:X.N.Nodup) (hi:X.N[i]?=some x) (hx:Loc X.env.scope x) (hf:X.fn x=true∨X.env.scope.names.lookup x=some .local:=by first | exact .inl rfl | exact .inr rfl | assumption):PG X (.Name x pos) (fh i):=by
 intro pins s σ H v u Q I r h
 exact wpAny_assign_Name (bo I hN hi hx r (λs' I'=>⟨_,H,I',h⟩) hf)
def vd:ri:=λvs σ H Q=>vs=[]/\Q σ H
def rE (t:TG) (u:ri):ri:=λvs σ H Q=>∃ v r,vs=v::r/\t v σ H λσ' H'=>u r σ' H' Q
theorem bc:uO X [] vd:=by
 intro pins s σ H vs us Q I r h
 obtain⟨e,h⟩:=h
 subst e
 cases r
 exact assignInOrder_nil ⟨σ,H,I,h⟩
theorem ax {e:Expr} {es:List Expr} {t:TG} {u:ri} (h1:PG X e t) (h2:uO X es u)
  (hs:(assignEach (e::es) X.env).map (·.2)=assign e X.env::(assignEach es X.env).map (·.2):=by rfl):uO X (e::es) (rE t u):=by
 intro pins s σ H vs us Q I r h
 obtain⟨v,vr,e1,h⟩:=h
 subst e1
 cases r with
 | cons r rr =>
  rw [hs]
  refine assignInOrder_cons (aN (h1 pins s σ H _ _ _ I r h) λ_ s1 ⟨σ1,H1,I1,q1⟩=>?_)
  exact h2 pins s1 σ1 H1 _ _ Q I1 rr q1
def hZ (K:PySem.W.Frag) (n:Nat) (t:ri):TG:=λv σ H Q=>∃ a xs,v=.ref a/\a9 K H a xs/\xs.length=n/\t xs σ H Q
theorem b5 {es:List Expr} {k:Nat} {t:ri} {n:Nat} (hc:X.calm=true) (h:uO X es t)
  (hn:(assignEach es X.env).length=n:=by rfl) (hst:(assignEach es X.env).findIdx? (·.1)=none:=by rfl):PG X (.Tuple es k pos) (hZ X.K n t):=by
 intro pins s σ H v u Q I r hw
 obtain⟨a,xs,e1,hq,hl,hw⟩:=hw
 subst e1
 cases r
 obtain⟨its,rv,ht,hz⟩:=I.tuple hq
 refine assign_Tuple_tuple (I.ok.hd hc) ht (by simp [hn,<- hl,rv.length]) hst λh' hx=>?_
 have I1:Inv X pins σ H { s with heap:=h' }:=I.kept (t':=s.toks) λb o e=>hx b o (Nat.ne_of_lt (Heap.lt_size e)) e
 exact h pins _ σ H xs _ Q I1 (by simpa using rv) hw
def wZ (to ti:TE) (t:wL):TG:=λv σ H Q=>to σ H λo H1=>ti σ H1 λi H2=>t o i v H2 λH3=>Q σ H3
def qV (te:TE) (g:TG):TS:=λD σ H=>te σ H λx H1=>g x σ H1 D.nx
theorem iC {tg e:Expr} {te:TE} {g:TG} (he:PE X e te) (hg:PG X tg g) (hs:swapsWithSole [tg] e pos.line X.env=pure false:=by rfl) (hw:swappedStores [tg] e X.env=pure none:=by rfl)
  (h1:(assignEach [tg] X.env).map (·.2)=[assign tg X.env]:=by rfl):PS X (.Assign [tg] e pos) (qV te g):=by
 intro pins s σ H D I h
 refine wpAny_Assign_stores (aN (he pins s σ H _ I h) λv s1 ⟨x,H1,I1,r1,q1⟩=>?_) hs hw
 rw [h1]
 exact aN (hg pins s1 σ H1 x v _ I1 r1 q1) λ_ s2 q=>q
theorem ue {i:Nat} {x:Str} {e:Expr} {te:TE} {pos':Pos} (hN:X.N.Nodup) (hi:X.N[i]?=some x) (hx:Loc X.env.scope x) (he:PE X e te) (hs:swapsWith e (some (.Name x pos')) pos.line X.env=pure false:=by rfl) (hf:X.fn x=true∨X.env.scope.names.lookup x=some .local:=by first | exact .inl rfl | exact .inr rfl | assumption) :
  PS X (.Assign [.Name x pos'] e pos) (qV te (fh i)):=by
 intro pins s σ H D I h
 refine wpAny_Assign_Name (aN (he pins s σ H _ I h) λv s1 ⟨y,H1,I1,r1,q1⟩=>?_) hs
 exact bo I1 hN hi hx r1 (λs2 I2=>⟨_,H1,I2,q1⟩) hf
def wm (i j:Nat) (ta:TA):TS:=λD σ H=>ta σ H λvs H1=>∃ v w,vs=[v,w]/\D.nx ((σ.set i (some v)).set j (some w)) H1
theorem iG {i j:Nat} {x y:Str} {a b:Expr} {ta:TA} {px py pt:Pos} {kt k2 pt2} (hc:X.calm=true) (hN:X.N.Nodup) (hi:X.N[i]?=some x) (hj:X.N[j]?=some y) (hij:i≠j)
  (hx:X.env.scope.names.lookup x=some .local) (hy:X.env.scope.names.lookup y=some .local) (ha:PA X [a,b] ta)
  (hw:swappedStores [.Tuple [.Name x px,.Name y py] kt pt] (.Tuple [a,b] k2 pt2) X.env=pure (some [x,y]))
  (hs:swapsWithSole [.Tuple [.Name x px,.Name y py] kt pt] (.Tuple [a,b] k2 pt2) pos.line X.env=pure false:=by rfl) :
  PS X (.Assign [.Tuple [.Name x px,.Name y py] kt pt] (.Tuple [a,b] k2 pt2) pos) (wm i j ta):=by
 intro pins s σ H D I h
 rw [exec_Assign_arm]
 refine wpAny_bind (wpAny_standAt ?_)
 rw [hs]
 refine wpAny_bind (wpAny_pure ?_)
 rw [if_neg (by decide)]
 refine wpAny_bind (Tuple_ (aN (ha _ pins s σ H _ I h) λus s1 ⟨vs,H1,I1,r1,q1⟩=>?_))
 obtain⟨v,w,e1,q1⟩:=q1
 subst e1
 obtain⟨u1,u2,rfl,rv,rw'⟩:∃ u1 u2,us=[u1,u2]/\RelV v u1/\RelV w u2:=by
  cases r1 with
  | cons p q =>
   cases q with
   | cons p' q' =>
    cases q'
    exact⟨_,_,rfl,p,p'⟩
 refine wpAny_newObj_type ?_ (by show 2<=sizeLine;decide)
 have I2:Inv X pins σ H1 { s1 with heap:=s1.heap.push { cls:=.type "tuple",data:=.seq [u1,u2].toArray } }:=I1.kept (t':=s1.toks) λb o e=>Heap.get?_push_of_some _ e
 rw [hw]
 refine wpAny_bind (wpAny_pure ?_)
 show wpAny (model X.prog X.w) X.A (do rule "assign.swapped-stores";let items <- unpackItems (.ref s1.heap.objs.size) 2 none;assignInOrder [λv=>bindName X.env y v,λv=>bindName X.env x v] items.reverse;pure Flow.next) _ _ _
 refine wpAny_bind (wpAny_rule (wpAny_bind (unpackItems_tuple (items:=#[u1,u2]) (I.ok.hd hc) (IsTup.new s1.heap _) λh' hx'=>?_)))
 have I3:=I2.kept (h':=h') (t':=s1.toks) λb o e=>hx' b o (Nat.ne_of_lt (Heap.lt_size e)) e
 show wpAny _ _ (assignInOrder [λv=>bindName X.env y v,λv=>bindName X.env x v] [u2,u1] >>= λ_=>pure Flow.next) _ _ _
 refine wpAny_bind (assignInOrder_cons (wpAny_bindName (bo I3 hN hj (.inl hy) rw' (λs2 I4=>?_) (.inr hy))))
 refine assignInOrder_cons (wpAny_bindName (bo I4 hN hi (.inl hx) rv (λs3 I5=>assignInOrder_nil (wpAny_pure ?_)) (.inr hx)))
 rw [List.set_comm _ _ (Ne.symm hij)] at I5
 exact⟨_,H1,I5,q1⟩
def v8 (i:Nat) (te:TE) (ti:wK):TS:=λD σ H=>∃ x,σ[i]?=some (some x)/\te σ H λy H1=>ti x y H1 λz H2=>D.nx (σ.set i (some z)) H2
theorem oE {i:Nat} {x:Str} {e:Expr} {te:TE} {op:Operator} {ti:wK} {pos':Pos} (hN:X.N.Nodup) (hi:X.N[i]?=some x) (hx:Loc X.env.scope x) (he:PE X e te) (ho:xM X op ti) (hf:X.fn x=true∨X.env.scope.names.lookup x=some .local:=by first | exact .inl rfl | exact .inr rfl | assumption) :
  PS X (.AugAssign (.Name x pos') op e pos) (v8 i te ti):=by
 intro pins s σ H D I h
 obtain⟨v,e1,h⟩:=h
 obtain⟨m,hn,hl⟩:=I.loc
 have vis:uE X.env.scope x:=by rcases hx with k | k;exact .inl k;exact .inr (.inl k)
 obtain⟨u,r,l⟩:=hl i x v hi e1 vis
 refine wpAny_AugAssign_Name ?_
 have go:wpAny (model X.prog X.w) X.A (eval e X.env) (λw s₂=>wpAny (model X.prog X.w) X.A (inplaceOp op u w) (λr s₃=>wpAny (model X.prog X.w) X.A (storeName X.env x r) (λ_=>SP X pins D .next) X.xe s₃) X.xe s₂) X.xe s:=by
  refine aN (he pins s σ H _ I h) λw s1 ⟨y,H1,I1,r1,q1⟩=>?_
  refine aN (ho pins s1 σ H1 v y u w _ I1 r r1 q1) λz s2 ⟨zv,H2,I2,r2,q2⟩=>?_
  exact bo I2 hN hi hx r2 (λs3 I3=>⟨_,H2,I3,q2⟩) hf
 rcases l with⟨hk,hm⟩|⟨hk,c,hc,hcell⟩
 ·exact wpAny_loadName_local I.ok.kind hk hn hm go
 ·rcases hk with hk | hk
  ·exact wpAny_loadName_cell I.ok.kind hk hc hcell go
  ·rcases hx with k | k
   ·have:X.env.scope.names.lookup x=some .free:=hk
    rw [k] at this;cases this
   ·have:X.env.scope.names.lookup x=some .free:=hk
    rw [k] at this;cases this
end
section
variable {X:Cx} {pos:Pos}
def pd (c:TT) (tb:TS):TS:=λD σ H=>∃ W:Nat->St->Hp->Prop,(∃ m,W m σ H)/\∀ m σ H,W m σ H ->
 c σ H λb H1=>if b=true then ∃ N:St->Hp->Prop,(∀ σ' H',N σ' H'->∃ m',m'<m/\W m' σ' H')/\tb { D with nx:=N,ct:=N,bk:=D.nx } σ H1 else D.nx σ H1
theorem bj {c:Expr} {body:List Stmt} {tc:TT} {tb:TS} (hp:PassesOwn (model X.prog X.w) X.A X.env X.xe) (hc:PT X c tc) (hb:eY X body tb):PS X (.While c body [] pos) (pd tc tb):=by
 intro pins s σ H D I h
 obtain⟨W,⟨m0,w0⟩,turn⟩:=h
 refine wpAny_While (codeAny_whileLoop (λn s'=>∃ σ' H',Inv X pins σ' H' s'/\W n σ' H') ?_ m0 ⟨σ,H,I,w0⟩)
 rintro n s1 ⟨σ1,H1,I1,w1⟩
 refine wpAny_passesOwn hp (aN (hc pins s1 σ1 H1 _ I1 (turn n σ1 H1 w1)) λb s2 ⟨H2,I2,q2⟩=>?_)
 cases b with
 | true =>
  obtain⟨N,hN,q2⟩:=q2
  rw [if_pos rfl]
  refine wpAny_passesOwn hp (aN (hb pins s2 σ1 H2 _ I2 q2) λf s3 q3=>?_)
  cases f with
  | next =>
   obtain⟨σ3,H3,I3,n3⟩:=q3
   obtain⟨m',hm,w3⟩:=hN σ3 H3 n3
   exact⟨m',hm,σ3,H3,I3,w3⟩
  | cont =>
   obtain⟨σ3,H3,I3,n3⟩:=q3
   obtain⟨m',hm,w3⟩:=hN σ3 H3 n3
   exact⟨m',hm,σ3,H3,I3,w3⟩
  | brk=>exact q3
  | ret v=>exact q3
 | false =>
  rw [if_neg Bool.false_ne_true]
  exact wpAny_execs_nil ⟨σ1,H2,I2,q2⟩
end
structure It where
 go:Nat->Hp->Prop
 yld:Nat->Hp->V->Hp->Prop
 stop:Nat->Hp->Prop
def eW (X:Cx) (pins:List (Addr × Obj)) (H:Hp) (b:Addr):Prop :=
 H b=none/\b≠X.env.locals/\b∉X.fs/\(b∈X.ex∨X.s₀.heap.objs.size<=b)/\(∀ x c,X.env.cells.lookup x=some c->c≠b)/\∀ p∈X.pn++pins,p.1≠b
theorem Inv.lL {X:Cx} {pins:List (Addr × Obj)} {σ:St} {H H':Hp} {s:Shared} {b:Addr} (I:Inv X pins σ H s) (hb:s.heap.objs.size<=b) (hn:H' b=none):eW X pins H' b:=by
 refine⟨hn,Nat.ne_of_gt (Nat.lt_of_lt_of_le I.lt hb),I.nO hb,.inr (Nat.le_trans I.sz hb),λx c e z=>?_,λp hp z=>?_⟩
 ·obtain⟨v,q⟩:=I.cell x c e
  exact absurd (Nat.lt_of_lt_of_le q.lt (by rw [z];exact hb)) (Nat.lt_irrefl _)
 ·exact absurd (Nat.lt_of_lt_of_le (Heap.lt_size (I.pin p hp).1) (by rw [z];exact hb)) (Nat.lt_irrefl _)
structure Turn (P:Program) (w:World) (K:PySem.W.Frag) (tg:Expr) (J:It) (fp:List Addr) (it:Addr) (tn:Nat->Heap->Prop):Prop where
 mem:it∈fp
 obj:∀ i h,tn i h->∀ b∈fp,∃ o,h.get? b=some o/\∀ v,o.data≠.cell v
 keep:∀ i h h',tn i h->(∀ b∈fp,∀ o,h.get? b=some o->h'.get? b=some o)->tn i h'
 item:∀(X:Cx),X.prog=P->X.w=w->X.K=K->X.calm=true->∀(i:Nat) (pins:List (Addr × Obj)) (s:Shared) (σ:St) (H:Hp) (E:Value->Shared->Prop),Inv X pins σ H s->(∀ b∈fp,eW X pins H b)->tn i s.heap->J.go i H ->
  wpAny (model P w) X.A (pyNext (.ref it)) (λr s1=>∃ u,r=some u /\
   wpAny (model P w) X.A (letOwnedTupleGo tg (.ref it) u) (λ_ s2=>∃ x H',Inv X pins σ H' s2/\RelV x u/\J.yld i H x H'/\tn (i+1) s2.heap/\∀ b∈fp,H' b=none) E s1) E s
 done:∀(X:Cx),X.prog=P->X.w=w->X.K=K->X.calm=true->∀(i:Nat) (pins:List (Addr × Obj)) (s:Shared) (σ:St) (H:Hp) (E:Value->Shared->Prop),Inv X pins σ H s->(∀ b∈fp,eW X pins H b)->tn i s.heap->J.stop i H ->
  wpAny (model P w) X.A (pyNext (.ref it)) (λr s1=>r=none/\Inv X pins σ H s1) E s
 self:∀(A:Around) (i:Nat) (s:Shared) (Q:Value->Shared->Prop) (E:Value->Shared->Prop),tn i s.heap->Q (.ref it) s->wpAny (model P w) A (pyIter (.ref it)) Q E s
abbrev TI:=St->Hp->(It->Hp->Prop)->Prop
def uP (X:Cx) (pins:List (Addr × Obj)) (σ:St) (tg:Expr) (R:It->Hp->Prop) (itv:Value) (s2:Shared):Prop :=
 ∃(it:Addr) (fp:List Addr) (tn:Nat->Heap->Prop) (J:It) (H':Hp),itv=.ref it/\Inv X pins σ H' s2/\Turn X.prog X.w X.K tg J fp it tn/\tn 0 s2.heap/\(∀ b∈fp,eW X pins H' b)/\R J H'
def PI (X:Cx) (tg iter:Expr) (wi:TI):Prop :=
 ∀(pins:List (Addr × Obj)) (s:Shared) (σ:St) (H:Hp) (R:It->Hp->Prop),Inv X pins σ H s->wi σ H R ->
  wpAny (model X.prog X.w) X.A (eval iter X.env) (λv s1=>wpAny (model X.prog X.w) X.A (pyIter v) (uP X pins σ tg R) X.xe s1) X.xe s
theorem mW {M:Model} {A:Around} {E:Value->Shared->Prop} {s:Shared} {tg:Expr} {it:Addr} {u:Value} {o:Obj} {n:String} {vs:Array Value} {Q:Unit->Shared->Prop} (ho:s.heap.get? it=some o) (hc:o.cls=.type n) (hd:o.data=.fields vs)
    (hn:["enumerate","zip","dict_itemiterator","dict_reverseitemiterator","odict_iterator","itertools.zip_longest","itertools.pairwise"].contains n=false) (hQ:Q () s):wpAny M A (letOwnedTupleGo tg (.ref it) u) Q E s:=by
  unfold letOwnedTupleGo
  cases tg<;>first
    | exact wpAny_pure hQ
    | (cases u<;>first
        | exact wpAny_pure hQ
        | (refine wpAny_bind (wpAny_load ho ?_)
           rw [hc,hd]
           show wpAny M A (if (["enumerate","zip","dict_itemiterator","dict_reverseitemiterator","odict_iterator","itertools.zip_longest","itertools.pairwise"].contains n && vs[0]?==some (rawInt _))=true then _ else _) Q E s
           rw [if_neg (by intro h;rw [hn,Bool.false_and] at h;cases h)]
           exact wpAny_pure hQ))
def pI (K:PySem.W.Frag) (a:Addr):It :=
 ⟨λi H=>∃ xs x,aT K H a xs/\xs[i]?=some x,λi H x H'=>H'=H/\∀ xs,aT K H a xs->xs[i]?=some x,λi H=>∃ xs,aT K H a xs/\xs.length<=i⟩
def sJ (K:PySem.W.Frag) (a:Addr):It :=
 ⟨λi H=>∃ xs x,a9 K H a xs/\xs[i]?=some x,λi H x H'=>H'=H/\∀ xs,a9 K H a xs->xs[i]?=some x,λi H=>∃ xs,a9 K H a xs/\xs.length<=i⟩
def rg (lo:Int) (n:Nat):It:=⟨λi _=>i<n,λi H x H'=>H'=H/\x=.int (lo+i),λi _=>n<=i⟩
theorem mv {P:Program} {w:World} {K:PySem.W.Frag} {tg:Expr} (a it:Addr):Turn P w K tg (pI K a) [it] it (λi h=>h.IsListIter it a i) where
 mem:=by simp
 obj:=λi h st b hb=>by
  have e:b=it:=by simpa using hb
  subst e
  obtain⟨o,e,c,d⟩:=st
  exact⟨o,e,λv z=>by rw [d] at z;cases z⟩
 keep:=λi h h' st k=>st.at λo e=>k it (by simp) o e
 item:=by
  intro X hP hw hK hc i pins s σ H E I hf st hg
  subst hP hw hK
  obtain⟨xs,x,hq,hx⟩:=hg
  obtain⟨its,rv,p,hz⟩:=I.list hq
  obtain⟨u,hu,ru⟩:=rv.get hx
  obtain⟨f0,f1,f2,f3,f4,f5⟩:=hf it (by simp)
  refine wpAny_pyNext_list_item st p.isList (x:=u) (by simpa using hu) λh' st' sb=>?_
  have I1:Inv X pins σ H { s with heap:=h' }:=I.turned (t':=s.toks) (λb o hb e=>(sb.2 b hb).trans e) f0 f1 f3 f4 f5
  obtain⟨o,e,c,d⟩:=id st'
  exact⟨u,rfl,mW (s:={ s with heap:=h' }) e c d (by decide) ⟨x,H,I1,ru,⟨rfl,λys hy=>by rw [I.nB hy hq];exact hx⟩,st',λb hb=>(hf b hb).1⟩⟩
 done:=by
  intro X hP hw hK hc i pins s σ H E I hf st hg
  subst hP hw hK
  obtain⟨xs,hq,hx⟩:=hg
  obtain⟨its,rv,p,hz⟩:=I.list hq
  obtain⟨f0,f1,f2,f3,f4,f5⟩:=hf it (by simp)
  have hl:=rv.length
  exact wpAny_pyNext_list_end (I.ok.hd hc) st p.isList (by simp;omega) λh' eb=>⟨rfl,I.turned (t':=s.toks) (λb o hb e=>eb b o hb e) f0 f1 f3 f4 f5⟩
 self:=λ_ _ _ _ _ st h=>wpAny_pyIter_listiter st h
theorem kz {P:Program} {w:World} {K:PySem.W.Frag} {tg:Expr} (a it:Addr):Turn P w K tg (sJ K a) [it] it (λi h=>h.IsTupleIter it a i) where
 mem:=by simp
 obj:=λi h st b hb=>by
  have e:b=it:=by simpa using hb
  subst e
  obtain⟨o,e,c,d⟩:=st
  exact⟨o,e,λv z=>by rw [d] at z;cases z⟩
 keep:=λi h h' st k=>st.at λo e=>k it (by simp) o e
 item:=by
  intro X hP hw hK hc i pins s σ H E I hf st hg
  subst hP hw hK
  obtain⟨xs,x,hq,hx⟩:=hg
  obtain⟨its,rv,p,hz⟩:=I.tuple hq
  obtain⟨u,hu,ru⟩:=rv.get hx
  obtain⟨f0,f1,f2,f3,f4,f5⟩:=hf it (by simp)
  refine wpAny_pyNext_tuple_item st (show s.heap.IsTuple a its.toArray from p) (x:=u) (by simpa using hu) λh' st' sb=>?_
  have I1:Inv X pins σ H { s with heap:=h' }:=I.turned (t':=s.toks) (λb o hb e=>(sb.2 b hb).trans e) f0 f1 f3 f4 f5
  obtain⟨o,e,c,d⟩:=id st'
  exact⟨u,rfl,mW (s:={ s with heap:=h' }) e c d (by decide) ⟨x,H,I1,ru,⟨rfl,λys hy=>by rw [I.mr hy hq];exact hx⟩,st',λb hb=>(hf b hb).1⟩⟩
 done:=by
  intro X hP hw hK hc i pins s σ H E I hf st hg
  subst hP hw hK
  obtain⟨xs,hq,hx⟩:=hg
  obtain⟨its,rv,p,hz⟩:=I.tuple hq
  obtain⟨f0,f1,f2,f3,f4,f5⟩:=hf it (by simp)
  have hl:=rv.length
  exact wpAny_pyNext_tuple_end (I.ok.hd hc) st (show s.heap.IsTuple a its.toArray from p) (by simp;omega) λh' eb=>⟨rfl,I.turned (t':=s.toks) (λb o hb e=>eb b o hb e) f0 f1 f3 f4 f5⟩
 self:=λ_ _ _ _ _ st h=>wpAny_pyIter_tupleiter st h
theorem kx {P:Program} {w:World} {K:PySem.W.Frag} {tg:Expr} (it:Addr) (lo:Int) (n:Nat):Turn P w K tg (rg lo n) [it] it (λi h=>IsRangeIter h it (lo+(i:Nat)*1) ((n:Int)-(i:Nat)) 1) where
 mem:=by simp
 obj:=λi h st b hb=>by
  have e:b=it:=by simpa using hb
  subst e
  exact⟨_,st,λv z=>by
   have z':Data.fields _=Data.cell v:=z
   cases z'⟩
 keep:=λi h h' st k=>k it (by simp) _ st
 item:=by
  intro X hP hw hK hc i pins s σ H E I hf st hg
  subst hP hw hK
  obtain⟨f0,f1,f2,f3,f4,f5⟩:=hf it (by simp)
  have W:=Walks.range (prog:=X.prog) (w:=X.w) (I.ok.hd hc) it lo 1 n
  refine W.item i s _ _ hg st λv h' tk hv st' kk=>?_
  obtain⟨t,rfl⟩:=hv
  have I1:Inv X pins σ H { s with heap:=h',toks:=tk }:=I.turned (λb o hb e=>kk b o (by simpa using hb) e) f0 f1 f3 f4 f5
  refine⟨_,rfl,mW (s:={ s with heap:=h',toks:=tk }) (n := "range_iterator") st' rfl rfl (by decide) ⟨.int (lo+i),H,I1,⟨t,?_⟩,⟨rfl,rfl⟩,st',λb hb=>(hf b hb).1⟩⟩
  rw [Int.mul_one]
 done:=by
  intro X hP hw hK hc i pins s σ H E I hf st hg
  subst hP hw hK
  obtain⟨f0,f1,f2,f3,f4,f5⟩:=hf it (by simp)
  exact wpAny_pyNext_range_end (I.ok.hd hc) st (by have:n<=i:=hg;omega) λh' eb=>⟨rfl,I.turned (t':=s.toks) (λb o hb e=>eb b o hb e) f0 f1 f3 f4 f5⟩
 self:=λ_ _ _ _ _ st h=>wpAny_pyIter_rangeiter st h
section
variable {X:Cx} {tg:Expr}
def mZ (K:PySem.W.Frag) (tl:TE):TI:=λσ H R=>tl σ H λx H1=>∃ a,x=.ref a/\(∃ xs,aT K H1 a xs)/\R (pI K a) H1
def vk (K:PySem.W.Frag) (tl:TE):TI:=λσ H R=>tl σ H λx H1=>∃ a,x=.ref a/\(∃ xs,a9 K H1 a xs)/\R (sJ K a) H1
theorem bh {l:Expr} {tl:TE} (hl:PE X l tl):PI X tg l (mZ X.K tl):=by
 intro pins s σ H R I h
 refine aN (hl pins s σ H _ I h) λv s1 ⟨x,H1,I1,r1,q1⟩=>?_
 obtain⟨a,e,⟨xs,hq⟩,q⟩:=q1
 subst e
 cases r1
 obtain⟨its,rv,p,hz⟩:=I1.list hq
 refine wpAny_pyIter_list p.isList ?_
 refine⟨s1.heap.objs.size,[s1.heap.objs.size],_,_,H1,rfl,I1.kept (t':=s1.toks) λb o e=>Heap.get?_push_of_some _ e,mv a _,⟨_,Heap.get?_push_size _ rfl,rfl,rfl⟩,λb hb=>?_,q⟩
 have e:b=s1.heap.objs.size:=by simpa using hb
 subst e
 exact I1.lL (Nat.le_refl _) (I1.hok.fresh (Nat.le_refl _))
theorem kj {l:Expr} {tl:TE} (hl:PE X l tl):PI X tg l (vk X.K tl):=by
 intro pins s σ H R I h
 refine aN (hl pins s σ H _ I h) λv s1 ⟨x,H1,I1,r1,q1⟩=>?_
 obtain⟨a,e,⟨xs,hq⟩,q⟩:=q1
 subst e
 cases r1
 obtain⟨its,rv,p,hz⟩:=I1.tuple hq
 refine wpAny_pyIter_tuple (show s1.heap.IsTuple a its.toArray from p) ?_
 refine⟨s1.heap.objs.size,[s1.heap.objs.size],_,_,H1,rfl,I1.kept (t':=s1.toks) λb o e=>Heap.get?_push_of_some _ e,kz a _,⟨_,Heap.get?_push_size _ rfl,rfl,rfl⟩,λb hb=>?_,q⟩
 have e:b=s1.heap.objs.size:=by simpa using hb
 subst e
 exact I1.lL (Nat.le_refl _) (I1.hok.fresh (Nat.le_refl _))
theorem oK {pins:List (Addr × Obj)} {σ:St} {H:Hp} {s:Shared} {R:It->Hp->Prop} {E:Value->Shared->Prop} {lo hi:Int} {t u v:Tok} {tk:Nat} (I:Inv X pins σ H s) (h1:-(2^62)<=lo) (h2:lo<2^62) (h3:-(2^62)<=hi) (h4:hi<2^62)
  (q:R (rg lo (hi-lo).toNat) H):wpAny (model X.prog X.w) X.A (pyIter (.ref s.heap.objs.size)) (uP X pins σ tg R) E { s with heap:=s.heap.push { cls:=.type "range",data:=.fields #[.int lo t,.int hi u,.int 1 v] },toks:=tk }:=by
 refine wpAny_pyIter_range (IsRange.new ..) (small_one h1 h2 h3 h4) ?_
 have I1:Inv X pins σ H { s with heap:=s.heap.push { cls:=.type "range",data:=.fields #[.int lo t,.int hi u,.int 1 v] },toks:=tk }:=I.kept λb o e=>Heap.get?_push_of_some _ e
 refine⟨(s.heap.push { cls:=.type "range",data:=.fields #[.int lo t,.int hi u,.int 1 v] }).objs.size,[(s.heap.push { cls:=.type "range",data:=.fields #[.int lo t,.int hi u,.int 1 v] }).objs.size],_,_,H,rfl,
  I1.kept (t':=tk) λb o e=>Heap.get?_push_of_some _ e,kx _ lo (hi-lo).toNat,?_,λb hb=>?_,q⟩
 ·have e1:lo+((0:Nat):Int)*1=lo:=by simp
  have e2:(((hi-lo).toNat:Nat):Int)-((0:Nat):Int)=Builtin.Range.rangeSize lo hi 1:=by rw [rangeSize_one];split<;>omega
  show IsRangeIter _ _ (lo+((0:Nat):Int)*1) ((((hi-lo).toNat:Nat):Int)-((0:Nat):Int)) 1
  rw [e1,e2]
  exact Heap.get?_push_size _ rfl
 ·have e:b=(s.heap.push { cls:=.type "range",data:=.fields #[.int lo t,.int hi u,.int 1 v] }).objs.size:=by simpa using hb
  subst e
  exact I1.lL (Nat.le_refl _) (I1.hok.fresh (Nat.le_refl _))
def rH (ta:TA):TI:=λσ H R=>ta σ H λvs H1=>∃ j:Int,vs=[.int j] /\ -(2^62)<=j/\j<2^62/\R (rg 0 j.toNat) H1
def vi (ta:TA):TI:=λσ H R=>ta σ H λvs H1=>∃ i j:Int,vs=[.int i,.int j]/\(-(2^62)<=i/\i<2^62 /\ -(2^62)<=j/\j<2^62)/\R (rg i (j-i).toNat) H1
theorem gC {a:Expr} {ta:TA} {p pos:Pos} (hg:Gl X "range") (hm:X.mg "range"=none) (ha:PA X [a] ta) (hs:starEach [a] X.env=[(false,eval a X.env)]:=by rfl):PI X tg (.Call (.Name "range" p) [a] [] pos) (rH ta):=by
 intro pins s σ H R I h
 refine Call_ (fo I hg hm boot_range (PyProof.Rows.callWith_type1 (aN (ha pos pins s σ H _ I h) λus s1 ⟨vs,H1,I1,r1,q1⟩=>?_) hs rfl))
 obtain⟨j,e,q1,q2,q⟩:=q1
 subst e
 cases r1 with
 | cons r rr =>
  cases rr
  obtain⟨t,rfl⟩:=r
  exact call_range_1 (oK I1 (by omega) (by omega) q1 q2 (by simpa using q))
def wb (wi:TI) (g:TG) (tb:TS):TS:=λD σ H=>wi σ H λJ H1=>∃ W:Nat->Nat->St->Hp->Prop,(∃ m,W 0 m σ H1)/\∀ i m σ H,W i m σ H ->
 (J.stop i H/\D.nx σ H)∨(J.go i H/\∃ N:St->Hp->Prop,(∀ σ' H',N σ' H'->∃ m',m'<m/\W (i+1) m' σ' H')/\∀ x H',J.yld i H x H'->g x σ H' λσ2 H2=>tb { D with nx:=N,ct:=N,bk:=D.nx } σ2 H2)
def bP (fp:List Addr) (h:Heap):List (Addr × Obj):=fp.filterMap λb=>(h.get? b).map λo=>(b,o)
theorem aW {fp:List Addr} {h:Heap} {b:Addr} {o:Obj} (hb:b∈fp) (e:h.get? b=some o):(b,o)∈bP fp h:=List.mem_filterMap.mpr ⟨b,hb,by rw [e];rfl⟩
theorem cQ {fp:List Addr} {h:Heap} {p:Addr × Obj} (hp:p∈bP fp h):p.1∈fp/\h.get? p.1=some p.2:=by
 obtain⟨b,hb,e⟩:=List.mem_filterMap.mp hp
 cases q:h.get? b with
 | none=>rw [q] at e;cases e
 | some o =>
  rw [q] at e
  have e':(b,o)=p:=Option.some.inj e
  subst e'
  exact⟨hb,q⟩
theorem Inv.pinned {pins:List (Addr × Obj)} {σ:St} {H:Hp} {s:Shared} {fp:List Addr} (I:Inv X pins σ H s) (hf:∀ b∈fp,eW X pins H b) (ho:∀ b∈fp,∃ o,s.heap.get? b=some o/\∀ v,o.data≠.cell v):Inv X (pins++bP fp s.heap) σ H s :=
 I.cR λp hp=>(List.mem_append.mp hp).elim (λz=>I.pin p (List.mem_append_right _ z)) λz=>by
  obtain⟨hb,e⟩:=cQ z
  obtain⟨f0,f1,f2,_⟩:=hf p.1 hb
  obtain⟨o,e',d⟩:=ho p.1 hb
  rw [e] at e';cases e'
  exact⟨e,f0,f1,f2,d⟩
theorem Inv.bY {pins pl:List (Addr × Obj)} {σ:St} {H:Hp} {s:Shared} (I:Inv X (pins++pl) σ H s):Inv X pins σ H s:=I.cR λp hp=>I.pin p (List.mem_append_right _ (List.mem_append_left _ hp))
theorem b7 {iter:Expr} {body:List Stmt} {wi:TI} {g:TG} {tb:TS} {pos:Pos} (hp:PassesOwn (model X.prog X.w) X.A X.env X.xe) (hc:X.calm=true) (hi:PI X tg iter wi) (hg:PG X tg g) (hb:eY X body tb)
  (hs:∀ x,foldedSetIterable iter X.env x=pure x:=by intro _;rfl):PS X (.For tg iter body [] pos) (wb wi g tb):=by
 intro pins s σ H D I h
 refine wpAny_For (aN (hi pins s σ H _ I h) λv s1 h1=>aN h1 λitv s2 h2=>?_) hs
 obtain⟨it,fp,tn,J,H2,e,I2,T,st2,f2,W,⟨m0,w0⟩,turn⟩:=h2
 subst e
 -- what stays true of the iterator's objects through the loop
 have stat:∀{H':Hp},(∀ b∈fp,H' b=none)->∀ b∈fp,eW X pins H' b:=λhn b hb=>⟨hn b hb,(f2 b hb).2⟩
 refine codeAny_forLoop_any (λn s'=>∃ i σ' H',Inv X pins σ' H' s'/\tn i s'.heap/\(∀ b∈fp,H' b=none)/\W i n σ' H') ?_ m0 ⟨0,σ,H2,I2,st2,λb hb=>(f2 b hb).1,w0⟩
 rintro n s3 ⟨i,σ3,H3,I3,st3,fr3,w3⟩
 rcases turn i n σ3 H3 w3 with⟨stop,qn⟩|⟨go,N,hN,step⟩
 ·refine wpAny_passesOwn hp (aN (T.done X rfl rfl rfl hc i pins s3 σ3 H3 X.xe I3 (stat fr3) st3 stop) λr s4 ⟨hr,I4⟩=>?_)
  subst hr
  exact wpAny_execs_nil ⟨σ3,H3,I4,qn⟩
 ·refine wpAny_passesOwn hp (aN (T.item X rfl rfl rfl hc i pins s3 σ3 H3 X.xe I3 (stat fr3) st3 go) λr s4 ⟨u,hr,h4⟩=>?_)
  subst hr
  refine wpAny_passesOwn hp (aN h4 λ_ s5 ⟨x,H5,I5,r5,y5,st5,fr5⟩=>?_)
  have I5':=I5.pinned (stat fr5) (T.obj _ _ st5)
  refine wpAny_passesOwn hp (aN (hg _ s5 σ3 H5 x u _ I5' r5 (step x H5 y5)) λ_ s6 ⟨σ6,H6,I6,q6⟩=>?_)
  refine wpAny_passesOwn hp (aN (hb _ s6 σ6 H6 _ I6 q6) λf s7 q7=>?_)
  have again:∀{σ7:St} {H7:Hp},Inv X (pins++bP fp s5.heap) σ7 H7 s7->N σ7 H7->∃ m,m<n/\∃ i σ' H',Inv X pins σ' H' s7/\tn i s7.heap/\(∀ b∈fp,H' b=none)/\W i m σ' H':=λ{σ7 H7} I7 n7=>by
   obtain⟨m',hm,w7⟩:=hN σ7 H7 n7
   refine⟨m',hm,i+1,σ7,H7,I7.bY,T.keep _ _ _ st5 λb hb o e=>(I7.pin (b,o) (List.mem_append_right _ (List.mem_append_right _ (aW hb e)))).1,λb hb=>?_,w7⟩
   obtain⟨o,e,d⟩:=T.obj _ _ st5 b hb
   exact (I7.pin (b,o) (List.mem_append_right _ (List.mem_append_right _ (aW hb e)))).2.1
  cases f with
  | next=>obtain⟨σ7,H7,I7,n7⟩:=q7;exact again I7 n7
  | cont=>obtain⟨σ7,H7,I7,n7⟩:=q7;exact again I7 n7
  | brk=>obtain⟨σ7,H7,I7,q7⟩:=q7;exact⟨σ7,H7,I7.bY,q7⟩
  | ret v=>obtain⟨x7,σ7,H7,I7,r7,q7⟩:=q7;exact⟨x7,σ7,H7,I7.bY,r7,q7⟩
end
theorem mS {K:PySem.W.Frag} {a:Addr} {xs:List V} {g:TG} {tb:TS} {D:Ends} {σ:St} {H:Hp} (Pv:Nat->St->Hp->Prop) (h0:Pv 0 σ H) (hl:∀ i σ H,i<=xs.length->Pv i σ H->aT K H a xs)
  (hs:∀ i x σ H,xs[i]?=some x->Pv i σ H->g x σ H λσ2 H2=>tb { D with nx:=Pv (i+1),ct:=Pv (i+1),bk:=D.nx } σ2 H2) (hd:∀ σ H,Pv xs.length σ H->D.nx σ H) :
  ∃ W:Nat->Nat->St->Hp->Prop,(∃ m,W 0 m σ H)/\∀ i m σ H,W i m σ H ->
   ((pI K a).stop i H/\D.nx σ H)∨((pI K a).go i H/\∃ N:St->Hp->Prop,(∀ σ' H',N σ' H'->∃ m',m'<m/\W (i+1) m' σ' H')/\∀ x H',(pI K a).yld i H x H'->g x σ H' λσ2 H2=>tb { D with nx:=N,ct:=N,bk:=D.nx } σ2 H2):=by
 refine⟨λi m σ H=>m=xs.length-i/\i<=xs.length/\Pv i σ H,⟨xs.length,by simp,Nat.zero_le _,h0⟩,?_⟩
 rintro i m σ H ⟨rfl,hi,p⟩
 have q:=hl i σ H hi p
 by_cases hlt:i<xs.length
 ·refine .inr ⟨⟨xs,xs[i],q,by simp [hlt]⟩,Pv (i+1),λσ' H' p'=>⟨xs.length-(i+1),by omega,rfl,hlt,p'⟩,λx H' y=>?_⟩
  obtain⟨e,y⟩:=y
  subst e
  exact hs i x σ _ (y xs q) p
 ·have e:i=xs.length:=by omega
  subst e
  exact .inl ⟨⟨xs,q,Nat.le_refl _⟩,hd σ H p⟩
theorem pW {K:PySem.W.Frag} {a:Addr} {xs:List V} {g:TG} {tb:TS} {D:Ends} {σ:St} {H:Hp} (Pv:Nat->St->Hp->Prop) (h0:Pv 0 σ H) (hl:∀ i σ H,i<=xs.length->Pv i σ H->a9 K H a xs)
  (hs:∀ i x σ H,xs[i]?=some x->Pv i σ H->g x σ H λσ2 H2=>tb { D with nx:=Pv (i+1),ct:=Pv (i+1),bk:=D.nx } σ2 H2) (hd:∀ σ H,Pv xs.length σ H->D.nx σ H) :
  ∃ W:Nat->Nat->St->Hp->Prop,(∃ m,W 0 m σ H)/\∀ i m σ H,W i m σ H ->
   ((sJ K a).stop i H/\D.nx σ H)∨((sJ K a).go i H/\∃ N:St->Hp->Prop,(∀ σ' H',N σ' H'->∃ m',m'<m/\W (i+1) m' σ' H')/\∀ x H',(sJ K a).yld i H x H'->g x σ H' λσ2 H2=>tb { D with nx:=N,ct:=N,bk:=D.nx } σ2 H2):=by
 refine⟨λi m σ H=>m=xs.length-i/\i<=xs.length/\Pv i σ H,⟨xs.length,by simp,Nat.zero_le _,h0⟩,?_⟩
 rintro i m σ H ⟨rfl,hi,p⟩
 have q:=hl i σ H hi p
 by_cases hlt:i<xs.length
 ·refine .inr ⟨⟨xs,xs[i],q,by simp [hlt]⟩,Pv (i+1),λσ' H' p'=>⟨xs.length-(i+1),by omega,rfl,hlt,p'⟩,λx H' y=>?_⟩
  obtain⟨e,y⟩:=y
  subst e
  exact hs i x σ _ (y xs q) p
 ·have e:i=xs.length:=by omega
  subst e
  exact .inl ⟨⟨xs,q,Nat.le_refl _⟩,hd σ H p⟩
theorem lK {lo:Int} {n:Nat} {g:TG} {tb:TS} {D:Ends} {σ:St} {H:Hp} (Pv:Nat->St->Hp->Prop) (h0:Pv 0 σ H)
  (hs:∀ i σ H,i<n->Pv i σ H->g (.int (lo+i)) σ H λσ2 H2=>tb { D with nx:=Pv (i+1),ct:=Pv (i+1),bk:=D.nx } σ2 H2) (hd:∀ σ H,Pv n σ H->D.nx σ H) :
  ∃ W:Nat->Nat->St->Hp->Prop,(∃ m,W 0 m σ H)/\∀ i m σ H,W i m σ H ->
   ((rg lo n).stop i H/\D.nx σ H)∨((rg lo n).go i H/\∃ N:St->Hp->Prop,(∀ σ' H',N σ' H'->∃ m',m'<m/\W (i+1) m' σ' H')/\∀ x H',(rg lo n).yld i H x H'->g x σ H' λσ2 H2=>tb { D with nx:=N,ct:=N,bk:=D.nx } σ2 H2):=by
 refine⟨λi m σ H=>m=n-i/\i<=n/\Pv i σ H,⟨n,by simp,Nat.zero_le _,h0⟩,?_⟩
 rintro i m σ H ⟨rfl,hi,p⟩
 by_cases hlt:i<n
 ·refine .inr ⟨hlt,Pv (i+1),λσ' H' p'=>⟨n-(i+1),by omega,rfl,hlt,p'⟩,λx H' y=>?_⟩
  obtain⟨e,y⟩:=y
  subst e y
  exact hs i σ _ hlt p
 ·have e:i=n:=by omega
  subst e
  exact .inl ⟨Nat.le_refl _,hd σ H p⟩
abbrev R2:=V->V->Hp->VK->Prop
def eS (X:Cx) (f:Value->Value->Sem Value) (r:R2):Prop :=
 ∀(pins:List (Addr × Obj)) (s:Shared) (σ:St) (H:Hp) (x y:V) (v u:Value) (Q:VK),Inv X pins σ H s->RelV x v->RelV y u->r x y H Q ->
  wpAny (model X.prog X.w) X.A (f v u) (EP X pins σ Q) X.xe s
def wO (X:Cx) (f:Value->Sem Value) (r:V->Hp->VK->Prop):Prop :=
 ∀(pins:List (Addr × Obj)) (s:Shared) (σ:St) (H:Hp) (x:V) (v:Value) (Q:VK),Inv X pins σ H s->RelV x v->r x H Q ->
  wpAny (model X.prog X.w) X.A (f v) (EP X pins σ Q) X.xe s
def cq (X:Cx) (f:Value) (r:List V->Hp->VK->Prop):Prop :=
 ∀(pins:List (Addr × Obj)) (s:Shared) (σ:St) (H:Hp) (xs:List V) (us:List Value) (Q:VK),Inv X pins σ H s->Vals xs us->r xs H Q ->
  wpAny (model X.prog X.w) X.A (call f us) (EP X pins σ Q) X.xe s
def wN (X:Cx) (r:V->Hp->(Bool->Hp->Prop)->Prop):Prop :=
 ∀(pins:List (Addr × Obj)) (s:Shared) (σ:St) (H:Hp) (x:V) (v:Value) (Q:Bool->Hp->Prop),Inv X pins σ H s->RelV x v->r x H Q ->
  wpAny (model X.prog X.w) X.A (truthy v) (TP X pins σ Q) X.xe s
def wk (r:R2) (ta tb:TE):TE:=λσ H Q=>ta σ H λx H1=>tb σ H1 λy H2=>r x y H2 Q
def xZ (r:V->Hp->VK->Prop) (ta:TE):TE:=λσ H Q=>ta σ H λx H1=>r x H1 Q
def rI (C:Int->Int->Prop) (g:Int->Int->V):R2:=λx y H Q=>∃ i j,x=.int i/\y=.int j/\C i j/\Q (g i j) H
def rW (g:Int->Int->V):R2:=λx y H Q=>∃ i j,x=.int i/\y=.int j/\Q (g i j) H
def rU (g:Int->V):V->Hp->VK->Prop:=λx H Q=>∃ i,x=.int i/\Q (g i) H
section
variable {X:Cx} {a b c:Expr} {ta tb tc:TE} {pos:Pos}
theorem sS (ha:PE X a ta) (hb:PE X b tb) {pins:List (Addr × Obj)} {s:Shared} {σ:St} {H:Hp} {R:V->V->Hp->Prop} (I:Inv X pins σ H s)
  (h:ta σ H λx H1=>tb σ H1 λy H2=>R x y H2) {Q:Value->Shared->Prop} {f:Value->Value->Sem Value}
  (hf:∀ v u s2 x y H2,Inv X pins σ H2 s2->RelV x v->RelV y u->R x y H2->wpAny (model X.prog X.w) X.A (f v u) Q X.xe s2) :
  wpAny (model X.prog X.w) X.A (eval a X.env) (λv s₁=>wpAny (model X.prog X.w) X.A (eval b X.env) (λu s₂=>wpAny (model X.prog X.w) X.A (f v u) Q X.xe s₂) X.xe s₁) X.xe s:=by
 refine aN (ha pins s σ H _ I h) λv s1 ⟨x,H1,I1,r1,q1⟩=>?_
 refine aN (hb pins s1 σ H1 _ I1 q1) λu s2 ⟨y,H2,I2,r2,q2⟩=>?_
 exact hf v u s2 x y H2 I2 r1 r2 q2
theorem aq {op:Operator} {r:R2} (ho:eS X (binaryOp op) r) (ha:PE X a ta) (hb:PE X b tb):PE X (.BinOp a op b pos) (wk r ta tb):=by
 intro pins s σ H Q I h
 exact wpAny_BinOp (sS ha hb I h λv u s2 x y H2 I2 rx ry q=>ho pins s2 σ H2 x y v u Q I2 rx ry q)
theorem rS {op:UnaryOp} {r:V->Hp->VK->Prop} (ho:wO X (unaryOp op) r) (ha:PE X a ta):PE X (.UnaryOp op a pos) (xZ r ta):=by
 intro pins s σ H Q I h
 exact UnaryOp_ (aN (ha pins s σ H _ I h) λv s1 ⟨x,H1,I1,r1,q1⟩=>ho pins s1 σ H1 x v Q I1 r1 q1)
theorem vD {f:Value->Value->Sem Value} {C:Int->Int->Prop} {g:Int->Int->Int}
  (rule:∀(i j:Int) (t u:Tok) (s:Shared) (Q:Value->Shared->Prop) (E:Value->Shared->Prop),C i j->Q (.int (g i j) s.toks) { s with toks:=s.toks+1 }->wpAny (model X.prog X.w) X.A (f (.int i t) (.int j u)) Q E s) :
  eS X f (rI C λi j=>.int (g i j)):=by
 intro pins s σ H x y v u Q I rx ry h
 obtain⟨i,j,rfl,rfl,hc,q⟩:=h
 obtain⟨t,rfl⟩:=rx
 obtain⟨t',rfl⟩:=ry
 exact rule i j t t' s _ _ hc ⟨.int (g i j),H,I.tok _,⟨_,rfl⟩,q⟩
theorem vE {f:Value->Value->Sem Value} {g:Int->Int->Int}
  (rule:∀(i j:Int) (t u:Tok) (s:Shared) (Q:Value->Shared->Prop) (E:Value->Shared->Prop),Q (.int (g i j) s.toks) { s with toks:=s.toks+1 }->wpAny (model X.prog X.w) X.A (f (.int i t) (.int j u)) Q E s) :
  eS X f (rW λi j=>.int (g i j)):=by
 intro pins s σ H x y v u Q I rx ry h
 obtain⟨i,j,rfl,rfl,q⟩:=h
 obtain⟨t,rfl⟩:=rx
 obtain⟨t',rfl⟩:=ry
 exact rule i j t t' s _ _ ⟨.int (g i j),H,I.tok _,⟨_,rfl⟩,q⟩
theorem tP {f:Value->Value->Sem Value} {g:Int->Int->Bool}
  (rule:∀(i j:Int) (t u:Tok) (s:Shared) (Q:Value->Shared->Prop) (E:Value->Shared->Prop),Q (.bool (g i j)) s->wpAny (model X.prog X.w) X.A (f (.int i t) (.int j u)) Q E s) :
  eS X f (rW λi j=>.bl (g i j)):=by
 intro pins s σ H x y v u Q I rx ry h
 obtain⟨i,j,rfl,rfl,q⟩:=h
 obtain⟨t,rfl⟩:=rx
 obtain⟨t',rfl⟩:=ry
 exact rule i j t t' s _ _ ⟨.bl (g i j),H,I,rfl,q⟩
def wD (i j:Int):Prop:=0<=j/\j<=1000000/\i.natAbs<2^64
def uJ (i j:Int):Prop:=(-(2^64)<i/\i<2^64)∨(-(2^64)<j/\j<2^64)
theorem uJ.ok {i j:Int} (h:uJ i j):IntMulOk i j:=by
 rcases h with⟨h1,h2⟩|⟨h1,h2⟩
 ·exact .of_left (intBits_le_64 h1 h2)
 ·exact .of_right (intBits_le_64 h1 h2)
theorem bw:eS X (binaryOp .Add) (rW λi j=>.int (i+j)):=vE λ_ _ _ _ _ _ _ q=>add_int q
theorem bF:eS X (binaryOp .Sub) (rW λi j=>.int (i-j)):=vE λ_ _ _ _ _ _ _ q=>sub_int q
theorem aL:eS X (binaryOp .Mod) (rI (λ_ j=>0<j) λi j=>.int (i%j)):=vD λi j _ _ _ _ _ hc q=>by
 have h1:(0:Int)<j:=hc
 exact mod_int' (by omega) (by rw [Int.fmod_eq_emod_of_nonneg i (by omega)];exact q)
theorem yz {f:Value->Sem Value} {g:Int->Int}
  (rule:∀(i:Int) (t:Tok) (s:Shared) (Q:Value->Shared->Prop) (E:Value->Shared->Prop),Q (.int (g i) s.toks) { s with toks:=s.toks+1 }->wpAny (model X.prog X.w) X.A (f (.int i t)) Q E s) :
  wO X f (rU λi=>.int (g i)):=by
 intro pins s σ H x v Q I rx h
 obtain⟨i,rfl,q⟩:=h
 obtain⟨t,rfl⟩:=rx
 exact rule i t s _ _ ⟨.int (g i),H,I.tok _,⟨_,rfl⟩,q⟩
theorem pB:wO X (unaryOp .USub) (rU λi=>.int (-i)):=yz λ_ _ _ _ _ q=>neg_int q
end
def iK:V->V->Bool
 | .non,.non=>true | .non,.int _=>true | .int _,.non=>true | .non,.bl _=>true | .bl _,.non=>true | .non,.str _=>true | .str _,.non=>true
 | .int _,.int _=>true | .bl _,.bl _=>true | .str _,.str _=>true | .byt _,.byt _=>true
 | .int _,.str _=>true | .str _,.int _=>true | .bl _,.str _=>true | .str _,.bl _=>true
 | _,_=>false
def xR:R2:=λx y H Q=>iK x y=true/\Q (.bl (decide (x=y))) H
def xS:R2:=λx y H Q=>iK x y=true/\Q (.bl (!decide (x=y))) H
theorem kE {i j:Int}:decide (V.int i=V.int j)=(i==j):=by
 rw [Bool.eq_iff_iff]
 simp
theorem mL {i j:Bool}:decide (V.bl i=V.bl j)=(i==j):=by
 rw [Bool.eq_iff_iff]
 simp
theorem kF {i j:Str}:decide (V.str i=V.str j)=(i==j):=by
 rw [Bool.eq_iff_iff]
 simp
theorem kD {i j:Array UInt8}:decide (V.byt i=V.byt j)=(i.toList==j.toList):=by
 rw [Bool.eq_iff_iff]
 cases i
 cases j
 simp
section
variable {X:Cx} {a b c:Expr} {ta tb tc:TE} {pos:Pos}
theorem aB {pins:List (Addr × Obj)} {σ:St} {H:Hp} {s:Shared} {Q:VK} {k k':Bool} (I:Inv X pins σ H s) (q:Q (.bl k) H) (e:k=k'):EP X pins σ Q (.bool k') s:=by
 subst e
 exact⟨.bl k,H,I,rfl,q⟩
theorem c7:eS X (compareOp .Eq) xR:=by
 intro pins s σ H x y v u Q I rx ry h
 obtain⟨hs,q⟩:=h
 cases x with
 | non =>
  cases rx
  cases y with
  | non=>cases ry;exact PySem.EqNone.eq_none_none (aB I q (by simp))
  | bl j=>cases ry;exact PySem.EqNone.eq_none_bool (aB I q (by simp))
  | int j=>obtain⟨t',rfl⟩:=ry;exact PySem.EqNone.eq_none_int (aB I q (by simp))
  | str j=>obtain⟨t',rfl⟩:=ry;exact PySem.EqNone.eq_none_str (aB I q (by simp))
  | _=>exact absurd (show false=true from hs) Bool.false_ne_true
 | bl i =>
  cases rx
  cases y with
  | non=>cases ry;exact PySem.EqNone.eq_bool_none (aB I q (by simp))
  | bl j=>cases ry;exact eq_bool (aB I q mL)
  | str j=>obtain⟨t',rfl⟩:=ry;exact PySem.EqMixed.eq_bool_str (aB I q (by simp))
  | _=>exact absurd (show false=true from hs) Bool.false_ne_true
 | int i =>
  obtain⟨t,rfl⟩:=rx
  cases y with
  | non=>cases ry;exact PySem.EqNone.eq_int_none (aB I q (by simp))
  | int j=>obtain⟨t',rfl⟩:=ry;exact eq_int (aB I q kE)
  | str j=>obtain⟨t',rfl⟩:=ry;exact PySem.EqMixed.eq_int_str (aB I q (by simp))
  | _=>exact absurd (show false=true from hs) Bool.false_ne_true
 | str i =>
  obtain⟨t,rfl⟩:=rx
  cases y with
  | non=>cases ry;exact PySem.EqNone.eq_str_none (aB I q (by simp))
  | bl j=>cases ry;exact PySem.EqMixed.eq_str_bool (aB I q (by simp))
  | int j=>obtain⟨t',rfl⟩:=ry;exact PySem.EqMixed.eq_str_int (aB I q (by simp))
  | str j=>obtain⟨t',rfl⟩:=ry;exact eq_str (aB I q kF)
  | _=>exact absurd (show false=true from hs) Bool.false_ne_true
 | byt i =>
  obtain⟨t,rfl⟩:=rx
  cases y with
  | byt j=>obtain⟨t',rfl⟩:=ry;exact PySem.W.eq_bytes (aB I q kD)
  | _=>exact absurd (show false=true from hs) Bool.false_ne_true
 | _=>cases y<;>exact absurd (show false=true from hs) Bool.false_ne_true
theorem rR:eS X (compareOp .NotEq) xS:=by
 intro pins s σ H x y v u Q I rx ry h
 obtain⟨hs,q⟩:=h
 cases x with
 | non =>
  cases rx
  cases y with
  | non=>cases ry;exact PySem.EqNone.ne_none_none (aB I q (by simp))
  | bl j=>cases ry;exact PySem.EqNone.ne_none_bool (aB I q (by simp))
  | int j=>obtain⟨t',rfl⟩:=ry;exact PySem.EqNone.ne_none_int (aB I q (by simp))
  | str j=>obtain⟨t',rfl⟩:=ry;exact PySem.EqNone.ne_none_str (aB I q (by simp))
  | _=>exact absurd (show false=true from hs) Bool.false_ne_true
 | bl i =>
  cases rx
  cases y with
  | non=>cases ry;exact PySem.EqNone.ne_bool_none (aB I q (by simp))
  | bl j=>cases ry;exact ne_bool (aB I q (congrArg not mL))
  | str j=>obtain⟨t',rfl⟩:=ry;exact PySem.EqMixed.ne_bool_str (aB I q (by simp))
  | _=>exact absurd (show false=true from hs) Bool.false_ne_true
 | int i =>
  obtain⟨t,rfl⟩:=rx
  cases y with
  | non=>cases ry;exact PySem.EqNone.ne_int_none (aB I q (by simp))
  | int j=>obtain⟨t',rfl⟩:=ry;exact ne_int (aB I q (congrArg not kE))
  | str j=>obtain⟨t',rfl⟩:=ry;exact PySem.EqMixed.ne_int_str (aB I q (by simp))
  | _=>exact absurd (show false=true from hs) Bool.false_ne_true
 | str i =>
  obtain⟨t,rfl⟩:=rx
  cases y with
  | non=>cases ry;exact PySem.EqNone.ne_str_none (aB I q (by simp))
  | bl j=>cases ry;exact PySem.EqMixed.ne_str_bool (aB I q (by simp))
  | int j=>obtain⟨t',rfl⟩:=ry;exact PySem.EqMixed.ne_str_int (aB I q (by simp))
  | str j=>obtain⟨t',rfl⟩:=ry;exact ne_str (aB I q (congrArg not kF))
  | _=>exact absurd (show false=true from hs) Bool.false_ne_true
 | byt i =>
  obtain⟨t,rfl⟩:=rx
  cases y with
  | byt j=>obtain⟨t',rfl⟩:=ry;exact PySem.W.ne_bytes (aB I q (congrArg not kD))
  | _=>exact absurd (show false=true from hs) Bool.false_ne_true
 | _=>cases y<;>exact absurd (show false=true from hs) Bool.false_ne_true
theorem fw:eS X (compareOp .Lt) (rW λi j=>.bl (decide (i<j))):=tP λ_ _ _ _ _ _ _ q=>lt_int q
theorem rQ:eS X (compareOp .LtE) (rW λi j=>.bl (decide (i<=j))):=tP λ_ _ _ _ _ _ _ q=>le_int q
theorem dN:eS X (compareOp .Gt) (rW λi j=>.bl (decide (j<i))):=tP λ_ _ _ _ _ _ _ q=>gt_int q
theorem tR:eS X (compareOp .Is) (λx y H Q=>y=.non/\Q (.bl (decide (x=.non))) H):=by
 intro pins s σ H x y v u Q I rx ry h
 obtain⟨rfl,q⟩:=h
 cases ry
 refine is_none_gen (aB I q ?_)
 cases x<;>first
  | (cases rx;rfl)
  | (obtain⟨t,rfl⟩:=rx;rfl)
theorem qA:eS X (compareOp .IsNot) (λx y H Q=>y=.non/\Q (.bl (!decide (x=.non))) H):=by
 intro pins s σ H x y v u Q I rx ry h
 obtain⟨rfl,q⟩:=h
 cases ry
 refine isnot_none_gen (aB I q ?_)
 cases x<;>first
  | (cases rx;rfl)
  | (obtain⟨t,rfl⟩:=rx;rfl)
theorem az (b:Expr) {op:CmpOp} (h:op≠.In:=by decide) (h2:op≠.NotIn:=by decide):behindInMarks op b=false:=by
 have e1:(op==CmpOp.In)=false:=by cases op<;>first | rfl | exact absurd rfl h
 have e2:(op==CmpOp.NotIn)=false:=by cases op<;>first | rfl | exact absurd rfl h2
 cases b<;>simp [behindInMarks,e1,e2]
theorem kR {op:CmpOp} {r:R2} (ho:eS X (compareOp op) r) (ha:PE X a ta) (hb:PE X b tb) (hm:behindInMarks op b=false):PE X (.Compare a [op] [b] pos) (wk r ta tb):=by
 intro pins s σ H Q I h
 exact wpAny_Compare1 (sS ha hb I h λv u s2 x y H2 I2 rx ry q=>ho pins s2 σ H2 x y v u Q I2 rx ry q) hm
def sC (t:TE):TT:=λσ H Q=>t σ H λx H'=>∃ k,x=.bl k/\Q k H'
theorem aw {op:CmpOp} {r:R2} (ho:eS X (compareOp op) r) (ha:PE X a ta) (hb:PE X b tb) (hm:behindInMarks op b=false):PT X (.Compare a [op] [b] pos) (sC (wk r ta tb)):=by
 intro pins s σ H Q I h
 refine wpAny_isTrue_Compare1 (aN (ha pins s σ H _ I h) λv s1 ⟨x,H1,I1,r1,q1⟩=>aN (hb pins s1 σ H1 _ I1 q1) λu s2 ⟨y,H2,I2,r2,q2⟩ =>
  aN (ho pins s2 σ H2 x y v u _ I2 r1 r2 q2) λc s3 ⟨z,H3,I3,r3,k,e,q3⟩=>?_) hm
 subst e
 cases r3
 exact wpAny_truthy_bool ⟨H3,I3,q3⟩
def mF (K:PySem.W.Frag) (x:V) (H:Hp) (k:Bool):Prop :=
 match x with
 | .non=>k=false
 | .bl b=>k=b
 | .int i=>k=(i != 0)
 | .str y=>y.length<=sizeLine/\k=((y.length:Int) != 0)
 | .byt y=>y.size<=sizeLine/\k=((y.size:Int) != 0)
 | .ref p=>(∃ xs,aT K H p xs/\k=!xs.isEmpty)∨(∃ xs,a9 K H p xs/\k=!xs.isEmpty)∨∃ kvs,H p=some (.dK kvs)/\k=!kvs.isEmpty
 | _=>False
theorem jZ {κ:Type} {kvs:List (κ × V)} {vs:List (κ × Value)} (r:KV kvs vs):(!vs.isEmpty)=!kvs.isEmpty:=by
 cases r<;>rfl
theorem fk {xs:List V} {its:List Value} (r:Vals xs its):(!its.toArray.isEmpty)=!xs.isEmpty:=by
 cases r<;>simp
theorem iq:(sizeLine:Nat)<2^63:=by rw [sizeLine_eq];decide
theorem uA:wN X (λx H Q=>∃ k,mF X.K x H k/\Q k H):=by
 intro pins s σ H x v Q I rx h
 obtain⟨k,e,q⟩:=h
 have hl:=iq
 have hs:sizeLine=16777216:=sizeLine_eq
 cases x with
 | non =>
  cases rx
  have e':k=false:=e
  subst e'
  exact truthy_none ⟨H,I,q⟩
 | bl b =>
  cases rx
  have e':k=b:=e
  subst e'
  exact wpAny_truthy_bool ⟨H,I,q⟩
 | int i =>
  obtain⟨t,rfl⟩:=rx
  have e':k=(i != 0):=e
  subst e'
  exact PySem.P.truthy_int ⟨H,I,q⟩
 | str y =>
  obtain⟨t,rfl⟩:=rx
  obtain⟨hy,e'⟩:y.length<=sizeLine/\k=((y.length:Int) != 0):=e
  subst e'
  exact PySem.P.truthy_str (by omega) ⟨H,I.tok _,q⟩
 | byt y =>
  obtain⟨t,rfl⟩:=rx
  obtain⟨hy,e'⟩:y.size<=sizeLine/\k=((y.size:Int) != 0):=e
  subst e'
  exact PySem.W.truthy_bytes (by omega) ⟨H,I.tok _,q⟩
 | ref p =>
  cases rx
  have e':(∃ xs,aT X.K H p xs/\k=!xs.isEmpty)∨(∃ xs,a9 X.K H p xs/\k=!xs.isEmpty)∨∃ kvs,H p=some (.dK kvs)/\k=!kvs.isEmpty:=e
  rcases e' with⟨xs,hx,e'⟩|⟨xs,hx,e'⟩|⟨kvs,hx,e'⟩
  ·subst e'
   obtain⟨its,r,pl,hz⟩:=I.list hx
   have hlen:=r.length
   exact wpAny_truthy_list pl.isList (by simp only [List.size_toArray];omega) ⟨H,I.tok _,by rw [fk r];exact q⟩
  ·subst e'
   obtain⟨its,r,pl,hz⟩:=I.tuple hx
   have hlen:=r.length
   exact truthy_tuple pl (by simp only [List.size_toArray];omega) ⟨H,I.tok _,by rw [fk r];exact q⟩
  ·subst e'
   obtain⟨hz,hS,vs,r,m⟩:kvs.length<=sizeLine/\(p==sysModules)=false/\∃ vs,KV kvs vs/\s.heap.DictOf (aK X.prog X.w) p vs:=I.hok p _ hx
   have hlen:kvs.length=vs.length:=Paired.length r
   exact wpAny_truthy_dict hS m (by omega) ⟨H,I.tok _,by rw [jZ r];exact q⟩
 | _=>exact (show False from e).elim
theorem bH (ha:PE X a ta) (he:∀ whole,isTrue a X.env whole=(do let v <- whole;standAt a.pos;holding [v] (truthy v))) :
  PT X a (λσ H Q=>ta σ H λx H'=>∃ k,mF X.K x H' k/\Q k H'):=by
 intro pins s σ H Q I h
 exact isTrue_plain (aN (ha pins s σ H _ I h) λv s1 ⟨x,H1,I1,r1,q1⟩=>uA pins s1 σ H1 x v Q I1 r1 q1) (he _)
theorem vals1 {x:V} {us:List Value} (r:Vals [x] us):∃ u,us=[u]/\RelV x u:=by
 cases r with
 | cons r1 r2=>cases r2;exact⟨_,rfl,r1⟩
theorem vals2 {x y:V} {us:List Value} (r:Vals [x,y] us):∃ u w',us=[u,w']/\RelV x u/\RelV y w':=by
 cases r with
 | cons r1 r2 =>
  cases r2 with
  | cons r3 r4=>cases r4;exact⟨_,_,rfl,r1,r3⟩
theorem bC:cq X (.builtin "abs") (λxs H Q=>∃ i,xs=[.int i]/\Q (.int (if i<0 then -i else i)) H):=by
 intro pins s σ H xs us Q I r h
 obtain⟨i,rfl,q⟩:=h
 obtain⟨u,rfl,t,rfl⟩:=vals1 r
 exact call_abs_int λu tk=>⟨.int (if i<0 then -i else i),H,I.tok _,⟨_,rfl⟩,q⟩
theorem lE (hc:X.calm=true):cq X (.builtin "max") (λxs H Q=>∃ i j,xs=[.int i,.int j]/\Q (.int (if j > i then j else i)) H):=by
 intro pins s σ H xs us Q I r h
 obtain⟨i,j,rfl,q⟩:=h
 obtain⟨u,w',rfl,⟨t,rfl⟩,⟨t',rfl⟩⟩:=vals2 r
 refine max_two_ints (I.ok.hd hc) λh' tk k=>⟨_,H,I.kept k,?_,q⟩
 by_cases hj:j > i
 ·rw [if_pos hj,if_pos hj];exact⟨_,rfl⟩
 ·rw [if_neg hj,if_neg hj];exact⟨_,rfl⟩
theorem lF (hc:X.calm=true):cq X (.builtin "min") (λxs H Q=>∃ i j,xs=[.int i,.int j]/\Q (.int (if j<i then j else i)) H):=by
 intro pins s σ H xs us Q I r h
 obtain⟨i,j,rfl,q⟩:=h
 obtain⟨u,w',rfl,⟨t,rfl⟩,⟨t',rfl⟩⟩:=vals2 r
 refine min_two_ints (I.ok.hd hc) λh' tk k=>⟨_,H,I.kept k,?_,q⟩
 by_cases hj:j<i
 ·rw [if_pos hj,if_pos hj];exact⟨_,rfl⟩
 ·rw [if_neg hj,if_neg hj];exact⟨_,rfl⟩
end
structure sM (h:Heap) (x dx C:Addr) (mA:Str->Option Value):Prop where
 obj:h.get? x=some (PySem.W.instObj C dx)
 ns:h.Ns1 dx mA
 ne:dx≠x
theorem lR {h:Heap} {dx:Addr} {mA:Str->Option Value} (n:h.Ns1 dx mA):∃ od,h.get? dx=some od/\∀ name,PySem.W.lookIn name od=some (mA name):=by
 obtain⟨o,es,ep,ho,hd,hk,_,hm⟩:=n
 refine⟨o,ho,λname=>?_⟩
 have e:=hm name
 unfold nsFind findBy at e
 rw [<- Array.find?_toList] at e
 unfold PySem.W.lookIn
 rw [hd]
 dsimp only
 split
 ·rename_i y q
  rw [q] at e
  exact congrArg some e
 ·rename_i q
  rw [q] at e
  have a:es.toList.any (·.refKey)=false:=by
   rw [List.any_eq_false]
   intro y hy
   obtain⟨z,t,hkey⟩:=hk y (Array.mem_toList_iff.mp hy)
   simp [DictEntry.refKey,hkey]
  have a':¬es.toList.any (·.refKey)=true:=by rw [a];exact Bool.false_ne_true
  rw [if_neg a']
  exact congrArg some e
theorem sM.look {h:Heap} {x dx C:Addr} {mA:Str->Option Value} (I:sM h x dx C mA):∃ od,PySem.W.InstAt h x (PySem.W.instObj C dx) C (some od)/\∀ name,PySem.W.lookIn name od=some (mA name) :=
 let ⟨od,ho,hl⟩:=lR I.ns
 ⟨od,⟨I.obj,rfl,rfl,ho⟩,hl⟩
section
variable {prog:Program} {w:World} {A:Around} {E:Value->Shared->Prop} {s:Shared} {K:PySem.W.Frag} {x dx C f:Addr} {mA:Str->Option Value} {name:Str} {v:Value}
end
theorem dG.some_of {v:V} {o:Option Value} (r:dG (some v) o):∃ u,o=some u/\RelV v u:=by
 cases o with
 | none=>exact (show False from r).elim
 | some u=>exact⟨u,rfl,r⟩
section
variable {P:Program} {w:World} {H H':Hp} {h h':Heap} {a C dx:Addr} {fs fs':List (Str × V)}
theorem pZ (hok:cm P w H h) (e:H a=some (.ins C dx fs)):∃ mA,sM h a dx C mA/\(∀ f,dG (fs.lookup f) (mA f))/\PySem.Within mA (fs.map (·.1))/\fs.length<=1000/\H dx=some (.own a):=by
 obtain⟨d,z,ne,ob,mA,n,r,q⟩:=(show aG P w H h a (.ins C dx fs) from hok a _ e)
 exact⟨mA,⟨ob,n,ne⟩,r,q,z,d⟩
end
structure wF (K:PySem.W.Frag) (C:Addr):Prop where
 pg:PySem.W.plainGet K C Str.empty=true
 hd:PySem.W.hasDictIn K C=true
 po:PySem.W.plainOver K C=true
 sa:PySem.W.findIn K (.ref C) "__setattr__"=some (some (.builtin "object.__setattr__"))
theorem wF.get {K:PySem.W.Frag} {C:Addr} (c:wF K C) (f:Str):PySem.W.plainGet K C f=true:=c.pg
section
variable {X:Cx} {pins:List (Addr × Obj)} {σ:St} {H:Hp} {s:Shared} {a C dx:Addr} {fs:List (Str × V)} {f:Str} {v:V} {A:Around} {E:Value->Shared->Prop}
end
section
variable {X:Cx} {o e value:Expr} {f:Str} {pos pos' tpos:Pos} {ta tv:TE}
end
section
variable {X:Cx} {pins:List (Addr × Obj)} {σ:St} {H:Hp} {s:Shared} {A:Around} {E:Value->Shared->Prop} {Q:Value->Shared->Prop} {c:Value} {b:Bool}
inductive cT (K:PySem.W.Frag) (H:Hp):V->Value->Prop where
 | non:cT K H .non (.type "NoneType")
 | bl (x:Bool):cT K H (.bl x) (.type "bool")
 | int (i:Int):cT K H (.int i) (.type "int")
 | str (x:Str):cT K H (.str x) (.type "str")
 | flt (x:UInt64):cT K H (.flt x) (.type "float")
 | lst {a:Addr} {xs:List V} (e:H a=some (.lst xs)):cT K H (.ref a) (.type "list")
 | frz {a:Addr} {o:Obj} {xs:List V} (e:H a=some (.frz o (.lst xs))):cT K H (.ref a) (.type "list")
 | tup {a:Addr} {xs:List V} (e:H a=some (.tup xs)):cT K H (.ref a) (.type "tuple")
 | dK {a:Addr} {kvs:List (Key × V)} (e:H a=some (.dK kvs)):cT K H (.ref a) (.type "dict")
 | dT {a:Addr} {kvs:List (List Key × V)} (e:H a=some (.dT kvs)):cT K H (.ref a) (.type "dict")
 | ins {a C dx:Addr} {fs:List (Str × V)} (e:H a=some (.ins C dx fs)) (cl:wF K C) (ha:PySem.W.findIn K (.ref C) "__class__"=some (some (.builtin "object.__class__")))
   (hn:PySem.W.specialIn K (.builtin "object.__class__") "__get__"=some (some (.builtin "getset_descriptor.__get__"))) (htk:PySem.W.takesIn K (.builtin "object.__class__")=some true)
   (hm:PySem.W.mroIn K C (.type "object")=some true):cT K H (.ref a) (.ref C)
theorem cP {x:V} {u t:Value} (I:Inv X pins σ H s) (rx:RelV x u) (ty:cT X.K H x t) (e:PySem.W.kitOne X.K t c=some b) (h:∀ tk,Q (.bool b) { s with toks:=tk }) :
  wpAny (model X.prog X.w) A (call (.builtin "isinstance") [u,c]) Q E s:=by
 cases ty with
 | non=>cases (show u=Value.none from rx);exact PySem.W.kia_one PySem.W.kitx_none I.eE True.intro e (λz=>nomatch z) h
 | bl y=>cases (show u=Value.bool y from rx);exact PySem.W.kia_one PySem.W.kitx_bool I.eE True.intro e (λz=>nomatch z) h
 | int i=>obtain⟨t,q⟩:=(show ∃ t,u=Value.int i t from rx);cases q;exact PySem.W.kia_one PySem.W.kitx_int I.eE True.intro e (λz=>nomatch z) h
 | str y=>obtain⟨t,q⟩:=(show ∃ t,u=Value.str y t from rx);cases q;exact PySem.W.kia_one PySem.W.kitx_str I.eE True.intro e (λz=>nomatch z) h
 | flt y=>obtain⟨t,q⟩:=(show ∃ t,u=Value.float y t from rx);cases q;exact PySem.W.kia_one PySem.W.kitx_float I.eE True.intro e (λz=>nomatch z) h
 | @lst a xs ea =>
  cases (show u=Value.ref a from rx)
  obtain⟨_,_,n,_,h1⟩:=(show aG X.prog X.w H s.heap a (.lst xs) from I.hok a _ ea)
  exact PySem.W.kia_one PySem.W.kitx_list I.eE ⟨_,h1,rfl⟩ e (λz=>nomatch z) h
 | @frz a ob xs ea =>
  cases (show u=Value.ref a from rx)
  obtain⟨_,_,_,n,_,h1⟩:=(show aG X.prog X.w H s.heap a (.frz ob (.lst xs)) from I.hok a _ ea)
  exact PySem.W.kia_one PySem.W.kitx_list I.eE ⟨_,h1,rfl⟩ e (λz=>nomatch z) h
 | @tup a xs ea =>
  cases (show u=Value.ref a from rx)
  obtain⟨_,_,_,p⟩:=(show aG X.prog X.w H s.heap a (.tup xs) from I.hok a _ ea)
  obtain⟨o,h1,h2,_⟩:=p
  exact PySem.W.kia_one PySem.W.kitx_tuple I.eE ⟨o,h1,h2⟩ e (λz=>nomatch z) h
 | @dK a kvs ea =>
  cases (show u=Value.ref a from rx)
  obtain⟨_,_,vs,_,p⟩:=(show aG X.prog X.w H s.heap a (.dK kvs) from I.hok a _ ea)
  obtain⟨o,es,ep,h1,h2,_⟩:=p
  exact PySem.W.kia_one PySem.W.kitx_dict I.eE ⟨o,h1,h2.1⟩ e (λz=>nomatch z) h
 | @dT a kvs ea =>
  cases (show u=Value.ref a from rx)
  obtain⟨_,_,xs,_,o,es,ep,h1,h2,_⟩:=(show aG X.prog X.w H s.heap a (.dT kvs) from I.hok a _ ea)
  exact PySem.W.kia_one PySem.W.kitx_dict I.eE ⟨o,h1,h2.1⟩ e (λz=>nomatch z) h
 | @ins a C dx fs ea cl ha hn htk hm =>
  cases (show u=Value.ref a from rx)
  obtain⟨mA,O,_⟩:=pZ I.hok ea
  obtain⟨od,J,_⟩:=O.look
  exact PySem.W.kia_one (PySem.W.kitx_own (cl.get _) cl.hd ha hn htk hm) I.eE J e (λz=>nomatch z) h
end
structure a4 (k:Nat) (A:Around):Prop where
 hd:A.handled=none
 dp:A.depth+3*k+5<recursionLimit
 un:A.units+16*k+200<cLine
 gs:A.guards=some []
theorem a4.mono {j k:Nat} {A:Around} (r:a4 k A) (h:j<=k):a4 j A:=⟨r.hd,by have:=r.dp;omega,by have:=r.un;omega,r.gs⟩
theorem a4.deeper {k:Nat} {A:Around} (r:a4 (k+1) A) (env:Env):a4 k (A.deeper env) :=
 ⟨r.hd,by have:=r.dp;show A.depth+1+3*k+5<_;omega,by have:=r.un;show A.units+3+16*k+200<_;omega,r.gs⟩
theorem j5 {A:Around} {C:Addr} {us:List Value} {kw:List (Str × Value)}:(A.under (.builtin "type.__call__" ⟨.ref C::us,kw⟩)).depth=A.depth+1:=by
 first | rfl | simp [Around.under,Code.weight,Code.isCreation,Code.isGuard,Code.isCaller,Code.frames,Code.isFrame,guardIds]
theorem j6 {A:Around} {C:Addr} {us:List Value} {kw:List (Str × Value)}:(A.under (.builtin "type.__call__" ⟨.ref C::us,kw⟩)).units=A.units+1:=by
 first | rfl | simp [Around.under,Code.cUnits,Code.frames,Code.isFrame]
theorem jf {A:Around} {C:Addr} {us:List Value} {kw:List (Str × Value)}:(A.under (.builtin "type.__call__" ⟨.ref C::us,kw⟩)).guards=A.guards:=by
 first | rfl | simp [Around.under,Code.weight,Code.isCreation,Code.isGuard,Code.isCaller,Code.frames,Code.isFrame,guardIds]
theorem a4.make {k:Nat} {A:Around} (r:a4 (k+1) A) (C:Addr) (us:List Value) (kw:List (Str × Value)):a4 k (A.under (.builtin "type.__call__" ⟨.ref C::us,kw⟩)) :=
 ⟨r.hd,by have:=r.dp;rw [j5];omega,by have:=r.un;rw [j6];omega,by rw [jf];exact r.gs⟩
theorem a4.depth {k:Nat} {A:Around} (r:a4 k A):A.depth<recursionLimit:=by have:=r.dp;omega
theorem a4.units {k:Nat} {A:Around} (r:a4 k A):A.units+64<cLine:=by have:=r.un;omega
def wg:TA:=λ_ H Q=>Q [] H
def sf (ta:TE) (tr:TA):TA:=λσ H Q=>ta σ H λx H1=>tr σ H1 λxs H2=>Q (x::xs) H2
section
variable {X:Cx} {e:Expr} {es:List Expr} {te:TE} {t:TA} {pos:Pos}
theorem ah:PA X [] wg:=λ_ _ _ _ H Q I h=>Calls.spliced_nil ⟨[],H,I,.nil,h⟩
theorem aa (ha:PE X e te) (hr:PA X es t) (hs:starEach (e::es) X.env=(false,eval e X.env)::starEach es X.env:=by rfl):PA X (e::es) (sf te t):=by
 intro pos pins s σ H Q I h
 rw [hs]
 show wpAny _ _ (spliced ((false,eval e X.env)::backTo pos (starEach es X.env))) _ _ s
 refine Calls.spliced_cons (aN (ha pins s σ H _ I h) λu s1 ⟨x,H1,I1,r1,q1⟩=>?_)
 exact aN (hr pos pins s1 σ H1 _ I1 q1) λus s2 ⟨xs,H2,I2,r2,q2⟩=>⟨x::xs,H2,I2,.cons r1 r2,q2⟩
def wq (t:TA):TE:=λσ H Q=>t σ H λxs H1=>xs.length<=sizeLine/\∀ p,H1 p=none->Q (.ref p) (upd H1 p (.tup xs))
def we (t:TA):TE:=λσ H Q=>t σ H λxs H1=>xs.length<=sizeLine/\∀ p,H1 p=none->Q (.ref p) (upd H1 p (.lst xs))
theorem aR {x1} (h:PA X es t):PE X (.Tuple es x1 pos) (wq t):=by
 intro pins s σ H Q I hq
 refine wpAny_Tuple_spliced (aN (h pos pins s σ H _ I hq) λus s1 ⟨xs,H1,I1,r,z,q⟩=>⟨by rw [<- r.length];exact z,?_⟩)
 have hf:H1 s1.heap.objs.size=none:=I1.hok.fresh (Nat.le_refl _)
 refine⟨.ref s1.heap.objs.size,upd H1 s1.heap.objs.size (.tup xs),I1.laid (t':=s1.toks) (λb u e=>Heap.get?_push_of_some _ e) (Nat.le_refl _) ?_,rfl,q _ hf⟩
 exact⟨z,us,r,⟨_,Heap.get?_push_size _ rfl,rfl,_,rfl⟩⟩
theorem bz (h:PA X es t):PE X (.List es pos) (we t):=by
 intro pins s σ H Q I hq
 refine wpAny_List_spliced (aN (h pos pins s σ H _ I hq) λus s1 ⟨xs,H1,I1,r,z,q⟩=>⟨by rw [<- r.length];exact z,?_⟩)
 have hf:H1 s1.heap.objs.size=none:=I1.hok.fresh (Nat.le_refl _)
 refine⟨.ref s1.heap.objs.size,upd H1 s1.heap.objs.size (.lst xs),I1.laid (t':=s1.toks) (λb u e=>Heap.get?_push_of_some _ e) (Nat.le_refl _) ?_,rfl,q _ hf⟩
 exact⟨z,us,0,r,Heap.get?_push_size _ rfl⟩
end
abbrev Sp:=List V->Hp->VK->XK->Prop
abbrev fN:=List Env->Hp->Shared->XK->Value->Shared->Prop
structure jO (P:Program) (w:World) (K:PySem.W.Frag) (mg:Str->Option Value) (base:Heap) (A:Around) (outer:List Env) (s:Shared) (H:Hp):Prop where
 frames:A.frames=some outer
 mod:Mod K mg base
 bs:∀ b o,base.get? b=some o->s.heap.get? b=some o/\H b=none
 bsz:base.objs.size<=s.heap.objs.size
 eP:s.heap.FunFrames base outer
 frf:∀ b∈cV outer,H b=none
 hok:cm P w H s.heap
 bare:AllBare s.gens
def CE (outer:List Env) (P:Program) (w:World) (H:Hp) (s:Shared) (Q:VK) (u:Value) (s':Shared):Prop :=
 ∃ v H',s'.os=s.os/\AllBare s'.gens/\Un (cV outer) [] H H' s.heap s'.heap/\cm P w H' s'.heap/\RelV v u/\Q v H'
def CR (CX:fN) (outer:List Env) (P:Program) (w:World) (H:Hp) (s:Shared) (Q:VK) (E:XK) (r:Result) (s':Shared):Prop :=
 match r with
 | .ok (.ret u)=>CE outer P w H s Q u s'
 | .ok _=>False
 | .error e=>CX outer H s E e s'
structure bB (P:Program) (w:World) (K:PySem.W.Frag) (mg:Str->Option Value) (base:Heap) (CX:fN) (k:Nat) (f:Addr) (fd:FuncData) (ps:List Str) (sp:Sp):Prop where
 len:∀ vs H Q E,sp vs H Q E->vs.length=ps.length
 run:∀(A:Around) (outer:List Env) (s:Shared) (H:Hp) (args:Args) (us:List Value) (vs:List V) (Q:VK) (E:XK),a4 k A->jO P w K mg base A outer s H->BindsTo s fd args (ps.zip us)->Vals vs us->sp vs H Q E ->
  codeAny (model P w) A (.call (.ref f) args) (CR CX outer P w H s Q E) s
theorem bB.mono {P:Program} {w:World} {K:PySem.W.Frag} {mg:Str->Option Value} {base:Heap} {CX:fN} {j k:Nat} {f:Addr} {fd:FuncData} {ps:List Str} {sp:Sp} (F:bB P w K mg base CX j f fd ps sp) (h:j<=k) :
  bB P w K mg base CX k f fd ps sp:=⟨F.len,λA outer s H args us vs Q E hr=>F.run A outer s H args us vs Q E (hr.mono h)⟩
theorem bB.imp {P:Program} {w:World} {K:PySem.W.Frag} {mg:Str->Option Value} {base:Heap} {CX:fN} {k:Nat} {f:Addr} {fd:FuncData} {ps:List Str} {sp sp':Sp} (F:bB P w K mg base CX k f fd ps sp)
  (h:∀ vs H Q E,sp' vs H Q E->sp vs H Q E):bB P w K mg base CX k f fd ps sp' :=
 ⟨λvs H Q E q=>F.len vs H Q E (h _ _ _ _ q),λA outer s H args us vs Q E hr he hb hv hs=>F.run A outer s H args us vs Q E hr he hb hv (h _ _ _ _ hs)⟩
theorem jO.make {P:Program} {w:World} {K:PySem.W.Frag} {mg:Str->Option Value} {base:Heap} {A:Around} {outer:List Env} {s:Shared} {H:Hp} (e:jO P w K mg base A outer s H) (C:Addr) (us:List Value) (kw:List (Str × Value)) :
  jO P w K mg base (A.under (.builtin "type.__call__" ⟨.ref C::us,kw⟩)) outer s H:=⟨by first | exact e.frames | (simpa [Around.under,Code.envs,Code.isFrame,pushEnvs] using e.frames),e.mod,e.bs,e.bsz,e.eP,e.frf,e.hok,e.bare⟩
section
variable {X:Cx} {pins:List (Addr × Obj)} {σ:St} {H:Hp} {s s':Shared}
theorem Inv.u7 (I:Inv X pins σ H s):jO X.prog X.w X.K X.mg X.base X.A X.stack s H :=
 ⟨I.ok.frames,I.ok.mod,I.bs,Nat.le_trans I.ok.bsz I.sz,I.stack,I.cS,I.hok,I.bare⟩
theorem Inv.after {Q:VK} {u:Value} (I:Inv X pins σ H s) (h:CE X.stack X.prog X.w H s Q u s'):EP X pins σ Q u s':=by
 obtain⟨v,H',os,bare,un,hok,r,q⟩:=h
 obtain⟨hh,g,d,t,os'⟩:=s'
 obtain rfl:os'=s.os:=os
 exact⟨v,H',I.call (h':=hh) (g':=g) (d':=d) (t':=t) (ch:=[]) un hok bare (λb z=>absurd z (by simp)),r,q⟩
end
def lq (sp:Sp) (aU:List V) (E:XK) (t:TA):TE:=λσ H Q=>t σ H λvs H1=>sp (vs++aU) H1 Q E
def Binds (K:PySem.W.Frag) (fd:FuncData) (ps:List Str) (ds:List Value):Prop :=
 ∀(s:Shared) (us:List Value),K.In s.heap->(us++ds).length=ps.length->BindsTo s fd ⟨us,[]⟩ (ps.zip (us++ds))
theorem Binds.all {K:PySem.W.Frag} {fd:FuncData} {ps:List Str} (h:∀ us:List Value,us.length=ps.length->bindArgs fd ⟨us,[]⟩=pure (ps.zip us)):Binds K fd ps []:=λs us _ hl=>by
 rw [List.append_nil] at hl ⊢
 exact .of_eq (h us hl)
def Passes (CX:fN) (X:Cx) (E:XK):Prop:=∀(pins:List (Addr × Obj)) (σ:St) (H:Hp) (s:Shared) (e:Value) (s':Shared),Inv X pins σ H s->CX X.stack H s E e s'->X.xe e s'
section
variable {X:Cx} {CX:fN} {k:Nat} {f C:Addr} {fd:FuncData} {ps:List Str} {sp:Sp} {aU:List V} {ds:List Value} {E:XK} {x m:Str} {p pos apos:Pos} {e o:Expr} {es:List Expr} {ta:TE} {t:TA}
theorem um {pins:List (Addr × Obj)} {σ:St} {H:Hp} {s:Shared} {Q:VK} {us:List Value} {vs:List V} (F:bB X.prog X.w X.K X.mg X.base CX k f fd ps sp) (hr:a4 k X.A) (hb:Binds X.K fd ps ds) (hd:Vals aU ds) (hx:Passes CX X E)
  (I:Inv X pins σ H s) (r:Vals vs us) (h:sp (vs++aU) H Q E):wpAny (model X.prog X.w) X.A (call (.ref f) us) (EP X pins σ Q) X.xe s:=by
 have r2:Vals (vs++aU) (us++ds):=r.append hd
 have hl:(us++ds).length=ps.length:=by rw [<- r2.length];exact F.len _ _ _ _ h
 refine wpAny_call (codeAny_mono (F.run X.A X.stack s H ⟨us,[]⟩ (us++ds) (vs++aU) Q E hr I.u7 (hb s us I.eE hl) r2 h) λr s' hq=>?_)
 cases r with
 | error e=>exact hx pins σ H s e s' I hq
 | ok fl =>
  cases fl with
  | ret u=>exact I.after hq
  | next=>exact False.elim hq
  | brk=>exact False.elim hq
  | cont=>exact False.elim hq
theorem qD (F:bB X.prog X.w X.K X.mg X.base CX k f fd ps sp) (hr:a4 k X.A) (hg:Gl X x) (hm:X.mg x=some (.ref f)) (hk:PySem.W.keepIn X.K (.ref f)=true) (hb:Binds X.K fd ps ds) (hd:Vals aU ds) (hx:Passes CX X E)
  (ha:PA X (e::es) t) (hdb:(x==("__debug__":Str))=false:=by decide) (he:starEach (e::es) X.env=(false,eval e X.env)::starEach es X.env:=by rfl) (hpl:(backTo pos (starEach es X.env)).any (·.1)=false:=by rfl) :
  PE X (.Call (.Name x p) (e::es) [] pos) (lq sp aU E t):=by
 intro pins s σ H Q I h
 refine wpAny_Call_Name_kw (ik I hg hm ?_ hdb)
 refine PySem.W.callWith_K (h₀:=X.base) I.ok.mod.kin hk (aN (ha pos pins s σ H _ I h) λus s1 ⟨vs,H1,I1,r,q⟩=>⟨I1.eE,?_⟩) he hpl
 exact um F hr hb hd hx I1 r q
end
section
variable {X:Cx} {CX:fN} {k:Nat} {f C:Addr} {fd:FuncData} {ps ks:List Str} {sp:Sp} {E:XK} {x m:Str} {p pos apos kpos:Pos} {e o:Expr} {es:List Expr} {kws:List Keyword} {te ta:TE} {t tk:TA} {nm:Option Str}
variable {g:List Value->List Value->List Value} {gV:List V->List V->List V}
end
structure ar (N P:List Str) (sc:Scope):Prop where
 kind:sc.kind=.function
 co:sc.isCoroutine=false
 gen:sc.isGenerator=false
 nd:N.Nodup
 pre:N.take P.length=P
 par:∀ x∈P,sc.names.lookup x=some .local∨sc.names.lookup x=some .cell
 nofree:∀ y∈sc.names,y.2≠.free
theorem gd {kindOf:Str->Option NameKind} {x:Str}:∀{binds:List (Str × Value)} {m:Str->Option Value},(∀ v,(x,v)∉binds)->bindL kindOf binds m x=m x
 | [],_,_=>rfl
 | (n,v)::r,m,h=>by
  unfold bindL
  rw [gd λw hw=>h w (List.mem_cons_of_mem _ hw)]
  split
  ·have:x≠n:=by rintro rfl;exact h v List.mem_cons_self
   simp [this]
  ·rfl
theorem fZ {kindOf:Str->Option NameKind} {x:Str}:∀{binds:List (Str × Value)} {m:Str->Option Value},(∀ v,(x,v)∉binds)->bindC kindOf binds m x=m x
 | [],_,_=>rfl
 | (n,v)::r,m,h=>by
  unfold bindC
  rw [fZ λw hw=>h w (List.mem_cons_of_mem _ hw)]
  split
  ·rfl
  ·have:x≠n:=by rintro rfl;exact h v List.mem_cons_self
   simp [this]
theorem gc {kindOf:Str->Option NameKind} {x:Str} {v:Value}:∀{P:List Str} {vs:List Value} {i:Nat} {m:Str->Option Value},P.Nodup->P[i]?=some x->vs[i]?=some v->kindOf x=some .local ->
  bindL kindOf (P.zip vs) m x=some v
 | [],_,_,_,_,h,_,_=>by simp at h
 | _::_,[],_,_,_,_,h,_=>by simp at h
 | p::P,w::vs,0,m,nd,h1,h2,hk=>by
  simp at h1 h2;subst h1;subst h2
  show bindL kindOf ((p,w)::P.zip vs) m p=_
  unfold bindL
  rw [gd λv hv=>(List.nodup_cons.mp nd).1 (List.of_mem_zip hv).1,if_pos hk]
  simp
 | p::P,w::vs,i+1,m,nd,h1,h2,hk=>by
  show bindL kindOf ((p,w)::P.zip vs) m x=_
  unfold bindL
  exact gc (i:=i) (List.nodup_cons.mp nd).2 (by simpa using h1) (by simpa using h2) hk
theorem fY {kindOf:Str->Option NameKind} {x:Str} {v:Value}:∀{P:List Str} {vs:List Value} {i:Nat} {m:Str->Option Value},P.Nodup->P[i]?=some x->vs[i]?=some v->kindOf x≠some .local ->
  bindC kindOf (P.zip vs) m x=some v
 | [],_,_,_,_,h,_,_=>by simp at h
 | _::_,[],_,_,_,_,h,_=>by simp at h
 | p::P,w::vs,0,m,nd,h1,h2,hk=>by
  simp at h1 h2;subst h1;subst h2
  show bindC kindOf ((p,w)::P.zip vs) m p=_
  unfold bindC
  rw [fZ λv hv=>(List.nodup_cons.mp nd).1 (List.of_mem_zip hv).1,if_neg hk]
  simp
 | p::P,w::vs,i+1,m,nd,h1,h2,hk=>by
  show bindC kindOf ((p,w)::P.zip vs) m x=_
  unfold bindC
  exact fY (i:=i) (List.nodup_cons.mp nd).2 (by simpa using h1) (by simpa using h2) hk
def start (N:List Str) (vs:List V):St:=vs.map some++List.replicate (N.length-vs.length) none
def bZ (CX:fN) (P:Program) (w:World) (K:PySem.W.Frag) (mg:Str->Option Value) (base:Heap) (N:List Str) (qual:Str) (scope:Scope) (f:Addr) (cd:Value) (A:Around) (outer:List Env) (s:Shared) (H:Hp) (E:XK):Cx where
 prog:=P
 w:=w
 K:=K
 mg:=mg
 base:=base
 A:=A.deeper (envOfC qual scope s.heap.objs.size f cd)
 N:=N
 s₀:=s
 H₀:=H
 env:=envOfC qual scope s.heap.objs.size f cd
 outer:=outer
 stack:=envOfC qual scope s.heap.objs.size f cd::outer
 ex:=[]
 calm:=true
 fn:=λ_=>true
 pn:=[]
 xe:=λe s'=>wpAny (model P w) (A.deeper (envOfC qual scope s.heap.objs.size f cd)) (leaving (envOfC qual scope s.heap.objs.size f cd) e) (λ_ s''=>CX outer H s E e s'') (λe' s''=>CX outer H s E e' s'') s'
theorem iY {sc:Scope} {n:Nat} {x:Str} (h:sc.names.lookup x=some .cell):∃ c,(cellsFrom n sc.names []).lookup x=some c:=by
 have q:=PySem.W.cellsFrom_some sc.names n [] (.inl h)
 exact Option.isSome_iff_exists.mp q
theorem lO {CX:fN} {P:Program} {w:World} {K:PySem.W.Frag} {mg:Str->Option Value} {base:Heap} {N ps:List Str} {qual:Str} {scope:Scope} {f:Addr} {cd:Value} {A:Around} {outer:List Env} {s s1:Shared} {H:Hp} {E:XK} {us:List Value} {vs:List V}
  (S:ar N ps scope) (hd:A.handled=none) (e0:jO P w K mg base A outer s H) (hl:vs.length=ps.length) (r:Vals vs us)
  (x:InCallC s s.heap.objs.size (bindL (envOfC qual scope s.heap.objs.size f cd).kindOf (ps.zip us) λ_=>none) (cellsFrom (s.heap.objs.size+1) scope.names []) (bindC (envOfC qual scope s.heap.objs.size f cd).kindOf (ps.zip us) λ_=>none) s1) :
  Inv (bZ CX P w K mg base N qual scope f cd A outer s H E) [] (start N vs) H s1:=by
 have hpl:ps.length<=N.length:=by have:=congrArg List.length S.pre;rw [List.length_take] at this;omega
 obtain⟨h1,tk,rfl,hk⟩:=x.done
 have noA:∀ b:Addr,b∉(bZ CX P w K mg base N qual scope f cd A outer s H E).ex:=λb z=>absurd (show b∈([]:List Addr) from z) (by simp)
 refine⟨⟨e0.mod,S.kind,rfl,rfl,Nat.le_refl _,λy z c h1 h2=>?_,λy hy=>?_,λy c _ h=>?_,λ_=>hd,Around.frames_deeper e0.frames,.inr ⟨rfl,rfl⟩,λb z=>absurd z (noA b),e0.bs,e0.bsz,λb _ _=>noA b,λb z=>absurd z (noA b),e0.eP,e0.frf⟩,
  rfl,e0.bare,Un.kept hk,⟨_,x.toInCall.ns,λi y v h1 h2 h3=>?_⟩,λy c h=>⟨_,x.cell y c h⟩,e0.hok.fresh (Nat.le_refl _),λy c h=>?_,λp hp=>absurd (show p∈([]:List (Addr × Obj)) from hp) (by simp),e0.hok.kept hk,?_⟩
 ·exact name_of_addr x.apart (PySem.mem_of_lookup h1) (PySem.mem_of_lookup h2)
 ·have hy:scope.names.lookup y=some .cell∨scope.names.lookup y=some .free:=hy
  rcases hy with hy | hy
  ·exact iY hy
  ·exact absurd rfl (S.nofree _ (PySem.mem_of_lookup hy))
 ·exact Nat.le_of_lt (x.above y c (PySem.mem_of_lookup h))
 ·have hi:i<vs.length:=by
   unfold start at h2
   by_cases hi:i<vs.length
   ·exact hi
   ·rw [List.getElem?_append_right (by simpa using hi)] at h2
    rw [List.getElem?_replicate] at h2
    split at h2<;>cases h2
  have ha:vs[i]?=some v:=by
   unfold start at h2
   rw [List.getElem?_append_left (by simpa using hi),List.getElem?_map] at h2
   cases e:vs[i]? with
   | none=>rw [e] at h2;cases h2
   | some a=>rw [e] at h2;cases h2;rfl
  obtain⟨u,hu,rv⟩:=r.get ha
  have hp:ps[i]?=some y:=by
   rw [<- S.pre,List.getElem?_take_of_lt (by omega)];exact h1
  have ndP:ps.Nodup:=by rw [<- S.pre];exact S.nd.sublist (List.take_sublist _ _)
  refine⟨u,rv,?_⟩
  rcases S.par y (List.mem_of_getElem? hp) with k | k
  ·exact .inl ⟨k,gc ndP hp hu k⟩
  ·obtain⟨c,e⟩:=iY (n:=s.heap.objs.size+1) k
   refine .inr ⟨.inl k,c,e,?_⟩
   have q:=x.cell y c e
   rw [fY ndP hp hu (by show scope.names.lookup y≠_;rw [k];decide)] at q
   exact q
 ·exact e0.hok.fresh (Nat.le_of_lt (x.above y c (PySem.mem_of_lookup h)))
 ·unfold start
  show _=N.length
  rw [List.length_append,List.length_map,List.length_replicate]
  omega
theorem rD {CX:fN} {P:Program} {w:World} {K:PySem.W.Frag} {mg:Str->Option Value} {base:Heap} {k:Nat} {f:Addr} {name qual:Str} {params:Arguments} {body:List Stmt} {scope:Scope} {dV kV doc pm cdv ct oc:Value} {an od:Option Addr}
  {osl:Array (Option Value)} {N ps:List Str} {sp:Sp} (lk:K.lookup f=some ⟨oc,od,.func (PySem.W.fnOf name qual params body scope dV kV doc pm an cdv ct),osl⟩) (hcd:PySem.W.codeIn K cdv qual=true) (S:ar N ps scope)
  (len:∀ vs H Q E,sp vs H Q E->vs.length=ps.length)
  (hbody:∀(A:Around) (outer:List Env) (s:Shared) (H:Hp) (vs:List V) (Q:VK) (E:XK),a4 k (A.deeper (envOfC qual scope s.heap.objs.size f cdv))->sp vs H Q E ->
   ∃ t,eY (bZ CX P w K mg base N qual scope f cdv A outer s H E) body t/\t { nx:=λ_ H'=>Q .non H',rt:=Q } (start N vs) H) :
  bB P w K mg base CX (k+1) f (PySem.W.fnOf name qual params body scope dV kV doc pm an cdv ct) ps sp:=by
 refine⟨len,λA outer s H args us vs Q E hr e0 hb r hsp=>?_⟩
 have hl:=len _ _ _ _ hsp
 have KX:K.In s.heap:=e0.mod.kin.keeps λb o e=>(e0.bs b o e).1
 have lim:s.heap.NoLimit:=e0.mod.nolimit.keeps λb o e=>(e0.bs b o e).1
 have hkind:∀ y∈ps.zip us,scope.names.lookup y.1=some .local∨(scope.names.lookup y.1=some .cell/\((cellsFrom (s.heap.objs.size+1) scope.names []).lookup y.1).isSome=true):=fun⟨n,v⟩ hy=>by
  rcases S.par n (List.of_mem_zip hy).1 with q | q
  ·exact .inl q
  ·exact .inr ⟨q,PySem.W.cellsFrom_some _ _ _ (.inl q)⟩
 refine codeAny_call_function hr.depth (KX _ _ lk) rfl S.co S.gen rfl (PySem.W.codeRec_of KX hcd) (hb _ _ _ _ ?_)
 refine wpAny_newFunctionEnv_cells S.kind hkind λenv he s1 x=>?_
 subst he
 refine⟨lim.keeps x.toInCall.keep,codeAny_func ?_⟩
 obtain⟨t,ht,hq⟩:=hbody A outer s H vs Q E (hr.deeper _) hsp
 have I:Inv (bZ CX P w K mg base N qual scope f cdv A outer s H E) [] (start N vs) H s1:=lO S hr.hd e0 hl r x
 refine wpAny_mono (ht [] s1 (start N vs) H _ I hq) (λfl s' hs=>?_) λe s' hs=>hs
 have fin:∀{σ':St} {H':Hp} {v:V} {u:Value},Inv (bZ CX P w K mg base N qual scope f cdv A outer s H E) [] σ' H' s'->RelV v u->Q v H'->CE outer P w H s Q u s' :=
  λ{σ' H' v u} J rv q=>⟨v,H',J.os,J.bare,J.base,J.hok,rv,q⟩
 cases fl with
 | ret u =>
  obtain⟨v,σ',H',J,rv,q⟩:=hs
  exact fin J rv q
 | next =>
  obtain⟨σ',H',J,q⟩:=hs
  exact fin (v:=V.non) (u:=Value.none) J rfl q
 | brk =>
  obtain⟨_,_,_,q⟩:=hs
  exact False.elim q
 | cont =>
  obtain⟨_,_,_,q⟩:=hs
  exact False.elim q
section
variable {X:Cx} {x:Str} {p pos:Pos} {e:Expr} {es:List Expr} {t:TA} {id T:String} {r:List V->Hp->VK->Prop}
def xC (r:List V->Hp->VK->Prop) (t:TA):TE:=λσ H Q=>t σ H λvs H1=>r vs H1 Q
theorem aC (hc:cq X (.builtin id) r) (hg:Gl X x) (hm:X.mg x=none) (hv:bootBuiltins x=some (.builtin id)) (ha:PA X (e::es) t) (hn:x ≠ "__name__":=by decide) (hdb:(x==("__debug__":Str))=false:=by decide)
  (he:starEach (e::es) X.env=(false,eval e X.env)::starEach es X.env:=by rfl) (hpl:(backTo pos (starEach es X.env)).any (·.1)=false:=by rfl):PE X (.Call (.Name x p) (e::es) [] pos) (xC r t):=by
 intro pins s σ H Q I h
 refine wpAny_Call_Name_kw (fo I hg hm hv ?_ hn hdb)
 exact PyProof.Rows.callWith_builtin1 (aN (ha pos pins s σ H _ I h) λus s1 ⟨vs,H1,I1,r1,q1⟩=>hc pins s1 σ H1 vs us Q I1 r1 q1) he hpl
theorem gB (hc:cq X (.type T) r) (hg:Gl X x) (hm:X.mg x=none) (hv:bootBuiltins x=some (.type T)) (ha:PA X (e::es) t) (hn:x ≠ "__name__":=by decide) (hdb:(x==("__debug__":Str))=false:=by decide)
  (he:starEach (e::es) X.env=(false,eval e X.env)::starEach es X.env:=by rfl) (hpl:(backTo pos (starEach es X.env)).any (·.1)=false:=by rfl):PE X (.Call (.Name x p) (e::es) [] pos) (xC r t):=by
 intro pins s σ H Q I h
 refine wpAny_Call_Name_kw (fo I hg hm hv ?_ hn hdb)
 exact PyProof.Rows.callWith_type1 (aN (ha pos pins s σ H _ I h) λus s1 ⟨vs,H1,I1,r1,q1⟩=>hc pins s1 σ H1 vs us Q I1 r1 q1) he hpl
end
end L2
namespace HT
open PySem PyProof.Rows
section
open PySem.SeqAt
open PySem.AutoSeq1 (wpAny_loadPart')
open PySem.MeetsSeq PySem.MeetsSeq2 PySem.MeetsSeq3
end
section
variable {prog:Program} {w:World} {A:Around} {E:Value->Shared->Prop} {s:Shared}
def ko (n d:Nat):Option Int->Nat
 | none=>d
 | some v=>if v<0 then (v+(n:Int)).toNat else min v.toNat n
end
end HT
namespace L2
open PySem PySem.Spec PyProof.Rows
abbrev TO:=St->Hp->(Option Int->Hp->Prop)->Prop
def PO (X:Cx) (e:Option Expr) (t:TO):Prop :=
 ∀(pins:List (Addr × Obj)) (s:Shared) (σ:St) (H:Hp) (Q:Option Int->Hp->Prop),Inv X pins σ H s->t σ H Q ->
  wpAny (model X.prog X.w) X.A (evalPart e X.env) (λu s'=>∃ o H',Inv X pins σ H' s'/\IsPart u o/\Q o H') X.xe s
def qX:TO:=λ_ H Q=>Q none H
def sA (t:TE):TO:=λσ H Q=>t σ H λx H1=>∃ i,x=.int i/\Q (some i) H1
section
variable {X:Cx} {e:Expr} {te:TE} {lo hi:Option Expr} {tl th:TO} {pos p2:Pos}
theorem kT (h:PE X e te):PO X (some e) (sA te):=by
 intro pins s σ H Q I hw
 rw [evalPart_some]
 refine aN (h pins s σ H _ I hw) λu s1 ⟨x,H1,I1,r1,q1⟩=>?_
 obtain⟨i,rfl,q⟩:=q1
 obtain⟨t,rfl⟩:=r1
 exact⟨some i,H1,I1,.int i t,q⟩
def xN (X:Cx) (r:V->Option Int->Option Int->Hp->VK->Prop):Prop :=
 ∀(pins:List (Addr × Obj)) (s:Shared) (σ:St) (H:Hp) (x:V) (v vl vu:Value) (lo hi:Option Int) (sl:Addr) (Q:VK),Inv X pins σ H s->RelV x v->s.heap.IsSliceOf sl vl vu .none->IsPart vl lo->IsPart vu hi->r x lo hi H Q ->
  ∃ T id,typeLookup (.type T) "__getitem__"=pure (some (.builtin id))/\s.TypeIs v T/\wpAny (model X.prog X.w) X.A (getItem v (.ref sl)) (EP X pins σ Q) X.xe s
def xY (r:V->Option Int->Option Int->Hp->VK->Prop) (te:TE) (tl th:TO):TE:=λσ H Q=>te σ H λx H1=>tl σ H1 λl H2=>th σ H2 λu H3=>r x l u H3 Q
theorem oq {r:V->Option Int->Option Int->Hp->VK->Prop} (hr:xN X r) (he:PE X e te) (hl:PO X lo tl) (hu:PO X hi th):PE X (.Subscript e (.Slice lo hi none p2) pos) (xY r te tl th):=by
 intro pins s σ H Q I h
 refine Subscript_ (aN (he pins s σ H _ I h) λv s1 ⟨x,H1,I1,r1,q1⟩=>?_)
 refine wpAny_Slice (aN (hl pins s1 σ H1 _ I1 q1) λvl s2 ⟨l,H2,I2,pl,q2⟩=>aN (hu pins s2 σ H2 _ I2 q2) λvu s3 ⟨u,H3,I3,pu,q3⟩=>?_)
 rw [evalPart_none]
 refine wpAny_pure ?_
 have I4:Inv X pins σ H3 { s3 with heap:=s3.heap.push { cls:=.type "slice",data:=.fields #[vl,vu,.none] } }:=I3.kept (t':=s3.toks) λb ob q=>Heap.get?_push_of_some _ q
 obtain⟨T,id,hT,ht,hg⟩:=hr pins { s3 with heap:=s3.heap.push { cls:=.type "slice",data:=.fields #[vl,vu,.none] } } σ H3 x v vl vu l u s3.heap.objs.size Q I4 r1 (Heap.IsSliceOf.new ..) pl pu q3
 show wpAny (model X.prog X.w) X.A (subscriptTail e (.Slice lo hi none p2) v (.ref s3.heap.objs.size)) (EP X pins σ Q) X.xe { s3 with heap:=s3.heap.push { cls:=.type "slice",data:=.fields #[vl,vu,.none] } }
 exact tail_any (ops:=[.ref s3.heap.objs.size,v]) ht hT hg (by with_unfolding_all rfl)
def dH (xs:List V) (lo hi:Option Int):List V:=(xs.drop (HT.ko xs.length 0 lo)).take (HT.ko xs.length xs.length hi-HT.ko xs.length 0 lo)
theorem i0 (xs:List V) (lo hi:Option Int):(dH xs lo hi).length<=xs.length:=by
 unfold dH
 rw [List.length_take,List.length_drop]
 omega
end
def rK (n:Nat) (i:Int):Option Nat:=if 0<=i then (if i<n then some i.toNat else none) else if -(n:Int)<=i then some (i+n).toNat else none
def lC {α:Type} (xs:List α) (i:Int):Option α:=(rK xs.length i).bind λj=>xs[j]?
theorem qc {n:Nat} {i:Int} {j:Nat} (h:rK n i=some j):seqIndex? i n=some j/\j<n /\ -(n:Int)<=i/\i<n:=by
 unfold rK at h
 by_cases h0:0<=i
 ·rw [if_pos h0] at h
  by_cases h1:i<n
  ·rw [if_pos h1] at h
   have e:i.toNat=j:=Option.some.inj h
   exact⟨by rw [seqIndex_of h0 h1,e],by omega,by omega,h1⟩
  ·rw [if_neg h1] at h;cases h
 ·rw [if_neg h0] at h
  by_cases h1:-(n:Int)<=i
  ·rw [if_pos h1] at h
   have e:(i+n).toNat=j:=Option.some.inj h
   exact⟨by rw [seqIndex_neg (by omega) h1,e],by omega,h1,by omega⟩
  ·rw [if_neg h1] at h;cases h
theorem kA {α:Type} {xs:List α} {i:Int} {v:α} (h:lC xs i=some v):∃ j,seqIndex? i xs.length=some j/\xs[j]?=some v/\j<xs.length /\ -(xs.length:Int)<=i/\i<xs.length:=by
 unfold lC at h
 cases e:rK xs.length i with
 | none=>rw [e] at h;cases h
 | some j =>
  rw [e] at h
  obtain⟨h1,h2,h3,h4⟩:=qc e
  exact⟨j,h1,h,h2,h3,h4⟩
theorem pQ {α:Type} {xs:List α} {j:Nat} {v:α} (h:xs[j]?=some v):lC xs (j:Int)=some v:=by
 have hj:j<xs.length:=(List.getElem?_eq_some_iff.mp h).1
 have e:rK xs.length (j:Int)=some j:=by
  unfold rK
  rw [if_pos (by omega),if_pos (by omega)];simp
 unfold lC;rw [e];exact h
def pK (b:Expr):Prop:=∀ o i,subscripted b false o i=operate [o,i] (getItem o i)
def wu (X:Cx) (r:R2):Prop :=
 ∀(value slice:Expr) (pins:List (Addr × Obj)) (s:Shared) (σ:St) (H:Hp) (x y:V) (v u:Value) (Q:VK),Inv X pins σ H s->RelV x v->RelV y u->r x y H Q ->
  subscripted slice false v u=operate [v,u] (getItem v u)->wpAny (model X.prog X.w) X.A (subscriptTail value slice v u) (EP X pins σ Q) X.xe s
def wx (X:Cx) (id:String) (r:V->List V->Hp->VK->Prop):Prop :=
 ∀(pins:List (Addr × Obj)) (s:Shared) (σ:St) (H:Hp) (x:V) (xs:List V) (v:Value) (us:List Value) (Q:VK),Inv X pins σ H s->RelV x v->Vals xs us->r x xs H Q ->
  wpAny (model X.prog X.w) X.A (call (.builtin id) (v::us)) (EP X pins σ Q) X.xe s
section
variable {X:Cx} {a b:Expr} {ta tb:TE} {pos:Pos}
theorem b9 {r:R2} (hr:wu X r) (ha:PE X a ta) (hb:PE X b tb) (hs:pK b):PE X (.Subscript a b pos) (wk r ta tb):=by
 intro pins s σ H Q I h
 exact Subscript_ (sS ha hb I h λv u s2 x y H2 I2 rx ry q=>hr a b pins s2 σ H2 x y v u Q I2 rx ry q (hs _ _))
def uh (K:PySem.W.Frag):R2:=λx y H Q=>∃ p xs i v,x=.ref p/\y=.int i/\aT K H p xs/\lC xs i=some v/\Q v H
def ui (K:PySem.W.Frag):R2:=λx y H Q=>∃ p xs i v,x=.ref p/\y=.int i/\a9 K H p xs/\lC xs i=some v/\Q v H
theorem ia:wu X (uh X.K):=by
 intro value slice pins s σ H x y v u Q I rx ry h hs
 obtain⟨p,xs,i,z,rfl,rfl,hq,he,q⟩:=h
 cases rx
 obtain⟨t,rfl⟩:=ry
 obtain⟨its,r,pl,hz⟩:=I.list hq
 obtain⟨j,h1,h2,h3,h4,h5⟩:=kA he
 obtain⟨w,ew,rw'⟩:=r.get h2
 have hl:=r.length
 have hn:=iq
 have fin:EP X pins σ Q w s:=⟨z,H,I,rw',q⟩
 by_cases h0:0<=i
 ·have hj:i.toNat=j:=by
   rw [seqIndex_of h0 h5] at h1
   exact Option.some.inj h1
  exact item_listR pl.isList h0 (by omega) (by rw [hj];simpa using ew) fin hs
 ·have hj:(i+(its.toArray.size:Int)).toNat=j:=by
   rw [seqIndex_neg (by omega) h4] at h1
   rw [List.size_toArray,<- hl]
   exact Option.some.inj h1
  exact subscriptTail_builtinR (x:=w) pl.isList.typeIs slot_list_getitem.lookup
   (wpAny_getItem_list_neg (Q:=λr s'=>r=w/\EP X pins σ Q r s') pl.isList (by omega) (by rw [List.size_toArray]<;>omega) (by omega) (by rw [hj];simpa using ew) ⟨rfl,fin⟩) hs
theorem dz:wu X (ui X.K):=by
 intro value slice pins s σ H x y v u Q I rx ry h hs
 obtain⟨p,xs,i,z,rfl,rfl,hq,he,q⟩:=h
 cases rx
 obtain⟨t,rfl⟩:=ry
 obtain⟨its,r,pl,hz⟩:=I.tuple hq
 obtain⟨j,h1,h2,h3,h4,h5⟩:=kA he
 obtain⟨w,ew,rw'⟩:=r.get h2
 have hl:=r.length
 have hn:=iq
 have fin:EP X pins σ Q w s:=⟨z,H,I,rw',q⟩
 exact subscriptTail_builtinR (x:=w) pl.typeIs slot_tuple_getitem.lookup
  (getItem_tuple (j:=j) (Q:=λr s'=>r=w/\EP X pins σ Q r s') pl (by omega) (by omega) (by rw [List.size_toArray,<- hl];exact h1) (by simpa using ew) ⟨rfl,fin⟩) hs
theorem Inv.lst {pins:List (Addr × Obj)} {σ:St} {H:Hp} {s:Shared} {p:Addr} {xs:List V} (I:Inv X pins σ H s) (h:H p=some (.lst xs)) :
  ∃(its:List Value) (n:Nat),Vals xs its/\s.heap.get? p=some { cls:=.type "list",data:=.seq its.toArray n }/\xs.length<=sizeLine:=by
 obtain⟨z,its,n,r,e⟩:=I.hok p _ h
 exact⟨its,n,r,e,z⟩
theorem iL (lo hi:Option Int) (n:Nat):(sliceBounds lo hi none n).1=((HT.ko n 0 lo:Nat):Int)/\(sliceBounds lo hi none n).2.1=((HT.ko n n hi:Nat):Int)/\(sliceBounds lo hi none n).2.2=1:=by
 refine⟨?_,?_,rfl⟩
 ·cases lo with
  | none=>simp [sliceBounds,HT.ko]
  | some i =>
   simp only [sliceBounds,HT.ko,Option.getD_none,show (1:Int) > 0 by decide,if_true]
   by_cases h:i<0
   ·simp only [h,if_true]<;>omega
   ·simp only [h,if_false]<;>omega
 ·cases hi with
  | none=>simp [sliceBounds,HT.ko]
  | some i =>
   simp only [sliceBounds,HT.ko,Option.getD_none,show (1:Int) > 0 by decide,if_true]
   by_cases h:i<0
   ·simp only [h,if_true]<;>omega
   ·simp only [h,if_false]<;>omega
theorem fX (its:List Value) (lo hi:Option Int):slicePick its.toArray lo hi none=((its.drop (HT.ko its.length 0 lo)).take (HT.ko its.length its.length hi-HT.ko its.length 0 lo)).toArray:=by
 obtain⟨h1,h2,h3⟩:=iL lo hi its.toArray.size
 unfold slicePick
 rw [h1,h2,h3]
 simp only [sliceRange_one,pick_run,List.size_toArray]<;>rfl
def xk (K:PySem.W.Frag):V->Option Int->Option Int->Hp->VK->Prop:=λx lo hi H Q=>∃ a xs,x=.ref a/\aT K H a xs/\∀ p,H p=none->Q (.ref p) (upd H p (.lst (dH xs lo hi)))
theorem qS:xN X (xk X.K):=by
 intro pins s σ H x v vl vu lo hi sl Q I rx hs pl pu h
 obtain⟨a,xs,rfl,hx,q⟩:=h
 cases rx
 obtain⟨its,r,ht,hz⟩:=I.list hx
 have hlen:=r.length
 refine⟨"list",_,slot_list_getitem.lookup,ht.isList.typeIs,?_⟩
 refine wpAny_getItem_list_slice ht.isList hs pl pu .none (by simp) ?_ (by rw [List.size_toArray]<;>omega)
 rw [fX,<- hlen]
 refine⟨.ref s.heap.objs.size,_,I.laid (t':=s.toks) (o:=.lst (dH xs lo hi)) (λb ob q=>Heap.get?_push_of_some _ q) (Nat.le_refl _) ?_,rfl,q _ (I.hok.fresh (Nat.le_refl _))⟩
 exact⟨Nat.le_trans (i0 xs lo hi) hz,_,0,(r.drop (HT.ko xs.length 0 lo)).take (HT.ko xs.length xs.length hi-HT.ko xs.length 0 lo),Heap.get?_push_size _ rfl⟩
def rC:V->Bool
 | .non=>true
 | .bl _=>true
 | .int _=>true
 | .str _=>true
 | _=>false
def ye:V->V->Bool
 | .non,.non=>true
 | .bl a,.bl b=>a==b
 | .bl a,.int b=>(if a then 1 else 0)==b
 | .int a,.bl b=>a==(if b then 1 else 0)
 | .int a,.int b=>a==b
 | .str a,.str b=>a==b
 | _,_=>false
theorem gR:cq X (.builtin "len") (λxs H Q=>∃ p ys,xs=[.ref p]/\(aT X.K H p ys∨a9 X.K H p ys)/\Q (.int ys.length) H):=by
 intro pins s σ H xs us Q I r h
 obtain⟨p,ys,rfl,hq,q⟩:=h
 obtain⟨u,rfl,rx⟩:=vals1 r
 cases rx
 have hn:=iq
 rcases hq with hq | hq
 ·obtain⟨its,r',pl,hz⟩:=I.list hq
  have hlen:=r'.length
  exact Calls.call_len_list pl.isList (by simp only [List.size_toArray]<;>omega) ⟨.int ys.length,H,I.tok _,⟨s.toks+1,by rw [List.size_toArray,hlen]⟩,q⟩
 ·obtain⟨its,r',pl,hz⟩:=I.tuple hq
  have hlen:=r'.length
  exact len_tuple pl (by simp only [List.size_toArray]<;>omega) ⟨.int ys.length,H,I.tok _,⟨s.toks+1,by rw [List.size_toArray,hlen]⟩,q⟩
theorem cZ:cq X (.type "tuple") (λxs H Q=>∃ p ys,xs=[.ref p]/\((aT X.K H p ys/\∀ l,H l=none->Q (.ref l) (upd H l (.tup ys)))∨(a9 X.K H p ys/\Q (.ref p) H))):=by
 intro pins s σ H xs us Q I r h
 obtain⟨p,ys,rfl,h⟩:=h
 obtain⟨u,rfl,rx⟩:=vals1 r
 cases rx
 rcases h with⟨hq,q⟩|⟨hq,q⟩
 ·obtain⟨its,r',pl,hz⟩:=I.list hq
  have hlen:=r'.length
  refine call_tuple_list pl.isList (λh' kp=>?_) (by simp only [List.size_toArray]<;>omega)
  have I1:Inv X pins σ H { s with heap:=h' }:=I.kept (t':=s.toks) kp
  have I2:Inv X pins σ (upd H h'.objs.size (.tup ys)) { s with heap:=h'.push { cls:=.type "tuple",data:=.seq its.toArray } } :=
   I1.laid (t':=s.toks) (λb o e=>Heap.get?_push_of_some _ e) (Nat.le_refl _) (show aG X.prog X.w _ _ _ (.tup ys) from ⟨hz,its,r',IsTup.new _ _⟩)
  exact⟨.ref h'.objs.size,_,I2,rfl,q _ (I1.hok.fresh (Nat.le_refl _))⟩
 ·obtain⟨its,r',pl,hz⟩:=I.tuple hq
  exact call_tuple_same pl ⟨.ref p,H,I,rfl,q⟩
def xK (K:PySem.W.Frag) (T:String) (x:V) (H:Hp):Prop:=match x with
 | .str _=>T = "str"
 | .int _=>T = "int"
 | .ref p=>(T = "list"/\∃ xs,aT K H p xs)∨(T = "tuple"/\∃ o,K.lookup p=some o/\o.cls=.type "tuple"/\o.dict=none) ∨
   (T = "dict"/\((∃ kvs,H p=some (.dK kvs))∨∃ kvs,H p=some (.dT kvs)))∨(T = "set"/\∃ S n,H p=some (.set S n))
 | _=>False
theorem pA {pins:List (Addr × Obj)} {σ:St} {H:Hp} {s:Shared} {T:String} {x:V} {v:Value} (I:Inv X pins σ H s) (r:RelV x v) (ty:xK X.K T x H) :
  s.TypeIs v T/\∀ a,v=.ref a->∃ ob,s.heap.get? a=some ob/\ob.dict=none:=by
 cases x with
 | str z =>
  obtain⟨t,rfl⟩:=r
  cases (show T = "str" from ty)
  exact⟨typeIs_str s z t,λ_ e=>nomatch e⟩
 | int i =>
  obtain⟨t,rfl⟩:=r
  cases (show T = "int" from ty)
  exact⟨typeIs_int s i t,λ_ e=>nomatch e⟩
 | ref p =>
  cases r
  rcases ty with⟨rfl,xs,hq⟩|⟨rfl,o,hk,hc,hd⟩|⟨rfl,hk⟩|⟨rfl,S,n,hk⟩
  ·obtain⟨its,_,pl,_⟩:=I.list hq
   refine⟨pl.isList.typeIs,λa e=>?_⟩
   cases e
   obtain⟨o,n,e,c,hd,_⟩:=pl
   exact⟨o,e,hd⟩
  ·refine⟨⟨o,I.eE p o hk,hc⟩,λa e=>?_⟩
   cases e
   exact⟨o,I.eE _ o hk,hd⟩
  ·have z:∃ o,s.heap.get? p=some o/\o.ExactDict:=by
    rcases hk with⟨kvs,hk⟩|⟨kvs,hk⟩
    ·obtain⟨_,_,_,_,o,_,_,e,ex,_⟩:=I.hok p _ hk
     exact⟨o,e,ex⟩
    ·obtain⟨_,_,_,_,o,_,_,e,ex,_⟩:=I.hok p _ hk
     exact⟨o,e,ex⟩
   obtain⟨o,e,ex⟩:=z
   refine⟨⟨o,e,ex.1⟩,λa e2=>?_⟩
   cases e2
   exact⟨o,e,ex.2.1⟩
  ·obtain⟨o,_,_,_,e,ex,_⟩:=I.hok p _ hk
   refine⟨⟨o,e,ex.1⟩,λa e2=>?_⟩
   cases e2
   exact⟨o,e,ex.2.1⟩
 | _=>exact False.elim ty
def v9 (K:PySem.W.Frag) (T:String) (r:V->List V->Hp->VK->Prop) (to:TE):TE:=λσ H Q=>to σ H λx H1=>xK K T x H1/\r x [] H1 Q
def xT (K:PySem.W.Frag) (T:String) (r:V->List V->Hp->VK->Prop) (to:TE) (t:TA):TE:=λσ H Q=>to σ H λx H1=>xK K T x H1/\t σ H1 λxs H2=>r x xs H2 Q
variable {o e:Expr} {es:List Expr} {to:TE} {t:TA} {name:Str} {apos cpos:Pos} {T id:String} {r:V->List V->Hp->VK->Prop}
theorem tZ (pa:PlainAttrs T) (slot:Slot T name id) (hty:typeOf (.builtin id)=pure (.type "method_descriptor")) (hm:wx X id r) (ho:PE X o to)
  (hbase:attributeBase o name X.env (eval o X.env)=eval o X.env:=by rfl) (hline:(apos.endLine==cpos.line)=true:=by rfl):PE X (.Call (.Attribute o name apos) [] [] cpos) (v9 X.K T r to):=by
 intro pins s σ H Q I h
 refine wpAny_Call_method0_late hbase hline (aN (ho pins s σ H _ I h) λv s1 ⟨x,H1,I1,r1,ty,q1⟩=>?_)
 obtain⟨h1,h2⟩:=pA I1 r1 ty
 exact⟨T,id,pa,slot,hty,h1,h2,Calls.callWith_builtin rfl (PySem.evalArgs_none (hm pins s1 σ H1 x [] v [] Q I1 r1 .nil q1))⟩
theorem om (pa:PlainAttrs T) (slot:Slot T name id) (hty:typeOf (.builtin id)=pure (.type "method_descriptor")) (hm:wx X id r) (ho:PE X o to) (ha:PA X (e::es) t)
  (hbase:attributeBase o name X.env (eval o X.env)=eval o X.env:=by rfl)
  (hfew:((backTo cpos (starEach (e::es) X.env)).all (λx=>!x.1) && (backToKw cpos (keywordEach [] X.env)).all (λx=>x.1.isSome)
   && decide ((e::es).length+([]:List Keyword).length+(if ([]:List Keyword).isEmpty then 0 else 1)<30))=true:=by rfl)
  (hline:(apos.endLine==cpos.line)=true:=by rfl) (hs:starEach (e::es) X.env=(false,eval e X.env)::starEach es X.env:=by rfl) (hplain:(backTo cpos (starEach es X.env)).any (·.1)=false:=by rfl) :
  PE X (.Call (.Attribute o name apos) (e::es) [] cpos) (xT X.K T r to t):=by
 intro pins s σ H Q I h
 refine wpAny_Call_method_late hbase hfew hline rfl (aN (ho pins s σ H _ I h) λv s1 ⟨x,H1,I1,r1,ty,q1⟩=>?_)
 obtain⟨h1,h2⟩:=pA I1 r1 ty
 refine⟨T,id,pa,slot,hty,h1,h2,?_⟩
 have hA:=ha cpos pins s1 σ H1 _ I1 q1
 rw [hs] at hA ⊢
 refine Calls.callWith_builtin (by show (false || (backTo cpos (starEach es X.env)).any (·.1))=false;rw [hplain]<;>rfl) (Calls.evalArgs_plain ?_)
 exact aN hA λus s2 ⟨vs,H2,I2,r2,q2⟩=>hm pins s2 σ H2 x vs v us Q I2 r1 r2 q2
/- xs.append(e),list.index on a module's tuple .. are wx facts of 06m -/
end
def yc (X:Cx) (id:String) (r:V->List V->Hp->VK->Prop):Prop :=
 ∀(pins:List (Addr × Obj)) (s:Shared) (σ:St) (H:Hp) (x:V) (xs:List V) (v:Value) (us:List Value) (Q:VK),Inv X pins σ H s->RelV x v->Vals xs us->r x xs H Q ->
  wpAny (model X.prog X.w) X.A (call (.builtin id) (v::us)) (EP X pins σ Q) X.xe s
theorem Vals.zero:∀{us:List Value},Vals [] us->us=[]
 | _,.nil=>rfl
theorem Vals.rm:∀{x:V} {xs:List V} {us:List Value},Vals (x::xs) us->∃ u vs,us=u::vs/\RelV x u/\Vals xs vs
 | _,_,_,.cons r t=>⟨_,_,rfl,r,t⟩
theorem Vals.one {x:V} {us:List Value} (h:Vals [x] us):∃ u,us=[u]/\RelV x u:=by
 obtain⟨u,vs,rfl,r,t⟩:=h.rm
 exact⟨u,congrArg (u::·) t.zero,r⟩
theorem Vals.two {x y:V} {us:List Value} (h:Vals [x,y] us):∃ u v,us=[u,v]/\RelV x u/\RelV y v:=by
 obtain⟨u,vs,rfl,r,t⟩:=h.rm
 obtain⟨v,rfl,q⟩:=t.one
 exact⟨u,v,rfl,r,q⟩
theorem Vals.reverse {xs:List V} {us:List Value} (h:Vals xs us):Vals xs.reverse us.reverse:=by
 induction h with
 | nil=>exact .nil
 | cons r t ih=>rw [List.reverse_cons,List.reverse_cons];exact Vals.append ih (.cons r .nil)
theorem Vals.rep {xs:List V} {us:List Value} (h:Vals xs us):∀ k:Nat,Vals (List.replicate k xs).flatten (List.replicate k us).flatten
 | 0=>.nil
 | k+1=>by
  rw [List.replicate_succ,List.replicate_succ,List.flatten_cons,List.flatten_cons]
  exact Vals.append h (Vals.rep h k)
theorem foldl_rep (its:List Value):∀(k:Nat) (acc:List Value),
  List.foldl (λx1 x2=>x1++x2) acc.toArray (List.replicate k its.toArray)=(acc++(List.replicate k its).flatten).toArray
 | 0,acc=>by simp
 | k+1,acc=>by
  have e:acc.toArray++its.toArray=(acc++its).toArray:=by simp
  have e2:(acc++its)++(List.replicate k its).flatten=acc++(List.replicate (k+1) its).flatten:=by
   rw [List.replicate_succ,List.flatten_cons,List.append_assoc]
  rw [<- e2,<- foldl_rep its k (acc++its),<- e,List.replicate_succ,List.foldl_cons]
section
variable {X:Cx} {pins:List (Addr × Obj)} {σ:St} {H:Hp} {s:Shared} {l b:Addr} {xs ys zs:List V}
theorem Inv.xb {its its':List Value} {n:Nat} {f:Array Value->Array Value} {t':Nat} (I:Inv X pins σ H s) (hH:H l=some (.lst xs))
  (e:s.heap.get? l=some { cls:=.type "list",data:=.seq its.toArray n }) (hf:f its.toArray=its'.toArray) (hv:Vals ys its') (hz:ys.length<=sizeLine) :
  Inv X pins σ (upd H l (.lst ys)) { s with heap:=s.heap.update l (Obj.mapSeq f),toks:=t' }:=by
 have q:=PySem.IsL.update e f
 rw [hf] at q
 refine I.write (x:=l) (e:=l) (by rw [hH];exact trivial) (.inl rfl) (λb' u hb hu=>(Heap.get?_update_other s.heap (Obj.mapSeq f) (Ne.symm hb)).trans hu) ⟨_,q⟩ ?_
 exact⟨hz,its',_,hv,q⟩
theorem Inv.vt {its:List Value} {t':Nat} (I:Inv X pins σ H s) (hv:Vals ys its) (hz:ys.length<=sizeLine) :
  Inv X pins σ (upd H s.heap.objs.size (.lst ys)) { s with heap:=s.heap.push { cls:=.type "list",data:=.seq its.toArray },toks:=t' } :=
 I.laid (λ_ _ q=>Heap.get?_push_of_some _ q) (Nat.le_refl _) ⟨hz,its,0,hv,Heap.get?_push_size _ rfl⟩
theorem Inv.fresh (I:Inv X pins σ H s):H s.heap.objs.size=none:=I.hok.fresh (Nat.le_refl _)
theorem Inv.qh (I:Inv X pins σ H s) (hH:H l=some (.lst xs)):xs.length<=sizeLine/\∃(its:List Value) (n:Nat),Vals xs its/\xs.length=its.length/\s.heap.get? l=some { cls:=.type "list",data:=.seq its.toArray n }:=by
 obtain⟨z,its,n,r,e⟩:=I.hok l _ hH
 exact⟨z,its,n,r,r.length,e⟩
theorem nP {n:Nat} (h:n<=sizeLine):Builtin.List.listTooLong n=false:=by
 unfold Builtin.List.listTooLong
 exact decide_eq_false (by omega)
end
section
variable {X:Cx}
def qH:V->List V->Hp->VK->Prop:=λx vs H Q=>∃ l xs y,x=.ref l/\vs=[y]/\H l=some (.lst xs)/\xs.length<sizeLine/\Q .non (upd H l (.lst (xs++[y])))
theorem eo:yc X "list.append" qH:=by
 intro pins s σ H x vs v us Q I rx rv h
 obtain⟨l,xs,y,rfl,rfl,hH,hz,q⟩:=h
 cases rx
 obtain⟨u,rfl,ru⟩:=rv.one
 obtain⟨z,its,n,r,hl,e⟩:=I.qh hH
 refine call_meets F.slot_list_append ⟨_,e,rfl⟩ F.entry_list_append (F.args_list_append_2 _ _) (PySem.list_append l its.toArray n u (by rw [List.size_toArray];omega)) ⟨e,?_⟩
 refine⟨.non,_,I.xb (its':=its++[u]) hH e (by simp) (r.append (.cons ru .nil)) ?_,rfl,q⟩
 rw [List.length_append,List.length_singleton]
 omega
def xh:R2:=λx y H Q=>∃ l b xs zs,x=.ref l/\y=.ref b/\H l=some (.lst xs)/\H b=some (.lst zs)/\xs.length+zs.length<=sizeLine/\∀ p,H p=none->Q (.ref p) (upd H p (.lst (xs++zs)))
theorem tQ:eS X (binaryOp .Add) xh:=by
 intro pins s σ H x y v u Q I rx ry h
 obtain⟨l,b,xs,zs,rfl,rfl,hH,hB,hz,q⟩:=h
 cases rx
 cases ry
 obtain⟨z,its,n,r,hl,e⟩:=I.qh hH
 obtain⟨z2,its2,n2,r2,hl2,e2⟩:=I.qh hB
 refine PySem.P.add_list e e2 ?_ (by rw [List.size_toArray,List.size_toArray];omega)
 have ea:its.toArray++its2.toArray=(its++its2).toArray:=by simp
 rw [ea]
 exact⟨.ref _,_,I.vt (t':=s.toks) (r.append r2) (by rw [List.length_append];omega),rfl,q _ I.fresh⟩
def xj:R2:=λx y H Q=>∃ l k xs,x=.ref l/\y=.int k/\H l=some (.lst xs) /\ -(2^63)<=k/\k<2^63/\xs.length*k.toNat<=sizeLine /\
 ∀ p,H p=none->Q (.ref p) (upd H p (.lst (List.replicate k.toNat xs).flatten))
theorem len_rep {α:Type} (xs:List α) (k:Nat):(List.replicate k xs).flatten.length=k*xs.length:=by
 induction k with
 | zero=>simp
 | succ k ih=>rw [List.replicate_succ,List.flatten_cons,List.length_append,ih,Nat.succ_mul,Nat.add_comm]
theorem oe:eS X (binaryOp .Mult) xj:=by
 intro pins s σ H x y v u Q I rx ry h
 obtain⟨l,k,xs,rfl,rfl,hH,h1,h2,hz,q⟩:=h
 cases rx
 obtain⟨t,rfl⟩:=ry
 obtain⟨z,its,n,r,hl,e⟩:=I.qh hH
 have hlen:its.toArray.size*k.toNat<=sizeLine:=by rw [List.size_toArray,<- hl];exact hz
 have hcap:¬its.toArray.size*k.toNat > (2^63-1)/8:=by
  have:(sizeLine:Nat)<=(2^63-1)/8:=by decide
  omega
 have hfit:¬(!Builtin.List.listFitsIndex k)=true:=by
  rw [fitsIndex_both h1 h2]
  exact Bool.false_ne_true
 have hlong:¬Builtin.List.listTooLong (its.toArray.size*k.toNat)=true:=by
  rw [nP hlen]
  exact Bool.false_ne_true
 have hnew:List.foldl (λx1 x2=>x1++x2) #[] (List.replicate (if its.toArray.isEmpty=true then 0 else k.toNat) its.toArray)=(List.replicate k.toNat its).flatten.toArray:=by
  have f0:∀ m:Nat,List.foldl (λx1 x2=>x1++x2) #[] (List.replicate m its.toArray)=(List.replicate m its).flatten.toArray:=λm=>by
   have:=foldl_rep its m []
   rw [List.nil_append] at this
   exact this
  rw [f0]
  cases its with
  | nil=>simp
  | cons a r'=>rw [if_neg (by simp)]
 refine wpAny_binaryOp_repeat_ref (T := "list") (U := "int") (by decide) ⟨_,e,rfl⟩ (λs'=>typeIs_int s' k t) noFill_list_mul F.fills_int_mul F.slot_int_rmul repeat_list F.slot_int_index.lookup
  (call_meets F.slot_int_rmul (typeIs_int s k t) F.entry_int_rmul (F.args_int_rmul_2 _ _) (int___rmul___int_list k t l its.toArray n)
   ⟨e,rfl,⟨_,e,rfl⟩,call_meets F.slot_list_mul ⟨_,e,rfl⟩ F.entry_list_mul (F.args_list_mul_2 _ _) (AutoListH.list___mul___list_int_3 l its.toArray n k t hfit hcap hlong) ⟨e,?_⟩⟩)
 rw [hnew]
 exact⟨.ref _,_,I.vt (t':=s.toks) (r.rep k.toNat) (by rw [len_rep,Nat.mul_comm];exact hz),rfl,q _ I.fresh⟩
end
section
variable {prog:Program} {w:World} {A:Around} {E:Value->Shared->Prop} {s:Shared}
end
section
variable {X:Cx}
end
end L2
namespace Att
open PySem PySem.W PySem.Calls PyProof.Rows
theorem eQ {P:Params} {h:Heap}:∀(ns:List Int) (vs:List Value),WellAll P h vs (ns.map WData.int)->IntsAre vs ns:=by
 intro ns
 induction ns with
 | nil =>
  intro vs w
  rw [List.map_nil] at w
  cases w
  exact .nil
 | cons n ns ih =>
  intro vs w
  rw [List.map_cons] at w
  cases w with
  | cons a b =>
   cases a
   exact .cons _ _ (ih _ b)
theorem mn {l:OpenLaw} {n:Nat} (hn:l.most=some n) {P:Params} {h:Heap} {args:List WData} {vals:List Value}
  (hpre:l.row.toRowW.claim.pre args=true) (hwl:WellAll P h vals args) :
  ∃ a vs ns,vals=[Value.ref a]/\args=[WData.list (ns.map WData.int)]/\h.get? a=some { cls:=.type "list",data:=.seq vs.toArray }/\IntsAre vs ns/\ns.length<=n:=by
 have hsh:WShape.hasAll [] args [.list .int]=true:=(pre_splitW hpre).1
 have hc:l.pre.holds [] { args:=args }=true:=(pre_splitW hpre).2
 obtain⟨d,r,rfl,h1,h2⟩:=hasAllW_cons hsh
 obtain rfl:=hasAllW_nil h2
 obtain⟨xs,rfl,h3⟩:=hasW_list h1
 obtain⟨ns,rfl⟩:=items_int h3
 have hlen:ns.length<=n:=by
  unfold OpenLaw.pre at hc
  have h4:(WTm.not (.lt (.lit (.int (n:Int))) (.len (.arg 0)))).holds [] { args:=[.list (ns.map .int)] }=true:=by
   have h4:=(holds_andW hc).1
   rw [hn] at h4
   exact h4
  have h5:=condW_of h4 (w_not (w_lt w_lit (w_len_list (w_arg rfl))))
  rw [List.length_map] at h5
  refine Nat.le_of_not_lt λq=>?_
  have q':(n:Int)<((ns.length:Nat):Int):=by omega
  first
   | (rw [decide_eq_true q'] at h5;exact absurd h5 (by decide))
   | (simp at h5;omega)
 cases hwl with
 | cons w1 w2 =>
  cases w2
  cases w1 with
  | list ho hall=>exact⟨_,_,ns,rfl,rfl,ho,eQ ns _ hall,hlen⟩
theorem lY (l:OpenLaw) (args:List WData):l.row.toRowW.claim.post args (.bool true) args=true :=
 postW_of (r:=l.row.toRowW) (X:=(true==true))
  (show WShape.has [] (.bool true) .bool=true by first | rfl | decide | simp [WShape.has,WShape.arms,WShape.armsAll])
  (show (WTm.eq .res (.lit (.bool true))).value [] { args:=args,res:=some (.bool true),after:=args }=some (.bool (true==true)) from w_eq_bool (w_res rfl) w_lit) rfl
theorem iX {l:OpenLaw} {n:Nat} {q:Program} {loose:List Str} {XP:(Str->Option Value)->Heap->Prop} {YP:World->Heap->Prop} {d:DefRec}
  (hn:l.most=some n) (hdf:d.params.defaults=[])
  (call:∀(w:World) (s₀ s₁:Shared) (mg mb:Str->Option Value) (fa:Addr) (o:Obj) (pm cd doc:Value) (a:Addr) (vs:List Value) (ns:List Int),
   Ground q loose [] XP w s₀ mg mb s₁.heap->YP w s₁.heap ->
   s₁.heap.get? fa=some o->o.data=.func (docDef d.name d.params d.body d.scope pm cd doc)->s₁.heap.CodeRec cd d.name->mg d.name=some (.ref fa) ->
   s₁.heap.get? a=some { cls:=.type "list",data:=.seq vs.toArray }->IntsAre vs ns->ns.length<=n->s₁.gens=#[] ->
   codeAny (model l.prog w) callerA (.call (.ref fa) ⟨[.ref a],[]⟩) (λr s'=>r=.ok (.ret (.bool true))/\OldK s₁.heap s'.heap/\s'.os=s₁.os/\AllBare s'.gens) s₁) :
  WalkO q loose XP YP l.row.toRowW d [] (λf vs=>PySem.call f vs):=by
 intro w s₀ s₁ mg mb G Y fa o pm cd doc dV kV ho hd hcd hD hmg hg args vals as hpre hlay hrd hwl hlo
 obtain rfl:dV=.none:=Dflts.none hD hdf
 obtain rfl:kV=.none:=Dflts.noKw hD
 obtain⟨a,vs,ns,rfl,rfl,hobj,hints,hlen⟩:=mn hn hpre hwl
 refine enter_call (codeAny_mono (call w s₀ s₁ mg mb fa o pm cd doc a vs ns G Y ho (fd_plain hd) hcd hmg hobj hints hlen hg) λr s' hq=>?_)
 obtain⟨rfl,h2,h3,h4⟩:=hq
 exact⟨.inl ⟨.bool true,.bool true,[],rfl,λ_=>rfl,.bool true,lY l _,λ_=>⟨List.Pairwise.nil,λ_ hm=>(nomatch hm)⟩⟩,h2,h3,h4⟩
section
variable {prog:Program} {w:World} {A:Around} {E:Value->Shared->Prop} {s:Shared} {K:Frag}
end
end Att
namespace L2
open PySem PySem.Spec PyProof.Rows
theorem gM:∀{vs:List Value} {ns:List Int},IntsAre vs ns->Vals (ns.map V.int) vs
 | _,_,.nil=>.nil
 | _,_,.cons n t h=>.cons ⟨t,rfl⟩ (gM h)
def pJ (H:Hp):Prop:=∀ b,H b=none∨∃ o xs,H b=some (.frz o (.lst xs))
theorem nk {P:Program} {w:World} {K:PySem.W.Frag} {mg mb:Str->Option Value} {CX:fN} {k:Nat} {fa a:Addr} {fd:FuncData} {x:Str} {sp:Sp} {s₁:Shared} {vs:List Value} {ns:List Int}
  (KX:K.In s₁.heap) (hns:s₁.heap.Ns mainGlobals mg) (hb:s₁.heap.Ns builtinsNs mb) (hbb:∀ x:Str,x ≠ "__name__"->mb x=bootBuiltins x) (hlim:s₁.heap.NoLimit) (hg:s₁.gens=#[])
  (ha:s₁.heap.get? a=some { cls:=.type "list",data:=.seq vs.toArray }) (hi:IntsAre vs ns) (hl:ns.length<=sizeLine) (hr:a4 k callerA)
  (F:∀ base:Heap,K.In base->base.Ns mainGlobals mg->bB P w K mg base CX k fa fd [x] sp) (hbind:∀(s:Shared) (u:Value),BindsTo s fd ⟨[u],[]⟩ [(x,u)])
  (hsp:∀ H:Hp,pJ H->aT K H a (ns.map V.int)->sp [.ref a] H (λv _=>v=.bl true) λ_ _ _=>False)
  (hCX:∀ H e s',CX [] H s₁ (λ_ _ _=>False) e s'->False) :
  codeAny (model P w) callerA (.call (.ref fa) ⟨[.ref a],[]⟩) (λr s'=>r=.ok (.ret (.bool true))/\OldK s₁.heap s'.heap/\s'.os=s₁.os/\AllBare s'.gens) s₁:=by
 have rv:=gM hi
 have lenV:=hi.length
 -- from an abstract heap in which nothing but the script may be tracked
 have core:∀ H:Hp,pJ H->aT K H a (ns.map V.int)->cm P w H s₁.heap->(∀ b,H b≠none->b=a)->(H a≠none->K.lookup a=none) ->
   codeAny (model P w) callerA (.call (.ref fa) ⟨[.ref a],[]⟩) (λr s'=>r=.ok (.ret (.bool true))/\OldK s₁.heap s'.heap/\s'.os=s₁.os/\AllBare s'.gens) s₁:=by
  intro H hO hS hok hA hK
  have base_of:∀{b:Addr} {o:Obj},s₁.heap.get? b=some o->H b=none->(h8 s₁.heap H).get? b=some o:=λe n=>mX e n
  have noA:∀{b:Addr} {o:Obj} {es:Array DictEntry} {ep:Nat},s₁.heap.get? b=some o->o.data=.dict es ep->H b=none:=λ{b o es ep} e d=>by
   cases q:H b with
   | none=>rfl
   | some u =>
    have e':b=a:=hA b (by rw [q];simp)
    subst e'
    rw [ha] at e;cases e
    have d':Data.seq vs.toArray _=Data.dict es ep:=d
    cases d'
  have nsK:∀{b:Addr} {m:Str->Option Value},s₁.heap.Ns b m->(h8 s₁.heap H).Ns b m:=λ{b m} ⟨o,es,ep,e,d,r⟩=>⟨o,es,ep,base_of e (noA e d),d,r⟩
  have hKb:K.In (h8 s₁.heap H):=λb o e=>base_of (KX b o e) (by
   cases q:H b with
   | none=>rfl
   | some u =>
    have e':b=a:=hA b (by rw [q];simp)
    subst e'
    rw [hK (by rw [q];simp)] at e;cases e)
  have hM:Mod K mg (h8 s₁.heap H):=⟨hKb,nsK hns,⟨mb,nsK hb,hbb⟩,let ⟨mc,h1,h2⟩:=hlim;⟨mc,nsK h1,h2⟩⟩
  have e0:jO P w K mg (h8 s₁.heap H) callerA [] s₁ H:=⟨rfl,hM,λb o e=>qp e,Nat.le_of_eq (lN _ _),trivial,λb hb=>absurd (show b∈([]:List Addr) from hb) (by simp),hok,.of_eq hg⟩
  refine codeAny_mono ((F _ hKb (nsK hns)).run callerA [] s₁ H ⟨[.ref a],[]⟩ [.ref a] [.ref a] _ _ hr e0 (hbind s₁ (.ref a)) (.cons rfl .nil) (hsp H hO hS)) λr s' h=>?_
  cases r with
  | error e=>exact (hCX H e s' h).elim
  | ok fl =>
   cases fl with
   | next=>exact False.elim h
   | brk=>exact False.elim h
   | cont=>exact False.elim h
   | ret u =>
    obtain⟨v,H',os,bare,un,hok',r',q⟩:=h
    have q':v=.bl true:=q
    subst q'
    obtain rfl:u=Value.bool true:=r'
    refine⟨rfl,OldK.of_keep λb o e=>?_,os,bare⟩
    cases q:H b with
    | none=>exact un.keep b o e q (by intro z;exact absurd (show b∈([]:List Addr) from z) (by simp)) (by simp)
    | some u =>
     rcases hO b with z | ⟨ob,xs,z⟩
     ·rw [q] at z;cases z
     ·have z2:=un.frzs b ob _ z
      obtain⟨e1,_⟩:=hok b _ z
      obtain⟨e2,_⟩:=hok' b _ z2
      rw [e] at e1;cases e1
      exact e2
 cases hk:K.lookup a with
 | some o =>
  -- the script is one of the module's own objects
  have e:=KX a o hk
  rw [ha] at e
  cases e
  refine core (λ_=>none) (λ_=>.inl rfl) (.inr ⟨_,vs.toArray,_,hk,rfl,rfl,rfl,by rw [List.size_toArray,lenV];exact hl,by simpa using rv⟩) (λb u z=>by have z':(none:Option HO)=some u:=z;cases z') (λb z=>absurd rfl z) λz=>absurd rfl z
 | none =>
  refine core (λb=>if b=a then some (.frz { cls:=.type "list",data:=.seq vs.toArray } (.lst (ns.map V.int))) else none) (λb=>?_) (.inl (.inr ⟨{ cls:=.type "list",data:=.seq vs.toArray },if_pos rfl⟩)) (λb u z=>?_) (λb z=>?_) λ_=>hk
  ·by_cases hb:b=a
   ·exact .inr ⟨_,_,if_pos hb⟩
   ·exact .inl (if_neg hb)
  ·by_cases hb:b=a
   ·have z':=(if_pos hb).symm.trans z
    cases z'
    subst hb
    exact⟨ha,by rw [List.length_map];exact hl,vs,_,rv,ha⟩
   ·have z':=(if_neg hb).symm.trans z
    cases z'
  ·by_cases hb:b=a
   ·exact hb
   ·exact absurd (if_neg hb) z
abbrev eC {K:PySem.W.Frag} {h:Heap} (_:K.In h):PySem.W.Frag:=K
theorem lx {l:PySem.W.OpenLaw} {n k:Nat} {q:Program} {loose:List Str} {XP:(Str->Option Value)->Heap->Prop} {YP:World->Heap->Prop} {d:DefRec} {K:Params->PySem.W.Frag} {CX:World->fN} {sp:World->Sp} {x:Str}
  (hn:l.most=some n) (hn2:n<=sizeLine) (hdf:d.params.defaults=[]) (hr:a4 k callerA)
  (hY:∀(w:World) (h:Heap),YP w h->(K w.params).In h)
  (F:∀(w:World) (mg:Str->Option Value) (fa:Addr) (h:Heap),(K w.params).In h->h.Ns mainGlobals mg->mg d.name=some (.ref fa) ->
   ∃ fd:FuncData,(∀(s:Shared) (u:Value),BindsTo s fd ⟨[u],[]⟩ [(x,u)]) /\
    ∀ base:Heap,(K w.params).In base->base.Ns mainGlobals mg->bB l.prog w (K w.params) mg base (CX w) k fa fd [x] (sp w))
  (hsp:∀(w:World) (H:Hp) (a:Addr) (ns:List Int),ns.length<=n->pJ H->aT (K w.params) H a (ns.map V.int)->sp w [.ref a] H (λv _=>v=.bl true) λ_ _ _=>False)
  (hCX:∀(w:World) (H:Hp) (s:Shared) (e:Value) (s':Shared),CX w [] H s (λ_ _ _=>False) e s'->False) :
  PySem.W.WalkO q loose XP YP l.row.toRowW d [] (λf vs=>PySem.call f vs):=by
 refine Att.iX hn hdf λw s₀ s₁ mg mb fa o pm cd doc a vs ns G Y ho hd hcd hmg hobj hints hlen hg=>?_
 have KX:=hY w _ Y
 obtain⟨fd,hb,hF⟩:=F w mg fa _ KX G.T.g hmg
 exact nk KX G.T.g G.T.b G.T.builtins G.T.nolimit hg hobj hints (Nat.le_trans hlen hn2) hr hF hb (λH hO hS=>hsp w H a ns hlen hO hS) λH e s'=>hCX w H s₁ e s'
theorem pF {l:PySem.W.OpenLaw} {n k:Nat} {q:Program} {loose:List Str} {XP:(Str->Option Value)->Heap->Prop} {YP:World->Heap->Prop} {d:DefRec} {K:Params->PySem.W.Frag} {CX:fN} {sp:PySem.W.Frag->Sp} {x:Str}
  (hn:l.most=some n) (hn2:n<=sizeLine) (hdf:d.params.defaults=[]) (hr:a4 k callerA)
  (hY:∀(w:World) (h:Heap),YP w h->(K w.params).In h)
  (F:∀(w:World) (mg:Str->Option Value) (fa:Addr) (h:Heap),(K w.params).In h->h.Ns mainGlobals mg->mg d.name=some (.ref fa) ->
   ∃ fd:FuncData,(∀(s:Shared) (u:Value),BindsTo s fd ⟨[u],[]⟩ [(x,u)]) /\
    ∀ base:Heap,(K w.params).In base->base.Ns mainGlobals mg->bB l.prog w (K w.params) mg base CX k fa fd [x] (sp (K w.params)))
  (hsp:∀(K:PySem.W.Frag) (H:Hp) (a:Addr) (ns:List Int),ns.length<=n->pJ H->aT K H a (ns.map V.int)->sp K [.ref a] H (λv _=>v=.bl true) λ_ _ _=>False)
  (hCX:∀(H:Hp) (s:Shared) (e:Value) (s':Shared),CX [] H s (λ_ _ _=>False) e s'->False) :
  PySem.W.WalkO q loose XP YP l.row.toRowW d [] (λf vs=>PySem.call f vs) :=
 lx (K:=K) (CX:=λ_=>CX) (sp:=λw=>sp (K w.params)) hn hn2 hdf hr hY F (λw H a ns h1 h2 h3=>hsp (K w.params) H a ns h1 h2 h3) λ_ H s e s'=>hCX H s e s'
end L2
/- THE LAST THEOREM (shape;LID,My.* are yours):
   My.Adr: a structure of the addresses that your layer names (classes,functions);My.Txt K t: a structure (Prop) of the equations over K;
   My.txt_mk:{K} {implicit addresses ..} (e1:nsIn K mainGlobals "law"=some (some (.ref f))) (e2:K.lookup f=some ⟨oc,od,.func (fnOf "law" "law" params body scope dV kV doc pm an cdv ct),sl⟩) (e3:codeIn K cdv "law"=true) ..:∃ t,My.Txt K t
set_option maxRecDepth 100000 in
set_option maxHeartbeats 0 in
theorem PySem.Challenge.cw_LID_holds : PySem.Challenge.rw_LID.Holds := by
 w_on;o_law;k_head;(case hw=>w_witness2)
 k_fill
 refine L2.lx (l:=PySem.Challenge.rw_LID) (n:=63) (k:=40) (x := "script") (CX:=λw=>..) (sp:=λ_=>My.sp_law) rfl (by decide) rfl ⟨rfl,by decide,by decide⟩ (λw h Y=>PySem.W.kIn_of Y) ?F ?S ?C
 case F =>
  intro w mg fa h KX G hmg
  have T:∃ t,My.Txt (L2.eC KX) t:=by
   dsimp only [L2.eC]                          -- K must stand as «<heap const> w.params» for k_is
   refine' My.txt_mk ?e1 ?e2 ?e3 ..
   (case e1=>PySem.W.k_is)                    -- in the order: a name -> its address -> its object -> its parts
   (case e2=>PySem.W.k_is)
   ..
  obtain⟨t,T⟩:=T
  have e0:=hmg.symm.trans (PySem.W.mg_of KX G T.law)
  cases e0                                       -- fa is the law's own address
  exact⟨_,λs u=>.of_eq rfl,λbase kb nb=>My.law_fn T kb nb⟩     -- if «.of_eq rfl» comes too early: refine' ⟨_,?b,λbase kb nb=>My.law_fn T kb nb⟩;exact λs u=>.of_eq rfl
 case S=>exact λw H a ns hl hO hS=>..
 case C=>exact ..
(the tactic k_is has no namespace: write k_is) -/
namespace L2
open PySem PySem.Spec PyProof.Rows
def inClass (s:Stmt) (j:Nat):Stmt:=match s with
 | .ClassDef _ _ _ body _ _ _ _ _ _ _=>body.getD j (.Pass ⟨0,0,0,0⟩)
 | _=>.Pass ⟨0,0,0,0⟩
def aX (s:Stmt):Arguments:=match s with
 | .FunctionDef _ a _ _ _ _ _ _ _ _=>a
 | _=>{ posonlyargs:=[],args:=[],vararg:=none,kwonlyargs:=[],kw_defaults:=[],kwarg:=none,defaults:=[] }
def aE (s:Stmt):List Stmt:=match s with
 | .FunctionDef _ _ b _ _ _ _ _ _ _=>b
 | _=>[]
def ai (s:Stmt):Scope:=match s with
 | .FunctionDef _ _ _ _ _ _ sc _ _ _=>sc
 | _=>{ kind:=.function,names:=[],isGenerator:=false,isCoroutine:=false }
abbrev aZ:fN:=λ_ _ _ _ _ _=>False
abbrev E0:XK:=λ_ _ _=>False
theorem aS {X:Cx}:Passes aZ X E0:=λ_ _ _ _ _ _ _ h=>h.elim
structure pG (K:PySem.W.Frag) (x qual:Str) (st:Stmt) (f:Addr) (fd:FuncData):Prop where
 ex:∃(oc:Value) (od:Option Addr) (kV doc pm:Value) (an:Option Addr) (cdv ct:Value) (osl:Array (Option Value)),
  fd=PySem.W.fnOf x qual (aX st) (aE st) (ai st) .none kV doc pm an cdv ct/\K.lookup f=some ⟨oc,od,.func fd,osl⟩/\PySem.W.codeIn K cdv qual=true
 kp:PySem.W.keepIn K (.ref f)=true
section
variable {P:Program} {w:World} {K:PySem.W.Frag} {mg:Str->Option Value} {base:Heap}
theorem pG.ok {x qual:Str} {st:Stmt} {f:Addr} {fd:FuncData} {N ps:List Str} {k:Nat} {sp:Sp} (F:pG K x qual st f fd) (S:ar N ps (ai st)) (len:∀ vs H Q E,sp vs H Q E->vs.length=ps.length)
  (hbody:∀(cdv:Value) (A:Around) (outer:List Env) (s:Shared) (H:Hp) (vs:List V) (Q:VK) (E:XK),a4 k (A.deeper (envOfC qual (ai st) s.heap.objs.size f cdv))->sp vs H Q E ->
   ∃ t,eY (bZ aZ P w K mg base N qual (ai st) f cdv A outer s H E).j8 (aE st) t/\t { nx:=λ_ H'=>Q .non H',rt:=Q } (start N vs) H):bB P w K mg base aZ (k+1) f fd ps sp:=by
 obtain⟨oc,od,kV,doc,pm,an,cdv,ct,osl,rfl,lk,hcd⟩:=F.ex
 refine rD lk hcd S len λA outer s H vs Q E hr hsp=>?_
 obtain⟨t,h,q⟩:=hbody cdv A outer s H vs Q E hr hsp
 exact⟨t,h.j8,q⟩
theorem pG.binds {x qual:Str} {st:Stmt} {f:Addr} {fd:FuncData} {ps:List Str} (F:pG K x qual st f fd)
  (h:∀(kV doc pm:Value) (an:Option Addr) (cdv ct:Value) (us:List Value),us.length=ps.length->bindArgs (PySem.W.fnOf x qual (aX st) (aE st) (ai st) .none kV doc pm an cdv ct) ⟨us,[]⟩=pure (ps.zip us)):Binds K fd ps []:=by
 obtain⟨oc,od,kV,doc,pm,an,cdv,ct,osl,rfl,lk,hcd⟩:=F.ex
 exact .all (h kV doc pm an cdv ct)
theorem mT {x qual:Str} {st:Stmt} {f:Addr} {oc:Value} {od an:Option Addr} {osl:Array (Option Value)} {kV doc pm cdv ct:Value} (l:K.lookup f=some ⟨oc,od,.func (PySem.W.fnOf x qual (aX st) (aE st) (ai st) .none kV doc pm an cdv ct),osl⟩)
  (c:PySem.W.codeIn K cdv qual=true) (k:PySem.W.keepIn K (.ref f)=true):pG K x qual st f (PySem.W.fnOf x qual (aX st) (aE st) (ai st) .none kV doc pm an cdv ct):=⟨⟨oc,od,kV,doc,pm,an,cdv,ct,osl,rfl,l,c⟩,k⟩
end
theorem cz {A:Around} {k:Nat} (hr:a4 k A):A.units+1<cLine:=Nat.lt_of_le_of_lt (Nat.add_le_add_left (by decide:1<=64) _) hr.units
section
variable {X:Cx}
theorem pv (i:Nat) {x:Str} {pos:Pos} (hN:X.N[i]?=some x:=by rfl) (hv:uE X.env.scope x:=by first | exact Or.inl rfl | exact Or.inr (Or.inl rfl) | exact Or.inr (Or.inr rfl)) (hd:(x==("__debug__":Str))=false:=by decide)
  (hcd:(x==("__classdict__":Str))=false:=by decide):PE X (.Name x pos) (uy i):=ki hN hv hd hcd
end
theorem ba {c A B:Prop} [Decidable c] (h1:c->A) (h2:¬c->B):if c then A else B:=by
 by_cases h:c
 ·rw [if_pos h]
  exact h1 h
 ·rw [if_neg h]
  exact h2 h
def aA (H H':Hp):Prop:=∀ b o,H b=some o->H' b=some o
theorem aA.refl (H:Hp):aA H H:=λ_ _ h=>h
theorem aA.trans {H H1 H2:Hp} (a:aA H H1) (b:aA H1 H2):aA H H2:=λc o h=>b c o (a c o h)
theorem aA.free {H H':Hp} (e:aA H H') {l:Addr} (h:H' l=Option.none):H l=Option.none:=by
 cases q:H l with
 | none=>rfl
 | some o =>
  rw [e l o q] at h
  cases h
theorem aA.seq {K:PySem.W.Frag} {H H':Hp} {a:Addr} {xs:List V} (e:aA H H') (h:aT K H a xs):aT K H' a xs:=by
 rcases h with (h | ⟨o,h⟩) | h
 ·exact .inl (.inl (e _ _ h))
 ·exact .inl (.inr ⟨o,e _ _ h⟩)
 ·exact .inr h
end L2
set_option maxHeartbeats 1000000
namespace L2
open PySem PySem.Spec PyProof.Rows
theorem gW {Ex:Value->Shared->Prop} {prog:Program} {w:World} {A:Around} {R:Result->Shared->Prop} {s:Shared} {elt target:Expr} {gens:List Comprehension} {scope:Scope} {pos ps:Pos} {ifs:List Expr} {d:Nat} {B:Sem Unit} {it acc:Value} {env:Env} (I:Nat->Shared->Prop)
  (ht:compTurn (.ListComp elt gens scope pos) d it acc env=(do
   standAt ps
   match <- pyNext it with
   | none=>pure (.done .next)
   | some v =>
    letOwnedTupleGo target it v
    assign target env v
    let mut ok:=true
    for c in ifs do
     if ok then ok <- isTrue c env (eval c env)
    if ok then B
    again (.compLoop (.ListComp elt gens scope pos) d it acc env)))
  (turn:∀ n s,I n s->wpAny (model prog w) A (pyNext it) (λr s₁=>match r with
   | none=>R (.ok .next) s₁
   | some v=>wpAny (model prog w) A (letOwnedTupleGo target it v) (λ_ s₁'=>wpAny (model prog w) A (assign target env v) (λ_ s₂ =>
     wpAny (model prog w) A (forIn ifs true λc r=>if r=true then do let ok <- isTrue c env (eval c env);pure (ForInStep.yield ok) else pure (ForInStep.yield r)) (λok s₃ =>
      if ok=true then wpAny (model prog w) A B (λ_ s₅=>∃ m,m<n/\I m s₅) Ex s₃
      else ∃ m,m<n/\I m s₃) Ex s₂) Ex s₁') Ex s₁) Ex s)
  (n:Nat) (h:I n s) (hE:∀ e s',Ex e s'->notedBy (model prog w) A env (λe s''=>R (.error e) s'') e s') :
  codeAny (model prog w) A (.compLoop (.ListComp elt gens scope pos) d it acc env) R s:=by
 refine codeAny_loop rfl I (λn s hI=>?_) n h
 show wpAny _ A ((compTurn (.ListComp elt gens scope pos) d it acc env).onRaise (λx=>do noteFrame x env;theTreesLotGoes x)) _ _ s
 refine wpAny_noted ?_
 rw [ht]
 refine wpAny_bind (wpAny_standAt (wpAny_bind (wpAny_mono (turn n s hI) (λr s₁ h₁=>?_) λ_ _ h'=>hE _ _ h')))
 cases r with
 | none=>exact wpAny_pure h₁
 | some v =>
  refine wpAny_bind (wpAny_mono h₁ (λ_ s₁' h₁'=>?_) λ_ _ h'=>hE _ _ h')
  refine wpAny_bind (wpAny_mono h₁' (λ_ s₂ h₂=>wpAny_bind (wpAny_mono h₂ (λok s₃ h₃=>?_) λ_ _ h'=>hE _ _ h')) λ_ _ h'=>hE _ _ h')
  cases ok with
  | false=>exact wpAny_pure ⟨rfl,h₃⟩
  | true=>exact wpAny_bind (wpAny_mono h₃ (λ_ s₅ h₅=>wpAny_pure ⟨rfl,h₅⟩) λ_ _ h'=>hE _ _ h')
def kB (elt:Expr) (acc:Value) (env:Env):Sem Unit:=do let _ <- call (.builtin "list.append") [acc,<- eval elt env]
theorem ph (elt target iter:Expr) (ifs:List Expr) (scope:Scope) (pos:Pos) (it acc:Value) (env:Env) :
  compTurn (.ListComp elt [⟨target,iter,ifs,0⟩] scope pos) 0 it acc env=(do
   standAt iter.pos
   match <- pyNext it with
   | none=>pure (.done .next)
   | some v =>
    letOwnedTupleGo target it v
    assign target env v
    let mut ok:=true
    for c in ifs do
     if ok then ok <- isTrue c env (eval c env)
    if ok then kB elt acc env
    again (.compLoop (.ListComp elt [⟨target,iter,ifs,0⟩] scope pos) 0 it acc env)):=by rfl
def aP (X:Cx) (Ex:Value->Shared->Prop) (N':List Str) (scope:Scope) (cl:List (Str × Addr)) (C:Addr) (s₂:Shared) (H₂:Hp) (fp:List Addr):Cx :=
 { X with N:=N',s₀:=s₂,H₀:=H₂,env:=compEnvC scope (cellsFrom (C+1) scope.names cl) C X.env,outer:=X.stack,stack:=X.stack,ex:=fp,fn:=λx=>scope.names.lookup x==some .cell,pn:=[],xe:=Ex }
abbrev bE (X:Cx):=aP X λ_ _=>False
def AllIn (env:Env):List (Str × Addr)->Prop
 | []=>True
 | p::r=>env.cells.lookup p.1=some p.2/\AllIn env r
theorem AllIn.get {env:Env}:∀{l:List (Str × Addr)},AllIn env l->∀ y c,l.lookup y=some c->env.cells.lookup y=some c
 | [],_,_,_,h=>by simp at h
 | (z,d)::r,a,y,c,h=>by
  rw [List.lookup_cons] at h
  cases e:y==z with
  | true =>
   rw [e] at h
   have q:y=z:=by simpa using e
   subst q
   cases h
   exact a.1
  | false =>
   rw [e] at h
   exact AllIn.get a.2 y c h
def aY (js:List (Option Nat)) (σ:St):St:=js.map λo=>match o with | none=>none | some j=>(σ[j]?).join
structure du (X:Cx) (N':List Str) (js:List (Option Nat)) (scope:Scope) (cl:List (Str × Addr)):Prop where
 clos:closureFor scope X.env=pure cl
 kind:scope.kind=.function
 nocell:∀ y∈scope.names,y.2=.cell->scope.names.lookup y.1=some .cell/\∀ p∈js.zip N',p.1.isSome=true->p.2≠y.1
 names:∀ y∈scope.names,y.2=.local->scope.names.lookup y.1=some .local
 sub:AllIn X.env cl
 has:∀ y∈scope.names,y.2=.free->(cl.lookup y.1).isSome=true
 jlen:js.length=N'.length
 jok:∀(i j:Nat) x,js[i]?=some (some j)->N'[i]?=some x->X.N[j]?=some x/\(cl.lookup x).isSome=true/\uE X.env.scope x/\X.env.kindOf x≠some .local/\((relabel scope X.env).names.lookup x=some .cell∨(relabel scope X.env).names.lookup x=some .free)
theorem bM {scope:Scope} {env:Env} {x:Str} {k:NameKind} (h:(relabel scope env).names.lookup x=some k) (hk:k=.cell∨k=.free):∃ y∈scope.names,y.1=x/\(y.2=.free∨y.2=.cell):=by
 have hm:=PySem.mem_of_lookup h
 obtain⟨⟨n,q⟩,hm',e⟩:=List.mem_map.mp hm
 dsimp only at e
 split at e
 ·rename_i hc
  have e1:n=x:=congrArg Prod.fst e
  refine⟨(n,q),hm',e1,.inl ?_⟩
  have:(q==NameKind.free)=true:=by
   simp only [Bool.and_eq_true] at hc
   exact hc.1.1
  simpa using this
 ·have e1:n=x:=congrArg Prod.fst e
  have e2:q=k:=congrArg Prod.snd e
  refine⟨(n,q),hm',e1,?_⟩
  rcases hk with hk | hk
  ·exact .inr (e2.trans hk)
  ·exact .inl (e2.trans hk)
theorem cw {x:Str} {c:Addr}:∀(ns:List (Str × NameKind)) (n:Nat) (acc:List (Str × Addr)),(cellsFrom n ns acc).lookup x=some c->acc.lookup x=some c∨n<=c
 | [],_,_,h=>.inl h
 | (y,k)::r,n,acc,h=>by
  unfold cellsFrom at h
  split at h
  ·rcases cw r _ _ h with z | z
   ·rw [List.lookup_cons] at z
    split at z
    ·cases z;exact .inr (Nat.le_refl _)
    ·exact .inl z
   ·exact .inr (Nat.le_of_succ_le z)
  ·exact cw r _ _ h
theorem gU {x:Str} {c:Addr}:∀(ns:List (Str × NameKind)) (n:Nat) (acc:List (Str × Addr)),ns.lookup x=some .cell->(cellsFrom n ns acc).lookup x=some c->n<=c
 | [],_,_,h,_=>by cases h
 | (y,k)::r,n,acc,h,e=>by
  rw [List.lookup_cons] at h
  unfold cellsFrom at e
  split at h
  ·rename_i hy
   cases h
   rcases cw r _ _ e with z | z
   ·rw [List.lookup_cons,hy] at z
    cases z;exact Nat.le_refl _
   ·exact Nat.le_of_succ_le z
  ·split at e
   ·exact Nat.le_of_succ_le (gU r _ _ h e)
   ·exact gU r _ _ h e
theorem eU {x:Str}:∀(ns:List (Str × NameKind)) (n:Nat) (acc:List (Str × Addr)),(∀ y∈ns,y.2=.cell->x≠y.1)->(cellsFrom n ns acc).lookup x=acc.lookup x
 | [],_,_,_=>rfl
 | (y,k)::r,n,acc,h=>by
  unfold cellsFrom
  split
  ·rename_i hk
   rw [eU r _ _ λz hz=>h z (List.mem_cons_of_mem _ hz),List.lookup_cons]
   have:(x==y)=false:=by simpa using h (y,k) List.mem_cons_self (by simpa using hk)
   rw [this]
  ·exact eU r _ _ λz hz=>h z (List.mem_cons_of_mem _ hz)
theorem gT:∀(ns:List (Str × NameKind)) (n:Nat) (acc:List (Str × Addr)),(∀ x c,acc.lookup x=some c->c<n)->(∀ x y c,acc.lookup x=some c->acc.lookup y=some c->x=y) ->
  ∀ x y c,(cellsFrom n ns acc).lookup x=some c->(cellsFrom n ns acc).lookup y=some c->x=y
 | [],_,_,_,h=>h
 | (z,k)::r,n,acc,hl,hi=>by
  unfold cellsFrom
  split
  ·refine gT r _ _ (λx c e=>?_) λx y c e1 e2=>?_
   ·rw [List.lookup_cons] at e
    split at e
    ·cases e;exact Nat.lt_succ_self _
    ·exact Nat.lt_succ_of_lt (hl x c e)
   ·rw [List.lookup_cons] at e1 e2
    split at e1<;>split at e2
    ·rename_i a _ b
     rw [eq_of_beq a,eq_of_beq b]
    ·cases e1;exact absurd (hl y _ e2) (Nat.lt_irrefl _)
    ·cases e2;exact absurd (hl x _ e1) (Nat.lt_irrefl _)
    ·exact hi x y c e1 e2
  ·exact gT r _ _ hl hi
theorem eT:∀(ns:List (Str × NameKind)) (h:Heap) (acc:List (Str × Addr)),(∀ x c,acc.lookup x=some c->∃ v,h.IsCell c v)->∀ x c,(cellsFrom h.objs.size ns acc).lookup x=some c->∃ v,(pushCells h ns).IsCell c v
 | [],_,_,h=>h
 | (z,k)::r,h,acc,hl=>by
  unfold cellsFrom pushCells
  split
  ·have:=eT r (h.push { cls:=.type "cell",data:=.cell none }) ((z,h.objs.size)::acc) λx c e=>by
    rw [List.lookup_cons] at e
    split at e
    ·cases e;exact⟨none,_,Heap.get?_push_size _ rfl,rfl⟩
    ·obtain⟨v,q⟩:=hl x c e
     exact⟨v,q.keeps λb o e=>Heap.get?_push_of_some _ e⟩
   rwa [Heap.size_push] at this
  ·exact eT r h acc hl
theorem dj {M:Model} {A:Around} {E:Value->Shared->Prop} {s:Shared} {scope:Scope} {g:Addr} {cl:List (Str × Addr)} {qual:Str} {env:Env} {Q:Env->Shared->Prop}
  (h:Q (newEnv scope s.heap.objs.size g (cellsFrom (s.heap.objs.size+1) scope.names cl) qual none .none (some env) builtinsNs) { s with heap:=pushCells (s.heap.push { cls:=.type "dict",data:=.dict #[] }) scope.names }) :
  wpAny M A (newFunctionEnv scope g cl [] qual none .none (some env)) Q E s:=by
 simp only [newFunctionEnv,Option.isSome_some,if_true]
 refine wpAny_bind (wpAny_alloc ?_)
 refine wpAny_bind (wpAny_layCells _ (λname kind cells=>by cases hkc:kind==NameKind.cell<;>simp [hkc]) _ _ _ _ ?_)
 rw [show ({ s with heap:=s.heap.push { cls:=.type "dict",data:=.dict #[] } }:Shared).heap.objs.size=s.heap.objs.size+1 from Heap.size_push ..]
 exact wpAny_bind (wpAny_pure (wpAny_pure h))
def lobj (ys:List Value):Obj:={ cls:=.type "list",data:=.seq ys.toArray ys.length }
def gO (X:Cx) (ifs:List Expr) (t:TT):Prop :=
 ∀(pins:List (Addr × Obj)) (s:Shared) (σ:St) (H:Hp) (Q:Bool->Hp->Prop),Inv X pins σ H s->t σ H Q ->
  wpAny (model X.prog X.w) X.A (forIn ifs true λc r=>if r=true then do let ok <- isTrue c X.env (eval c X.env);pure (ForInStep.yield ok) else pure (ForInStep.yield r)) (TP X pins σ Q) X.xe s
def sk:TT:=λ_ H Q=>Q true H
theorem cF {X:Cx}:gO X [] sk:=λpins s σ H Q I h=>wpAny_tests_nil ⟨H,I,h⟩
theorem jv {X:Cx} {c:Expr} {t:TT} (h:PT X c t):gO X [c] t:=λpins s σ H Q I q=>wpAny_tests_one (h pins s σ H Q I q)
def aO:List (Option V)->List (Option V)->Prop
 | [],[]=>True
 | none::r,_::r'=>aO r r'
 | some v::r,some u::r'=>u=v/\aO r r'
 | _,_=>False
theorem aO.len:∀{a b:List (Option V)},aO a b->a.length=b.length
 | [],[],_=>rfl
 | none::r,_::r',h=>by simp [aO.len (a:=r) (b:=r') h]
 | some v::r,some u::r',h=>by simp [aO.len (a:=r) (b:=r') h.2]
 | some v::r,none::r',h=>h.elim
 | some v::r,[],h=>h.elim
 | none::r,[],h=>h.elim
 | [],_::_,h=>h.elim
theorem aO.get:∀{a b:List (Option V)},aO a b->∀(i:Nat) v,a[i]?=some (some v)->b[i]?=some (some v)
 | [],[],_,i,v,h=>by simp at h
 | none::r,_::r',h,0,v,e=>by simp at e
 | none::r,_::r',h,i+1,v,e=>by
  have:=aO.get (a:=r) (b:=r') h i v (by simpa using e)
  simpa using this
 | some v::r,some u::r',h,0,v',e=>by
  have q:v=v':=by simpa using e
  have:=h.1
  simp [this,q]
 | some v::r,some u::r',h,i+1,v',e=>by
  have:=aO.get (a:=r) (b:=r') h.2 i v' (by simpa using e)
  simpa using this
 | some v::r,none::r',h,_,_,_=>h.elim
 | some v::r,[],h,_,_,_=>h.elim
 | none::r,[],h,_,_,_=>h.elim
 | [],_::_,h,_,_,_=>h.elim
def xV (js:List (Option Nat)) (wi:TI) (g:TG) (tt:TT) (te:TE):TE:=λσ H Q=>wi σ H λJ H1=>∃ W:Nat->Nat->List V->Hp->Prop,(∃ m,W 0 m [] H1)/\∀ i m ys H,W i m ys H ->
 (J.stop i H/\ys.length<=sizeLine/\∀ p,H p=none->Q (.ref p) (upd H p (.lst ys))) ∨
 (J.go i H/\ys.length<sizeLine/\∃ N:List V->Hp->Prop,(∀ ys' H',N ys' H'->∃ m',m'<m/\W (i+1) m' ys' H') /\
  ∀ x H',J.yld i H x H'->g x (aY js σ) H' λσ2 H2=>aO (aY js σ) σ2/\tt σ2 H2 λb H3=>if b=true then te σ2 H3 λv H4=>N (ys++[v]) H4 else N ys H3)
structure eX (X:Cx) (C:Addr) (s₂:Shared) (H₂:Hp) (fp:List Addr):Prop where
 inv:∃ pins σ,Inv X pins σ H₂ s₂
 new:∀ b∈fp,X.s₀.heap.objs.size<=b∨b∈X.ex
 nof:∀ b∈cV X.stack,b∉fp
 le:s₂.heap.objs.size<=C
def sL (X:Cx) (elt target:Expr) (gens:List Comprehension) (ifs:List Expr) (scope:Scope) (pos:Pos) (Bd:(Value->Shared->Prop)->Value->Env->(Shared->Prop)->Shared->Prop):Prop :=
 ∀(Ex:Value->Shared->Prop) (R:Result->Shared->Prop) (s:Shared) (it acc:Value) (env:Env) (I:Nat->Shared->Prop),
  (∀ n s,I n s->wpAny (model X.prog X.w) X.A (pyNext it) (λr s₁=>match r with
   | none=>R (.ok .next) s₁
   | some v=>wpAny (model X.prog X.w) X.A (letOwnedTupleGo target it v) (λ_ s₁'=>wpAny (model X.prog X.w) X.A (assign target env v) (λ_ s₂ =>
     wpAny (model X.prog X.w) X.A (forIn ifs true λc r=>if r=true then do let ok <- isTrue c env (eval c env);pure (ForInStep.yield ok) else pure (ForInStep.yield r)) (λok s₃ =>
      if ok=true then Bd Ex acc env (λs₅=>∃ m,m<n/\I m s₅) s₃ else ∃ m,m<n/\I m s₃) Ex s₂) Ex s₁') Ex s₁) Ex s) ->
  ∀ n,I n s->(∀ e s',Ex e s'->notedBy (model X.prog X.w) X.A env (λe s''=>R (.error e) s'') e s')->codeAny (model X.prog X.w) X.A (.compLoop (.ListComp elt gens scope pos) 0 it acc env) R s
structure dD (Y:Cx) (D:Addr) (P:List (Addr × Obj)):Prop where
 ne:∀ p∈P,p.1≠D
 new:Y.s₀.heap.objs.size<=D
 cell:∀ x c,Y.env.cells.lookup x=some c->c≠D
theorem tK {X:Cx} {Ex:Addr->Shared->Hp->List Addr->Value->Shared->Prop} {elt target iter:Expr} {rest:List Comprehension} {ifs:List Expr} {scope:Scope} {pos:Pos} {N':List Str} {js:List (Option Nat)} {cl:List (Str × Addr)} {g:TG} {tt:TT} {Cc:List V->Prop} {tb:List V->St->Hp->(List V->Hp->Prop)->Prop} {Bd:(Value->Shared->Prop)->Value->Env->(Shared->Prop)->Shared->Prop} (hcalm:X.calm=true) (hloop:sL X elt target (⟨target,iter,ifs,0⟩::rest) ifs scope pos Bd)
  (K:du X N' js scope cl)
  (hg:∀ C s₂ H₂ fp,eX X C s₂ H₂ fp->PG (aP X (Ex C s₂ H₂ fp) N' scope cl C s₂ H₂ fp) target g) (ht:∀ C s₂ H₂ fp,eX X C s₂ H₂ fp->gO (aP X (Ex C s₂ H₂ fp) N' scope cl C s₂ H₂ fp) ifs tt) (hB:∀ C s₂ H₂ fp,eX X C s₂ H₂ fp->∀(D:Addr) ys vys P σ H s N Ps,Inv (aP X (Ex C s₂ H₂ fp) N' scope cl C s₂ H₂ fp) ([(D,lobj ys)]++P) σ H s->Vals vys ys->dD (aP X (Ex C s₂ H₂ fp) N' scope cl C s₂ H₂ fp) D P->Cc vys->tb vys σ H N ->
   (∀ ys' vys' H' s',Inv (aP X (Ex C s₂ H₂ fp) N' scope cl C s₂ H₂ fp) ([(D,lobj ys')]++P) σ H' s'->Vals vys' ys'->N vys' H'->Ps s')->Bd (Ex C s₂ H₂ fp) (.ref D) (aP X (Ex C s₂ H₂ fp) N' scope cl C s₂ H₂ fp).env Ps s)
  (herr:∀ C s₂ H₂ fp use Q' acc e s',Ex C s₂ H₂ fp e s'->notedBy (model X.prog X.w) X.A (compEnvC scope (cellsFrom (C+1) scope.names cl) C X.env) (λe s''=>compPost (model X.prog X.w) X.A X.xe use Q' acc C (.error e) s'') e s')
  {pins:List (Addr × Obj)} {σ:St} {Q:VK} {use:Option (Value->Sem Unit)} {Q':Value->Shared->Prop} {itv:Value} {s2:Shared}
  (h2:uP X pins σ target (λJ H1=>∃ W:Nat->Nat->List V->Hp->Prop,(∃ m,W 0 m [] H1)/\∀ i m ys H,W i m ys H ->
 (J.stop i H/\ys.length<=sizeLine/\∀ p,H p=none->Q (.ref p) (upd H p (.lst ys))) ∨
 (J.go i H/\Cc ys/\∃ N:List V->Hp->Prop,(∀ ys' H',N ys' H'->∃ m',m'<m/\W (i+1) m' ys' H') /\
  ∀ x H',J.yld i H x H'->g x (aY js σ) H' λσ2 H2=>aO (aY js σ) σ2/\tt σ2 H2 λb H3=>if b=true then tb ys σ2 H3 N else N ys H3)) itv s2)
  (hok:∀ C D vys H4 s5,(∃ m,s5.heap.Ns C m)->s2.heap.objs.size<=D->D<=C->D≠C->H4 D=none->H4 C=none->(∀ h',Heap.SameBut C s5.heap h'->Inv X pins σ (upd H4 D (.lst vys)) { s5 with heap:=h' })->Q (.ref D) (upd H4 D (.lst vys))->compPost (model X.prog X.w) X.A X.xe use Q' (.ref D) C (.ok .next) s5) :
  wpAny (model X.prog X.w) X.A (newList []) (λacc s₃=>wpAny (model X.prog X.w) X.A (newFunctionEnv scope X.env.globals cl [] X.env.qual none .none (some X.env)) (λcenv s₄ =>
   codeAny (model X.prog X.w) X.A (.compStart (.ListComp elt (⟨target,iter,ifs,0⟩::rest) scope pos) 0 itv acc { cenv with scope:=relabel scope X.env }) (compPost (model X.prog X.w) X.A X.xe use Q' acc cenv.locals) s₄) X.xe s₃) X.xe s2:=by
 obtain⟨it,fp,tn,J,H2,e,I2,T,st2,f2,W,⟨m0,w0⟩,turn⟩:=h2
 subst e
 refine wpAny_newObj_type (dj ?_)
 dsimp only
 generalize hP2:s2.heap.push { cls:=.type "list",dict:=none,data:=.seq ([]:List Value).toArray }=P2
 generalize hh₁:pushCells (P2.push { cls:=.type "dict",data:=.dict #[] }) scope.names=h₁
 have hns₁:h₁.Ns P2.objs.size λ_=>none:=hh₁▸(Heap.Ns.new P2 (.type "dict")).keeps (pushCells_keeps _ _)
 have upP:∀ b o,P2.get? b=some o->h₁.get? b=some o:=λb o e=>hh₁▸pushCells_keeps _ _ b o (Heap.get?_push_of_some _ e)
 have hcel:∀ x c,(cellsFrom (P2.objs.size+1) scope.names cl).lookup x=some c->∃ v,h₁.IsCell c v:=by
  have:=eT scope.names (P2.push { cls:=.type "dict",data:=.dict #[] }) cl λx c e=>by
   obtain⟨v,q⟩:=I2.cell x c (K.sub.get x c e)
   exact⟨v,q.keeps λb o e=>Heap.get?_push_of_some _ (hP2▸Heap.get?_push_of_some _ e)⟩
  rw [Heap.size_push,hh₁] at this
  exact this
 have hC:P2.objs.size=s2.heap.objs.size+1:=by rw [<- hP2,Heap.size_push]
 have hDC:s2.heap.objs.size≠P2.objs.size:=by rw [hC];exact Nat.ne_of_lt (Nat.lt_succ_self _)
 have below:∀ b,b<s2.heap.objs.size->b≠P2.objs.size/\b≠s2.heap.objs.size:=λb hb=>⟨by rw [hC];exact Nat.ne_of_lt (Nat.lt_succ_of_lt hb),Nat.ne_of_lt hb⟩
 have old:∀ b o,s2.heap.get? b=some o->h₁.get? b=some o:=λb o e=>upP b o (hP2▸Heap.get?_push_of_some _ e)
 have hacc:h₁.get? s2.heap.objs.size=some (lobj []):=upP _ _ (hP2▸Heap.get?_push_size _ rfl)
 generalize hCe:P2.objs.size=C at *
 generalize hDe:s2.heap.objs.size=D at *
 let Y:Cx:=aP X (Ex C s2 H2 fp) N' scope cl C s2 H2 fp
 have clLt:∀ y c,cl.lookup y=some c->c<D:=λy c e=>by
  obtain⟨v,q⟩:=I2.cell y c (K.sub.get y c e)
  rw [<- hDe]
  exact q.lt
 have cellsX:∀ y c,Y.env.cells.lookup y=some c->cl.lookup y=some c∨C+1<=c:=λy c e=>cw _ _ _ e
 have cellNe:∀ y c,Y.env.cells.lookup y=some c->c≠D:=λy c e=>by
  rcases cellsX y c e with z | z
  ·exact Nat.ne_of_lt (clLt y c z)
  ·exact Nat.ne_of_gt (by omega)
 have freshH:∀ a,D<=a->H2 a=none:=λa ha=>I2.hok.fresh (by rw [hDe];exact ha)
 have hDleC:D<=C:=by rw [hC];exact Nat.le_succ _
 have lc:eX X C s2 H2 fp:=⟨⟨pins,σ,I2⟩,λb hb=>((f2 b hb).2.2.2.1).symm,λb hf hb=>by
   rcases List.mem_cons.mp (I2.bA b hf) with z | z
   ·exact (f2 b hb).2.1 z
   ·exact (f2 b hb).2.2.1 z,by rw [hDe];exact hDleC⟩
 have hbelowfp:∀ b∈fp,b<D:=λb hb=>by
  obtain⟨o,e,_⟩:=T.obj _ _ st2 b hb
  rw [<- hDe]
  exact Heap.lt_size e
 have okY:Y.Ok:=by
  refine⟨I2.ok.mod,K.kind,I2.ok.glob,I2.ok.blt,?_,gT _ _ _ (λx c e=>Nat.lt_succ_of_lt (Nat.lt_of_lt_of_le (clLt x c e) hDleC)) (λx y c e1 e2=>I2.ok.inj x y c (K.sub.get x c e1) (K.sub.get y c e2)),λx hx=>?_,λx c hf hc=>?_,I2.ok.hd,I2.ok.frames,.inl rfl,λb hb=>?_,I2.bs,Nat.le_trans I2.ok.bsz I2.sz,λb o e hb=>?_,λb hb hf=>?_,I2.stack,I2.cS⟩
  ·show s2.heap.objs.size<=C
   rw [hDe];exact hDleC
  ·have hx':(relabel scope X.env).names.lookup x=some .cell∨(relabel scope X.env).names.lookup x=some .free:=hx
   have:∃ y∈scope.names,y.1=x/\(y.2=.free∨y.2=.cell):=by
    rcases hx' with q | q
    ·exact bM q (.inl rfl)
    ·exact bM q (.inr rfl)
   obtain⟨y,hm,e1,e2⟩:=this
   refine Option.isSome_iff_exists.mp (PySem.W.cellsFrom_some _ _ _ ?_)
   rcases e2 with e2 | e2
   ·have q:=K.has y hm e2
    rw [e1] at q
    exact .inr q
   ·exact .inl (e1▸(K.nocell y hm e2).1)
  ·have hf':scope.names.lookup x=some .cell:=by simpa using (show (scope.names.lookup x==some .cell)=true from hf)
   have:=gU _ _ _ hf' hc
   show s2.heap.objs.size<=c
   rw [hDe];exact Nat.le_trans hDleC (Nat.le_of_succ_le this)
  ·refine⟨Nat.ne_of_lt (Nat.lt_of_lt_of_le (hbelowfp b hb) hDleC),λx c e=>?_⟩
   rcases cellsX x c e with z | z
   ·exact (f2 b hb).2.2.2.2.1 x c (K.sub.get x c z)
   ·exact Nat.ne_of_gt (Nat.lt_of_lt_of_le (Nat.lt_of_lt_of_le (hbelowfp b hb) hDleC) (Nat.le_of_succ_le z))
  ·rcases (f2 b hb).2.2.2.1 with z | z
   ·exact I2.ok.noex b o e z
   ·exact absurd (Nat.lt_of_lt_of_le (Heap.lt_size e) (Nat.le_trans I2.ok.bsz z)) (Nat.lt_irrefl _)
  ·rcases List.mem_cons.mp (I2.bA b hf) with z | z
   ·exact (f2 b hb).2.1 z
   ·exact (f2 b hb).2.2.1 z
 -- the block's names
 have locY:∀{s':Shared} {H':Hp} {σ':St},True:=λ{_ _ _}=>trivial
 have invY0:Inv Y [(D,lobj [])] (aY js σ) H2 { s2 with heap:=h₁ }:=by
  refine⟨okY,rfl,I2.bare,Un.kept old,⟨_,hns₁,λi x v e1 e2 vis=>?_⟩,hcel,freshH C hDleC,λy c e=>?_,λp hp=>?_,I2.hok.kept old,?_⟩
  ·-- a name of the block that has a value stands outside in a cell
   have e2':(aY js σ)[i]?=some (some v):=e2
   unfold aY at e2'
   rw [List.getElem?_map] at e2'
   cases ej:js[i]? with
   | none=>rw [ej] at e2';cases e2'
   | some o =>
    rw [ej] at e2'
    cases o with
    | none=>cases e2'
    | some j =>
     obtain⟨n1,n2,n3,n4,n5⟩:=K.jok i j x ej e1
     have e3:(σ[j]?).join=some v:=by simpa using e2'
     have e4:σ[j]?=some (some v):=by
      cases q:σ[j]? with
      | none=>rw [q] at e3;cases e3
      | some z=>rw [q] at e3;simpa using e3
     obtain⟨m,hn,hl⟩:=I2.loc
     obtain⟨u,r,l⟩:=hl j x v n1 e4 n3
     refine⟨u,r,.inr ⟨n5,?_⟩⟩
     rcases l with⟨k,_⟩|⟨k,c,ec,z⟩
     ·exact absurd k n4
     ·obtain⟨c',ec'⟩:=Option.isSome_iff_exists.mp n2
      have ee:=K.sub.get x c' ec'
      rw [ec] at ee
      cases ee
      refine⟨c,(eU _ _ _ λy hy hk=>(K.nocell y hy hk).2 (some j,x) ?_ rfl).trans ec',?_⟩
      ·exact List.mem_of_getElem? (i:=i) (by rw [List.getElem?_zip_eq_some];exact⟨ej,e1⟩)
      obtain⟨o,ho,hd⟩:=z
      exact⟨o,old c o ho,hd⟩
  ·rcases cellsX y c e with z | z
   ·exact I2.freeC y c (K.sub.get y c z)
   ·exact freshH c (by omega)
  ·have hp':p∈[(D,lobj [])]:=hp
   have e:p=(D,lobj []):=by simpa using hp'
   subst e
   refine⟨hacc,freshH D (Nat.le_refl _),hDC,λz=>?_,λv z=>by cases z⟩
   rcases List.mem_cons.mp (I2.bA D z) with q | q
   ·exact absurd (q▸I2.lt) (by rw [hDe];exact Nat.lt_irrefl _)
   ·exact I2.nO (by rw [hDe];exact Nat.le_refl _) q
  ·show (aY js σ).length=N'.length
   unfold aY
   rw [List.length_map]
   exact K.jlen
 have hDfs:D∉Y.fs:=λz=>by
  rcases List.mem_cons.mp (I2.bA D z) with q | q
  ·exact absurd (q▸I2.lt) (by rw [hDe];exact Nat.lt_irrefl _)
  ·exact I2.nO (by rw [hDe];exact Nat.le_refl _) q
 have stat:∀{H':Hp} {ys:List Value},(∀ b∈fp,H' b=none)->∀ b∈fp,eW Y [(D,lobj ys)] H' b:=λ{H' ys} hn b hb=>by
  refine⟨hn b hb,Nat.ne_of_lt (Nat.lt_of_lt_of_le (hbelowfp b hb) hDleC),okY.exfs b hb,.inl hb,okY.exf b hb |>.2,λp hp=>?_⟩
  have hp':p∈[(D,lobj ys)]:=hp
  have e:p=(D,lobj ys):=by simpa using hp'
  subst e
  exact Nat.ne_of_gt (hbelowfp b hb)
 have loop:∀ s3:Shared,s3={ s2 with heap:=h₁ } ->
   codeAny (model X.prog X.w) X.A (.compLoop (.ListComp elt (⟨target,iter,ifs,0⟩::rest) scope pos) 0 (.ref it) (.ref D) (compEnvC scope (cellsFrom (C+1) scope.names cl) C X.env)) (compPost (model X.prog X.w) X.A X.xe use Q' (.ref D) C) s3:=by
  rintro s3 rfl
  refine hloop _ _ _ _ _ _ (λn s'=>∃ i ys vys H',Inv Y [(D,lobj ys)] (aY js σ) H' s'/\tn i s'.heap/\(∀ b∈fp,H' b=none)/\Vals vys ys/\W i n vys H') ?_ m0
   ⟨0,[],[],H2,invY0,T.keep _ _ _ st2 λb _ o e=>old b o e,λb hb=>(f2 b hb).1,.nil,w0⟩ λe s' z=>herr C s2 H2 fp use Q' (.ref D) e s' z
  rintro n s4 ⟨i,ys,vys,H4,I4,st4,fr4,rv,w4⟩
  rcases turn i n vys H4 w4 with⟨stop,hz,qn⟩|⟨go,hz,Nn,hN,step⟩
  ·refine aN (T.done Y rfl rfl rfl hcalm i _ s4 _ H4 (Ex C s2 H2 fp) I4 (stat fr4) st4 stop) λr s5 ⟨hr,I5⟩=>?_
   subst hr
   obtain⟨m5,hn5,_⟩:=I5.loc
   obtain⟨pD,nD,_,_,_⟩:=I5.pin (D,lobj ys) (by show _∈[(D,lobj ys)];simp)
   have nC:H4 C=none:=I5.free
   refine hok C D vys H4 s5 ⟨m5,hn5⟩ (Nat.le_refl _) hDleC hDC nD nC (λh' hsb=>?_) (qn D nD)
   have pD':h'.get? D=some (lobj ys):=hsb.extBut _ _ hDC pD
   refine I2.rj (s':={ s5 with heap:=h' }) (ch:=fp) I5.os ?_ ?_ I5.bare (λb hb=>?_)
   ·-- kept
    have u:=I5.base
    have neC:∀ b o,s2.heap.get? b=some o->b≠C/\b≠D:=λb o e=>by
     have:=Heap.lt_size e
     rw [hDe] at this
     exact⟨Nat.ne_of_lt (Nat.lt_of_lt_of_le this hDleC),Nat.ne_of_lt this⟩
    refine⟨λb o e nn hb hx=>hsb.extBut b o (neC b o e).1 (u.keep b o e nn hb hx),λb o e nn hb hx=>?_,λb o e nn hx=>?_,λb o e hx=>?_,λb xs e=>?_,λb o xs e=>?_,λb ps e=>?_⟩
    ·obtain⟨sl,q⟩:=u.slot b o e nn hb hx
     exact⟨sl,hsb.extBut b _ (neC b o e).1 q⟩
    ·rw [aj (neC b o e).2]
     exact u.free b o e nn hx
    ·obtain⟨o',q⟩:=u.there b o e hx
     exact⟨o',hsb.extBut b _ (neC b o e).1 q⟩
    ·rw [aj (aH (u.tups b xs e) nD)]
     exact u.tups b xs e
    ·rw [aj (aH (u.frzs b o xs e) nD)]
     exact u.frzs b o xs e
    ·obtain⟨more,q⟩:=u.tbls b ps e
     exact⟨more,by rw [aj (aH q nD)];exact q⟩
   ·intro b o e
    by_cases hb:b=D
    ·subst hb
     rw [ae] at e
     cases e
     exact⟨hz,ys,_,rv,pD'⟩
    ·rw [aj hb] at e
     refine (I5.hok b o e).cp (λc w' hc q=>hsb.extBut c w' ?_ q) (λc q=>by rw [aj (aH q nD)];exact q) λc xs q=>by rw [aj (aH q nD)];exact q
     rintro rfl
     rcases hc with rfl | hc
     ·rw [nC] at e;cases e
     ·rw [nC] at hc;cases hc
   ·exact⟨(f2 b hb).2.2.2.1,(f2 b hb).2.1,(f2 b hb).2.2.2.2.1,(f2 b hb).2.2.2.2.2⟩
  ·refine aN (T.item Y rfl rfl rfl hcalm i _ s4 _ H4 (Ex C s2 H2 fp) I4 (stat fr4) st4 go) λr s5 ⟨u,hr,h5⟩=>?_
   subst hr
   refine aN h5 λ_ s6 ⟨x,H6,I6,r6,y6,st6,fr6⟩=>?_
   have I6':=I6.pinned (stat fr6) (T.obj _ _ st6)
   refine aN (hg C s2 H2 fp lc _ s6 _ H6 x u _ I6' r6 (step x H6 y6)) λ_ s7 ⟨σ7,H7,I7,k7,q7⟩=>?_
   refine aN (ht C s2 H2 fp lc _ s7 σ7 H7 _ I7 q7) λb s8 ⟨H8,I8,q8⟩=>?_
   -- behind the tests and the element: the state goes back to what the next turn wants
   have again:∀{ys':List Value} {s9:Shared} {H9:Hp},Inv Y ([(D,lobj ys')]++bP fp s6.heap) σ7 H9 s9->Inv Y [(D,lobj ys')] (aY js σ) H9 s9/\tn (i+1) s9.heap/\∀ b∈fp,H9 b=none:=λ{ys' s9 H9} I9=>by
    refine⟨(I9.bY).weak k7.len k7.get,T.keep _ _ _ st6 λb hb o e=>(I9.pin (b,o) (List.mem_append_right _ (List.mem_append_right _ (aW hb e)))).1,λb hb=>?_⟩
    obtain⟨o,e,d⟩:=T.obj _ _ st6 b hb
    exact (I9.pin (b,o) (List.mem_append_right _ (List.mem_append_right _ (aW hb e)))).2.1
   cases b with
   | false =>
    rw [if_neg Bool.false_ne_true] at q8 ⊢
    obtain⟨m',hm,w8⟩:=hN _ _ q8
    obtain⟨J8,t8,f8⟩:=again I8
    exact⟨m',hm,i+1,ys,vys,H8,J8,t8,f8,rv,w8⟩
   | true =>
    rw [if_pos rfl] at q8 ⊢
    have aok:dD Y D (bP fp s6.heap):=⟨λp hp z=>absurd (hbelowfp p.1 (cQ hp).1) (by rw [z];exact Nat.lt_irrefl _),by show s2.heap.objs.size<=D;rw [hDe];exact Nat.le_refl _,λx c e=>cellNe x c e⟩
    refine hB C s2 H2 fp lc D ys vys _ σ7 H8 s8 Nn _ I8 rv aok hz q8 λys' vys' H9 s9 I9 rv' q9=>?_
    obtain⟨J9,t9,f9⟩:=again I9
    obtain⟨m',hm,w9⟩:=hN _ _ q9
    exact⟨m',hm,i+1,ys',vys',H9,J9,t9,f9,rv',w9⟩
 exact codeAny_compStart_list (loop _ rfl) (T.self _ 0 _ _ _ (T.keep _ _ _ st2 λb _ o e=>old b o e) (loop _ rfl))
theorem pO {Y:Cx} {D:Addr} {ys:List Value} {P:List (Addr × Obj)} {σ:St} {H:Hp} {s:Shared} {y:Value} {Q:Value->Shared->Prop} {E:Value->Shared->Prop} (hpn:Y.pn=[]) (I:Inv Y ([(D,lobj ys)]++P) σ H s) (ok:dD Y D P) (z:ys.length<sizeLine)
  (q:∀ s',Inv Y ([(D,lobj (ys++[y]))]++P) σ H s'->Q .none s'):wpAny (model Y.prog Y.w) Y.A (call (.builtin "list.append") [.ref D,y]) Q E s:=by
 obtain⟨pD,nD,neD,nfD,_⟩:=I.pin (D,lobj ys) (by rw [hpn];simp)
 refine append_at (hsz:=by show ys.toArray.size<=sizeLine;rw [List.size_toArray];exact Nat.le_of_lt z) (show s.heap.get? D=some { cls:=.type "list",data:=.seq ys.toArray ys.length } from pD) λh' hsb hD'=>q _ ?_
 have eD:h'.get? D=some (lobj (ys++[y])):=by
  rw [hD']
  unfold lobj
  rw [List.length_append,List.length_singleton,List.push_toArray]
 have J1:Inv Y P σ H s:=I.cR λp hp=>I.pin p (List.mem_append_right _ (List.mem_append_right _ hp))
 have J2:Inv Y P σ H { s with heap:=h' }:=J1.turned (t':=s.toks) (it:=D) (λb o hb e=>hsb.extBut b o hb e) nD neD (.inr ok.new) ok.cell λp hp=>ok.ne p (by rw [hpn] at hp;simpa using hp)
 refine J2.cR λp hp=>?_
 rcases List.mem_append.mp hp with hp | hp
 ·have e:p=(D,lobj (ys++[y])):=by simpa using hp
  subst e
  exact⟨eD,nD,neD,nfD,λv z=>by cases z⟩
 ·exact J2.pin p (List.mem_append_right _ hp)
theorem mH {Y:Cx} {D:Addr} {ys:List Value} {vys:List V} {P:List (Addr × Obj)} {σ:St} {H:Hp} {s:Shared} {elt:Expr} {te:TE} {N:List V->Hp->Prop} {Ps:Shared->Prop} (hpn:Y.pn=[]) (he:PE Y elt te) (I:Inv Y ([(D,lobj ys)]++P) σ H s) (rv:Vals vys ys) (ok:dD Y D P) (z:vys.length<sizeLine) (q:te σ H λv H4=>N (vys++[v]) H4)
  (k:∀ ys' vys' H' s',Inv Y ([(D,lobj ys')]++P) σ H' s'->Vals vys' ys'->N vys' H'->Ps s'):wpAny (model Y.prog Y.w) Y.A (kB elt (.ref D) Y.env) (λ_ s'=>Ps s') Y.xe s:=by
 unfold kB
 refine wpAny_bind (aN (he _ s σ H _ I q) λy s9 ⟨vy,H9,I9,r9,q9⟩=>?_)
 exact wpAny_bind (pO hpn I9 ok (by rw [<- rv.length];exact z) λs' I'=>wpAny_pure (k _ _ _ _ I' (rv.append (.cons r9 .nil)) q9))
theorem qe {X:Cx} {Ex:Addr->Shared->Hp->List Addr->Value->Shared->Prop} {elt target iter:Expr} {ifs:List Expr} {scope:Scope} {pos:Pos} {N':List Str} {js:List (Option Nat)} {cl:List (Str × Addr)} {g:TG} {tt:TT} {te:TE} (hcalm:X.calm=true)
  (K:du X N' js scope cl)
  (hg:∀ C s₂ H₂ fp,eX X C s₂ H₂ fp->PG (aP X (Ex C s₂ H₂ fp) N' scope cl C s₂ H₂ fp) target g) (ht:∀ C s₂ H₂ fp,eX X C s₂ H₂ fp->gO (aP X (Ex C s₂ H₂ fp) N' scope cl C s₂ H₂ fp) ifs tt) (he:∀ C s₂ H₂ fp,eX X C s₂ H₂ fp->PE (aP X (Ex C s₂ H₂ fp) N' scope cl C s₂ H₂ fp) elt te)
  (herr:∀ C s₂ H₂ fp use Q' acc e s',Ex C s₂ H₂ fp e s'->notedBy (model X.prog X.w) X.A (compEnvC scope (cellsFrom (C+1) scope.names cl) C X.env) (λe s''=>compPost (model X.prog X.w) X.A X.xe use Q' acc C (.error e) s'') e s')
  {pins:List (Addr × Obj)} {σ:St} {Q:VK} {use:Option (Value->Sem Unit)} {Q':Value->Shared->Prop} {itv:Value} {s2:Shared}
  (h2:uP X pins σ target (λJ H1=>∃ W:Nat->Nat->List V->Hp->Prop,(∃ m,W 0 m [] H1)/\∀ i m ys H,W i m ys H ->
 (J.stop i H/\ys.length<=sizeLine/\∀ p,H p=none->Q (.ref p) (upd H p (.lst ys))) ∨
 (J.go i H/\ys.length<sizeLine/\∃ N:List V->Hp->Prop,(∀ ys' H',N ys' H'->∃ m',m'<m/\W (i+1) m' ys' H') /\
  ∀ x H',J.yld i H x H'->g x (aY js σ) H' λσ2 H2=>aO (aY js σ) σ2/\tt σ2 H2 λb H3=>if b=true then te σ2 H3 λv H4=>N (ys++[v]) H4 else N ys H3)) itv s2)
  (hok:∀ C D vys H4 s5,(∃ m,s5.heap.Ns C m)->s2.heap.objs.size<=D->D<=C->D≠C->H4 D=none->H4 C=none->(∀ h',Heap.SameBut C s5.heap h'->Inv X pins σ (upd H4 D (.lst vys)) { s5 with heap:=h' })->Q (.ref D) (upd H4 D (.lst vys))->compPost (model X.prog X.w) X.A X.xe use Q' (.ref D) C (.ok .next) s5) :
  wpAny (model X.prog X.w) X.A (newList []) (λacc s₃=>wpAny (model X.prog X.w) X.A (newFunctionEnv scope X.env.globals cl [] X.env.qual none .none (some X.env)) (λcenv s₄ =>
   codeAny (model X.prog X.w) X.A (.compStart (.ListComp elt [⟨target,iter,ifs,0⟩] scope pos) 0 itv acc { cenv with scope:=relabel scope X.env }) (compPost (model X.prog X.w) X.A X.xe use Q' acc cenv.locals) s₄) X.xe s₃) X.xe s2 :=
 tK (Bd:=λEx acc env Ps s=>wpAny (model X.prog X.w) X.A (kB elt acc env) (λ_ s'=>Ps s') Ex s) (Cc:=λys=>ys.length<sizeLine) (tb:=λys σ2 H3 N=>te σ2 H3 λv H4=>N (ys++[v]) H4) hcalm
  (λ_ _ _ it acc env I turn n h hE=>gW I (ph elt target iter ifs scope pos it acc env) turn n h hE) K hg ht
  (λC s₂ H₂ fp lc D ys vys P σ H s N Ps I rv ok z q k=>mH rfl (he C s₂ H₂ fp lc) I rv ok z q k) herr h2 hok
theorem jt {X:Cx} {elt target iter:Expr} {ifs:List Expr} {scope:Scope} {pos:Pos} {N':List Str} {js:List (Option Nat)} {cl:List (Str × Addr)} {wi:TI} {g:TG} {tt:TT} {te:TE} (hcalm:X.calm=true)
  (K:du X N' js scope cl) (hi:PI X target iter wi)
  (hg:∀ C s₂ H₂ fp,PG (bE X N' scope cl C s₂ H₂ fp) target g) (ht:∀ C s₂ H₂ fp,gO (bE X N' scope cl C s₂ H₂ fp) ifs tt) (he:∀ C s₂ H₂ fp,PE (bE X N' scope cl C s₂ H₂ fp) elt te)
  (hs:∀ x,foldedSetIterable iter X.env x=pure x:=by intro _;rfl):PE X (.ListComp elt [⟨target,iter,ifs,0⟩] scope pos) (xV js wi g tt te):=by
 intro pins s σ H Q I h
 rw [eval_ListComp]
 refine wpAny_comprehension_free (use:=none) rfl hs K.clos K.kind K.names (aN (hi pins s σ H _ I h) λv s1 h1=>aN h1 λitv s2 h2=>?_)
 exact qe (Ex:=λ_ _ _ _ _ _=>False) hcalm K (λC s H f _=>hg C s H f) (λC s H f _=>ht C s H f) (λC s H f _=>he C s H f) (λ_ _ _ _ _ _ _ _ _ z=>z.elim) h2 λC D vys H4 s5 ⟨m,hn⟩ _ _ _ _ _ hI q=>⟨m,hn,λh' hsb=>⟨.ref D,_,hI h' hsb,rfl,q⟩⟩
def Bd (i:Int):Prop:=i.natAbs<2^4000
theorem mG:(10:Nat)^250<=2^4000:=by decide +kernel
theorem Bd.of {i:Int} (h1:-(10^250)<i) (h2:i<10^250):Bd i:=by
 refine Nat.lt_of_lt_of_le ?_ mG
 have:((10:Nat)^250:Nat)=((10:Int)^250).toNat:=by decide +kernel
 rw [this]
 omega
theorem Bd.mono {i j:Int} (h:Bd j) (h':i.natAbs<=j.natAbs):Bd i:=Nat.lt_of_le_of_lt h' h
theorem Bd.bits {i:Int} (h:Bd i):Builtin.Int.intBits i<=2^20 :=
 Nat.le_trans (intBits_le h) (by decide)
theorem Bd.xQ {i j:Int} (h:Bd j):Builtin.divisionGoesByPylong i j=false:=by
 refine PyProof.noPylong_of_log2 ?_
 by_cases z:j.natAbs=0
 ·rw [z];decide
 ·exact Nat.lt_of_lt_of_le ((Nat.log2_lt z).mpr h) (by decide)
section
variable {X:Cx}
theorem aD:eS X (binaryOp .Mult) (rI (λi j=>Bd i/\Bd j) λi j=>.int (i*j)):=vD λ_ _ _ _ _ _ _ hc q=>mul_int q (IntMulOk.of_bits hc.1.bits hc.2.bits)
theorem b0:eS X (binaryOp .FloorDiv) (rI (λ_ j=>0<j/\Bd j) λi j=>.int (i/j)):=vD λi j _ _ _ _ _ hc q=>by
 have h1:(0:Int)<j:=hc.1
 exact floordiv_int (by omega) (by rw [Int.fdiv_eq_ediv_of_nonneg i (by omega)];exact q) (.inl hc.2.xQ)
theorem nh:eS X (inplaceOp .FloorDiv) (rI (λ_ j=>0<j/\Bd j) λi j=>.int (i/j)):=vD λi j _ _ _ _ _ hc q=>by
 have h1:(0:Int)<j:=hc.1
 exact ifloordiv_int (by omega) (by rw [Int.fdiv_eq_ediv_of_nonneg i (by omega)];exact q) (.inl hc.2.xQ)
theorem ni:eS X (inplaceOp .Mult) (rI (λi j=>Bd i/\Bd j) λi j=>.int (i*j)):=vD λ_ _ _ _ _ _ _ hc q=>imul_int q (IntMulOk.of_bits hc.1.bits hc.2.bits)
theorem rJ {op:Operator} {r:R2} (ho:eS X (inplaceOp op) r):xM X op r:=λpins s σ H x y v u Q I r1 r2 h=>ho pins s σ H x y v u Q I r1 r2 h
def su (i j k:Nat) (ta:TA):TS:=λD σ H=>ta σ H λvs H1=>∃ v w u,vs=[v,w,u]/\D.nx (((σ.set i (some v)).set j (some w)).set k (some u)) H1
theorem kY {i j k:Nat} {x y z:Str} {a b c:Expr} {ta:TA} {px py pz pt pos:Pos} {kt k2 pt2} (hc:X.calm=true) (hN:X.N.Nodup) (hi:X.N[i]?=some x) (hj:X.N[j]?=some y) (hk:X.N[k]?=some z) (hij:i≠j) (hik:i≠k) (hjk:j≠k)
  (hx:X.env.scope.names.lookup x=some .local) (hy:X.env.scope.names.lookup y=some .local) (hz:X.env.scope.names.lookup z=some .local) (ha:PA X [a,b,c] ta)
  (hw:swappedStores [.Tuple [.Name x px,.Name y py,.Name z pz] kt pt] (.Tuple [a,b,c] k2 pt2) X.env=pure (some [x,y,z]))
  (hs:swapsWithSole [.Tuple [.Name x px,.Name y py,.Name z pz] kt pt] (.Tuple [a,b,c] k2 pt2) pos.line X.env=pure false:=by rfl) :
  PS X (.Assign [.Tuple [.Name x px,.Name y py,.Name z pz] kt pt] (.Tuple [a,b,c] k2 pt2) pos) (su i j k ta):=by
 intro pins s σ H D I h
 rw [exec_Assign_arm]
 refine wpAny_bind (wpAny_standAt ?_)
 rw [hs]
 refine wpAny_bind (wpAny_pure ?_)
 rw [if_neg (by decide)]
 refine wpAny_bind (Tuple_ (aN (ha _ pins s σ H _ I h) λus s1 ⟨vs,H1,I1,r1,q1⟩=>?_))
 obtain⟨v,w,u,e1,q1⟩:=q1
 subst e1
 obtain⟨u1,u2,u3,rfl,rv,rw',ru⟩:∃ u1 u2 u3,us=[u1,u2,u3]/\RelV v u1/\RelV w u2/\RelV u u3:=by
  cases r1 with
  | cons p q =>
   cases q with
   | cons p' q' =>
    cases q' with
    | cons p'' q'' =>
     cases q''
     exact⟨_,_,_,rfl,p,p',p''⟩
 refine wpAny_newObj_type ?_ (by show 3<=sizeLine;decide)
 have I2:Inv X pins σ H1 { s1 with heap:=s1.heap.push { cls:=.type "tuple",data:=.seq [u1,u2,u3].toArray } }:=I1.kept (t':=s1.toks) λb o e=>Heap.get?_push_of_some _ e
 rw [hw]
 refine wpAny_bind (wpAny_pure ?_)
 show wpAny (model X.prog X.w) X.A (do rule "assign.swapped-stores";let items <- unpackItems (.ref s1.heap.objs.size) 3 none;assignInOrder [λv=>bindName X.env z v,λv=>bindName X.env y v,λv=>bindName X.env x v] items.reverse;pure Flow.next) _ _ _
 refine wpAny_bind (wpAny_rule (wpAny_bind (unpackItems_tuple (items:=#[u1,u2,u3]) (I.ok.hd hc) (IsTup.new s1.heap _) λh' hx'=>?_)))
 have I3:=I2.kept (h':=h') (t':=s1.toks) λb o e=>hx' b o (Nat.ne_of_lt (Heap.lt_size e)) e
 show wpAny _ _ (assignInOrder [λv=>bindName X.env z v,λv=>bindName X.env y v,λv=>bindName X.env x v] [u3,u2,u1] >>= λ_=>pure Flow.next) _ _ _
 refine wpAny_bind (assignInOrder_cons (wpAny_bindName (bo I3 hN hk (.inl hz) ru (λs2 I4=>?_) (.inr hz))))
 refine assignInOrder_cons (wpAny_bindName (bo I4 hN hj (.inl hy) rw' (λs3 I5=>?_) (.inr hy)))
 refine assignInOrder_cons (wpAny_bindName (bo I5 hN hi (.inl hx) rv (λs4 I6=>assignInOrder_nil (wpAny_pure ?_)) (.inr hx)))
 have e:((σ.set k (some u)).set j (some w)).set i (some v)=((σ.set i (some v)).set j (some w)).set k (some u):=by
  rw [List.set_comm _ _ (Ne.symm hij),List.set_comm _ _ (Ne.symm hik),List.set_comm _ _ (Ne.symm hjk)]
 rw [e] at I6
 exact⟨_,H1,I6,q1⟩
end
def av (K:PySem.W.Frag) (mg:Str->Option Value) (x:Str) (st:Stmt):Prop:=∃ f fd,pG K x x st f fd/\mg x=some (.ref f)
structure Callee (P:Program) (w:World) (K:PySem.W.Frag) (mg:Str->Option Value) (base:Heap) (CX:fN) (k:Nat) (x:Str) (ps:List Str) (sp:Sp):Prop where
 ex:∃ f fd,bB P w K mg base CX k f fd ps sp/\mg x=some (.ref f)/\PySem.W.keepIn K (.ref f)=true/\Binds K fd ps []
section
variable {P:Program} {w:World} {K:PySem.W.Frag} {mg:Str->Option Value} {base:Heap} {CX:fN} {k:Nat} {x:Str} {ps:List Str} {sp:Sp}
theorem Callee.imp {sp':Sp} (C:Callee P w K mg base CX k x ps sp) (h:∀ vs H Q E,sp' vs H Q E->sp vs H Q E):Callee P w K mg base CX k x ps sp':=by
 obtain⟨f,fd,F,a,b,c⟩:=C.ex
 exact⟨f,fd,F.imp h,a,b,c⟩
theorem Callee.mono {j:Nat} (C:Callee P w K mg base CX k x ps sp) (h:k<=j):Callee P w K mg base CX j x ps sp:=by
 obtain⟨f,fd,F,a,b,c⟩:=C.ex
 exact⟨f,fd,F.mono h,a,b,c⟩
theorem bb {X:Cx} {E:XK} {e:Expr} {es:List Expr} {t:TA} {p pos:Pos} (C:Callee X.prog X.w X.K X.mg X.base CX k x ps sp) (hr:a4 k X.A) (hg:Gl X x) (hx:Passes CX X E)
  (ha:PA X (e::es) t) (hdb:(x==("__debug__":Str))=false:=by decide) (he:starEach (e::es) X.env=(false,eval e X.env)::starEach es X.env:=by rfl) (hpl:(backTo pos (starEach es X.env)).any (·.1)=false:=by rfl) :
  PE X (.Call (.Name x p) (e::es) [] pos) (lq sp [] E t):=by
 obtain⟨f,fd,F,hm,hk,hb⟩:=C.ex
 exact qD F hr hg hm hk hb .nil hx ha hdb he hpl
theorem lH {st:Stmt} {N:List Str} (D:av K mg x st)
  (hb:∀(kV doc pm:Value) (an:Option Addr) (cdv ct:Value) (us:List Value),us.length=ps.length->bindArgs (PySem.W.fnOf x x (aX st) (aE st) (ai st) .none kV doc pm an cdv ct) ⟨us,[]⟩=pure (ps.zip us))
  (S:ar N ps (ai st)) (len:∀ vs H Q E,sp vs H Q E->vs.length=ps.length)
  (hbody:∀(f:Addr) (cdv:Value) (A:Around) (outer:List Env) (s:Shared) (H:Hp) (vs:List V) (Q:VK) (E:XK),a4 k (A.deeper (envOfC x (ai st) s.heap.objs.size f cdv))->sp vs H Q E ->
   ∃ t,eY (bZ aZ P w K mg base N x (ai st) f cdv A outer s H E).j8 (aE st) t/\t { nx:=λ_ H'=>Q .non H',rt:=Q } (start N vs) H):Callee P w K mg base aZ (k+1) x ps sp:=by
 obtain⟨f,fd,F,hm⟩:=D
 exact⟨f,fd,F.ok S len λcdv A outer s H vs Q E hr h=>hbody f cdv A outer s H vs Q E hr h,hm,F.kp,F.binds hb⟩
theorem mM {h:Heap} {f:Addr} {st:Stmt} {oc:Value} {od an:Option Addr} {osl:Array (Option Value)} {kV doc pm cdv ct:Value} (X:K.In h) (G:h.Ns mainGlobals mg)
  (a:PySem.W.nsIn K mainGlobals x=some (some (.ref f))) (l:K.lookup f=some ⟨oc,od,.func (PySem.W.fnOf x x (aX st) (aE st) (ai st) .none kV doc pm an cdv ct),osl⟩)
  (c:PySem.W.codeIn K cdv x=true) (kk:PySem.W.keepIn K (.ref f)=true):av K mg x st:=⟨f,_,mT l c kk,PySem.W.mg_of X G a⟩
end
def dX (cl:List (Str × Addr)):List (Str × NameKind)->Prop
 | []=>True
 | y::r=>(match y.2 with | .free=>(cl.lookup y.1).isSome=true | _=>True)/\dX cl r
theorem dX.get {cl:List (Str × Addr)}:∀{l:List (Str × NameKind)},dX cl l->∀ y∈l,y.2=.free->(cl.lookup y.1).isSome=true
 | [],_,_,h,_=>nomatch h
 | z::r,a,y,h,e=>by
  rcases List.mem_cons.mp h with q | q
  ·subst q
   have:=a.1
   rw [e] at this
   exact this
  ·exact dX.get a.2 y q e
def dF (X:Cx) (scope:Scope) (cl:List (Str × Addr)):List (Option Nat)->List Str->Prop
 | none::r,_::n=>dF X scope cl r n
 | some j::r,x::n=>(X.N[j]?=some x/\(cl.lookup x).isSome=true/\(X.env.scope.names.lookup x=some .cell∨X.env.scope.names.lookup x=some .free)/\((relabel scope X.env).names.lookup x=some .cell∨(relabel scope X.env).names.lookup x=some .free))/\dF X scope cl r n
 | [],[]=>True
 | _,_=>False
theorem dF.len {X:Cx} {scope:Scope} {cl:List (Str × Addr)}:∀{js:List (Option Nat)} {N:List Str},dF X scope cl js N->js.length=N.length
 | [],[],_=>rfl
 | none::r,_::n,h=>by
  have h':dF X scope cl r n:=h
  simp [dF.len h']
 | some j::r,x::n,h=>by
  have h':dF X scope cl r n:=h.2
  simp [dF.len h']
 | [],_::_,h=>h.elim
 | none::_,[],h=>h.elim
 | some _::_,[],h=>h.elim
theorem dF.get {X:Cx} {scope:Scope} {cl:List (Str × Addr)}:∀{js:List (Option Nat)} {N:List Str},dF X scope cl js N->∀(i j:Nat) x,js[i]?=some (some j)->N[i]?=some x ->
  X.N[j]?=some x/\(cl.lookup x).isSome=true/\uE X.env.scope x/\X.env.kindOf x≠some .local/\((relabel scope X.env).names.lookup x=some .cell∨(relabel scope X.env).names.lookup x=some .free)
 | [],[],_,i,j,x,e,_=>by simp at e
 | none::r,y::n,h,0,j,x,e,_=>by simp at e
 | none::r,y::n,h,i+1,j,x,e,e2=>dF.get (js:=r) (N:=n) h i j x (by simpa using e) (by simpa using e2)
 | some k::r,y::n,h,0,j,x,e,e2=>by
  have q:k=j:=by simpa using e
  have q2:y=x:=by simpa using e2
  subst q;subst q2
  obtain⟨a,b,c,d⟩:=h.1
  refine⟨a,b,?_,?_,d⟩
  ·rcases c with c | c
   ·exact .inr (.inl c)
   ·exact .inr (.inr c)
  ·intro z
   have z':X.env.scope.names.lookup y=some .local:=z
   rcases c with c | c
   ·rw [c] at z';cases z'
   ·rw [c] at z';cases z'
 | some k::r,y::n,h,i+1,j,x,e,e2=>dF.get (js:=r) (N:=n) h.2 i j x (by simpa using e) (by simpa using e2)
 | [],_::_,h,_,_,_,_,_=>h.elim
 | none::_,[],h,_,_,_,_,_=>h.elim
 | some _::_,[],h,_,_,_,_,_=>h.elim
theorem sX {X:Cx} {N':List Str} {js:List (Option Nat)} {scope:Scope} {cl:List (Str × Addr)} (clos:closureFor scope X.env=pure cl) (kind:scope.kind=.function) (nocell:∀ y∈scope.names,y.2=.cell->scope.names.lookup y.1=some .cell/\∀ p∈js.zip N',p.1.isSome=true->p.2≠y.1)
  (names:∀ y∈scope.names,y.2=.local->scope.names.lookup y.1=some .local) (sub:AllIn X.env cl) (has:dX cl scope.names) (j:dF X scope cl js N'):du X N' js scope cl :=
 ⟨clos,kind,nocell,names,sub,has.get,j.len,j.get⟩
theorem boot_bool:bootBuiltins "bool"=some (.type "bool"):=by decide +kernel
theorem boot_tuple:bootBuiltins "tuple"=some (.type "tuple"):=by decide +kernel
theorem boot_list:bootBuiltins "list"=some (.type "list"):=by decide +kernel
theorem boot_abs:bootBuiltins "abs"=some (.builtin "abs"):=by decide +kernel
theorem boot_max:bootBuiltins "max"=some (.builtin "max"):=by decide +kernel
theorem boot_min:bootBuiltins "min"=some (.builtin "min"):=by decide +kernel
theorem ao {H:Hp} {p:Addr} {o:HO} (h:H p=none):aA H (upd H p o):=λb u q=>by rw [aj (aH q h)];exact q
theorem br {α:Type} {c:TT} {tb:TS} {D:Ends} {σ:St} {H:Hp} (S:α->St) (Pv:α->Hp->Prop) (μ:α->Nat) (x₀:α) (hσ:σ=S x₀) (h0:Pv x₀ H)
  (hs:∀ x H,Pv x H->c (S x) H λb H1=>if b=true then (∃ N:St->Hp->Prop,(∀ σ' H',N σ' H'->∃ y,σ'=S y/\Pv y H'/\μ y<μ x)/\tb { D with nx:=N,ct:=N,bk:=D.nx } (S x) H1) else D.nx (S x) H1):pd c tb D σ H:=by
 subst hσ
 refine⟨λm σ H=>∃ x,σ=S x/\Pv x H/\m=μ x,⟨_,x₀,rfl,h0,rfl⟩,?_⟩
 rintro m σ H ⟨x,rfl,p,rfl⟩
 have q:=hs x H p
 have e:(λb H1=>if b=true then (∃ N:St->Hp->Prop,(∀ σ' H',N σ' H'->∃ y,σ'=S y/\Pv y H'/\μ y<μ x)/\tb { D with nx:=N,ct:=N,bk:=D.nx } (S x) H1) else D.nx (S x) H1) =
   (λb H1=>if b=true then (∃ N:St->Hp->Prop,(∀ σ' H',N σ' H'->∃ m',m'<μ x/\∃ y,σ'=S y/\Pv y H'/\m'=μ y)/\tb { D with nx:=N,ct:=N,bk:=D.nx } (S x) H1) else D.nx (S x) H1):=by
  funext b H1
  cases b with
  | false=>rfl
  | true =>
   simp only [if_true]
   refine propext ⟨fun⟨N,hN,z⟩=>⟨N,λσ' H' n=>?_,z⟩,fun⟨N,hN,z⟩=>⟨N,λσ' H' n=>?_,z⟩⟩
   ·obtain⟨y,e1,e2,e3⟩:=hN σ' H' n
    exact⟨_,e3,y,e1,e2,rfl⟩
   ·obtain⟨m',l,y,e1,e2,e3⟩:=hN σ' H' n
    exact⟨y,e1,e2,e3▸l⟩
 rw [e] at q
 exact q
end L2
namespace Gcd
structure J (A B g u v ng nu nv:Int):Prop where
 g0:0<=g
 n0:0<=ng
 e1:u*A+v*B=g
 e2:nu*A+nv*B=ng
 ex:∃ s U NU V NV:Int,(s=1∨s = -1)/\0<=U/\0<=NU/\0<=V/\0<=NV/\u=s*U/\nu = -s*NU/\v = -s*V/\nv=s*NV/\g*NU+ng*U=B/\g*NV+ng*V=A /\
  (U<=1∨U<=B)/\(NU<=1∨NU<=B)/\(V<=1∨V<=A)/\(NV<=1∨NV<=A)
theorem J.start {A B:Int} (ha:0<=A) (hb:0<=B):J A B A 1 0 B 0 1 :=
 ⟨ha,hb,by grind,by grind,1,1,0,0,1,.inl rfl,by decide,by decide,by decide,by decide,by grind,by grind,by grind,by grind,by grind,by grind,.inl (by decide),.inl (by decide),.inl (by decide),.inl (by decide)⟩
theorem gp {n x B:Int} (hn:0<n) (hx:0<=x) (h:n*x<=B):x<=B:=by
 have:1*x<=n*x:=Int.mul_le_mul_of_nonneg_right hn hx
 omega
theorem J.turn {A B g u v ng nu nv:Int} (j:J A B g u v ng nu nv) (hn:0<ng) :
  J A B ng nu nv (g-g/ng*ng) (u-g/ng*nu) (v-g/ng*nv)/\(g-g/ng*ng)<ng/\0<=g/ng/\g/ng<=g:=by
 have q0:0<=g/ng:=Int.ediv_nonneg j.g0 j.n0
 have r:=Int.emod_def g ng
 have r0:=Int.emod_nonneg g (show ng≠0 by omega)
 have r1:=Int.emod_lt_of_pos g hn
 have ql:g/ng<=g:=Int.ediv_le_self ng j.g0
 have e1:=j.e1
 have e2:=j.e2
 have hc:g/ng*ng=ng*(g/ng):=Int.mul_comm _ _
 generalize g/ng=q at *
 obtain⟨s,U,NU,V,NV,hs,hU,hNU,hV,hNV,eu,enu,ev,env,b1,b2,l1,l2,l3,l4⟩:=j.ex
 have hqNU:0<=q*NU:=Int.mul_nonneg q0 hNU
 have hqNV:0<=q*NV:=Int.mul_nonneg q0 hNV
 have rr:0<=g-q*ng:=by omega
 have i1:ng*(U+q*NU)+(g-q*ng)*NU=B:=by grind
 have i2:ng*(V+q*NV)+(g-q*ng)*NV=A:=by grind
 have n1:0<=(g-q*ng)*NU:=Int.mul_nonneg rr hNU
 have n2:0<=(g-q*ng)*NV:=Int.mul_nonneg rr hNV
 refine⟨⟨j.n0,rr,e2,by grind,-s,NU,U+q*NU,NV,V+q*NV,by omega,hNU,by omega,hNV,by omega,by grind,by grind,by grind,by grind,i1,i2,l2,.inr (gp hn (by omega) (by omega)),l4,.inr (gp hn (by omega) (by omega))⟩,by omega,q0,ql⟩
structure wt (a b g u v:Int):Prop where
 g0:0<=g
 lin:u*a+v*b=g
 da:g∣a
 db:g∣b
 bu:u.natAbs<=max 1 b.natAbs
 bv:v.natAbs<=max 1 a.natAbs
theorem uU {s U u:Int} (hs:s=1∨s = -1) (hU:0<=U) (e:u=s*U):u.natAbs=U.toNat:=by
 rcases hs with rfl | rfl<;>omega
theorem uT {s V v:Int} (hs:s=1∨s = -1) (hV:0<=V) (e:v = -s*V):v.natAbs=V.toNat:=by
 rcases hs with rfl | rfl<;>omega
theorem m6 {a u:Int}:(if a<0 then -u else u).natAbs=u.natAbs:=by
 split
 ·exact Int.natAbs_neg u
 ·rfl
theorem m9 {a u:Int}:(if a<0 then -u else u)*a=u*(if a<0 then -a else a):=by
 split
 ·rw [Int.neg_mul,Int.mul_neg]
 ·rfl
theorem m7 {a g:Int} (h:g∣if a<0 then -a else a):g∣a:=by
 split at h
 ·exact Int.dvd_neg.mp h
 ·exact h
theorem m8 {U b:Int} (h:U<=1∨U<=if b<0 then -b else b):U.toNat<=max 1 b.natAbs:=by
 split at h<;>omega
theorem J.done {a b g u v nu nv:Int} (j:J (if a<0 then -a else a) (if b<0 then -b else b) g u v 0 nu nv):wt a b g (if a<0 then -u else u) (if b<0 then -v else v):=by
 have e1:=j.e1
 obtain⟨s,U,NU,V,NV,hs,hU,hNU,hV,hNV,eu,enu,ev,env,b1,b2,l1,l2,l3,l4⟩:=j.ex
 refine⟨j.g0,by rw [m9,m9];exact e1,m7 ⟨NV,by rw [<- b2,Int.zero_mul,Int.add_zero]⟩,m7 ⟨NU,by rw [<- b1,Int.zero_mul,Int.add_zero]⟩,?_,?_⟩
 ·rw [m6,uU hs hU eu]
  exact m8 l1
 ·rw [m6,uT hs hV ev]
  exact m8 l3
theorem J.small {A B g u v ng nu nv M:Int} (j:J A B g u v ng nu nv) (hA:0<=A) (hB:0<=B) (hAM:A<=M) (hBM:B<=M) (hM:1<=M):(-M<=u/\u<=M)/\(-M<=v/\v<=M)/\(-M<=nu/\nu<=M)/\(-M<=nv/\nv<=M):=by
 obtain⟨s,U,NU,V,NV,hs,hU,hNU,hV,hNV,eu,enu,ev,env,b1,b2,l1,l2,l3,l4⟩:=j.ex
 rcases hs with rfl | rfl
 ·refine⟨⟨?_,?_⟩,⟨?_,?_⟩,⟨?_,?_⟩,⟨?_,?_⟩⟩<;>omega
 ·refine⟨⟨?_,?_⟩,⟨?_,?_⟩,⟨?_,?_⟩,⟨?_,?_⟩⟩<;>omega
end Gcd
namespace L2
open PySem PySem.Spec PyProof.Rows
theorem aA.upd {H H1:Hp} {p:Addr} {o:HO} (h:aA H H1) (hp:H p=none):aA H (upd H1 p o):=λb u q=>by rw [aj (aH q hp)];exact h b u q
theorem sR {α:Type} {xs:List α} {k:Int} (h0:0<=k) (h1:k<xs.length):∃ v,lC xs k=some v/\xs[k.toNat]?=some v:=by
 have hk:k.toNat<xs.length:=by omega
 refine⟨xs[k.toNat],?_,List.getElem?_eq_getElem hk⟩
 have:=pQ (xs:=xs) (j:=k.toNat) (List.getElem?_eq_getElem hk)
 rwa [Int.toNat_of_nonneg h0] at this
theorem ib {K:PySem.W.Frag} {H:Hp} {p:Addr} {xs:List V} {k:Int} {Q:VK} (h:aT K H p xs) (h0:0<=k) (h1:k<xs.length) (q:∀ v∈xs,Q v H):uh K (.ref p) (.int k) H Q:=by
 obtain⟨v,e,e2⟩:=sR h0 h1
 exact⟨p,xs,k,v,rfl,rfl,h,e,q v (List.mem_of_getElem? e2)⟩
def Loop (J:It) (g:TG) (tb:TS) (D:Ends) (σ:St) (H:Hp):Prop:=∃ W:Nat->Nat->St->Hp->Prop,(∃ m,W 0 m σ H)/\∀ i m σ H,W i m σ H ->
 (J.stop i H/\D.nx σ H)∨(J.go i H/\∃ N:St->Hp->Prop,(∀ σ' H',N σ' H'->∃ m',m'<m/\W (i+1) m' σ' H')/\∀ x H',J.yld i H x H'->g x σ H' λσ2 H2=>tb { D with nx:=N,ct:=N,bk:=D.nx } σ2 H2)
theorem qW {wi:TI} {g:TG} {tb:TS} {D:Ends} {σ:St} {H:Hp}:wb wi g tb D σ H=wi σ H λJ H1=>Loop J g tb D σ H1:=rfl
theorem fq {lo:Int} {n:Nat} {g:TG} {tb:TS} {D:Ends} {σ:St} {H:Hp} (Pv:Nat->St->Hp->Prop) (h0:Pv 0 σ H)
  (hs:∀ i σ H,i<n->Pv i σ H->g (.int (lo+i)) σ H λσ2 H2=>tb { D with nx:=Pv (i+1),ct:=Pv (i+1),bk:=D.nx } σ2 H2) (hd:∀ σ H,Pv n σ H->D.nx σ H):Loop (rg lo n) g tb D σ H:=lK Pv h0 hs hd
theorem bV {K:PySem.W.Frag} {a:Addr} {xs:List V} {g:TG} {tb:TS} {D:Ends} {σ:St} {H:Hp} (Pv:Nat->St->Hp->Prop) (h0:Pv 0 σ H) (hl:∀ i σ H,i<=xs.length->Pv i σ H->aT K H a xs)
  (hs:∀ i x σ H,xs[i]?=some x->Pv i σ H->g x σ H λσ2 H2=>tb { D with nx:=Pv (i+1),ct:=Pv (i+1),bk:=D.nx } σ2 H2) (hd:∀ σ H,Pv xs.length σ H->D.nx σ H):Loop (pI K a) g tb D σ H:=mS Pv h0 hl hs hd
theorem nE {K:PySem.W.Frag} {a:Addr} {xs:List V} {g:TG} {tb:TS} {D:Ends} {σ:St} {H:Hp} (Pv:Nat->St->Hp->Prop) (h0:Pv 0 σ H) (hl:∀ i σ H,i<=xs.length->Pv i σ H->a9 K H a xs)
  (hs:∀ i x σ H,xs[i]?=some x->Pv i σ H->g x σ H λσ2 H2=>tb { D with nx:=Pv (i+1),ct:=Pv (i+1),bk:=D.nx } σ2 H2) (hd:∀ σ H,Pv xs.length σ H->D.nx σ H):Loop (sJ K a) g tb D σ H:=pW Pv h0 hl hs hd
def my (J:It) (js:List (Option Nat)) (g:TG) (tt:TT) (te:TE) (σ:St) (Q:VK) (H1:Hp):Prop:=∃ W:Nat->Nat->List V->Hp->Prop,(∃ m,W 0 m [] H1)/\∀ i m ys H,W i m ys H ->
 (J.stop i H/\ys.length<=sizeLine/\∀ p,H p=none->Q (.ref p) (upd H p (.lst ys))) ∨
 (J.go i H/\ys.length<sizeLine/\∃ N:List V->Hp->Prop,(∀ ys' H',N ys' H'->∃ m',m'<m/\W (i+1) m' ys' H') /\
  ∀ x H',J.yld i H x H'->g x (aY js σ) H' λσ2 H2=>aO (aY js σ) σ2/\tt σ2 H2 λb H3=>if b=true then te σ2 H3 λv H4=>N (ys++[v]) H4 else N ys H3)
theorem uw {js:List (Option Nat)} {wi:TI} {g:TG} {tt:TT} {te:TE} {σ:St} {H:Hp} {Q:VK}:xV js wi g tt te σ H Q=wi σ H λJ H1=>my J js g tt te σ Q H1:=rfl
theorem dw {K:PySem.W.Frag} {a:Addr} {xs:List V} {js:List (Option Nat)} {g:TG} {tt:TT} {te:TE} {σ:St} {Q:VK} {H1:Hp} (Pv:Nat->List V->Hp->Prop) (h0:Pv 0 [] H1) (hx:xs.length<=sizeLine) (hl:∀ i ys H,i<=xs.length->Pv i ys H->aT K H a xs/\ys.length<=i)
  (hs:∀ i x ys H,xs[i]?=some x->Pv i ys H->g x (aY js σ) H λσ2 H2=>aO (aY js σ) σ2/\tt σ2 H2 λb H3=>if b=true then te σ2 H3 λv H4=>Pv (i+1) (ys++[v]) H4 else Pv (i+1) ys H3)
  (hd:∀ ys H p,Pv xs.length ys H->H p=none->Q (.ref p) (upd H p (.lst ys))):my (pI K a) js g tt te σ Q H1:=by
 refine⟨λi m ys H=>m=xs.length-i/\i<=xs.length/\Pv i ys H,⟨xs.length,by simp,Nat.zero_le _,h0⟩,?_⟩
 rintro i m ys H ⟨rfl,hi,p⟩
 obtain⟨q,hy⟩:=hl i ys H hi p
 by_cases hlt:i<xs.length
 ·refine .inr ⟨⟨xs,xs[i],q,by simp [hlt]⟩,by omega,Pv (i+1),λys' H' p'=>⟨xs.length-(i+1),by omega,rfl,hlt,p'⟩,λx H' y=>?_⟩
  obtain⟨e,y⟩:=y
  subst e
  exact hs i x ys _ (y xs q) p
 ·have e:i=xs.length:=by omega
  subst e
  exact .inl ⟨⟨xs,q,Nat.le_refl _⟩,by omega,λp' hp'=>hd ys H p' p hp'⟩
theorem gf {K:PySem.W.Frag} {a:Addr} {xs:List V} {js:List (Option Nat)} {g:TG} {tt:TT} {te:TE} {σ:St} {Q:VK} {H1:Hp} (Pv:Nat->List V->Hp->Prop) (h0:Pv 0 [] H1) (hx:xs.length<=sizeLine) (hl:∀ i ys H,i<=xs.length->Pv i ys H->a9 K H a xs/\ys.length<=i)
  (hs:∀ i x ys H,xs[i]?=some x->Pv i ys H->g x (aY js σ) H λσ2 H2=>aO (aY js σ) σ2/\tt σ2 H2 λb H3=>if b=true then te σ2 H3 λv H4=>Pv (i+1) (ys++[v]) H4 else Pv (i+1) ys H3)
  (hd:∀ ys H p,Pv xs.length ys H->H p=none->Q (.ref p) (upd H p (.lst ys))):my (sJ K a) js g tt te σ Q H1:=by
 refine⟨λi m ys H=>m=xs.length-i/\i<=xs.length/\Pv i ys H,⟨xs.length,by simp,Nat.zero_le _,h0⟩,?_⟩
 rintro i m ys H ⟨rfl,hi,p⟩
 obtain⟨q,hy⟩:=hl i ys H hi p
 by_cases hlt:i<xs.length
 ·refine .inr ⟨⟨xs,xs[i],q,by simp [hlt]⟩,by omega,Pv (i+1),λys' H' p'=>⟨xs.length-(i+1),by omega,rfl,hlt,p'⟩,λx H' y=>?_⟩
  obtain⟨e,y⟩:=y
  subst e
  exact hs i x ys _ (y xs q) p
 ·have e:i=xs.length:=by omega
  subst e
  exact .inl ⟨⟨xs,q,Nat.le_refl _⟩,by omega,λp' hp'=>hd ys H p' p hp'⟩
theorem yd {CX:fN} {P:Program} {w:World} {K:PySem.W.Frag} {mg:Str->Option Value} {base:Heap} {N:List Str} {qual:Str} {scope:Scope} {f:Addr} {cd:Value} {A:Around} {outer:List Env} {s:Shared} {H:Hp} {E:XK} :
  (bZ CX P w K mg base N qual scope f cd A outer s H E).K=K:=rfl
theorem uY {X:Cx} {N':List Str} {scope:Scope} {cl:List (Str × Addr)} {C:Addr} {s₂:Shared} {H₂:Hp} {fp:List Addr}:(bE X N' scope cl C s₂ H₂ fp).K=X.K:=rfl
theorem b8 {K:PySem.W.Frag} {b k:Bool} {H:Hp}:mF K (.bl b) H k=(k=b):=rfl
theorem pe {K:PySem.W.Frag} {i:Int} {k:Bool} {H:Hp}:mF K (.int i) H k=(k=(i != 0)):=rfl
def uj (K:PySem.W.Frag):List V->Hp->VK->Prop:=λxs H Q=>∃ p ys,xs=[.ref p]/\(aT K H p ys∨a9 K H p ys)/\Q (.int ys.length) H
theorem cM {X:Cx}:cq X (.builtin "len") (uj X.K):=gR
theorem ip {K:PySem.W.Frag} {H:Hp} {p:Addr} {xs:List V} {Q:VK} (h:aT K H p xs) (q:Q (.int xs.length) H):uj K [.ref p] H Q:=⟨p,xs,rfl,.inl h,q⟩
theorem qf {K:PySem.W.Frag} {H:Hp} {p:Addr} {xs:List V} {Q:VK} (h:a9 K H p xs) (q:Q (.int xs.length) H):uj K [.ref p] H Q:=⟨p,xs,rfl,.inr h,q⟩
theorem qN {a b:Int}:iK (.int a) (.int b)=true:=rfl
theorem qL {a b:Bool}:iK (.bl a) (.bl b)=true:=rfl
theorem qO {a:Int}:iK (.int a) .non=true:=rfl
theorem qP {a:Int}:iK .non (.int a)=true:=rfl
theorem qQ:iK .non .non=true:=rfl
theorem qM {a:Bool}:iK (.bl a) .non=true:=rfl
theorem qR {a b:Str}:iK (.str a) (.str b)=true:=rfl
def xD (t:TS):TS:=λD σ H=>∃ R:St->Hp->Prop,t { D with nx:=R } σ H/\∀ σ' H',R σ' H'->D.nx σ' H'
theorem iD {X:Cx} {st:Stmt} {t:TS} (h:PS X st t):PS X st (xD t):=by
 intro pins s σ H D I ⟨R,hw,hR⟩
 refine aN (h pins s σ H _ I hw) λf s' q=>?_
 cases f with
 | next=>obtain⟨σ',H',I',r⟩:=q;exact⟨σ',H',I',hR _ _ r⟩
 | brk=>exact q
 | cont=>exact q
 | ret u=>exact q
theorem pV {P:Program} {w:World} {K:PySem.W.Frag} {mg:Str->Option Value} {base:Heap} {k:Nat} {x:Str} {ps:List Str} {sp:Sp} {st:Stmt} {N:List Str} {f:Addr} {fd:FuncData} (F:pG K x x st f fd)
  (S:ar N ps (ai st)) (len:∀ vs H Q E,sp vs H Q E->vs.length=ps.length)
  (hbody:∀(cdv:Value) (A:Around) (outer:List Env) (s:Shared) (H:Hp) (vs:List V) (Q:VK) (E:XK),a4 k (A.deeper (envOfC x (ai st) s.heap.objs.size f cdv))->sp vs H Q E ->
   ∃ t,eY (bZ aZ P w K mg base N x (ai st) f cdv A outer s H E).j8 (aE st) t/\t { nx:=λ_ H'=>Q .non H',rt:=Q } (start N vs) H):bB P w K mg base aZ (k+1) f fd ps sp :=
 F.ok S len λcdv A outer s H vs Q E hr h=>hbody cdv A outer s H vs Q E hr h
theorem qd {P:Program} {w:World} {K:PySem.W.Frag} {mg:Str->Option Value} {k:Nat} {x y:Str} {sp:Sp} {st:Stmt} {fa:Addr} (hfa:mg x=some (.ref fa)) (D:av K mg x st)
  (hb:∀(kV doc pm:Value) (an:Option Addr) (cdv ct:Value) (u:Value),bindArgs (PySem.W.fnOf x x (aX st) (aE st) (ai st) .none kV doc pm an cdv ct) ⟨[u],[]⟩=pure [(y,u)])
  (ok:∀(base:Heap) (f:Addr) (fd:FuncData),K.In base->pG K x x st f fd->bB P w K mg base aZ k f fd [y] sp) :
  ∃ fd:FuncData,(∀(s:Shared) (u:Value),BindsTo s fd ⟨[u],[]⟩ [(y,u)])/\∀ base:Heap,K.In base->base.Ns mainGlobals mg->bB P w K mg base aZ k fa fd [y] sp:=by
 obtain⟨f,fd,F,hm⟩:=D
 have e:=hfa.symm.trans hm
 cases e
 refine⟨fd,λs u=>?_,λbase kb _=>ok base _ _ kb F⟩
 obtain⟨oc,od,kV,doc,pm,an,cdv,ct,osl,rfl,lk,hcd⟩:=F.ex
 exact .of_eq (hb kV doc pm an cdv ct u)
end L2
namespace L2
open PySem PySem.Spec PyProof.Rows PySem.W
def a7:List Value:=[.type "ValueError",.type "Exception",.type "BaseException",.type "object"]
def aV:List Value->Bool
 | .ref _::r=>aV r
 | l=>l==a7
theorem jB (self:Value):refuseLoop self "__setattr__" a7=pure ():=by kernel_rfl
theorem fC (self:Value):∀{l:List Value},aV l=true->refuseLoop self "__setattr__" l=pure ()
 | .ref c::r,e=>by rw [refuseLoop_ref];exact fC self (l:=r) e
 | [],e=>by cases e
 | .type n::r,e=>by
  have:Value.type n::r=a7:=by simpa [aV] using e
  rw [this];exact jB self
 | .none::r,e=>by simp [aV,a7] at e
 | .bool _::r,e=>by simp [aV,a7] at e
 | .int _ _::r,e=>by simp [aV,a7] at e
 | .str _ _::r,e=>by simp [aV,a7] at e
 | .bytes _ _::r,e=>by simp [aV,a7] at e
 | .float _ _::r,e=>by simp [aV,a7] at e
 | .builtin _::r,e=>by simp [aV,a7] at e
theorem gY {l:List Value}:aV l=true->l.contains (.type "object")=true/\l.contains (.type "BaseException")=true/\l.isEmpty=false:=by
 intro h
 induction l with
 | nil=>cases h
 | cons a r ih =>
  cases a with
  | ref c =>
   obtain⟨h1,h2,_⟩:=ih h
   exact⟨by rw [List.contains_cons,h1,Bool.or_true],by rw [List.contains_cons,h2,Bool.or_true],rfl⟩
  | type n =>
   have e:Value.type n::r=a7:=by simpa [aV] using h
   rw [e]
   exact⟨by decide,by decide,rfl⟩
  | _=>simp [aV,a7] at h
section
variable {prog:Program} {w:World} {A:Around} {E:Value->Shared->Prop} {s:Shared} {K:PySem.W.Frag} {x C:Addr} {name:Str} {v:Value} {cd:ClassData}
theorem pU {vs:Array Value} {sl:Array (Option Value)} {Q:Unit->Shared->Prop} (X:K.In s.heap) (hx:s.heap.get? x=some ⟨.ref C,none,.fields vs,sl⟩) (hc:clsIn K C=some cd) (hm:aV cd.mro=true) (hh:cd.hasDict=true)
  (hs:findIn K (.ref C) "__setattr__"=some (some (.builtin "object.__setattr__"))) (hn:findIn K (.ref C) name=some none)
  (h:∀ h',h'.get? x=some ⟨.ref C,some s.heap.objs.size,.fields vs,sl⟩->h'.Ns1 s.heap.objs.size (λy=>if y=name then some v else none)->(∀ b ob,b≠x->s.heap.get? b=some ob->h'.get? b=some ob)->Q () { s with heap:=h',toks:=s.toks+2 }) :
  wpAny (model prog w) A (setAttr (.ref x) name v) Q E s:=by
 have I:PySem.W.InstAt s.heap x ⟨.ref C,none,.fields vs,sl⟩ C none:=⟨hx,rfl,rfl,True.intro⟩
 obtain⟨m1,m2,m3⟩:=gY hm
 refine PySem.W.set_plain X I hs ?_
 have SF:=PySem.F.store_object
 have sub:Looks (model prog w) s.heap (isInstance (.ref x) (.type "object")) true:=I.type.andThen (looks_mroIn X (by unfold mroIn;rw [hc,Option.bind_some,if_neg (by rw [m3];decide),m1]))
 refine codeAny_call_builtin SF.slot.plain SF.entry (@check_slot (model prog w) _ _ { s with toks:=s.toks+1 } "object.__setattr__" "object" "__setattr__" (.ref x) [.str name s.toks,v] [] _ SF.kind SF.split sub (SF.args (.ref x) (.str name s.toks) v) ?_)
 have L1:Looks (model prog w) s.heap (mroOf (.ref C)) cd.mro:=(looks_clsIn X hc).andThen .now
 rw [osa_eq,refuse_eq]
 refine wpAny_bind (wpAny_bind (Looks.here (s:={ s with toks:=s.toks+1 }) I.type (wpAny_bind (Looks.here (s:={ s with toks:=s.toks+1 }) L1 ?_))))
 rw [fC _ hm]
 refine wpAny_pure (wpAny_bind (Looks.here (s:={ s with toks:=s.toks+1 }) I.type (wpAny_bind (Looks.here (s:={ s with toks:=s.toks+1 }) (looks_findIn X hn) (wpAny_bind (wpAny_pure ?_))))))
 show wpAny _ _ (Builtin.ObjectAttr.storeInOwnDict (.ref x) (.ref C) (.str name s.toks) name v false) _ _ _
 refine wpAny_bind (wpAny_pure (wpAny_bind (wpAny_bind (wpAny_loadPart hx (wpAny_bind (Looks.here (s:={ s with toks:=s.toks+1 }) (looks_clsIn X hc) ?_))))))
 rw [hh]
 refine wpAny_bind (wpAny_alloc ?_)
 have hlt:x≠s.heap.objs.size:=Nat.ne_of_lt (Heap.lt_size hx)
 have hp:(s.heap.push { cls:=.type "dict",data:=.dict #[] }).get? x=some ⟨.ref C,none,.fields vs,sl⟩:=Heap.get?_push_of_some _ hx
 refine wpAny_bind (wpAny_update (s:={ s with toks:=s.toks+1,heap:=s.heap.push { cls:=.type "dict",data:=.dict #[] } }) hp ?_)
 refine wpAny_pure ?_
 show wpAny _ _ (Builtin.ObjectAttr.storeInDict s.heap.objs.size (.str name s.toks) name v) _ _ _
 generalize hu:(s.heap.push { cls:=.type "dict",data:=.dict #[] }).update x (λo=>{ o with dict:=some s.heap.objs.size })=h1
 have g1:h1.get? x=some ⟨.ref C,some s.heap.objs.size,.fields vs,sl⟩:=by rw [<- hu];exact Heap.get?_update_self _ hp rfl
 have g2:∀ b,b≠x->h1.get? b=(s.heap.push { cls:=.type "dict",data:=.dict #[] }).get? b:=λb hb=>by rw [<- hu];exact Heap.get?_update_other _ _ (Ne.symm hb)
 have g3:h1.Ns1 s.heap.objs.size (λ_=>none):=by
  have e1:h1.get? s.heap.objs.size=some { cls:=.type "dict",data:=.dict #[] }:=by rw [g2 _ (Ne.symm hlt)];exact Heap.get?_push_size _ rfl
  have e3:h1.Ns s.heap.objs.size (λ_=>none):=⟨_,#[],_,e1,rfl,(λe he=>absurd he (by simp)),λ_=>rfl⟩
  exact Heap.Ns1.of_empty e3
 refine wpAny_bind (wpAny_pure (wpAny_bind ?_))
 refine wpAny_nsSet1 (s:={ s with toks:=s.toks+1,heap:=h1 }) g3 λh' hn2 hs2=>?_
 obtain⟨oD,esD,epD,hoD,hdD,hcD⟩:=hn2.count (ns:=[name]) (PySem.Within.cons name v (ns:=[]) (λy hy=>absurd rfl hy))
 refine wpAny_bind (wpAny_lookBehind hoD (by rw [hdD];exact pastItsLine_dict (Nat.le_trans hcD (by show 1<=sizeLine+1;decide))) ?_)
 refine wpAny_pure (h h' ((hs2.2 _ hlt).trans g1) hn2 λb ob hb e=>?_)
 have hb2:b≠s.heap.objs.size:=Nat.ne_of_lt (Heap.lt_size e)
 exact (hs2.2 b hb2).trans ((g2 b hb).trans (Heap.get?_push_of_some _ e))
structure cu (K:PySem.W.Frag) (C:Addr):Prop where
 cls:∃ cd,clsIn K C=some cd/\aV cd.mro=true/\cd.hasDict=true
 at_:∃ od cd sl,K.lookup C=some ⟨.type "type",od,.cls cd,sl⟩
 sa:findIn K (.ref C) "__setattr__"=some (some (.builtin "object.__setattr__"))
 ga:findIn K (.ref C) "__getattribute__"=some (some (.builtin "BaseException.__getattribute__"))
 gx:findIn K (.ref C) "__getattr__"=some none
 ca:findIn K (.ref C) "__class__"=some (some (.builtin "object.__class__"))
 gs:specialIn K (.builtin "object.__class__") "__get__"=some (some (.builtin "getset_descriptor.__get__"))
 tk:takesIn K (.builtin "object.__class__")=some true
theorem cu.there (c:cu K C) {h:Heap} (X:K.In h):∃ oc od cd sl,h.get? C=some ⟨oc,od,.cls cd,sl⟩:=by
 obtain⟨cd,hc,_⟩:=c.cls
 unfold clsIn at hc
 split at hc
 ·rename_i c' d' cd' sl' ho
  exact⟨_,_,_,_,X _ _ ho⟩
 ·cases hc
end
section
variable {prog:Program} {w:World} {A:Around} {E:Value->Shared->Prop} {h:Heap} {g:Array GenState} {d:Drawn} {t:Nat} {os:OsState}
variable {nm q:Str} {C N:Addr} {bs bm:List Value} {hdct:Bool} {sn:List Str} {sub:List Value} {ab:Bool} {col:Option Bool} {dd:Option Addr} {k0 k1 k2 k3 k5:Option Value}
abbrev iS:String := "ValueError.__new__"
abbrev newExc (C a:Addr):Obj:={ cls:=.ref C,data:=.fields #[.ref a,.none,.none,.none,.bool false,.none] }
theorem pT (hB:bm.contains (.type "ValueError")=true) (hA:bm.contains (.type "AttributeError")=false) (hN:bm.contains (.type "NameError")=false) {rest:List Value} {R:Result->Shared->Prop}
  (hC:h.get? C=some (excClassObj nm q C N bs bm hdct sn sub ab col dd k0 k1 k2 k3 k5 iS)) (hrest:rest.length<=sizeLine)
  (hq:R (.ok (.ret (.ref (h.objs.size+1)))) ⟨(h.push { cls:=.type "tuple",data:=.seq rest.toArray }).push (newExc C h.objs.size),g,d,t,os⟩) :
  codeAny (model prog w) A (.builtin iS ⟨.ref C::rest,[]⟩) R ⟨h,g,d,t,os⟩:=by
 have Fn:=PySem.F.excBase_ValueError
 have hends:=Fn.ends
 have cB:(Value.ref C::bm).contains (.type "ValueError")=true:=by rw [List.contains_cons,hB,Bool.or_true]
 have cA:(Value.ref C::bm).contains (.type "AttributeError")=false:=by rw [List.contains_cons,hA];rfl
 have cN:(Value.ref C::bm).contains (.type "NameError")=false:=by rw [List.contains_cons,hN];rfl
 refine codeAny_builtinAt Fn.entry ?_
 unfold Builtin.«BaseException.__new__»
 refine PySem.wpAt_bind ?_
 show PySem.wpAt _ _ _ (stack >>= _) _ _ _
 refine PySem.wpAt_bind (PySem.wpAt_stack λp below=>PySem.wpAt_of_wpAny ?_)
 wp_walk
 refine PySem.wpAt_of_wpAny ?_
 rw [Fn.owner]
 repeat (first | with_reducible refine wpAny_madeHere_exc Fn.canon hC ?_ | with_reducible refine wpAny_loadPart_at hC ?_ | (with_reducible refine wpAny_isSubtype_exc hC ?_;first | rw [cB] | rw [cA] | rw [cN]) | wp_step)
 show R _ _
 rw [Heap.size_push]
 exact hq
theorem fQ (hB:bm.contains (.type "ValueError")=true) {rest:List Value} {M:Model} {Q:Unit->Shared->Prop} (hC:h.get? C=some (excClassObj nm q C N bs bm hdct sn sub ab col dd k0 k1 k2 k3 k5 iS))
  (hq:Q () ⟨h,g,d,t,os⟩):wpAny M A (checkBuiltinCall iS ⟨.ref C::rest,[]⟩) Q E ⟨h,g,d,t,os⟩:=by
 have Fn:=PySem.F.excBase_ValueError
 have cB:(Value.ref C::bm).contains (.type "ValueError")=true:=by rw [List.contains_cons,hB,Bool.or_true]
 have hstar:=Fn.noStar
 simp only [checkBuiltinCall,Fn.newKind,Fn.newSplit,Fn.newRow]
 repeat (first | refine wpAny_loadPart_at hC ?_ | (refine wpAny_isSubtype_exc hC ?_;rw [cB]) | refine wpAny_staticBase_exc hC ?_ | refine wpAny_madeBy_exc hC ?_ | simp only [bne_self_eq_false,Bool.false_eq_true,if_false] | wp_step)
 exact hq
theorem gZ {K:PySem.W.Frag} {i:Value} {rest:List Value} {Q:Fin->Shared->Prop} (X:K.In h) (hB:bm.contains (.type "ValueError")=true) (hA:bm.contains (.type "AttributeError")=false) (hN:bm.contains (.type "NameError")=false)
  (hC:h.get? C=some (excClassObj nm q C N bs bm hdct sn sub ab col dd k0 k1 k2 k3 k5 iS)) (hrest:rest.length<=sizeLine) (hi:findIn K (.ref C) "__init__"=some (some i)) {j:Value}
  (hb:Looks (model prog w) h (bindSpecial i (.ref (h.objs.size+1))) (j,[.ref (h.objs.size+1)]))
  (hq:codeAny (model prog w) A (.call j ⟨.ref (h.objs.size+1)::rest,[]⟩) (λr s'=>match r with | .ok (.ret v)=>v=.none/\Q (.done (.ret (.ref (h.objs.size+1)))) s' | .ok _=>False | .error e=>E e s')
   ⟨(h.push { cls:=.type "tuple",data:=.seq rest.toArray }).push (newExc C h.objs.size),g,d,t,os⟩) :
  wpAny (model prog w) A (Builtin.«type.__call__» ⟨.ref C::rest,[]⟩) Q E ⟨h,g,d,t,os⟩:=by
 have Fn:=PySem.F.excBase_ValueError
 repeat (first | with_reducible refine wpAny_loadPart_at hC ?_ | with_reducible refine wpAny_madeBy_exc hC ?_ | wp_step)
 refine codeAny_call_builtin_code (Code.quiet_builtin _ Fn.quiet) (fQ hB hC ?_)
 refine pT hB hA hN hC hrest ?_
 show wpAny _ _ _ _ _ _
 have kp:∀ b o,h.get? b=some o->((h.push { cls:=.type "tuple",data:=.seq rest.toArray }).push (newExc C h.objs.size)).get? b=some o:=λb o e=>Heap.get?_push_of_some _ (Heap.get?_push_of_some _ e)
 have hget:((h.push { cls:=.type "tuple",data:=.seq rest.toArray }).push (newExc C h.objs.size)).get? (h.objs.size+1)=some (newExc C h.objs.size):=by
  have:=Heap.get?_push_size (h.push { cls:=.type "tuple",data:=.seq rest.toArray }) (o:=newExc C h.objs.size) rfl
  rwa [Heap.size_push] at this
 have cC:(Value.ref C::bm).contains (.ref C)=true:=by simp
 have hC₁:=kp _ _ hC
 have L1:=(looks_findIn (M:=model prog w) X hi).keeps kp
 have L2:=hb.keeps kp
 unfold isInstance
 repeat (first | with_reducible refine wpAny_loadPart_at hget ?_ | (with_reducible refine wpAny_isSubtype_exc hC₁ ?_;rw [cC]) | wp_step)
 show wpAny _ _ (typeLookup (.ref C) _) _ _ _
 refine L1.at (wpAny_holding (wpAny_bind (L2.at (wpAny_bind (wpAny_call (codeAny_mono hq λr s' z=>?_))))))
 rcases r with e | (_ | _ | _ | v)
 ·exact z
 ·exact z.elim
 ·exact z.elim
 ·exact z.elim
 ·obtain⟨rfl,z⟩:=z
  exact wpAny_pure (wpAny_pure z)
theorem mR {K:PySem.W.Frag} {i:Value} {rest:List Value} {Q:Value->Shared->Prop} (X:K.In h) (hB:bm.contains (.type "ValueError")=true) (hA:bm.contains (.type "AttributeError")=false) (hN:bm.contains (.type "NameError")=false)
  (hC:h.get? C=some (excClassObj nm q C N bs bm hdct sn sub ab col dd k0 k1 k2 k3 k5 iS)) (hrest:rest.length<=sizeLine) (hi:findIn K (.ref C) "__init__"=some (some i)) {j:Value}
  (hb:Looks (model prog w) h (bindSpecial i (.ref (h.objs.size+1))) (j,[.ref (h.objs.size+1)]))
  (hq:codeAny (model prog w) (A.under (.builtin "type.__call__" ⟨.ref C::rest,[]⟩)) (.call j ⟨.ref (h.objs.size+1)::rest,[]⟩) (λr s'=>match r with | .ok (.ret v)=>v=.none/\Q (.ref (h.objs.size+1)) s' | .ok _=>False | .error e=>E e s')
   ⟨(h.push { cls:=.type "tuple",data:=.seq rest.toArray }).push (newExc C h.objs.size),g,d,t,os⟩) :
  wpAny (model prog w) A (call (.ref C) rest) Q E ⟨h,g,d,t,os⟩:=by
 have f1:=tc_lookup
 have f2:=tc_bind (.ref C)
 have hT:(⟨h,g,d,t,os⟩:Shared).TypeIs (.ref C) "type":=⟨_,hC,rfl⟩
 refine wpAny_call (codeAny_of_tree ?_)
 show wpAny _ _ (callAny (.ref C) _) _ _ _
 repeat (any_goals (first | assumption | with_reducible refine wpAny_loadPart_at hC ?_ | wp_step))
 refine⟨rfl,?_⟩
 refine codeAny_call_builtin_at (Code.quiet_builtin _ (by decide +kernel)) entry_typeCall (wpAny_check_type_call_sub hC ?_)
 exact gZ X hB hA hN hC hrest hi hb hq
end
def Tr (h:Heap) (e:Addr) (C:Value) (dd:Option Addr) (T:Addr) (fl:Value):Prop :=
 ∃ vs sl oT ts,h.get? e=some ⟨C,dd,.fields vs,sl⟩/\vs[1]?=some (.ref T)/\T≠e/\h.get? T=some oT/\oT.data=.fields ts/\ts[3]?=some fl
structure Kp (fs ch:List Addr) (h h':Heap):Prop where
 keep:∀ b o,b∉ch->b∉fs->h.get? b=some o->h'.get? b=some o
 slot:∀ b o,b∉ch->h.get? b=some o->∃ sl,h'.get? b=some { o with slots:=sl }
theorem Kp.trans {fs ch:List Addr} {h h' h'':Heap} (a:Kp fs ch h h') (b:Kp fs ch h' h''):Kp fs ch h h'' :=
 ⟨λc o hc hf e=>b.keep c o hc hf (a.keep c o hc hf e),λc o hc e=>by
  obtain⟨sl,e1⟩:=a.slot c o hc e
  obtain⟨sl',e2⟩:=b.slot c _ hc e1
  exact⟨sl',e2⟩⟩
theorem Kp.mono {fs ch ch':List Addr} {h h':Heap} (a:Kp fs ch h h') (hs:∀ b∈ch,b∈ch'):Kp fs ch' h h' :=
 ⟨λc o hc hf e=>a.keep c o (λz=>hc (hs c z)) hf e,λc o hc e=>a.slot c o (λz=>hc (hs c z)) e⟩
section
variable {M:Model} {A:Around} {E:Value->Shared->Prop} {s:Shared} {base:Heap} {env:Env} {outer:List Env} {L e T:Addr} {C:Value} {dd:Option Addr} {fl:Value}
theorem i9 {vs:Array Value} {sl:Array (Option Value)} {head:Value} {hadNext:Bool} {Q:Unit->Shared->Prop} (hfr:A.frames=some (env::outer)) (hl:s.heap.FunFrames base (env::outer)) (hf:env.frame=some L)
  (he:s.heap.get? e=some ⟨C,dd,.fields vs,sl⟩) (hsz:1<vs.size)
  (h:∀ h' T,Tr h' e C dd T (rawInt L)->s.heap.objs.size<=T->Kp (cV (env::outer)) [e] s.heap h'->Q () { s with heap:=h' }) :
  wpAny M A (do let a <- frameOf env;let pl <- entryPlaceOf L hadNext;let b <- EntryCells.newEntry head a .none (rawInt L) .none pl;setField (.ref e) 1 b) Q E s:=by
 have hne:e∉cV (env::outer):=λhm=>by
  obtain⟨_,o,ho,hnf⟩:=hl.mem hm
  rw [he] at ho
  cases ho
  exact hnf vs rfl
 refine wpAny_bind (wpAny_frameOf_fun hfr hl hf λh1 so=>?_)
 refine wpAny_bind (wpAny_entryPlaceOf λpl hpl=>?_)
 unfold EntryCells.newEntry newFields
 refine wpAny_bind (wpAny_newObj_type ?_ (hpl.sizeOk5 _ _ _ _ _))
 have e1:h1.get? e=some ⟨C,dd,.fields vs,sl⟩:=(so.2.1 e hne).trans he
 generalize hO:({ cls:=.type "traceback",dict:=none,data:=.fields ([head,.ref L,.none,rawInt L,.none]++(if pl.isEmpty then List.replicate 6 Value.none else pl)).toArray }:Obj)=oT
 have hTd:oT.data=.fields ([head,.ref L,.none,rawInt L,.none]++(if pl.isEmpty then List.replicate 6 Value.none else pl)).toArray:=by rw [<- hO]
 have hTf:oT.isFreed=false:=by rw [<- hO];rfl
 have e2:(h1.push oT).get? e=some ⟨C,dd,.fields vs,sl⟩:=Heap.get?_push_of_some oT e1
 refine wpAny_setField e2 rfl hsz (h _ h1.objs.size ?_ ?_ ?_)
 ·have ne:h1.objs.size≠e:=Nat.ne_of_gt (Heap.lt_size e1)
  refine⟨vs.setIfInBounds 1 (.ref h1.objs.size),sl,oT,_,Heap.get?_update_self _ e2 rfl,by simp [hsz],ne,?_,hTd,by simp⟩
  rw [Heap.get?_update_other _ _ (Ne.symm ne)]
  exact Heap.get?_push_size h1 hTf
 ·exact Nat.le_of_eq (Eq.symm so.1)
 ·refine⟨λb o hb hf' q=>?_,λb o hb q=>?_⟩
  ·have hb':b≠e:=λz=>hb (by simp [z])
   rw [Heap.get?_update_other _ _ (Ne.symm hb')]
   exact Heap.get?_push_of_some oT ((so.2.1 b hf').trans q)
  ·have hb':b≠e:=λz=>hb (by simp [z])
   obtain⟨sl',q'⟩:=so.2.2 b o q
   refine⟨sl',?_⟩
   rw [Heap.get?_update_other _ _ (Ne.symm hb')]
   exact Heap.get?_push_of_some oT q'
theorem j7 {vs:Array Value} {sl:Array (Option Value)} {Q:Unit->Shared->Prop} (hfr:A.frames=some (env::outer)) (hl:s.heap.FunFrames base (env::outer)) (hf:env.frame=some L)
  (he:s.heap.get? e=some ⟨C,dd,.fields vs,sl⟩) (h1:vs[1]?=some .none)
  (h:∀ h' T,Tr h' e C dd T (rawInt L)->s.heap.objs.size<=T->Kp (cV (env::outer)) [e] s.heap h'->Q () { s with heap:=h' }):wpAny M A (noteFrame (.ref e) env) Q E s:=by
 unfold noteFrame
 simp only [hf]
 refine wpAny_bind (wpAny_field he rfl h1 ?_)
 rw [if_neg (by decide)]
 exact i9 hfr hl hf he (Array.getElem?_eq_some_iff.mp h1).1 h
theorem lT {Q:Unit->Shared->Prop} (hfr:A.frames=some (env::outer)) (hl:s.heap.FunFrames base (env::outer)) (hf:env.frame=some L) (ht:Tr s.heap e C dd T .none)
  (h:∀ h' T',Tr h' e C dd T' (rawInt L)->s.heap.objs.size<=T'->Kp (cV (env::outer)) [e,T] s.heap h'->Q () { s with heap:=h' }):wpAny M A (noteFrame (.ref e) env) Q E s:=by
 obtain⟨vs,sl,oT,ts,he,h1,hTe,hT,hdT,h3⟩:=ht
 unfold noteFrame
 simp only [hf]
 refine wpAny_bind (wpAny_field he rfl h1 ?_)
 rw [if_pos (show (Value.ref T != Value.none)=true from by simp)]
 refine wpAny_bind (wpAny_field hT hdT h3 ?_)
 rw [if_neg (show ¬((Value.none==rawInt L)=true) from by simp [rawInt])]
 refine wpAny_bind (wpAny_setField hT hdT (Array.getElem?_eq_some_iff.mp h3).1 ?_)
 generalize hu:s.heap.update T (Obj.mapFields (·.setIfInBounds 3 Value.none))=h1'
 have oth:∀ b,b≠T->h1'.get? b=s.heap.get? b:=λb hb=>by rw [<- hu];exact Heap.get?_update_other _ _ (Ne.symm hb)
 have hT1:∃ o,h1'.get? T=some o:=⟨_,by rw [<- hu];exact Heap.get?_update_self _ hT (Obj.isFreed_of_fields (Obj.data_mapFields hdT _))⟩
 have hl1:h1'.FunFrames base (env::outer):=hl.of_keeps λb o hb hnf=>⟨o,(oth b λq=>by rw [q,hT] at hb;cases hb;exact hnf ts hdT).trans hb,rfl⟩
 refine i9 (s:={ s with heap:=h1' }) hfr hl1 hf ((oth e (Ne.symm hTe)).trans he) (Array.getElem?_eq_some_iff.mp h1).1 λh' T' t' n' k'=>h h' T' t' ?_ ?_
 ·have z:h1'.objs.size=s.heap.objs.size:=by rw [<- hu];exact Heap.size_update ..
  rw [<- z];exact n'
 ·refine⟨λb o hb hf' q=>k'.keep b o (λz=>hb (by simp at z;simp [z])) hf' ((oth b λz=>hb (by simp [z])).trans q),λb o hb q=>k'.slot b o (λz=>hb (by simp at z;simp [z])) ((oth b λz=>hb (by simp [z])).trans q)⟩
theorem land {Q:Unit->Shared->Prop} {fs:List Addr} (ht:Tr s.heap e C dd T fl) (h:∀ h',Tr h' e C dd T .none->Kp fs [T] s.heap h'->Q () { s with heap:=h' }):wpAny M A (setFlight (.ref e) none) Q E s:=by
 obtain⟨vs,sl,oT,ts,he,h1,hTe,hT,hdT,h3⟩:=ht
 unfold setFlight
 refine wpAny_bind (wpAny_field he rfl h1 ?_)
 rw [if_pos (show (Value.ref T != Value.none)=true from by simp)]
 have hsz:=(Array.getElem?_eq_some_iff.mp h3).1
 refine wpAny_setField hT hdT hsz (h _ ?_ ?_)
 ·refine⟨vs,sl,_,_,(Heap.get?_update_other _ _ hTe).trans he,h1,hTe,Heap.get?_update_self _ hT (Obj.isFreed_of_fields (Obj.data_mapFields hdT _)),Obj.data_mapFields hdT _,by simp [hsz]⟩
 ·refine⟨λb o hb _ q=>(Heap.get?_update_other _ _ λz=>hb (by simp [z])).trans q,λb o hb q=>⟨o.slots,(Heap.get?_update_other _ _ λz=>hb (by simp [z])).trans q⟩⟩
theorem je {vs:Array Value} {sl:Array (Option Value)} {Q:Unit->Shared->Prop} (hfr:A.frames=some (env::outer)) (hl:s.heap.FunFrames base (env::outer)) (hf:env.frame=some L)
  (he:s.heap.get? e=some ⟨C,dd,.fields vs,sl⟩) (h1:vs[1]?=some .none)
  (h:∀ h' T,Tr h' e C dd T .none->s.heap.objs.size<=T->Kp (cV (env::outer)) [e] s.heap h'->Q () { s with heap:=h' }):wpAny M A (leaving env (.ref e)) Q E s:=by
 unfold leaving
 refine wpAny_bind (j7 hfr hl hf he h1 λh1' T t1 n1 k1=>?_)
 refine land (fs:=cV (env::outer)) t1 λh2 t2 k2=>h h2 T t2 n1 ⟨λb o hb hf' q=>?_,λb o hb q=>?_⟩
 ·exact k2.keep b o (λz=>by simp at z;rw [z] at q;exact absurd (Heap.lt_size q) (Nat.not_lt.mpr n1)) hf' (k1.keep b o hb hf' q)
 ·obtain⟨s1,q1⟩:=k1.slot b o hb q
  obtain⟨s2,q2⟩:=k2.slot b _ (λz=>by simp at z;rw [z] at q;exact absurd (Heap.lt_size q) (Nat.not_lt.mpr n1)) q1
  exact⟨s2,q2⟩
theorem j3 {Q:Unit->Shared->Prop} (hfr:A.frames=some (env::outer)) (hl:s.heap.FunFrames base (env::outer)) (hf:env.frame=some L) (ht:Tr s.heap e C dd T .none)
  (h:∀ h' T',Tr h' e C dd T' .none->s.heap.objs.size<=T'->Kp (cV (env::outer)) [e,T] s.heap h'->Q () { s with heap:=h' }):wpAny M A (leaving env (.ref e)) Q E s:=by
 unfold leaving
 refine wpAny_bind (lT hfr hl hf ht λh1' T' t1 n1 k1=>?_)
 refine land (fs:=cV (env::outer)) t1 λh2 t2 k2=>h h2 T' t2 n1 ⟨λb o hb hf' q=>?_,λb o hb q=>?_⟩
 ·exact k2.keep b o (λz=>by simp at z;rw [z] at q;exact absurd (Heap.lt_size q) (Nat.not_lt.mpr n1)) hf' (k1.keep b o hb hf' q)
 ·obtain⟨s1,q1⟩:=k1.slot b o hb q
  obtain⟨s2,q2⟩:=k2.slot b _ (λz=>by simp at z;rw [z] at q;exact absurd (Heap.lt_size q) (Nat.not_lt.mpr n1)) q1
  exact⟨s2,q2⟩
end
def XO (x C:Addr) (dd:Option Addr):HO:=.ext λh=>∃ vs sl,h.get? x=some ⟨.ref C,dd,.fields vs,sl⟩
def XN (x C:Addr) (dd:Option Addr):HO:=.ext λh=>∃ t sl,h.get? x=some ⟨.ref C,dd,.fields #[.ref t,.none,.none,.none,.bool false,.none],sl⟩
section
variable {P:Program} {w:World} {H H':Hp} {h h':Heap} {x C:Addr} {dd:Option Addr}
theorem XO.ok {vs:Array Value} {sl:Array (Option Value)} (e:h.get? x=some ⟨.ref C,dd,.fields vs,sl⟩):aG P w H h x (XO x C dd) :=
 ⟨⟨vs,sl,e⟩,⟨_,e⟩,λ_ _ ⟨vs,sl,q⟩ k=>⟨vs,sl,k _ q⟩⟩
theorem XN.ok {t:Addr} {sl:Array (Option Value)} (e:h.get? x=some ⟨.ref C,dd,.fields #[.ref t,.none,.none,.none,.bool false,.none],sl⟩):aG P w H h x (XN x C dd) :=
 ⟨⟨t,sl,e⟩,⟨_,e⟩,λ_ _ ⟨vs,sl,q⟩ k=>⟨vs,sl,k _ q⟩⟩
theorem XN.get (hok:cm P w H h) (e:H x=some (XN x C dd)):∃ t sl,h.get? x=some ⟨.ref C,dd,.fields #[.ref t,.none,.none,.none,.bool false,.none],sl⟩:=by
 obtain⟨q,_⟩:=(show aG P w H h x (XN x C dd) from hok x _ e)
 exact q
theorem XO.get (hok:cm P w H h) (e:H x=some (XO x C dd)):∃ vs sl,h.get? x=some ⟨.ref C,dd,.fields vs,sl⟩:=by
 obtain⟨q,_⟩:=(show aG P w H h x (XO x C dd) from hok x _ e)
 exact q
end
def iU (P:Program) (w:World):fN:=λouter H s E e s'=>∃(x C T:Addr) (dd:Option Addr) (H':Hp),e=.ref x/\s'.os=s.os/\AllBare s'.gens/\Un (cV outer) [] H H' s.heap s'.heap/\cm P w H' s'.heap /\
 Tr s'.heap x (.ref C) dd T .none/\s.heap.get? x=none/\s.heap.get? T=none/\H' T=none/\H' x=some (XO x C dd)/\E (.ref C) (some x) H'
theorem kN {base h h':Heap} {H H':Hp} {ex:List Addr}:∀{l:List Env} {fs:List Addr},h.FunFrames base l->Un fs ex H H' h h'->(∀ b∈cV l,H b=none)->(∀ b∈cV l,b∉ex)->h'.FunFrames base l
 | [],_,_,_,_,_=>trivial
 | env::r,fs,hl,u,hn,hx=>by
  obtain⟨hk,⟨L,o,hf,hb,ho,hd⟩,hr⟩:=hl
  have hL:L∈cV (env::r):=by unfold cV;rw [List.filterMap_cons,hf];exact List.mem_cons_self
  have sub:∀ b∈cV r,b∈cV (env::r):=λb hb'=>by unfold cV;rw [List.filterMap_cons,hf];exact List.mem_cons_of_mem _ hb'
  obtain⟨sl,e⟩:=u.any ho (hn L hL) (hx L hL)
  exact⟨hk,⟨L,_,hf,hb,e,hd⟩,kN hr u (λb hb'=>hn b (sub b hb')) λb hb'=>hx b (sub b hb')⟩
theorem kM {P:Program} {w:World} {H':Hp} {h h':Heap} {x C:Addr} {dd:Option Addr} {fs ch:List Addr} (hok:cm P w H' h) (k:Kp fs ch h h') (hch:∀ b∈ch,b=x∨H' b=none) (hfs:∀ b∈fs,H' b=none)
  (hx:H' x=some (XO x C dd)) {vs:Array Value} {sl:Array (Option Value)} (e:h'.get? x=some ⟨.ref C,dd,.fields vs,sl⟩):cm P w H' h':=by
 intro b o q
 by_cases hb:b=x
 ·subst hb
  rw [hx] at q
  cases q
  exact XO.ok e
 ·refine (hok b o q).cp (λc u hc r=>k.keep c u (λz=>?_) (λz=>?_) r) (λ_ r=>r) λ_ _ r=>r
  ·rcases hch c z with q1 | q1
   ·rcases hc with q2 | q2
    ·exact hb (q2.symm.trans q1)
    ·rw [q1,hx] at q2;cases q2
   ·rcases hc with q2 | q2
    ·rw [q2,q] at q1;cases q1
    ·rw [q2] at q1;cases q1
  ·have q1:=hfs c z
   rcases hc with q2 | q2
   ·rw [q2,q] at q1;cases q1
   ·rw [q2] at q1;cases q1
theorem oj {P:Program} {w:World} {K:PySem.W.Frag} {mg:Str->Option Value} {base:Heap} {N:List Str} {qual:Str} {scope:Scope} {f:Addr} {cd:Value} {A:Around} {outer:List Env} {s:Shared} {H:Hp} {E:XK} :
  Passes (iU P w) (bZ (iU P w) P w K mg base N qual scope f cd A outer s H E) E:=by
 intro pins σ H1 s1 e s' I hq
 obtain⟨x,C,T,dd,H',rfl,os,bare,un,hok,tr,nx,nT,hT,hx,hE⟩:=hq
 have hl:=kN I.stack un I.cS (λb _=>by simp)
 have frN:∀ b∈cV (envOfC qual scope s.heap.objs.size f cd::outer),H' b=none:=λb hb=>by
  obtain⟨_,o,ho,_⟩:=I.stack.mem hb
  exact un.free b o ho (I.cS b hb) (by simp)
 show wpAny (model P w) (A.deeper (envOfC qual scope s.heap.objs.size f cd)) (leaving (envOfC qual scope s.heap.objs.size f cd) (.ref x)) _ _ s'
 refine j3 (L:=s.heap.objs.size) I.ok.frames hl rfl tr λh'' T' t' n' k'=>?_
 have old:∀ b o,s.heap.get? b=some o->b∉[x,T]:=λb o q hb=>by
  obtain⟨o1,q1⟩:=I.base.there b o q (by intro z;exact absurd (show b∈([]:List Addr) from z) (by simp))
  rcases List.mem_cons.mp hb with z | z
  ·rw [z,nx] at q1;cases q1
  ·rw [List.mem_singleton.mp z,nT] at q1;cases q1
 have nex:∀ b:Addr,b∉(bZ (iU P w) P w K mg base N qual scope f cd A outer s H E).ex:=λb z=>absurd (show b∈([]:List Addr) from z) (by simp)
 have nfr:∀ b o,s.heap.get? b=some o->b∉cV outer->b∉cV (envOfC qual scope s.heap.objs.size f cd::outer):=λb o q hb hm=>by
  rcases List.mem_cons.mp (I.bA b hm) with z | z
  ·exact absurd (Heap.lt_size q) (by rw [z];exact Nat.lt_irrefl _)
  ·exact hb z
 obtain⟨vs,sl,oT,ts,he,r'⟩:=t'
 have tr':Tr h'' x (.ref C) dd T' .none:=⟨vs,sl,oT,ts,he,r'⟩
 refine⟨x,C,T',dd,H',rfl,os.trans I.os,bare,?_,?_,tr',?_,?_,hok.fresh n',hx,hE⟩
 ·refine⟨λb o q nn hb _=>?_,λb o q nn hb _=>?_,λb o q nn _=>?_,λb o q _=>?_,λb xs q=>un.tups b xs (I.base.tups b xs q),λb o xs q=>un.frzs b o xs (I.base.frzs b o xs q),λb ps q=>?_⟩
  ·have q1:=I.base.keep b o q nn hb (nex b)
   have q2:=un.keep b o q1 (I.base.free b o q nn (nex b)) (nfr b o q hb) (by simp)
   exact k'.keep b o (old b o q) (nfr b o q hb) q2
  ·obtain⟨s1',q1⟩:=I.base.slot b o q nn hb (nex b)
   obtain⟨s2',q2⟩:=un.any q1 (I.base.free b o q nn (nex b)) (by simp)
   obtain⟨s3',q3⟩:=k'.slot b _ (old b o q) q2
   exact⟨s3',q3⟩
  ·obtain⟨o1,q1⟩:=I.base.there b o q (nex b)
   exact un.free b o1 q1 (I.base.free b o q nn (nex b)) (by simp)
  ·obtain⟨o1,q1⟩:=I.base.there b o q (nex b)
   obtain⟨o2,q2⟩:=un.there b o1 q1 (by simp)
   obtain⟨s3',q3⟩:=k'.slot b _ (old b o q) q2
   exact⟨_,q3⟩
  ·obtain⟨m1,e1⟩:=I.base.tbls b ps q
   obtain⟨m2,e2⟩:=un.tbls b _ e1
   exact⟨m1++m2,by rw [e2,Array.append_assoc]⟩
 ·exact kM hok k' (λb hb=>by
   rcases List.mem_cons.mp hb with z | z
   ·exact .inl z
   ·exact .inr (by rw [List.mem_singleton.mp z];exact hT)) frN hx he
 ·cases q:s.heap.get? x with
  | none=>rfl
  | some o=>exact absurd (List.mem_cons_self) (old x o q)
 ·cases q:s.heap.get? T' with
  | none=>rfl
  | some o =>
   obtain⟨o1,q1⟩:=I.base.there T' o q (nex T')
   obtain⟨o2,q2⟩:=un.there T' o1 q1 (by simp)
   exact absurd (Heap.lt_size q2) (Nat.not_lt.mpr n')
section
variable {prog:Program} {w:World} {A:Around} {E:Value->Shared->Prop} {s:Shared} {K:PySem.W.Frag} {env:Env}
theorem fR {x:Sem Value} {Q:Flow->Shared->Prop} (hh:A.handled=none)
  (h:wpAny (model prog w) A x (λv s₁=>∃ e C t dd sl,v=.ref e/\K.In s₁.heap/\cu K C/\s₁.heap.get? e=some ⟨.ref C,dd,.fields #[.ref t,.none,.none,.none,.bool false,.none],sl⟩/\E (.ref e) s₁) E s) :
  wpAny (model prog w) A (raiseStmt env (some x) none) Q E s:=by
 unfold raiseStmt
 refine wpAny_bind (wpAny_mono h (λv s₁ h₁=>?_) λ_ _ z=>z)
 obtain⟨e,C,t,dd,sl,rfl,X,c,he,hE⟩:=h₁
 obtain⟨hp,g,d,tk,os⟩:=s₁
 have L1:Looks (model prog w) hp (isSubtype (.ref C) (.type "BaseException")) true:=by
  obtain⟨cd,hc,hm,_⟩:=c.cls
  obtain⟨m1,m2,m3⟩:=gY hm
  exact looks_mroIn X (by unfold mroIn;rw [hc,Option.bind_some,if_neg (by rw [m3];decide),m2])
 obtain⟨od,cd,sc,hk⟩:=c.at_
 have hC:=X _ _ hk
 repeat (first | with_reducible refine wpAny_loadPart_at he ?_ | with_reducible refine wpAny_loadPart_at hC ?_ | with_reducible refine Looks.at L1 ?_ | wp_step)
 exact wpAny_raiseNew_none hh hE
end
def o8 (K:PySem.W.Frag) (H₀:Hp) (E:XK) (te:TE):TS:=λ_ σ H=>te σ H λv H1=>∃ x C dd,v=.ref x/\H1 x=some (XN x C dd)/\cu K C/\H₀ x=none/\E (.ref C) (some x) (upd H1 x (XO x C dd))
section
variable {P:Program} {w:World} {K:PySem.W.Frag} {mg:Str->Option Value} {base:Heap} {N:List Str} {qual:Str} {scope:Scope} {f:Addr} {cd:Value} {A:Around} {outer:List Env} {s:Shared} {H:Hp} {E:XK}
theorem ma {pins:List (Addr × Obj)} {σ:St} {H2:Hp} {s2:Shared} {x C:Addr} {dd:Option Addr} (I:Inv (bZ (iU P w) P w K mg base N qual scope f cd A outer s H E) pins σ H2 s2) (hx:H2 x=some (XN x C dd)) (hn:H x=none)
  (hE:E (.ref C) (some x) (upd H2 x (XO x C dd))):(bZ (iU P w) P w K mg base N qual scope f cd A outer s H E).xe (.ref x) s2:=by
 obtain⟨t,sl,he⟩:=XN.get I.hok hx
 have nex:∀ b:Addr,b∉(bZ (iU P w) P w K mg base N qual scope f cd A outer s H E).ex:=λb z=>absurd (show b∈([]:List Addr) from z) (by simp)
 have nx:s.heap.get? x=none:=by
  cases q:s.heap.get? x with
  | none=>rfl
  | some o =>
   have:=I.base.free x o q hn (nex x)
   rw [hx] at this
   cases this
 have old:∀ b o,s.heap.get? b=some o->b≠x:=λb o q z=>by rw [z,nx] at q;cases q
 have nfr:∀ b o,s.heap.get? b=some o->b∉cV outer->b∉cV (envOfC qual scope s.heap.objs.size f cd::outer):=λb o q hb hm=>by
  rcases List.mem_cons.mp (I.bA b hm) with z | z
  ·exact absurd (Heap.lt_size q) (by rw [z];exact Nat.lt_irrefl _)
  ·exact hb z
 have hok':cm P w (upd H2 x (XO x C dd)) s2.heap:=λb o q=>by
  by_cases hb:b=x
  ·subst hb
   rw [ae] at q
   cases q
   exact XO.ok he
  ·rw [aj hb] at q
   refine (I.hok b o q).cp (λ_ _ _ r=>r) (λc r=>?_) λc xs r=>?_
   ·rw [aj (λz=>by rw [z,hx] at r;cases r)];exact r
   ·rw [aj (λz=>by rw [z,hx] at r;cases r)];exact r
 show wpAny (model P w) (A.deeper (envOfC qual scope s.heap.objs.size f cd)) (leaving (envOfC qual scope s.heap.objs.size f cd) (.ref x)) _ _ s2
 refine je (L:=s.heap.objs.size) I.ok.frames I.stack rfl he rfl λh'' T t' n' k'=>?_
 obtain⟨vs,sl',oT,ts,he',r'⟩:=t'
 have tr':Tr h'' x (.ref C) dd T .none:=⟨vs,sl',oT,ts,he',r'⟩
 have nT:T≠x:=r'.2.1
 refine⟨x,C,T,dd,upd H2 x (XO x C dd),rfl,I.os,I.bare,?_,?_,tr',nx,?_,?_,ae,hE⟩
 ·refine⟨λb o q nn hb _=>?_,λb o q nn hb _=>?_,λb o q nn _=>?_,λb o q _=>?_,λb xs q=>?_,λb o xs q=>?_,λb ps q=>?_⟩
  ·exact k'.keep b o (by simp [old b o q]) (nfr b o q hb) (I.base.keep b o q nn hb (nex b))
  ·obtain⟨s1',q1⟩:=I.base.slot b o q nn hb (nex b)
   obtain⟨s3',q3⟩:=k'.slot b _ (by simp [old b o q]) q1
   exact⟨s3',q3⟩
  ·rw [aj (old b o q)]
   exact I.base.free b o q nn (nex b)
  ·obtain⟨o1,q1⟩:=I.base.there b o q (nex b)
   obtain⟨s3',q3⟩:=k'.slot b _ (by simp [old b o q]) q1
   exact⟨_,q3⟩
  ·have:=I.base.tups b xs q
   rw [aj (λz=>by rw [z,hx] at this;cases this)];exact this
  ·have:=I.base.frzs b o xs q
   rw [aj (λz=>by rw [z,hx] at this;cases this)];exact this
  ·obtain⟨m1,e1⟩:=I.base.tbls b ps q
   exact⟨m1,by rw [aj (λz=>by rw [z,hx] at e1;cases e1)];exact e1⟩
 ·exact kM hok' k' (λb hb=>.inl (by simpa using hb)) (λb hb=>by
   have z:=I.cS b hb
   rw [aj (λy=>by rw [y,hx] at z;cases z)];exact z) ae he'
 ·cases q:s.heap.get? T with
  | none=>rfl
  | some o =>
   obtain⟨o1,q1⟩:=I.base.there T o q (nex T)
   exact absurd (Heap.lt_size q1) (Nat.not_lt.mpr n')
 ·rw [aj nT]
  exact I.hok.fresh n'
theorem oF {e:Expr} {te:TE} {pos:Pos} (he:PE (bZ (iU P w) P w K mg base N qual scope f cd A outer s H E) e te):PS (bZ (iU P w) P w K mg base N qual scope f cd A outer s H E) (.Raise (some e) none pos) (o8 K H E te):=by
 intro pins s1 σ H1 D I h
 rw [arm_exec_Raise]
 refine wpAny_bind (wpAny_standAt (fR (K:=K) (I.ok.hd rfl) (wpAny_bind (aN (he pins s1 σ H1 _ I h) λv s2 ⟨y,H2,I2,r,x,C,dd,ey,hx,c,hn,hE⟩=>?_))))
 subst ey
 obtain rfl:v=Value.ref x:=r
 obtain⟨t,sl,hg⟩:=XN.get I2.hok hx
 exact wpAny_bind (wpAny_standAt (wpAny_pure ⟨x,C,t,dd,sl,rfl,I2.eE,c,hg,ma I2 hx hn hE⟩))
end
section
variable {prog:Program} {w:World} {A:Around} {E:Value->Shared->Prop} {h:Heap} {g:Array GenState} {d:Drawn} {t:Nat} {os:OsState}
variable {nm q:Str} {C N:Addr} {bs bm:List Value} {hdct:Bool} {sn:List Str} {sub:List Value} {ab:Bool} {col:Option Bool} {dd:Option Addr} {k0 k1 k2 k3 k5:Option Value}
end
theorem bB.any {P:Program} {w:World} {K:PySem.W.Frag} {mg:Str->Option Value} {base:Heap} {CX:fN} {k:Nat} {f:Addr} {fd:FuncData} {ps:List Str} {sp:Sp} (F:bB P w K mg base aZ k f fd ps sp):bB P w K mg base CX k f fd ps sp :=
 ⟨F.len,λA outer s H args us vs Q E hr he hb hv hs=>codeAny_mono (F.run A outer s H args us vs Q E hr he hb hv hs) λr s' q=>by
  cases r with
  | error e=>exact False.elim q
  | ok fl =>
   cases fl with
   | ret u=>exact q
   | next=>exact q
   | brk=>exact q
   | cont=>exact q⟩
def vV (K:PySem.W.Frag) (ta tv:TE) (f:Str):TS:=λD σ H=>tv σ H λy H1=>ta σ H1 λxv H2=>∃ x C,xv=.ref x/\H2 x=some (XN x C none)/\cu K C/\findIn K (.ref C) f=some none /\
 ∀ dx,H2 dx=none->dx≠x->D.nx σ (upd (upd H2 dx (.xd [(f,y)])) x (XN x C (some dx)))
section
variable {X:Cx} {o value:Expr} {f:Str} {pos pos':Pos} {ta tv:TE}
theorem qF (ha:PE X o ta) (hv:PE X value tv) (hs:swapsWith value (some (.Attribute o f pos')) pos.line X.env=pure false:=by rfl):PS X (.Assign [.Attribute o f pos'] value pos) (vV X.K ta tv f):=by
 intro pins s σ H D I h
 refine plainObj_wpAny_Assign_Attribute (aN (hv pins s σ H _ I h) λu s1 ⟨y,H1,I1,ry,q⟩=>aN (ha pins s1 σ H1 _ I1 q) λov s2 ⟨xv,H2,I2,rx,x,C,ex,hx,c,hf,q2⟩=>?_) hs
 subst ex
 obtain rfl:ov=Value.ref x:=rx
 obtain⟨t,sl,hg⟩:=XN.get I2.hok hx
 obtain⟨cd,hc,hm,hh⟩:=c.cls
 refine pU I2.eE hg hc hm hh c.sa hf λh' g1 g2 g3=>?_
 have hd0:H2 s2.heap.objs.size=none:=I2.hok.fresh (Nat.le_refl _)
 have hne:s2.heap.objs.size≠x:=λz=>by rw [z,hx] at hd0;cases hd0
 have bx:∀ b,H2 b=none->b≠x:=λb z y=>by rw [y,hx] at z;cases z
 have bd:∀ b o,s2.heap.get? b=some o->b≠s2.heap.objs.size:=λb o q=>Nat.ne_of_lt (Heap.lt_size q)
 have tb:∀ b u,H2 b=some u->b≠s2.heap.objs.size:=λb u q z=>by rw [z,hd0] at q;cases q
 refine⟨σ,upd (upd H2 s2.heap.objs.size (.xd [(f,y)])) x (XN x C (some s2.heap.objs.size)),I2.un ⟨λb o q n _ _=>g3 b o (bx b n) q,λb o q n _ _=>⟨o.slots,g3 b o (bx b n) q⟩,λb o q n _=>?_,λb o q _=>?_,λb xs q=>?_,λb o xs q=>?_,λb ps q=>?_⟩ ?_,q2 _ hd0 hne⟩
 ·rw [aj (bx b n),aj (bd b o q)];exact n
 ·by_cases z:b=x
  ·exact⟨_,by rw [z];exact g1⟩
  ·exact⟨o,g3 b o z q⟩
 ·rw [aj (λz=>by rw [z,hx] at q;cases q),aj (tb b _ q)];exact q
 ·rw [aj (λz=>by rw [z,hx] at q;cases q),aj (tb b _ q)];exact q
 ·exact⟨#[],by rw [aj (λz=>by rw [z,hx] at q;cases q),aj (tb b _ q),q];simp⟩
 ·intro b o q
  by_cases z:b=x
  ·subst z
   rw [ae] at q
   cases q
   exact XN.ok g1
  ·rw [aj z] at q
   by_cases z2:b=s2.heap.objs.size
   ·subst z2
    rw [ae] at q
    cases q
    refine⟨_,g2,λk=>?_⟩
    show dG (List.lookup k [(f,y)]) (if k=f then some u else none)
    by_cases e:k=f
    ·subst e
     rw [if_pos rfl,List.lookup_cons,beq_self_eq_true]
     exact ry
    ·have e':(k==f)=false:=by simpa using e
     rw [if_neg e,List.lookup_cons,e']
     exact True.intro
   ·rw [aj z2] at q
    refine (I2.hok b o q).cp (λc' u' hc' r=>g3 c' u' (λz3=>?_) r) (λc' r=>?_) λc' xs r=>?_
    ·rcases hc' with e | e
     ·exact z (e.symm.trans z3)
     ·rw [z3,hx] at e;cases e
    ·rw [aj (λz3=>by rw [z3,hx] at r;cases r),aj (tb c' _ r)];exact r
    ·rw [aj (λz3=>by rw [z3,hx] at r;cases r),aj (tb c' _ r)];exact r
end
structure sP (K:PySem.W.Frag) (C:Addr):Prop where
 obj:∃ nm q N bs bm hdct sn sub ab col dd k0 k1 k2 k3 k5,K.lookup C=some (excClassObj nm q C N bs bm hdct sn sub ab col dd k0 k1 k2 k3 k5 iS)/\bm.contains (.type "ValueError")=true/\bm.contains (.type "AttributeError")=false/\bm.contains (.type "NameError")=false
 kp:keepIn K (.ref C)=true
def iM (K:PySem.W.Frag) (f:Str):Sp:=λvs H Q _=>∃ x C v,vs=[.ref x,v]/\H x=some (XN x C none)/\cu K C/\findIn K (.ref C) f=some none /\
 ∀ dx,H dx=none->dx≠x->Q .non (upd (upd H dx (.xd [(f,v)])) x (XN x C (some dx)))
def uz (C:Addr) (f:Str) (t:TA):TE:=λσ H Q=>t σ H λvs H1=>∃ v,vs=[v]/\∀ x dx,H1 x=none->H1 dx=none->dx≠x->Q (.ref x) (upd (upd (upd H1 x (XN x C none)) dx (.xd [(f,v)])) x (XN x C (some dx)))
def xH (C:Addr):TE:=λ_ H Q=>∀ x,H x=none->Q (.ref x) (upd H x (XN x C none))
section
variable {X:Cx} {C fi:Addr} {fd:FuncData} {p f x:Str} {k:Nat} {pos np:Pos} {e:Expr} {t:TA}
theorem Inv.newExc {pins:List (Addr × Obj)} {σ:St} {H:Hp} {s:Shared} (I:Inv X pins σ H s) (us:List Value):Inv X pins σ (upd H (s.heap.objs.size+1) (XN (s.heap.objs.size+1) C none))
  { s with heap:=(s.heap.push { cls:=.type "tuple",data:=.seq us.toArray }).push (L2.newExc C s.heap.objs.size) }:=by
 have I1:Inv X pins σ H { s with heap:=s.heap.push { cls:=.type "tuple",data:=.seq us.toArray } }:=I.kept (t':=s.toks) λb u q=>Heap.get?_push_of_some _ q
 refine I1.laid (a:=s.heap.objs.size+1) (t':=s.toks) (λb u q=>Heap.get?_push_of_some _ q) (Nat.le_of_eq (Heap.size_push _ _)) ?_
 refine XN.ok (t:=s.heap.objs.size) (sl:=#[]) ?_
 have:=Heap.get?_push_size (s.heap.push { cls:=.type "tuple",data:=.seq us.toArray }) (o:=L2.newExc C s.heap.objs.size) rfl
 rwa [Heap.size_push] at this
theorem lX (M:sP X.K C) (c:cu X.K C) (hi:findIn X.K (.ref C) "__init__"=some (some (.ref fi))) (fn:isFn X.K (.ref fi)=true) (hf:findIn X.K (.ref C) f=some none) (F:bB X.prog X.w X.K X.mg X.base aZ k fi fd ["self",p] (iM X.K f)) (hr:a4 (k+1) X.A) (hg:Gl X x)
  (hm:X.mg x=some (.ref C)) (hb:Binds X.K fd ["self",p] []) (ha:PA X [e] t) (hdb:(x==("__debug__":Str))=false:=by decide) (he:starEach [e] X.env=(false,eval e X.env)::starEach [] X.env:=by rfl) (hpl:(backTo pos (starEach [] X.env)).any (·.1)=false:=by rfl) :
  PE X (.Call (.Name x np) [e] [] pos) (uz C f t):=by
 intro pins s σ H Q I h
 refine wpAny_Call_Name_kw (ik I hg hm ?_ hdb)
 refine PySem.W.callWith_K (h₀:=X.base) I.ok.mod.kin M.kp (aN (ha pos pins s σ H _ I h) λus s1 ⟨vs,H1,I1,r,q⟩=>⟨I1.eE,?_⟩) he hpl
 obtain⟨v,rfl,q⟩:=q
 obtain⟨u,rfl,ru⟩:=vals1 r
 obtain⟨nm,qn,Nn,bs,bm,hdct,sn,sub,ab,col,dd,k0,k1,k2,k3,k5,hk,hB,hA,hN⟩:=M.obj
 have I2:=Inv.newExc (C:=C) I1 [u]
 have n1:H1 (s1.heap.objs.size+1)=none:=I1.hok.fresh (Nat.le_succ _)
 have r2:Vals [V.ref (s1.heap.objs.size+1),v] [Value.ref (s1.heap.objs.size+1),u]:=.cons rfl (.cons ru .nil)
 have hq:iM X.K f [V.ref (s1.heap.objs.size+1),v] (upd H1 (s1.heap.objs.size+1) (XN (s1.heap.objs.size+1) C none)) (λz H3=>z=.non/\Q (.ref (s1.heap.objs.size+1)) H3) E0 :=
  ⟨_,C,v,rfl,ae,c,hf,λdx hd hne=>⟨rfl,q _ dx n1 (by rw [aj hne] at hd;exact hd) hne⟩⟩
 obtain⟨hh,g,d,tk,os⟩:=s1
 refine mR (K:=X.K) I1.eE hB hA hN (I1.eE _ _ hk) (by show 1<=sizeLine;decide) hi (bind_fn I1.eE _ (beq_iff_eq.mp fn)) ?_
 refine codeAny_mono (F.run _ X.stack _ _ ⟨[Value.ref (hh.objs.size+1),u],[]⟩ [Value.ref (hh.objs.size+1),u] _ _ E0 (hr.make C [u] []) (I2.u7.make C [u] []) (by have:=hb _ [Value.ref (hh.objs.size+1),u] I2.eE rfl;rwa [List.append_nil] at this) r2 hq) λr s' hq'=>?_
 cases r with
 | error e=>exact False.elim hq'
 | ok fl =>
  cases fl with
  | ret u' =>
   obtain⟨v',H',I3,rv,ev,q3⟩:=I2.after hq'
   subst ev
   exact⟨rv,⟨V.ref (hh.objs.size+1),H',I3,rfl,q3⟩⟩
  | next=>exact False.elim hq'
  | brk=>exact False.elim hq'
  | cont=>exact False.elim hq'
end
def wQ (H:Hp) (x C:Addr) (dd:Option Addr):Prop:=H x=some (XO x C dd)∨H x=some (XN x C dd)
theorem wQ.get {P:Program} {w:World} {H:Hp} {h:Heap} {x C:Addr} {dd:Option Addr} (a:wQ H x C dd) (hok:cm P w H h):∃ vs sl,h.get? x=some ⟨.ref C,dd,.fields vs,sl⟩:=by
 rcases a with a | a
 ·exact XO.get hok a
 ·obtain⟨t,sl,e⟩:=XN.get hok a
  exact⟨_,sl,e⟩
def yw (K:PySem.W.Frag) (ta:TE) (f:Str):TE:=λσ H Q=>ta σ H λxv H1=>∃ x C dx fs v,xv=.ref x/\wQ H1 x C (some dx)/\cu K C/\findIn K (.ref C) f=some none/\H1 dx=some (.xd fs)/\fs.lookup f=some v/\Q v H1
section
variable {X:Cx} {e:Expr} {f:Str} {pos:Pos} {ta:TE}
end
section
variable {prog:Program} {w:World} {A:Around} {E:Value->Shared->Prop} {K:PySem.W.Frag} {h:Heap} {g:Array GenState} {d:Drawn} {t:Nat} {os:OsState} {x C B:Addr}
theorem cu.base (c:cu K C):mroIn K C (.type "BaseException")=some true:=by
 obtain⟨cd,hc,hm,_⟩:=c.cls
 obtain⟨m1,m2,m3⟩:=gY hm
 unfold mroIn
 rw [hc,Option.bind_some,if_neg (by rw [m3];decide),m2]
end
section
variable {M:Model} {A:Around} {E:Value->Shared->Prop} {s:Shared}
end
section
variable {X:Cx} {pins:List (Addr × Obj)} {σ:St} {H:Hp} {s:Shared} {M:Model} {A:Around} {E:Value->Shared->Prop}
end
section
variable {X:Cx} {pins:List (Addr × Obj)} {σ:St} {H:Hp} {s:Shared} {x:Addr}
def ve (n:Option Nat) (x:Addr) (σ:St):St:=match n with | some i=>σ.set i (some (.ref x)) | none=>σ
def rF (n:Option Nat) (D:Ends):Ends:=match n with
 | some i=>{ nx:=λσ H=>D.nx (σ.set i none) H,rt:=D.rt,bk:=λσ H=>D.bk (σ.set i none) H,ct:=λσ H=>D.ct (σ.set i none) H }
 | none=>D
end
def xG (K:PySem.W.Frag) (B:Addr) (n:Option Nat) (sp:Sp) (ta:TA) (put:V->St->St) (ts:TS):TS:=λD σ H=>ta σ H λvs H1=>sp vs H1 (λv H2=>D.nx (put v σ) H2)
 (λcv xo H2=>∃ C x dd,cv=.ref C/\xo=some x/\H2 x=some (XO x C dd)/\cu K C/\mroIn K C (.ref B)=some true/\ts (rF n D) (ve n x σ) H2)
section
variable {X:Cx} {B:Addr} {n:Option Nat} {hd:ExceptHandler} {ts:TS}
variable {k:Nat} {f:Str} {ps:List Str} {sp:Sp} {e:Expr} {es:List Expr} {t:TA} {p cpos epos pos:Pos}
end
section
variable {P:Program} {w:World} {K:PySem.W.Frag} {mg:Str->Option Value} {base:Heap} {k:Nat} {x:Str} {ps:List Str} {sp:Sp}
theorem jU {st:Stmt} {N:List Str} (D:av K mg x st)
  (hb:∀(kV doc pm:Value) (an:Option Addr) (cdv ct:Value) (us:List Value),us.length=ps.length->bindArgs (PySem.W.fnOf x x (aX st) (aE st) (ai st) .none kV doc pm an cdv ct) ⟨us,[]⟩=pure (ps.zip us))
  (S:ar N ps (ai st)) (len:∀ vs H Q E,sp vs H Q E->vs.length=ps.length)
  (hbody:∀(f:Addr) (cdv:Value) (A:Around) (outer:List Env) (s:Shared) (H:Hp) (vs:List V) (Q:VK) (E:XK),a4 k (A.deeper (envOfC x (ai st) s.heap.objs.size f cdv))->sp vs H Q E ->
   ∃ t,eY (bZ (iU P w) P w K mg base N x (ai st) f cdv A outer s H E) (aE st) t/\t { nx:=λ_ H'=>Q .non H',rt:=Q } (start N vs) H):Callee P w K mg base (iU P w) (k+1) x ps sp:=by
 obtain⟨f,fd,F,hm⟩:=D
 obtain⟨oc,od,kV,doc,pm,an,cdv,ct,osl,rfl,lk,hcd⟩:=F.ex
 exact⟨f,_,rD lk hcd S len λA outer s H vs Q E hr h=>hbody f cdv A outer s H vs Q E hr h,hm,F.kp,F.binds hb⟩
theorem Callee.any {CX:fN} (C:Callee P w K mg base aZ k x ps sp):Callee P w K mg base CX k x ps sp:=by
 obtain⟨f,fd,F,a,b,c⟩:=C.ex
 exact⟨f,fd,F.any,a,b,c⟩
end
theorem pY {P:Program} {w:World} {K:PySem.W.Frag} {mg:Str->Option Value} {base:Heap} {qual f p:Str} {st:Stmt} {fi:Addr} {fd:FuncData} {p1 p2 p3 p4:Pos} (F:pG K "__init__" qual st fi fd) (S:ar ["self",p] ["self",p] (ai st))
  (hb:aE st=[.Assign [.Attribute (.Name "self" p1) f p2] (.Name p p3) p4]) (h1:(ai st).names.lookup ("self":Str)=some .local) (h2:(ai st).names.lookup p=some .local) (hd:(p==("__debug__":Str))=false) (hcd:(p==("__classdict__":Str))=false)
  (ab:∀ env:Env,attributeBase (.Name "self" p1) f env (eval (.Name "self" p1) env)=eval (.Name "self" p1) env) (sw:∀ env:Env,swapsWith (.Name p p3) (some (.Attribute (.Name "self" p1) f p2)) p4.line env=pure false):bB P w K mg base aZ 1 fi fd ["self",p] (iM K f):=by
 refine F.ok S (λvs H Q E h=>?_) (λcdv A outer s H vs Q E hr h=>?_)
 ·obtain⟨x,C,v,rfl,_⟩:=h
  rfl
 ·obtain⟨x,C,v,rfl,hx,c,hf,q⟩:=h
  rw [hb]
  refine⟨_,ak (qF (ki (i:=0) rfl (.inl h1) (by decide) (by decide)) (ki (i:=1) rfl (.inl h2) hd hcd) (sw _)),?_⟩
  exact⟨v,rfl,.ref x,rfl,x,C,rfl,hx,c,hf,λdx n ne=>q dx n ne⟩
structure sO (P:Program) (w:World) (K:PySem.W.Frag) (mg:Str->Option Value) (base:Heap) (x:Str) (C:Addr) (f:Str):Prop where
 mkd:sP K C
 cls:cu K C
 at_:mg x=some (.ref C)
 nof:findIn K (.ref C) f=some none
 ex:∃ fi fd p,findIn K (.ref C) "__init__"=some (some (.ref fi))/\isFn K (.ref fi)=true/\bB P w K mg base aZ 1 fi fd ["self",p] (iM K f)/\Binds K fd ["self",p] []
structure wR (K:PySem.W.Frag) (mg:Str->Option Value) (x:Str) (C:Addr):Prop where
 mkd:sP K C
 cls:cu K C
 at_:mg x=some (.ref C)
 ini:findIn K (.ref C) "__init__"=some (some (.builtin "ValueError.__init__"))
section
variable {X:Cx} {C:Addr} {f x:Str} {pos np:Pos} {e:Expr} {t:TA}
theorem uc (c:sO X.prog X.w X.K X.mg X.base x C f) (hr:a4 2 X.A) (hg:Gl X x) (ha:PA X [e] t) (hdb:(x==("__debug__":Str))=false:=by decide)
  (he:starEach [e] X.env=(false,eval e X.env)::starEach [] X.env:=by rfl) (hpl:(backTo pos (starEach [] X.env)).any (·.1)=false:=by rfl):PE X (.Call (.Name x np) [e] [] pos) (uz C f t):=by
 obtain⟨fi,fd,p,hi,fn,F,hb⟩:=c.ex
 exact lX c.mkd c.cls hi fn c.nof F hr hg c.at_ hb ha hdb he hpl
end
inductive sF (K:PySem.W.Frag) (H:Hp):Nat->V->V->Bool->Prop
 | flat {d:Nat} {y x:V}:rC y=true->rC x=true->sF K H d y x (ye y x)
 | same {d:Nat} {p:Addr}:sF K H d (.ref p) (.ref p) true
 | lists {d:Nat} {p q:Addr} {xs ys:List V} {e:Nat->Bool}:p≠q->aT K H p xs->aT K H q ys->xs.length=ys.length->(∀ j y x,xs[j]?=some y->ys[j]?=some x->sF K H d y x (e j))->sF K H (d+1) (.ref p) (.ref q) ((List.range xs.length).all e)
 | unlike {d:Nat} {p q:Addr} {xs ys:List V}:p≠q->aT K H p xs->aT K H q ys->xs.length≠ys.length->sF K H (d+1) (.ref p) (.ref q) false
 | tups {d:Nat} {p q:Addr} {xs ys:List V} {e:Nat->Bool}:p≠q->a9 K H p xs->a9 K H q ys->(∀ j y x,xs[j]?=some y->ys[j]?=some x->sF K H d y x (e j))->sF K H (d+1) (.ref p) (.ref q) ((List.range (min xs.length ys.length)).all e && xs.length==ys.length)
section
variable {X:Cx} {pins:List (Addr × Obj)} {σ:St} {H:Hp} {s:Shared}
theorem Vals.at {xs:List V} {us:List Value} (r:Vals xs us):∀{j:Nat} {u:Value},us[j]?=some u->∃ x,xs[j]?=some x/\RelV x u:=by
 induction r with
 | nil=>intro j u h;simp at h
 | cons r t ih =>
  intro j u h
  cases j with
  | zero=>simp only [List.getElem?_cons_zero,Option.some.injEq] at h;subst h;exact⟨_,rfl,r⟩
  | succ j=>simp only [List.getElem?_cons_succ] at h ⊢;exact ih h
theorem Vals.len {xs:List V} {us:List Value} (r:Vals xs us):us.length=xs.length:=by
 induction r with
 | nil=>rfl
 | cons r t ih=>simp only [List.length_cons,ih]
end
theorem fP {A B:Prop} (a:A) (f:A->B):B:=f a
section
variable {K:PySem.W.Frag} {mg:Str->Option Value} {h:Heap} {x f p qual:Str} {C D fi N:Addr}
section
variable {nm q:Str} {bs bm:List Value} {hdct ab:Bool} {sn:Option Str} {od:Option Addr} {cd:ClassData} {sl:Array (Option Value)}
theorem uC {o:Obj} (l:K.lookup C=some o) (ob:∃ nm q N bs bm hdct sn sub ab col dd k0 k1 k2 k3 k5,o=excClassObj nm q C N bs bm hdct sn sub ab col dd k0 k1 k2 k3 k5 iS/\bm.contains (.type "ValueError")=true/\bm.contains (.type "AttributeError")=false/\bm.contains (.type "NameError")=false) (kp:keepIn K (.ref C)=true):sP K C:=by
 obtain⟨nm,q,N,bs,bm,hdct,sn,sub,ab,col,dd,k0,k1,k2,k3,k5,e,r⟩:=ob
 subst e
 exact⟨⟨nm,q,N,bs,bm,hdct,sn,sub,ab,col,dd,k0,k1,k2,k3,k5,l,r⟩,kp⟩
theorem q4 (l:K.lookup C=some ⟨.type "type",od,.cls cd,sl⟩) (h2:aV cd.mro=true) (h3:cd.hasDict=true)
  (sa:findIn K (.ref C) "__setattr__"=some (some (.builtin "object.__setattr__"))) (ga:findIn K (.ref C) "__getattribute__"=some (some (.builtin "BaseException.__getattribute__"))) (gx:findIn K (.ref C) "__getattr__"=some none)
  (ca:findIn K (.ref C) "__class__"=some (some (.builtin "object.__class__"))) (gs:specialIn K (.builtin "object.__class__") "__get__"=some (some (.builtin "getset_descriptor.__get__"))) (tk:takesIn K (.builtin "object.__class__")=some true):L2.cu K C :=
 ⟨⟨cd,by unfold clsIn;rw [l],h2,h3⟩,⟨_,_,_,l⟩,sa,ga,gx,ca,gs,tk⟩
theorem qZ (a:mg x=some (.ref C)) (M:sP K C) (c:cu K C) (ini:findIn K (.ref C) "__init__"=some (some (.builtin "ValueError.__init__"))):wR K mg x C:=⟨M,c,a,ini⟩
structure jP (qual f p:Str) (st:Stmt):Prop where
 S:ar ["self",p] ["self",p] (ai st)
 hb:∃ p1 p2 p3 p4,aE st=[.Assign [.Attribute (.Name "self" p1) f p2] (.Name p p3) p4]/\(∀ env:Env,attributeBase (.Name "self" p1) f env (eval (.Name "self" p1) env)=eval (.Name "self" p1) env)/\(∀ env:Env,swapsWith (.Name p p3) (some (.Attribute (.Name "self" p1) f p2)) p4.line env=pure false)
 h1:(ai st).names.lookup ("self":Str)=some .local
 h2:(ai st).names.lookup p=some .local
 hd:(p==("__debug__":Str))=false
 hcd:(p==("__classdict__":Str))=false
 bd:∀(kV doc pm:Value) (an:Option Addr) (cdv ct:Value) (us:List Value),us.length=2->bindArgs (PySem.W.fnOf "__init__" qual (aX st) (aE st) (ai st) .none kV doc pm an cdv ct) ⟨us,[]⟩=pure ((["self",p]:List Str).zip us)
theorem ly {st:Stmt} {oc:Value} {od an:Option Addr} {osl:Array (Option Value)} {kV doc pm cdv ct:Value} (I:jP qual f p st) (a:mg x=some (.ref C)) (M:sP K C) (c:cu K C) (nof:findIn K (.ref C) f=some none)
  (ini:findIn K (.ref C) "__init__"=some (some (.ref fi))) (fn:isFn K (.ref fi)=true) (l:K.lookup fi=some ⟨oc,od,.func (PySem.W.fnOf "__init__" qual (aX st) (aE st) (ai st) .none kV doc pm an cdv ct),osl⟩) (cc:codeIn K cdv qual=true) (kk:keepIn K (.ref fi)=true) :
  ∀(P:Program) (w:World) (base:Heap),sO P w K mg base x C f:=λP w base=>by
 obtain⟨p1,p2,p3,p4,hb,ab,sw⟩:=I.hb
 have F:=mT l cc kk
 exact⟨M,c,a,nof,fi,_,p,ini,fn,pY F I.S hb I.h1 I.h2 I.hd I.hcd ab sw,F.binds I.bd⟩
end
theorem iT {od:Option Addr} {cd:ClassData} {sl:Array (Option Value)} (_:K.In h) (_:mg x=some (.ref C)) (l:K.lookup C=some ⟨.type "type",od,.cls cd,sl⟩) (h2:aV cd.mro=true) (h3:cd.hasDict=true)
  (sa:findIn K (.ref C) "__setattr__"=some (some (.builtin "object.__setattr__"))) (ga:findIn K (.ref C) "__getattribute__"=some (some (.builtin "BaseException.__getattribute__"))) (gx:findIn K (.ref C) "__getattr__"=some none)
  (ca:findIn K (.ref C) "__class__"=some (some (.builtin "object.__class__"))) (gs:specialIn K (.builtin "object.__class__") "__get__"=some (some (.builtin "getset_descriptor.__get__"))) (tk:takesIn K (.builtin "object.__class__")=some true)
  (ob:∃ nm q N bs bm hdct sn sub ab col dd k0 k1 k2 k3 k5,(⟨.type "type",od,.cls cd,sl⟩:Obj)=excClassObj nm q C N bs bm hdct sn sub ab col dd k0 k1 k2 k3 k5 iS/\bm.contains (.type "ValueError")=true/\bm.contains (.type "AttributeError")=false/\bm.contains (.type "NameError")=false) (kp:keepIn K (.ref C)=true):cu K C/\sP K C :=
 ⟨q4 l h2 h3 sa ga gx ca gs tk,uC l ob kp⟩
end
end L2
namespace Pw
theorem fz (x n:Int):∀ k:Nat,(x%n)^k%n=x^k%n
 | 0=>by rw [Int.pow_zero,Int.pow_zero]
 | k+1=>by rw [Int.pow_succ,Int.pow_succ,Int.mul_emod,fz x n k,Int.emod_emod,<- Int.mul_emod]
theorem oZ (b:Int):∀ k:Nat,(b*b)^k=b^(2*k)
 | 0=>by rw [Nat.mul_zero,Int.pow_zero,Int.pow_zero]
 | k+1=>by
  rw [Int.pow_succ,oZ b k,Nat.mul_add,Nat.mul_one,Int.pow_succ,Int.pow_succ,Int.mul_assoc]
theorem vz (x y n:Int):x%n*y%n=x*y%n:=by rw [Int.mul_emod,Int.emod_emod,<- Int.mul_emod]
theorem rM {x x' y y' n:Int} (h:x%n=x'%n) (h':y%n=y'%n):x*y%n=x'*y'%n:=by rw [Int.mul_emod,h,h',<- Int.mul_emod]
theorem step (r b n:Int) (l:Nat):(if l%2=1 then r*b%n else r)*(b*b%n)^(l/2)%n=r*b^l%n:=by
 have e:(b*b%n)^(l/2)%n=b^(2*(l/2))%n:=by rw [fz,oZ]
 by_cases c:l%2=1
 ·rw [if_pos c]
  have h:l=2*(l/2)+1:=by omega
  have e2:b^l=b^(2*(l/2))*b:=by rw [<- Int.pow_succ];exact congrArg _ h
  rw [rM (Int.emod_emod_of_dvd (r*b) (Int.dvd_refl n)) e,e2]
  congr 1
  rw [Int.mul_assoc,Int.mul_comm b]
 ·rw [if_neg c]
  have h:l=2*(l/2):=by omega
  rw [rM (rfl:r%n=r%n) e,<- h]
theorem pow_add (a:Int) (m:Nat):∀ k:Nat,a^(m+k)=a^m*a^k
 | 0=>by rw [Nat.add_zero,Int.pow_zero,Int.mul_one]
 | k+1=>by rw [<- Nat.add_assoc,Int.pow_succ,pow_add a m k,Int.pow_succ,Int.mul_assoc]
theorem mul_pow (a b:Int):∀ k:Nat,(a*b)^k=a^k*b^k
 | 0=>by rw [Int.pow_zero,Int.pow_zero,Int.pow_zero,Int.mul_one]
 | k+1=>by
  rw [Int.pow_succ,Int.pow_succ,Int.pow_succ,mul_pow a b k]
  grind
theorem pow_mul (a:Int) (m:Nat):∀ k:Nat,a^(m*k)=(a^m)^k
 | 0=>by rw [Nat.mul_zero,Int.pow_zero,Int.pow_zero]
 | k+1=>by rw [Nat.mul_add,Nat.mul_one,pow_add,pow_mul a m k,Int.pow_succ]
theorem one_pow:∀ k:Nat,(1:Int)^k=1
 | 0=>Int.pow_zero 1
 | k+1=>by rw [Int.pow_succ,one_pow k,Int.mul_one]
theorem sQ {n x y:Int}:x%n=y%n↔n∣x-y:=by
 rw [Int.emod_eq_emod_iff_emod_sub_eq_zero,Int.dvd_iff_emod_eq_zero]
end Pw
namespace L2
open PySem PySem.Spec PyProof.Rows
end L2
namespace L2
open PySem PySem.Spec PyProof.Rows PySem.W
def xF (K:PySem.W.Frag) (te:TE) (tk:TO):TE:=λσ H Q=>te σ H λx H1=>tk σ H1 λo H2=>o=some (-1)/\∃ a xs,x=.ref a/\aT K H2 a xs/\∀ p,H2 p=none->Q (.ref p) (upd H2 p (.lst xs.reverse))
section
variable {X:Cx} {e k:Expr} {te:TE} {tk:TO} {p2 pos:Pos}
end
mutual
def dv (K:PySem.W.Frag) (H:Hp):PyData->V->Prop
 | .none,v=>v=.non
 | .bool b,v=>v=.bl b
 | .int i,v=>v=.int i
 | .str x,v=>v=.str x
 | .list ds,v=>∃ p xs,v=.ref p/\aT K H p xs/\aU K H ds xs
 | .tuple ds,v=>∃ p xs,v=.ref p/\a9 K H p xs/\aU K H ds xs
 | .dict _,_=>False
def aU (K:PySem.W.Frag) (H:Hp):List PyData->List V->Prop
 | [],xs=>xs=[]
 | d::ds,xs=>∃ x r,xs=x::r/\dv K H d x/\aU K H ds r
end
section
variable {K:PySem.W.Frag} {H H':Hp}
theorem Rd.same {a:Addr} {o:HO} (h:Rd H a o) (s:aA H H'):Rd H' a o:=by
 rcases h with h | ⟨b,h⟩
 ·exact .inl (s _ _ h)
 ·exact .inr ⟨b,s _ _ h⟩
theorem aT.same {a:Addr} {xs:List V} (h:aT K H a xs) (s:aA H H'):aT K H' a xs:=h.imp (λz=>z.same s) id
theorem a9.same {a:Addr} {xs:List V} (h:a9 K H a xs) (s:aA H H'):a9 K H' a xs:=h.imp (λz=>z.same s) id
mutual
theorem dv.same (s:aA H H'):∀(d:PyData) {v:V},dv K H d v->dv K H' d v
 | .none,_,h=>h
 | .bool _,_,h=>h
 | .int _,_,h=>h
 | .str _,_,h=>h
 | .list ds,_,⟨p,xs,e,h,t⟩=>⟨p,xs,e,h.same s,aU.same s ds t⟩
 | .tuple ds,_,⟨p,xs,e,h,t⟩=>⟨p,xs,e,h.same s,aU.same s ds t⟩
 | .dict _,_,h=>h.elim
theorem aU.same (s:aA H H'):∀(ds:List PyData) {xs:List V},aU K H ds xs->aU K H' ds xs
 | [],_,h=>h
 | d::ds,_,⟨x,r,e,h,t⟩=>⟨x,r,e,dv.same s d h,aU.same s ds t⟩
end
theorem aU.length:∀{ds:List PyData} {xs:List V},aU K H ds xs->xs.length=ds.length
 | [],_,h=>by cases h;rfl
 | d::ds,_,⟨x,r,e,h,t⟩=>by subst e;rw [List.length_cons,List.length_cons,aU.length t]
theorem aU.get:∀{ds:List PyData} {xs:List V},aU K H ds xs->∀{i:Nat} {x:V},xs[i]?=some x->∃ d,ds[i]?=some d/\dv K H d x
 | [],_,h,i,x,e=>by cases h;simp at e
 | d::ds,_,⟨y,r,ey,h,t⟩,0,x,e=>by subst ey;simp at e;subst e;exact⟨d,rfl,h⟩
 | d::ds,_,⟨y,r,ey,h,t⟩,i+1,x,e=>by subst ey;simp at e;simpa using aU.get t e
theorem aU.get':∀{ds:List PyData} {xs:List V},aU K H ds xs->∀{i:Nat} {d:PyData},ds[i]?=some d->∃ x,xs[i]?=some x/\dv K H d x
 | [],_,h,i,x,e=>by simp at e
 | d::ds,_,⟨y,r,ey,h,t⟩,0,x,e=>by subst ey;simp at e;subst e;exact⟨y,rfl,h⟩
 | d::ds,_,⟨y,r,ey,h,t⟩,i+1,x,e=>by subst ey;simp at e;simpa using aU.get' t e
theorem aU.append:∀{ds es:List PyData} {xs ys:List V},aU K H ds xs->aU K H es ys->aU K H (ds++es) (xs++ys)
 | [],_,_,_,h,h'=>by cases h;exact h'
 | d::ds,_,_,_,⟨x,r,e,h,t⟩,h'=>by subst e;exact⟨x,_,rfl,h,t.append h'⟩
theorem aU.one {d:PyData} {x:V} (h:dv K H d x):aU K H [d] [x]:=⟨x,[],rfl,h,rfl⟩
theorem dv.lst {p:Addr} {xs:List V} {ds:List PyData} (h:H p=some (.lst xs)) (t:aU K H ds xs):dv K H (.list ds) (.ref p):=⟨p,xs,rfl,aT.of h,t⟩
theorem dv.tup {p:Addr} {xs:List V} {ds:List PyData} (h:H p=some (.tup xs)) (t:aU K H ds xs):dv K H (.tuple ds) (.ref p):=⟨p,xs,rfl,a9.of h,t⟩
theorem pP {α:Type} {xs:List α} {v:α} (h:xs.getLast?=some v):lC xs (-1)=some v:=by
 have l:0<xs.length:=by
  cases xs with
  | nil=>simp at h
  | cons=>simp
 unfold lC rK
 rw [if_neg (by decide),if_pos (by omega),Option.bind_some,show (-1+(xs.length:Int)).toNat=xs.length-1 by omega,<- List.getLast?_eq_getElem?,h]
theorem aU.last {ds:List PyData} {us:List V} {d:PyData} (h:aU K H ds us) (e:ds.getLast?=some d):∃ v,lC us (-1)=some v/\dv K H d v:=by
 rw [List.getLast?_eq_getElem?] at e
 obtain⟨v,hv,hd⟩:=h.get' e
 refine⟨v,pP ?_,hd⟩
 rw [List.getLast?_eq_getElem?,h.length,hv]
mutual
def uI:PyData->Bool
 | .list _=>false
 | .tuple ds=>fV ds
 | _=>true
def fV:List PyData->Bool
 | []=>true
 | d::ds=>uI d && fV ds
end
def SameBut (p:Addr) (H H':Hp):Prop:=∀ b o,b≠p->H b=some o->H' b=some o
theorem a9.but {p a:Addr} {us xs:List V} (hp:H p=some (.lst us)) (s:SameBut p H H') (h:a9 K H a xs):a9 K H' a xs:=by
 rcases h with (h | ⟨o,h⟩) | h
 ·exact .inl (.inl (s _ _ (λe=>by rw [e,hp] at h;cases h) h))
 ·exact .inl (.inr ⟨o,s _ _ (λe=>by rw [e,hp] at h;cases h) h⟩)
 ·exact .inr h
mutual
theorem dv.but {p:Addr} {us:List V} (hp:H p=some (.lst us)) (s:SameBut p H H'):∀(d:PyData) {v:V},uI d=true->dv K H d v->dv K H' d v
 | .none,_,_,h=>h
 | .bool _,_,_,h=>h
 | .int _,_,_,h=>h
 | .str _,_,_,h=>h
 | .list ds,_,z,_=>by cases z
 | .tuple ds,_,z,⟨q,xs,e,h,t⟩=>⟨q,xs,e,h.but hp s,aU.but hp s ds z t⟩
 | .dict _,_,_,h=>h.elim
theorem aU.but {p:Addr} {us:List V} (hp:H p=some (.lst us)) (s:SameBut p H H'):∀(ds:List PyData) {xs:List V},fV ds=true->aU K H ds xs->aU K H' ds xs
 | [],_,_,h=>h
 | d::ds,_,z,⟨x,r,e,h,t⟩=>by
  have z':uI d=true/\fV ds=true:=by simpa [fV] using z
  exact⟨x,r,e,dv.but hp s d z'.1 h,aU.but hp s ds z'.2 t⟩
end
theorem ji {α:Type} {f:α->PyData} (h:∀ x,uI (f x)=true):∀ xs:List α,fV (xs.map f)=true
 | []=>rfl
 | x::xs=>by rw [List.map_cons,fV,h,ji h xs];rfl
end
section
variable {X:Cx} {pins:List (Addr × Obj)} {σ:St} {H:Hp} {s:Shared}
mutual
theorem fB (I:Inv X pins σ H s):∀(d:PyData) {v:V} {u:Value},dv X.K H d v->RelV v u->∃ as,Reads s.heap u d as
 | .none,_,u,h,r=>by cases h;cases r;exact⟨_,.none⟩
 | .bool _,_,u,h,r=>by cases h;cases r;exact⟨_,.bool _⟩
 | .int _,_,u,h,r=>by cases h;obtain⟨t,rfl⟩:=r;exact⟨_,.int _ _⟩
 | .str _,_,u,h,r=>by cases h;obtain⟨t,rfl⟩:=r;exact⟨_,.str _ _⟩
 | .list ds,_,u,⟨p,xs,e,h,t⟩,r=>by
  subst e
  cases r
  obtain⟨its,rr,pl,_⟩:=I.list h
  obtain⟨o,h1,h2,n,h3⟩:=pl.isList
  obtain⟨as,ra⟩:=cG I ds t rr
  exact⟨_,.list h1 h2 h3 (by simpa using ra)⟩
 | .tuple ds,_,u,⟨p,xs,e,h,t⟩,r=>by
  subst e
  cases r
  obtain⟨its,rr,pl,_⟩:=I.tuple h
  obtain⟨o,h1,h2,n,h3⟩:=pl
  obtain⟨as,ra⟩:=cG I ds t rr
  exact⟨_,.tuple h1 h2 h3 (by simpa using ra)⟩
 | .dict _,_,_,h,_=>h.elim
theorem cG (I:Inv X pins σ H s):∀(ds:List PyData) {xs:List V} {us:List Value},aU X.K H ds xs->Vals xs us->∃ as,ReadsAll s.heap us ds as
 | [],_,us,h,r=>by cases h;cases r;exact⟨_,.nil⟩
 | d::ds,_,us,⟨x,r,e,h,t⟩,rr=>by
  subst e
  cases rr with
  | cons r1 r2 =>
   obtain⟨a1,q1⟩:=fB I d h r1
   obtain⟨a2,q2⟩:=cG I ds t r2
   exact⟨_,.cons q1 q2⟩
end
def vH (K:PySem.W.Frag) (neg:Bool):R2:=λy x H Q=>∃ d e,dv K H d y/\dv K H e x/\d.canLay0=true/\e.canLay0=true/\min d.depth e.depth<=60/\Q (.bl (if neg then !PyData.eqv d e else PyData.eqv d e)) H
theorem oa (hu:X.A.units+64<cLine):eS X (compareOp .Eq) (vH X.K false):=by
 intro pins s σ H y x u v Q I ry rx h
 obtain⟨d,e,hd,he,c1,c2,c3,q⟩:=h
 obtain⟨as,ra⟩:=fB I d hd ry
 obtain⟨bs,rb⟩:=fB I e he rx
 exact SeqAt.compareEq_reads ra rb c1 c2 (by omega) ⟨.bl _,H,I,rfl,q⟩
end
end L2
namespace Pw
def ff (e:Nat):List Nat:=if h:e=0 then [] else ff (e/2)++[e]
termination_by e
decreasing_by omega
theorem gg:ff 0=[]:=by rw [ff];simp
theorem i7 {e:Nat} (h:0<e):ff e=ff (e/2)++[e]:=by
 rw [ff,dif_neg (by omega)]
def lst (xs:List Nat):Nat:=xs.getLast?.getD 0
theorem lst_snoc (xs:List Nat) (x:Nat):lst (xs++[x])=x:=by simp [lst]
theorem nF (e:Nat):lst (ff e)=e:=by
 rcases Nat.eq_zero_or_pos e with h | h
 ·subst h;rw [gg];rfl
 ·rw [i7 h,lst_snoc]
theorem chain:∀(e i x:Nat),(ff e)[i]?=some x->1<=x/\x/2=lst ((ff e).take i):=by
 intro e
 induction e using Nat.strongRecOn with
 | ind e ih =>
  intro i x h
  rcases Nat.eq_zero_or_pos e with z | z
  ·subst z;rw [gg] at h;simp at h
  ·rw [i7 z] at h ⊢
   by_cases c:i<(ff (e/2)).length
   ·rw [List.getElem?_append_left c] at h
    rw [List.take_append_of_le_length (Nat.le_of_lt c)]
    exact ih (e/2) (by omega) i x h
   ·have hi:i=(ff (e/2)).length:=by
     have:=(List.getElem?_eq_some_iff.mp h).1
     rw [List.length_append,List.length_singleton] at this
     omega
    subst hi
    rw [List.getElem?_append_right (Nat.le_refl _),Nat.sub_self] at h
    simp at h
    subst h
    rw [List.take_left',nF]
    ·exact⟨z,rfl⟩
    ·rfl
end Pw
namespace L2
open PySem PySem.Spec PyProof.Rows PySem.W
end L2
namespace Ld
structure cY (n r:Int):Prop where
 two:2<=r
 dv:r∣n
 no:∀ d:Int,2<=d->d<r->¬d∣n
theorem cY.one {n r r':Int} (h:cY n r) (h':cY n r'):r=r':=by
 rcases Int.lt_trichotomy r r' with c | c | c
 ·exact absurd h.dv (h'.no r h.two c)
 ·exact c
 ·exact absurd h'.dv (h.no r' h'.two c)
theorem cY.le {n r:Int} (h:cY n r) (hn:0<n):r<=n:=Int.le_of_dvd hn h.dv
structure Inv (n k:Int):Prop where
 two:2<=k
 odd:k=2∨k%2=1
 no:∀ d:Int,2<=d->d<k->¬d∣n
theorem Inv.step {n k:Int} (h:Inv n k) (hk:¬k∣n):Inv n (k+if k=2 then 1 else 2):=by
 have h2:=h.two
 by_cases c:k=2
 ·rw [if_pos c]
  refine⟨by omega,.inr (by omega),λd d0 d1=>?_⟩
  have:d=k:=by omega
  rw [this];exact hk
 ·rw [if_neg c]
  have ho:k%2=1:=by rcases h.odd with z | z;exact absurd z c;exact z
  refine⟨by omega,.inr (by omega),λd d0 d1 hd=>?_⟩
  rcases (by omega:d<k∨d=k∨d=k+1) with z | z | z
  ·exact h.no d d0 z hd
  ·subst z;exact hk hd
  ·have e2:(2:Int)∣d:=Int.dvd_of_emod_eq_zero (by omega)
   exact h.no 2 (by omega) (by omega) (Int.dvd_trans e2 hd)
theorem Inv.found {n k:Int} (h:Inv n k) (hk:k∣n):cY n k:=⟨h.two,hk,h.no⟩
theorem Inv.done {n k:Int} (h:Inv n k) (hn:2<=n) (hk:n<k*k):cY n n:=by
 refine⟨hn,Int.dvd_refl n,λd d0 d1 hd=>?_⟩
 obtain⟨c,hc⟩:=hd
 have h2:=h.two
 by_cases z:d<k
 ·exact h.no d d0 z ⟨c,hc⟩
 ·have c0:0<c:=by
   rcases (by omega:c<=0∨0<c) with y | y
   ·have:=Int.mul_nonpos_of_nonneg_of_nonpos (show 0<=d by omega) y
    omega
   ·exact y
  have c2:2<=c:=by
   rcases (by omega:c=1∨2<=c) with y | y
   ·subst y;omega
   ·exact y
  have ck:c<k:=by
   rcases (by omega:c<k∨k<=c) with y | y
   ·exact y
   ·have:=Int.mul_le_mul (show k<=d by omega) y (by omega) (by omega)
    omega
  exact h.no c c2 ck ⟨d,by rw [Int.mul_comm];exact hc⟩
end Ld
namespace L2
open PySem PySem.Spec PyProof.Rows PySem.W
section
variable {K:PySem.W.Frag} {H:Hp}
mutual
theorem eqv_refl:∀ d:PyData,d.canLay0=true->PyData.eqv d d=true
 | .none,_=>by simp [PyData.eqv]
 | .bool _,_=>by simp [PyData.eqv]
 | .int _,_=>by simp [PyData.eqv]
 | .str _,_=>by simp [PyData.eqv]
 | .list ds,h=>by simpa [PyData.eqv] using dZ ds h
 | .tuple ds,h=>by simpa [PyData.eqv] using dZ ds h
 | .dict _,h=>by simp [PyData.canLay0] at h
theorem dZ:∀ ds:List PyData,PyData.canLayAll0 ds=true->PyData.eqvAll ds ds=true
 | [],_=>by simp [PyData.eqvAll]
 | d::ds,h=>by
  have h':d.canLay0=true/\PyData.canLayAll0 ds=true:=by simpa [PyData.canLayAll0] using h
  simp [PyData.eqvAll,eqv_refl d h'.1,dZ ds h'.2]
end
theorem mJ {neg:Bool} {v u:V} {d:PyData} {Q:VK} (h1:dv K H d v) (h2:dv K H d u) (hl:d.canLay0=true) (hd:d.depth<=60) (h:Q (.bl (!neg)) H):vH K neg v u H Q:=by
 refine⟨d,d,h1,h2,hl,hl,by omega,?_⟩
 rw [eqv_refl d hl]
 cases neg
 ·exact h
 ·exact h
end
end L2
namespace L2
open PySem PySem.Spec PyProof.Rows
def wI (lo k:Int) (n:Nat):It:=⟨λi _=>i<n,λi H x H'=>H'=H/\x=.int (lo+i*k),λi _=>n<=i⟩
def vx (lo hi k:Int):Nat:=if lo<hi then ((hi-lo-1)/k+1).toNat else 0
def vj (ta:TA):TI:=λσ H R=>ta σ H λvs H1=>∃ i j k:Int,vs=[.int i,.int j,.int k]/\(-(2^60)<=i/\i<2^60 /\ -(2^60)<=j/\j<2^60/\0<k/\k<2^29)/\R (wI i k (vx i j k)) H1
section
variable {X:Cx} {tg:Expr}
end
end L2
namespace Sv
def uu (d:Nat) (arr:Nat->Bool):Nat->Bool:=λj=>arr j || (decide (d*d<=j) && decide (j%d=0))
def sv:Nat->(Nat->Bool) × List Nat
 | 0=>(λ_=>false,[])
 | i+1=>if (sv i).1 (i+2) then sv i else (uu (i+2) (sv i).1,(sv i).2++[i+2])
theorem len:∀ i,(sv i).2.length<=i
 | 0=>Nat.le_refl _
 | i+1=>by
  have:=len i
  rw [sv]
  split
  ·omega
  ·rw [List.length_append,List.length_singleton];omega
end Sv
namespace L2
open PySem PySem.Spec PyProof.Rows
section
variable {X:Cx} {pins:List (Addr × Obj)} {σ:St} {H:Hp} {s:Shared} {h':Heap}
theorem Inv.lr {t':Nat} {ch:List Addr} (I:Inv X pins σ H s) (k:∀ b o,b∉ch->s.heap.get? b=some o->h'.get? b=some o) (hf:∀ b∈ch,eW X pins H b):Inv X pins σ H { s with heap:=h',toks:=t' }:=by
 have nit:∀ b u,H b=some u->b∉ch:=λb u e z=>by rw [(hf b z).1] at e;cases e
 refine I.step (g':=s.gens) (d':=s.drawn) (ch:=ch) (λb hb=>?_) (λb o _ _ hc e _=>k b o hc e) (λb o _ _ hc e _=>⟨o.slots,k b o hc e⟩) (λ_ _ _ _ n=>n)
  (λb o hc e=>⟨o,k b o hc e⟩) (λ_ _ e=>e) (λ_ _ _ e=>e) (λb ps e=>⟨#[],by rw [e];simp⟩) (λm hm=>?_) (λb u e=>?_) I.bare
 ·obtain⟨_,f1,_,f3,f4,f5⟩:=hf b hb
  exact⟨f3,f1,f4,f5⟩
 ·obtain⟨o,es,ep,ho,r⟩:=hm
  exact⟨o,es,ep,k _ o (λz=>(hf _ z).2.1 rfl) ho,r⟩
 ·refine (I.hok b u e).cp (λc v hc q=>k c v ?_ q) (λ_ q=>q) λ_ _ q=>q
  rcases hc with z | z
  ·rw [z];exact nit b u e
  ·exact nit c _ z
theorem Inv.adopt {T:Addr} {o:HO} (I:Inv X pins σ H s) (hf:eW X pins H T) (new:aG X.prog X.w (upd H T o) s.heap T o):Inv X pins σ (upd H T o) s:=by
 have nT:∀ b u,H b=some u->b≠T:=λb u e z=>by rw [z,hf.1] at e;cases e
 refine I.step (h':=s.heap) (g':=s.gens) (d':=s.drawn) (t':=s.toks) (ch:=[T]) (λb hb=>?_) (λb o _ _ hc e _=>e) (λb o _ _ hc e _=>⟨o.slots,e⟩) (λb o hc e n=>by rw [aj (λz=>hc (by simp [z]))];exact n)
  (λb o hc e=>⟨o,e⟩) (λb xs e=>by rw [aj (nT _ _ e)];exact e) (λb o u e=>by rw [aj (nT _ _ e)];exact e) (λb ps e=>⟨#[],by rw [aj (nT _ _ e),e];simp⟩) (λm hm=>hm) (λb u e=>?_) I.bare
 ·have e:b=T:=by simpa using hb
  subst e
  obtain⟨_,f1,_,f3,f4,f5⟩:=hf
  exact⟨f3,f1,f4,f5⟩
 ·by_cases z:b=T
  ·subst z
   rw [ae] at e
   cases e
   exact new
  ·rw [aj z] at e
   exact (I.hok b u e).cp (λc v _ q=>q) (λc q=>by rw [aj (nT _ _ q)];exact q) λc xs q=>by rw [aj (nT _ _ q)];exact q
end
def x8 (K:PySem.W.Frag) (a:Addr):It :=
 ⟨λi H=>∃ xs x,aT K H a xs/\xs[i]?=some x,λi H x H'=>∃ p v,H p=none/\x=.ref p/\(∀ xs,aT K H a xs->xs[i]?=some v)/\H'=upd H p (.tup [.int i,v]),λi H=>∃ xs,aT K H a xs/\xs.length<=i⟩
def vh (K:PySem.W.Frag) (ta:TA):TI:=λσ H R=>ta σ H λvs H1=>∃ a,vs=[.ref a]/\(∃ xs,aT K H1 a xs)/\R (x8 K a) H1
end L2
namespace Crt
structure G (a b g:Int):Prop where
 pos:0<g
 da:g∣a
 db:g∣b
 lin:∃ u v:Int,u*a+v*b=g
theorem G.gr {a b g d:Int} (h:G a b g) (h1:d∣a) (h2:d∣b):d∣g:=by
 obtain⟨u,v,e⟩:=h.lin
 rw [<- e]
 exact Int.dvd_add (Int.dvd_mul_of_dvd_right h1) (Int.dvd_mul_of_dvd_right h2)
theorem G.one {a b g g':Int} (h:G a b g) (h':G a b g'):g=g':=Int.le_antisymm (Int.le_of_dvd h'.pos (h'.gr h.da h.db)) (Int.le_of_dvd h.pos (h.gr h'.da h'.db))
theorem a1 {g u A v L:Int} (e:u*(g*A)+v*(g*L)=g):g*(u*A+v*L)=g*1:=by grind
theorem a2 {g A k L l y:Int} (h1:y=g*A*k) (h2:y=g*L*l):g*(A*k)=g*(L*l):=by grind
theorem a3 {u A v L k l:Int} (e4:u*A+v*L=1) (e5:A*k=L*l):k=L*(u*l+v*k):=by
 have z:k*(u*A+v*L)=k:=by rw [e4,Int.mul_one]
 grind
structure wC (M N m n W x:Int):Prop where
 pos:0<W
 dM:M∣W
 dm:m∣W
 le:∀ y:Int,M∣y->m∣y->W∣y
 x0:0<=x
 x1:x<W
 eM:M∣x-N
 em:m∣x-n
theorem wG:∀(b a:Nat),0<a->∃ g,G (a:Int) (b:Int) g:=by
 intro b
 induction b using Nat.strongRecOn with
 | ind b ih =>
  intro a ha
  rcases Nat.eq_zero_or_pos b with z | z
  ·subst z
   exact⟨a,by omega,Int.dvd_refl _,Int.dvd_zero _,1,0,by simp⟩
  ·obtain⟨g,h⟩:=ih (a%b) (Nat.mod_lt a z) b z
   obtain⟨u,v,e⟩:=h.lin
   have ed:(a:Int)=(b:Int)*((a/b:Nat):Int)+((a%b:Nat):Int):=by
    have:=Nat.div_add_mod a b
    rw [<- Int.natCast_mul,<- Int.natCast_add,this]
   refine⟨g,h.pos,?_,h.da,v,u-v*((a/b:Nat):Int),?_⟩
   ·rw [ed]
    exact Int.dvd_add (Int.dvd_mul_of_dvd_left h.da) h.db
   ·rw [ed,<- e]
    generalize ((a/b:Nat):Int)=q
    generalize ((a%b:Nat):Int)=r
    generalize (b:Int)=b'
    grind
theorem uL {a b:Int} (ha:0<a) (hb:0<b):∃ g,G a b g:=by
 obtain⟨g,h⟩:=wG b.toNat a.toNat (by omega)
 rw [Int.toNat_of_nonneg (by omega),Int.toNat_of_nonneg (by omega)] at h
 exact⟨g,h⟩
structure Told (ps:List (Int × Int)) (M N:Int):Prop where
 pos:0<M
 x0:0<=N
 x1:N<M
 dv:∀ p∈ps,p.1∣M
 le:∀ y:Int,(∀ p∈ps,p.1∣y)->M∣y
 al:∀ p∈ps,p.1∣N-p.2
theorem Told.nil:Told [] 1 0:=⟨by decide,by decide,by decide,λ_ h=>by simp at h,λy _=>⟨y,by omega⟩,λ_ h=>by simp at h⟩
theorem Told.step {ps:List (Int × Int)} {M N m n W x:Int} (h:Told ps M N) (b:wC M N m n W x):Told (ps++[(m,n)]) W x:=by
 refine⟨b.pos,b.x0,b.x1,λp hp=>?_,λy hy=>?_,λp hp=>?_⟩
 ·rcases List.mem_append.mp hp with z | z
  ·exact Int.dvd_trans (h.dv p z) b.dM
  ·rw [List.mem_singleton.mp z];exact b.dm
 ·exact b.le y (h.le y λp hp=>hy p (List.mem_append_left _ hp)) (hy (m,n) (List.mem_append_right _ (by simp)))
 ·rcases List.mem_append.mp hp with z | z
  ·have e1:=Int.dvd_trans (h.dv p z) b.eM
   have e2:=h.al p z
   have:=Int.dvd_add e1 e2
   rwa [show x-N+(N-p.2)=x-p.2 by omega] at this
  ·rw [List.mem_singleton.mp z];exact b.em
theorem Told.fits {ps:List (Int × Int)} {M N m n g:Int} (h:Told ps M N) (G0:G M m g) (hp:∀ p∈ps,∀ d,G p.1 m d->d∣p.2-n) (hG:∀ p∈ps,∃ d,G p.1 m d):g∣n-N:=by
 obtain⟨A,hA⟩:=G0.da
 obtain⟨L,hL⟩:=G0.db
 have g0:=G0.pos
 have key:M∣(n-N)*A:=by
  refine h.le _ λp hm=>?_
  obtain⟨d,hd⟩:=hG p hm
  obtain⟨u,v,e⟩:=hd.lin
  have d1:d∣n-N:=by
   have z1:=hp p hm d hd
   have z2:=Int.dvd_trans hd.da (h.al p hm)
   have:=Int.dvd_add z1 z2
   have w:=(Int.dvd_neg).mpr this
   rwa [show -(p.2-n+(N-p.2))=n-N by omega] at w
  obtain⟨c,hc⟩:=d1
  obtain⟨B,hB⟩:=h.dv p hm
  refine⟨c*(u*A+v*L*B),?_⟩
  rw [hc,<- e]
  have:m*A=p.1*(L*B):=by
   have z:g*(m*A)=g*(p.1*(L*B)):=by
    have:m*M=g*L*(p.1*B):=by rw [hL,hB]
    have z2:g*(m*A)=m*M:=by rw [hA];grind
    rw [z2,this];grind
   exact Int.eq_of_mul_eq_mul_left (by omega) z
  grind
 obtain⟨c,hc⟩:=key
 have A0:A≠0:=λz=>by rw [z] at hA;have:=h.pos;omega
 refine⟨c,?_⟩
 have:A*(n-N)=A*(g*c):=by rw [Int.mul_comm A (n-N),hc,hA];grind
 exact Int.eq_of_mul_eq_mul_left A0 this
theorem Told.one {ps:List (Int × Int)} {M N M' N':Int} (h:Told ps M N) (h':Told ps M' N'):M=M'/\N=N':=by
 have e:M=M':=Int.le_antisymm (Int.le_of_dvd h'.pos (h.le _ h'.dv)) (Int.le_of_dvd h.pos (h'.le _ h.dv))
 subst e
 refine⟨rfl,?_⟩
 have z:M∣N-N':=h.le _ λp hp=>by
  have:=Int.dvd_sub (h.al p hp) (h'.al p hp)
  rwa [show N-p.2-(N' - p.2)=N-N' by omega] at this
 have w:=Int.emod_emod_of_dvd
 have:=(Int.emod_eq_emod_iff_emod_sub_eq_zero (m:=N) (n:=M) (k:=N')).mpr (Int.emod_eq_zero_of_dvd z)
 rwa [Int.emod_eq_of_lt h.x0 h.x1,Int.emod_eq_of_lt h'.x0 h'.x1] at this
end Crt
namespace Num
def Al (n x y:Int):Prop:=n∣x-y
theorem Al.refl (n x:Int):Al n x x:=⟨0,by omega⟩
theorem Al.symm {n x y:Int} (h:Al n x y):Al n y x:=by
 have:=(Int.dvd_neg).mpr h
 rwa [show -(x-y)=y-x by omega] at this
theorem Al.trans {n x y z:Int} (h:Al n x y) (h':Al n y z):Al n x z:=by
 have:=Int.dvd_add h h'
 rwa [show x-y+(y-z)=x-z by omega] at this
theorem Al.mul {n x y u v:Int} (h:Al n x y) (h':Al n u v):Al n (x*u) (y*v):=by
 have h1:n∣(x-y)*u:=Int.dvd_mul_of_dvd_left h
 have h2:n∣y*(u-v):=Int.dvd_mul_of_dvd_right h'
 have:=Int.dvd_add h1 h2
 rwa [show (x-y)*u+y*(u-v)=x*u-y*v by rw [Int.sub_mul,Int.mul_sub];omega] at this
theorem Al.pow {n x y:Int} (h:Al n x y):∀ k:Nat,Al n (x^k) (y^k)
 | 0=>by rw [Int.pow_zero,Int.pow_zero];exact Al.refl _ _
 | k+1=>by rw [Int.pow_succ,Int.pow_succ];exact (Al.pow h k).mul h
theorem Al.iff {n x y:Int}:Al n x y↔x%n=y%n:=Pw.sQ.symm
theorem Al.rest (n x:Int):Al n (x%n) x:=Al.iff.mpr (Int.emod_emod_of_dvd x (Int.dvd_refl n))
def Co (a n:Int):Prop:=∃ u v:Int,u*a+v*n=1
theorem Co.dvd {a n b:Int} (h:Co a n) (hd:n∣a*b):n∣b:=by
 obtain⟨u,v,e⟩:=h
 have h1:n∣u*(a*b):=Int.dvd_mul_of_dvd_right hd
 have h2:n∣(v*b)*n:=⟨v*b,Int.mul_comm _ _⟩
 have:=Int.dvd_add h1 h2
 have e2:u*(a*b)+v*b*n=(u*a+v*n)*b:=by
  rw [Int.add_mul,Int.mul_assoc u a b,Int.mul_assoc v n b,Int.mul_comm n b,Int.mul_assoc v b n]
 rw [e2,e,Int.one_mul] at this
 exact this
theorem Co.cancel {a n x y:Int} (h:Co a n) (e:Al n (a*x) (a*y)):Al n x y:=by
 refine h.dvd ?_
 rw [Int.mul_sub]
 exact e
theorem Co.mul {a b n:Int} (h:Co a n) (h':Co b n):Co (a*b) n:=by
 obtain⟨u,v,e⟩:=h
 obtain⟨u',v',e'⟩:=h'
 refine⟨u*u',u*a*v'+v*(u'*b+v'*n),?_⟩
 have:(u*a+v*n)*(u'*b+v'*n)=1:=by rw [e,e'];rfl
 grind
theorem Co.pow {a n:Int} (h:Co a n):∀ k:Nat,Co (a^k) n
 | 0=>⟨1,0,by rw [Int.pow_zero];simp⟩
 | k+1=>by rw [Int.pow_succ];exact (Co.pow h k).mul h
theorem Co.vC {a b n:Int} (h:Co a n) (e:Al n a b):Co b n:=by
 obtain⟨u,v,e1⟩:=h
 obtain⟨c,hc⟩:=e
 refine⟨u,v+u*c,?_⟩
 have:b=a-n*c:=by omega
 rw [this]
 grind
theorem aQ {n a:Int} {d k:Nat} (h:Al n (a^d) 1):Al n (a^(d*k)) 1:=by
 rw [Pw.pow_mul]
 have:=h.pow k
 rwa [Pw.one_pow] at this
structure Ord (n a:Int) (m:Nat):Prop where
 pos:0<m
 one:Al n (a^m) 1
 dv:∀ j:Nat,Al n (a^j) 1->m∣j
theorem pow_mod {n a:Int} {m j:Nat} (h:Al n (a^m) 1) (hj:Al n (a^j) 1):Al n (a^(j%m)) 1:=by
 have e:a^j=a^(m*(j/m))*a^(j%m):=by rw [<- Pw.pow_add,Nat.div_add_mod]
 rw [e] at hj
 have h1:=(aQ (k:=j/m) h).mul (Al.refl n (a^(j%m)))
 rw [Int.one_mul] at h1
 exact h1.symm.trans hj
theorem dO {n a:Int} {m:Nat} (pos:0<m) (one:Al n (a^m) 1) (no:∀ j,0<j->j<m->¬Al n (a^j) 1):Ord n a m:=by
 refine⟨pos,one,λj hj=>?_⟩
 have h:=pow_mod one hj
 rcases Nat.eq_zero_or_pos (j%m) with z | z
 ·exact Nat.dvd_of_mod_eq_zero z
 ·exact absurd h (no _ z (Nat.mod_lt _ pos))
theorem cD {P:Nat->Prop}:∀ N:Nat,P N->∃ m,P m/\∀ j,j<m->¬P j:=by
 intro N
 induction N using Nat.strongRecOn with
 | ind N ih =>
  intro h
  by_cases z:∃ j,j<N/\P j
  ·obtain⟨j,hj,pj⟩:=z
   exact ih j hj pj
  ·exact⟨N,h,λj hj pj=>z ⟨j,hj,pj⟩⟩
theorem kf {n a:Int} {N:Nat} (pos:0<N) (h:Al n (a^N) 1):∃ m,Ord n a m/\m<=N:=by
 obtain⟨m,⟨m0,m1⟩,no⟩:=cD (P:=λj=>0<j/\Al n (a^j) 1) N ⟨pos,h⟩
 refine⟨m,dO m0 m1 λj j0 jm z=>no j jm ⟨j0,z⟩,?_⟩
 by_cases z:m<=N
 ·exact z
 ·exact absurd ⟨pos,h⟩ (no N (by omega))
theorem Ord.tO {n a:Int} {m m':Nat} (h:Ord n a m) (h':Ord n a m'):m=m':=Nat.dvd_antisymm (h.dv _ h'.one) (h'.dv _ h.one)
theorem Ord.inj {n a:Int} {m i j:Nat} (h:Ord n a m) (c:Co a n) (hi:i<m) (hj:j<m) (e:Al n (a^i) (a^j)):i=j:=by
 have aux:∀ i j:Nat,i<m->j<m->i<=j->Al n (a^i) (a^j)->i=j:=by
  intro i j hi hj hij e
  have e1:a^j=a^i*a^(j-i):=by rw [<- Pw.pow_add];congr 1;omega
  rw [e1] at e
  have e2:Al n (a^i*1) (a^i*a^(j-i)):=by rw [Int.mul_one];exact e
  have e3:=(c.pow i).cancel e2
  have:=h.dv _ e3.symm
  rcases Nat.eq_zero_or_pos (j-i) with z | z
  ·omega
  ·have:=Nat.le_of_dvd z this
   omega
 rcases Nat.le_total i j with z | z
 ·exact aux i j hi hj z e
 ·exact (aux j i hj hi z e.symm).symm
theorem iA:∀(n:Nat) (l:List Nat),l.Nodup->(∀ x∈l,x<n)->l.length<=n:=by
 intro n
 induction n with
 | zero =>
  intro l _ h
  cases l with
  | nil=>exact Nat.le_refl _
  | cons x r=>exact absurd (h x (by simp)) (by omega)
 | succ n ih =>
  intro l nd h
  by_cases c:n∈l
  ·have h1:=ih (l.erase n) (nd.erase n) λx hx=>by
    have hx':=List.mem_of_mem_erase hx
    have ne:x≠n:=λz=>by
     subst z
     exact absurd hx (List.Nodup.not_mem_erase nd)
    have:=h x hx'
    omega
   rw [List.length_erase_of_mem c] at h1
   omega
  ·have h1:=ih l nd λx hx=>by
    have:=h x hx
    have ne:x≠n:=λz=>c (z▸hx)
    omega
   omega
end Num
namespace Num
structure Pm (p:Int):Prop where
 two:2<=p
 no:∀ d:Int,2<=d->d<p->¬d∣p
theorem Pm.co {p a:Int} (h:Pm p) (ha:¬p∣a):Co a p:=by
 have h2:=h.two
 have r0:=Int.emod_nonneg a (show p≠0 by omega)
 have r1:=Int.emod_lt_of_pos a (show 0<p by omega)
 have rn:a%p≠0:=λz=>ha (Int.dvd_of_emod_eq_zero z)
 obtain⟨g,G⟩:=Crt.uL (a:=a%p) (b:=p) (by omega) (by omega)
 have gl:=Int.le_of_dvd (show 0<a%p by omega) G.da
 have g1:g=1:=by
  have g0:=G.pos
  rcases (by omega:g=1∨2<=g) with z | z
  ·exact z
  ·exact absurd G.db (h.no g z (by omega))
 obtain⟨u,v,e⟩:=G.lin
 rw [g1] at e
 exact Co.vC ⟨u,v,e⟩ (Al.rest p a)
theorem Pm.or {p a b:Int} (h:Pm p) (hd:p∣a*b) (ha:¬p∣a):p∣b:=(h.co ha).dvd hd
def H:Int->List Int->Int->Int
 | acc,[],_=>acc
 | acc,c::cs,x=>H (acc*x+c) cs x
theorem mC (x:Int):∀(cs:List Int) (a b:Int),H (a+b) cs x=H a cs x+b*x^cs.length
 | [],a,b=>by rw [List.length_nil,Int.pow_zero,Int.mul_one];rfl
 | c::cs,a,b=>by
  show H ((a+b)*x+c) cs x=H (a*x+c) cs x+b*x^(cs.length+1)
  rw [show (a+b)*x+c=(a*x+c)+b*x by rw [Int.add_mul];omega,mC x cs,Int.pow_succ,Int.mul_assoc,Int.mul_comm x]
def qG (r:Int):Int->List Int->List Int
 | _,[]=>[]
 | _,[_]=>[]
 | c0,c::c'::cs=>(c0*r+c)::qG r (c0*r+c) (c'::cs)
theorem iJ (r:Int):∀(cs:List Int) (c0:Int),(qG r c0 cs).length=cs.length-1
 | [],_=>rfl
 | [_],_=>rfl
 | c::c'::cs,c0=>by
  show (qG r (c0*r+c) (c'::cs)).length+1=_
  rw [iJ r (c'::cs)]
  simp
theorem factor (x r:Int):∀(cs:List Int) (c0:Int),cs≠[]->H c0 cs x-H c0 cs r=(x-r)*H c0 (qG r c0 cs) x
 | [],_,h=>absurd rfl h
 | [c],c0,_=>by
  show c0*x+c-(c0*r+c)=(x-r)*c0
  rw [Int.sub_mul,Int.mul_comm c0 x,Int.mul_comm c0 r]
  omega
 | c::c'::cs,c0,_=>by
  have ih:=factor x r (c'::cs) (c0*r+c) (by simp)
  show H (c0*x+c) (c'::cs) x-H (c0*r+c) (c'::cs) r=(x-r)*H (c0*x+(c0*r+c)) (qG r (c0*r+c) (c'::cs)) x
  have e1:c0*x+c=(c0*r+c)+c0*(x-r):=by rw [Int.mul_sub];omega
  have e2:H (c0*x+(c0*r+c)) (qG r (c0*r+c) (c'::cs)) x=H (c0*r+c) (qG r (c0*r+c) (c'::cs)) x+c0*x*x^cs.length:=by
   rw [Int.add_comm (c0*x),mC,iJ]
   simp
  rw [e1,mC,e2,List.length_cons,Int.pow_succ,Int.mul_add,<- ih]
  generalize H (c0*r+c) (c'::cs) x=A
  generalize H (c0*r+c) (c'::cs) r=B
  generalize x^cs.length=Y
  grind
theorem roots {p:Int} (hp:Pm p):∀(n:Nat) (cs:List Int) (c0:Int),cs.length=n->¬p∣c0->∀ rs:List Int,rs.Pairwise (λa b=>¬Al p a b)->(∀ r∈rs,p∣H c0 cs r)->rs.length<=n:=by
 intro n
 induction n with
 | zero =>
  intro cs c0 hl h0 rs hr hz
  have:cs=[]:=List.eq_nil_of_length_eq_zero hl
  subst this
  cases rs with
  | nil=>exact Nat.le_refl _
  | cons r rs=>exact absurd (hz r (by simp)) h0
 | succ n ih =>
  intro cs c0 hl h0 rs hr hz
  cases rs with
  | nil=>exact Nat.zero_le _
  | cons r rs =>
   have hne:cs≠[]:=λz=>by rw [z] at hl;simp at hl
   obtain⟨h1,h2⟩:=List.pairwise_cons.mp hr
   have:=ih (qG r c0 cs) c0 (by rw [iJ,hl];rfl) h0 rs h2 λs hs=>by
    have e:=factor s r cs c0 hne
    have d1:=hz s (List.mem_cons_of_mem _ hs)
    have d2:=hz r (by simp)
    have d3:=Int.dvd_sub d1 d2
    rw [e] at d3
    exact hp.or d3 λz=>h1 s hs (Al.symm z)
   simpa using this
theorem q5 (x:Int):∀(n:Nat) (a:Int),H a (List.replicate n 0++[-1]) x=a*x^(n+1)-1
 | 0,a=>by
  show a*x + -1=_
  rw [Int.pow_succ,Int.pow_zero,Int.one_mul];omega
 | n+1,a=>by
  show H (a*x+0) (List.replicate n 0++[-1]) x=_
  rw [q5 x n,Int.add_zero,Int.pow_succ x (n+1),Int.mul_comm (x^(n+1)) x,Int.mul_assoc]
theorem pN {p:Int} (hp:Pm p) {n:Nat} (hn:0<n) (h:∀ a:Int,¬p∣a->Al p (a^n) 1):p-1<=n:=by
 have h2:=hp.two
 obtain⟨m,rfl⟩:∃ m,n=m+1:=⟨n-1,by omega⟩
 have key:=roots hp (m+1) (List.replicate m 0++[-1]) 1 (by simp) (λz=>by have:=Int.le_of_dvd (by decide) z;omega) ((List.range (p-1).toNat).map λi:Nat=>(i:Int)+1) ?_ ?_
 ·rw [List.length_map,List.length_range] at key
  omega
 ·rw [List.pairwise_map]
  refine List.Pairwise.imp_of_mem (R:=(·<·)) (λ{a b} ha hb hab z=>?_) List.pairwise_lt_range
  have hb':=List.mem_range.mp hb
  have:=Int.le_of_dvd (by omega) (Al.symm z)
  omega
 ·intro r hr
  obtain⟨i,hi,rfl⟩:=List.mem_map.mp hr
  have hi':=List.mem_range.mp hi
  rw [q5,Int.one_mul]
  exact h _ λz=>by have:=Int.le_of_dvd (by omega) z;omega
theorem gz {f:Nat->Nat} {n:Nat} (h:∀ i j,i<j->j<n->f i≠f j):((List.range n).map f).Nodup:=by
 show List.Pairwise _ _
 rw [List.pairwise_map]
 exact List.Pairwise.imp_of_mem (R:=(·<·)) (λ{a b} ha hb hab=>h a b hab (List.mem_range.mp hb)) List.pairwise_lt_range
theorem rest_eq {p x y:Int} (hp:0<p) (e:(x%p).toNat=(y%p).toNat):Al p x y:=by
 have h1:=Int.emod_nonneg x (show p≠0 by omega)
 have h2:=Int.emod_nonneg y (show p≠0 by omega)
 exact Al.iff.mpr (by omega)
theorem back {n a:Int} (hn:2<=n) (c:Co a n):∃ d:Nat,0<d/\(d:Int)<=n/\Al n (a^d) 1:=by
 by_cases z:∃ i j:Nat,i<j/\j<n.toNat+1/\Al n (a^i) (a^j)
 ·obtain⟨i,j,ij,jn,e⟩:=z
  refine⟨j-i,by omega,by omega,?_⟩
  have e1:a^j=a^i*a^(j-i):=by rw [<- Pw.pow_add];congr 1;omega
  rw [e1] at e
  have e2:Al n (a^i*1) (a^i*a^(j-i)):=by rw [Int.mul_one];exact e
  exact ((c.pow i).cancel e2).symm
 ·exfalso
  have nd:=gz (f:=λi=>(a^i%n).toNat) (n:=n.toNat+1) λi j ij jn e=>z ⟨i,j,ij,jn,rest_eq (by omega) e⟩
  have:=iA n.toNat _ nd λx hx=>by
   obtain⟨i,_,rfl⟩:=List.mem_map.mp hx
   have h1:=Int.emod_nonneg (a^i) (show n≠0 by omega)
   have h2:=Int.emod_lt_of_pos (a^i) (show 0<n by omega)
   show (a^i%n).toNat<n.toNat
   omega
  rw [List.length_map,List.length_range] at this
  omega
def fact:Nat->Nat
 | 0=>1
 | n+1=>(n+1)*fact n
theorem i8:∀ n,0<fact n
 | 0=>by decide
 | n+1=>Nat.mul_pos (Nat.succ_pos n) (i8 n)
theorem i5 {d:Nat}:∀ n,0<d->d<=n->d∣fact n
 | 0,h,h'=>by omega
 | n+1,h,h'=>by
  by_cases c:d=n+1
  ·subst c;exact⟨fact n,rfl⟩
  ·exact Nat.dvd_trans (i5 n h (by omega)) ⟨n+1,Nat.mul_comm _ _⟩
theorem Ord.mul {n a b:Int} {k m:Nat} (ha:Ord n a k) (hb:Ord n b m) (ca:Co a n) (cb:Co b n) (co:Nat.Coprime k m):Ord n (a*b) (k*m):=by
 refine⟨Nat.mul_pos ha.pos hb.pos,?_,λj hj=>?_⟩
 ·rw [Pw.mul_pow]
  have h1:=aQ (k:=m) ha.one
  have h2:=aQ (k:=k) hb.one
  rw [Nat.mul_comm m k] at h2
  exact h1.mul h2
 ·rw [Pw.mul_pow] at hj
  have d1:k∣j:=by
   have e:=hj.pow m
   rw [Pw.one_pow,Pw.mul_pow,<- Pw.pow_mul,<- Pw.pow_mul] at e
   have h2:=aQ (k:=j) hb.one
   rw [Nat.mul_comm m j] at h2
   have e2:Al n (a^(j*m)) 1:=by
    have:=(Al.refl n (a^(j*m))).mul h2.symm
    rw [Int.mul_one] at this
    exact this.trans e
   exact Nat.Coprime.dvd_of_dvd_mul_right co (ha.dv _ e2)
  have d2:m∣j:=by
   have e:=hj.pow k
   rw [Pw.one_pow,Pw.mul_pow,<- Pw.pow_mul,<- Pw.pow_mul] at e
   have h2:=aQ (k:=j) ha.one
   rw [Nat.mul_comm k j] at h2
   have e2:Al n (b^(j*k)) 1:=by
    have:=h2.symm.mul (Al.refl n (b^(j*k)))
    rw [Int.one_mul] at this
    exact this.trans e
   exact Nat.Coprime.dvd_of_dvd_mul_right co.symm (hb.dv _ e2)
  exact Nat.Coprime.mul_dvd_of_dvd_of_dvd co d1 d2
end Num
namespace Num
def Nm (q:Nat):Prop:=2<=q/\∀ d,2<=d->d<q->¬d∣q
theorem vB {m:Nat} (h:2<=m):∃ q,Nm q/\q∣m:=by
 obtain⟨q,⟨q2,qm⟩,no⟩:=cD (P:=λd=>2<=d/\d∣m) m ⟨h,Nat.dvd_refl m⟩
 exact⟨q,⟨q2,λd d2 dq hd=>no d dq ⟨d2,Nat.dvd_trans hd qm⟩⟩,qm⟩
theorem Nm.co {q m:Nat} (h:Nm q) (hm:¬q∣m):Nat.Coprime q m:=by
 have hg:=Nat.gcd_dvd_left q m
 have g0:0<Nat.gcd q m:=Nat.gcd_pos_of_pos_left m (by have:=h.1;omega)
 have gl:=Nat.le_of_dvd (by have:=h.1;omega) hg
 rcases (by omega:Nat.gcd q m=1∨(2<=Nat.gcd q m/\Nat.gcd q m<q)∨Nat.gcd q m=q) with z | ⟨z1,z2⟩ | z
 ·exact z
 ·exact absurd hg (h.2 _ z1 z2)
 ·exact absurd (z▸Nat.gcd_dvd_right q m) hm
theorem oY {q:Nat} (hq:2<=q):∀ m:Nat,0<m->∃ k m',m=q^k*m'/\¬q∣m':=by
 intro m
 induction m using Nat.strongRecOn with
 | ind m ih =>
  intro hm
  by_cases c:q∣m
  ·obtain⟨t,ht⟩:=c
   have t0:0<t:=by
    rcases Nat.eq_zero_or_pos t with z | z
    ·subst z;omega
    ·exact z
   have tm:t<m:=by
    rw [ht]
    have:=Nat.mul_le_mul_right t hq
    omega
   obtain⟨k,m',e,hn⟩:=ih t tm t0
   exact⟨k+1,m',by rw [ht,e,Nat.pow_succ,Nat.mul_comm (q^k) q,Nat.mul_assoc],hn⟩
  ·exact⟨0,m,by simp,c⟩
theorem kU {q:Nat} (h:Nm q):∀(k d:Nat),d∣q^(k+1)->¬d∣q^k->d=q^(k+1):=by
 intro k
 induction k with
 | zero =>
  intro d h1 h2
  rw [Nat.zero_add,Nat.pow_one] at h1 ⊢
  rw [Nat.pow_zero] at h2
  have q2:=h.1
  have d0:0<d:=Nat.pos_of_dvd_of_pos h1 (by omega)
  have dl:=Nat.le_of_dvd (by omega) h1
  rcases (by omega:d=1∨(2<=d/\d<q)∨d=q) with z | ⟨z1,z2⟩ | z
  ·exact absurd (z▸Nat.dvd_refl 1) h2
  ·exact absurd h1 (h.2 d z1 z2)
  ·exact z
 | succ k ih =>
  intro d h1 h2
  by_cases c:q∣d
  ·obtain⟨t,ht⟩:=c
   have q0:0<q:=by have:=h.1;omega
   rw [ht,Nat.pow_succ,Nat.mul_comm (q^(k+1)) q] at h1
   rw [ht,Nat.pow_succ,Nat.mul_comm (q^k) q] at h2
   have e1:=Nat.dvd_of_mul_dvd_mul_left q0 h1
   have e2:¬t∣q^k:=λz=>h2 (Nat.mul_dvd_mul_left q z)
   rw [ht,ih t e1 e2,Nat.pow_succ q (k+1),Nat.mul_comm]
  ·have co:Nat.Coprime (q^(k+1+1)) d:=Nat.Coprime.pow_left _ (h.co c)
   have:d∣1:=by
    have:=Nat.dvd_gcd h1 (Nat.dvd_refl d)
    rwa [co] at this
   exact absurd (Nat.dvd_trans this (Nat.one_dvd _)) h2
section
variable {p:Int} {L:Nat}
structure Ex (p:Int) (L:Nat):Prop where
 pos:0<L
 all:∀ a:Int,¬p∣a->Al p (a^L) 1
 no:∀ j,0<j->j<L->∃ a:Int,¬p∣a/\¬Al p (a^j) 1
theorem Pm.unit {p a:Int} (hp:Pm p) (c:Co a p):¬p∣a:=λh=>by
 obtain⟨u,v,e⟩:=c
 have h1:p∣u*a:=Int.dvd_mul_of_dvd_right h
 have h2:p∣v*p:=⟨v,Int.mul_comm _ _⟩
 have:=Int.dvd_add h1 h2
 rw [e] at this
 have:=Int.le_of_dvd (by decide) this
 have:=hp.two
 omega
theorem rA (hp:Pm p):∃ L,Ex p L:=by
 have h2:=hp.two
 have uni:∀ a:Int,¬p∣a->Al p (a^fact p.toNat) 1:=λa ha=>by
  obtain⟨d,d0,d1,e⟩:=back h2 (hp.co ha)
  obtain⟨t,ht⟩:=i5 p.toNat d0 (by omega)
  rw [ht]
  exact aQ e
 obtain⟨L,⟨l0,l1⟩,no⟩:=cD (P:=λj=>0<j/\∀ a:Int,¬p∣a->Al p (a^j) 1) (fact p.toNat) ⟨i8 _,uni⟩
 refine⟨L,l0,l1,λj j0 jl=>?_⟩
 have:=no j jl
 by_cases z:∃ a:Int,¬p∣a/\¬Al p (a^j) 1
 ·exact z
 ·exact absurd ⟨j0,λa ha=>Classical.byContradiction λw=>z ⟨a,ha,w⟩⟩ this
theorem jr (hp:Pm p) (h:Ex p L):∀ m:Nat,0<m->m∣L->∃ x:Int,Co x p/\Ord p x m:=by
 intro m
 induction m using Nat.strongRecOn with
 | ind m ih =>
  intro hm hd
  by_cases c:m=1
  ·subst c
   exact⟨1,⟨1,0,by omega⟩,by decide,by rw [Int.pow_succ,Int.pow_zero];exact Al.refl _ _,λj _=>Nat.one_dvd j⟩
  ·obtain⟨q,hq,qm⟩:=vB (show 2<=m by omega)
   obtain⟨k,m',e,hn⟩:=oY hq.1 m hm
   have q0:0<q:=by have:=hq.1;omega
   obtain⟨k',rfl⟩:∃ k',k=k'+1:=by
    cases k with
    | zero=>rw [Nat.pow_zero,Nat.one_mul] at e;exact absurd (e▸qm) hn
    | succ k'=>exact⟨k',rfl⟩
   have m0:0<m':=by
    rcases Nat.eq_zero_or_pos m' with z | z
    ·rw [z,Nat.mul_zero] at e;omega
    ·exact z
   have qk:2<=q^(k'+1):=by
    rw [Nat.pow_succ]
    have:=Nat.mul_le_mul (Nat.pow_pos (n:=k') q0) hq.1
    omega
   have mm:m'<m:=by
    rw [e]
    have:=Nat.mul_le_mul_right m' qk
    omega
   obtain⟨y,cy,oy⟩:=ih m' mm m0 (Nat.dvd_trans ⟨q^(k'+1),by rw [e,Nat.mul_comm]⟩ hd)
   have dq:q^(k'+1)∣L:=Nat.dvd_trans ⟨m',e⟩ hd
   obtain⟨T,hT⟩:=dq
   have T0:0<T:=by
    rcases Nat.eq_zero_or_pos T with z | z
    ·rw [z,Nat.mul_zero] at hT;have:=h.pos;omega
    ·exact z
   have eL:L=q*(q^k'*T):=by rw [hT,Nat.pow_succ,Nat.mul_comm (q^k') q,Nat.mul_assoc]
   have jp:0<q^k'*T:=Nat.mul_pos (Nat.pow_pos q0) T0
   have jl:q^k'*T<L:=by
    rw [eL]
    have:=Nat.mul_le_mul_right (q^k'*T) hq.1
    omega
   obtain⟨a,ha,hna⟩:=h.no _ jp jl
   have ca:=hp.co ha
   have z1:Al p ((a^T)^(q^(k'+1))) 1:=by
    rw [<- Pw.pow_mul,Nat.mul_comm,<- hT]
    exact h.all a ha
   have z2:¬Al p ((a^T)^(q^k')) 1:=by
    rw [<- Pw.pow_mul,Nat.mul_comm]
    exact hna
   obtain⟨d,od,_⟩:=kf (Nat.pow_pos q0) z1
   have d1:=od.dv _ z1
   have d2:¬d∣q^k':=λw=>z2 (by obtain⟨t,ht⟩:=w;rw [ht];exact aQ od.one)
   have ed:=kU hq k' d d1 d2
   subst ed
   refine⟨a^T*y,(ca.pow T).mul cy,?_⟩
   rw [e]
   exact od.mul oy (ca.pow T) cy (Nat.Coprime.pow_left _ (hq.co hn))
theorem rB (hp:Pm p) (h:Ex p L):(L:Int)=p-1:=by
 have h2:=hp.two
 have h1:=pN hp h.pos h.all
 obtain⟨g,cg,og⟩:=jr hp h L h.pos (Nat.dvd_refl L)
 have nd:=gz (f:=λi=>(g^i%p).toNat-1) (n:=L) λi j ij jn e=>by
  have r1:∀ k:Nat,1<=(g^k%p).toNat:=λk=>by
   have a1:=Int.emod_nonneg (g^k) (show p≠0 by omega)
   have:g^k%p≠0:=λz=>hp.unit (cg.pow k) (Int.dvd_of_emod_eq_zero z)
   omega
  have e':(g^i%p).toNat=(g^j%p).toNat:=by
   have:=r1 i
   have:=r1 j
   have e:(g^i%p).toNat-1=(g^j%p).toNat-1:=e
   omega
  have:=og.inj cg (by omega) jn (rest_eq (by omega) e')
  omega
 have:=iA (p-1).toNat _ nd λx hx=>by
  obtain⟨i,_,rfl⟩:=List.mem_map.mp hx
  have a1:=Int.emod_nonneg (g^i) (show p≠0 by omega)
  have a2:=Int.emod_lt_of_pos (g^i) (show 0<p by omega)
  have:g^i%p≠0:=λz=>hp.unit (cg.pow i) (Int.dvd_of_emod_eq_zero z)
  show (g^i%p).toNat-1<(p-1).toNat
  omega
 rw [List.length_map,List.length_range] at this
 omega
theorem tq (hp:Pm p) {a:Int} (ha:¬p∣a):Al p (a^(p-1).toNat) 1:=by
 obtain⟨L,h⟩:=rA hp
 have:=rB hp h
 rw [show (p-1).toNat=L by omega]
 exact h.all a ha
theorem jW (hp:Pm p) {m:Nat} (h0:0<m) (hd:m∣(p-1).toNat):∃ x:Int,1<=x/\x<p/\Ord p x m:=by
 obtain⟨L,h⟩:=rA hp
 have:=rB hp h
 have h2:=hp.two
 obtain⟨x,cx,ox⟩:=jr hp h m h0 (by rwa [show (p-1).toNat=L by omega] at hd)
 have a1:=Int.emod_nonneg x (show p≠0 by omega)
 have a2:=Int.emod_lt_of_pos x (show 0<p by omega)
 have a3:x%p≠0:=λz=>hp.unit cx (Int.dvd_of_emod_eq_zero z)
 refine⟨x%p,by omega,a2,ox.pos,((Al.rest p x).pow m).trans ox.one,λj hj=>ox.dv j (((Al.rest p x).pow j).symm.trans hj)⟩
theorem pX (hp:Pm p):∃ g:Int,1<=g/\g<p/\Ord p g (p-1).toNat:=jW hp (by have:=hp.two;omega) (Nat.dvd_refl _)
end
end Num
namespace Num
end Num
namespace Num
theorem oB {n r:Int} (h:Ld.cY n r):Pm r:=⟨h.two,λd d2 dr hd=>h.no d d2 dr (Int.dvd_trans hd h.dv)⟩
def aJ:List (Int × Int)->Int
 | []=>1
 | p::r=>p.1^p.2.toNat*aJ r
theorem fA:∀(ps:List (Int × Int)) (p:Int × Int),aJ (ps++[p])=aJ ps*p.1^p.2.toNat
 | [],p=>by show p.1^_*1=1*_;omega
 | q::r,p=>by
  show q.1^q.2.toNat*aJ (r++[p])=q.1^q.2.toNat*aJ r*_
  rw [fA r p,Int.mul_assoc]
structure Part (n:Int) (ps:List (Int × Int)):Prop where
 ok:∀ p∈ps,Pm p.1/\1<=p.2/\p.2<=30
 rise:ps.Pairwise λa b=>a.1<b.1
 prod:aJ ps=n
theorem aI {q:Int} (h:0<q):∀ k:Nat,0<q^k
 | 0=>by rw [Int.pow_zero];decide
 | k+1=>by rw [Int.pow_succ];exact Int.mul_pos (aI h k) h
theorem two_pow_le {q:Int} (h:2<=q):∀ k:Nat,(2:Int)^k<=q^k
 | 0=>by rw [Int.pow_zero,Int.pow_zero];exact Int.le_refl _
 | k+1=>by
  rw [Int.pow_succ,Int.pow_succ]
  exact Int.mul_le_mul (two_pow_le h k) h (by decide) (Int.le_of_lt (aI (by omega) k))
theorem two_le:∀{k:Nat},(2:Int)^k<=10^9->k<=29:=by
 intro k h
 by_cases c:k<=29
 ·exact c
 ·exfalso
  have e:k=30+(k-30):=by omega
  rw [e,Pw.pow_add] at h
  have:=aI (show (0:Int)<2 by decide) (k-30)
  have h2:=Int.mul_le_mul_of_nonneg_left (show (1:Int)<=2^(k-30) by omega) (show (0:Int)<=2^30 by decide)
  have:(2:Int)^30=1073741824:=by decide
  omega
structure Way (n:Int) (ps:List (Int × Int)) (left prime:Int):Prop where
 ok:∀ p∈ps,Pm p.1/\1<=p.2/\p.2<=30
 rise:ps.Pairwise λa b=>a.1<b.1
 prod:aJ ps*left=n
 pos:1<=left
 inv:Ld.Inv left prime
 le:∀ p∈ps,p.1<=prime
 gone:ps=[]∨¬prime∣left
 two:(2:Int)^ps.length*left<=n
theorem Way.start {n:Int} (h:1<=n):Way n [] n 2:=⟨λ_ z=>by simp at z,List.Pairwise.nil,by show 1*n=n;omega,h,⟨by decide,.inl rfl,λd d0 d1=>by omega⟩,λ_ z=>by simp at z,.inl rfl,by rw [List.length_nil,Int.pow_zero];omega⟩
theorem Way.step {n left prime r left':Int} {ps:List (Int × Int)} {k:Nat} (w:Way n ps left prime) (hn:n<=10^9) (hl:1<left) (h:Ld.cY left r) (e:left=r^k*left') (l0:1<=left') (hk:1<=k) (hg:¬r∣left'):Way n (ps++[(r,(k:Int))]) left' r:=by
 have r2:=h.two
 have pm:=oB h
 have rp:prime<=r:=by
  rcases (by omega:prime<=r∨r<prime) with z | z
  ·exact z
  ·exact absurd h.dv (w.inv.no r r2 z)
 have rk:=aI (show 0<r by omega) k
 have k2:=two_pow_le r2 k
 have kl:(2:Int)^k<=left:=by
  have:=Int.mul_le_mul k2 l0 (by decide) (Int.le_of_lt rk)
  rw [Int.mul_one] at this
  omega
 have ln:left<=n:=by
  have z:=w.two
  have p0:=aI (show (0:Int)<2 by decide) ps.length
  have:=Int.mul_le_mul_of_nonneg_right (show (1:Int)<=2^ps.length by omega) (show 0<=left by omega)
  omega
 have k29:=two_le (k:=k) (by omega)
 refine⟨λp hp=>?_,?_,?_,l0,?_,λp hp=>?_,.inr hg,?_⟩
 ·rcases List.mem_append.mp hp with z | z
  ·exact w.ok p z
  ·rw [List.mem_singleton.mp z]
   exact⟨pm,by show (1:Int)<=k;omega,by show (k:Int)<=30;omega⟩
 ·refine List.pairwise_append.mpr ⟨w.rise,List.pairwise_singleton _ _,λa ha b hb=>?_⟩
  rw [List.mem_singleton.mp hb]
  show a.1<r
  have:=w.le a ha
  rcases w.gone with z | z
  ·rw [z] at ha;simp at ha
  ·have:prime≠r:=λy=>z (y▸h.dv)
   omega
 ·rw [fA,<- w.prod,e]
  show aJ ps*r^((k:Int).toNat)*left'=_
  rw [Int.toNat_natCast,Int.mul_assoc]
 ·refine⟨r2,?_,λd d0 d1 hd=>h.no d d0 d1 (by rw [e];exact Int.dvd_mul_of_dvd_right hd)⟩
  rcases (by omega:r=2∨2<r) with z | z
  ·exact .inl z
  ·refine .inr ?_
   rcases (by omega:r%2=1∨r%2=0) with y | y
   ·exact y
   ·exact absurd (Int.dvd_of_emod_eq_zero y) (pm.no 2 (by decide) z)
 ·rcases List.mem_append.mp hp with z | z
  ·have:=w.le p z;omega
  ·rw [List.mem_singleton.mp z];exact Int.le_refl _
 ·rw [List.length_append,List.length_singleton,Pw.pow_add,Int.pow_succ,Int.pow_zero,Int.one_mul,Int.mul_assoc]
  refine Int.le_trans (Int.mul_le_mul_of_nonneg_left ?_ (Int.le_of_lt (aI (by decide) _))) w.two
  rw [e]
  obtain⟨k',rfl⟩:∃ k',k=k'+1:=⟨k-1,by omega⟩
  have p0:=aI (show 0<r by omega) k'
  have h1:r<=r^(k'+1):=by
   rw [Int.pow_succ]
   have:=Int.mul_le_mul_of_nonneg_right (show 1<=r^k' by omega) (show 0<=r by omega)
   omega
  exact Int.mul_le_mul_of_nonneg_right (show 2<=r^(k'+1) by omega) (show 0<=left' by omega)
theorem Way.done {n prime:Int} {ps:List (Int × Int)} (w:Way n ps 1 prime):Part n ps:=⟨w.ok,w.rise,by have:=w.prod;omega⟩
theorem Way.len {n left prime:Int} {ps:List (Int × Int)} (w:Way n ps left prime) (hn:n<=10^9):ps.length<=29:=by
 refine two_le ?_
 have z:=w.two
 have p0:=aI (show (0:Int)<2 by decide) ps.length
 have:=Int.mul_le_mul_of_nonneg_left w.pos (Int.le_of_lt p0)
 omega
end Num
namespace Num
open PySem
theorem dI:∀{ps:List (Int × Int)} {p:Int × Int},p∈ps->1<=p.2->p.1∣aJ ps
 | a::r,p,h,hk=>by
  rcases List.mem_cons.mp h with z | z
  ·subst z
   obtain⟨k,hk'⟩:∃ k,p.2.toNat=k+1:=⟨p.2.toNat-1,by omega⟩
   show p.1∣p.1^p.2.toNat*aJ r
   rw [hk',Int.pow_succ]
   exact Int.dvd_mul_of_dvd_left ⟨p.1^k,Int.mul_comm _ _⟩
  ·exact Int.dvd_mul_of_dvd_right (dI z hk)
theorem rN {p:Int} (h:Pm p):Nm p.toNat:=⟨by have:=h.two;omega,λd d2 dp hd=>h.no d (by omega) (by omega) (by
 have:=Int.natCast_dvd_natCast.mpr hd
 rwa [show (p.toNat:Int)=p by have:=h.two;omega] at this)⟩
theorem oC {p q:Int} (hp:Pm p) (hq:Pm q):∀ k:Nat,q∣p^k->q=p
 | 0,h=>by
  rw [Int.pow_zero] at h
  have:=Int.le_of_dvd (by decide) h
  have:=hq.two
  omega
 | k+1,h=>by
  rw [Int.pow_succ] at h
  by_cases c:q∣p^k
  ·exact oC hp hq k c
  ·have d:=hq.or h c
   have l:=Int.le_of_dvd (by have:=hp.two;omega) d
   rcases (by omega:q<p∨q=p) with z | z
   ·exact absurd d (hp.no q hq.two z)
   ·exact z
theorem dP {q:Int} (hq:Pm q):∀{ps:List (Int × Int)},(∀ p∈ps,Pm p.1)->q∣aJ ps->∃ p∈ps,p.1=q
 | [],_,h=>by
  have:=Int.le_of_dvd (by decide) (show q∣1 from h)
  have:=hq.two
  omega
 | a::r,hp,h=>by
  by_cases c:q∣a.1^a.2.toNat
  ·exact⟨a,by simp,(oC (hp a (by simp)) hq _ c).symm⟩
  ·obtain⟨p,h1,h2⟩:=dP hq (λp z=>hp p (List.mem_cons_of_mem _ z)) (hq.or h c)
   exact⟨p,List.mem_cons_of_mem _ h1,h2⟩
structure LF (p g:Int):Prop where
 one:1<=g
 lt:g<p
 ord:Ord p g (p-1).toNat
 no:∀ a:Int,1<=a->a<g->¬Ord p a (p-1).toNat
def rowsOf (ps:List (Int × Int)) (ds:Nat->PyData):List PyData:=(List.range ps.length).map λi=>.tuple [ds i,.int (ps.getD i (0,0)).2]
theorem bf {ps:List (Int × Int)} {ds:Nat->PyData}:(rowsOf ps ds).length=ps.length:=by unfold rowsOf;rw [List.length_map,List.length_range]
theorem fE {ps:List (Int × Int)} {ds:Nat->PyData} {i:Nat} {p:Int × Int} (h:ps[i]?=some p):(rowsOf ps ds)[i]?=some (.tuple [ds i,.int p.2]):=by
 have hi:=(List.getElem?_eq_some_iff.mp h).1
 unfold rowsOf
 rw [List.getElem?_map,List.getElem?_range hi]
 show some (PyData.tuple [ds i,.int (ps.getD i (0,0)).2])=_
 rw [List.getD_eq_getElem?_getD,h]
 rfl
inductive gQ:Int->PyData->Prop
 | mk (p g:Int) (ps:List (Int × Int)) (ds:Nat->PyData):Pm p->p<=10^9->LF p g->Part (p-1) ps->ps.length<=29->(∀ i q k,ps[i]?=some (q,k)->gQ q (ds i))->gQ p (.tuple [.int p,.int g,.tuple (rowsOf ps ds)])
theorem gQ.head {p:Int} {d:PyData} (h:gQ p d):∃ g rows,d=.tuple [.int p,.int g,.tuple rows]:=by
 cases h
 exact⟨_,_,rfl⟩
def Ht:Nat->Int->Prop
 | 0,_=>False
 | L+1,n=>∀ q:Int,Pm q->q∣n-1->Ht L q
theorem rG:∀(L:Nat) (n:Int),Pm n->n<2^(L+2)->Ht (L+2) n
 | 0,n,h,hn=>by
  have h2:=h.two
  have hn':n<4:=hn
  intro q hq hd
  intro q' hq' hd'
  have q2:=hq.two
  have l:=Int.le_of_dvd (by rcases (by omega:n=2∨n=3) with z | z;exfalso;rw [z] at hd;have:=Int.le_of_dvd (by decide) hd;omega;omega) hd
  have qq:q=2:=by omega
  rw [qq] at hd'
  have:=Int.le_of_dvd (by decide) hd'
  have:=hq'.two
  omega
 | L+1,n,h,hn=>by
  intro q hq hd
  have q2:=hq.two
  have h2:=h.two
  refine rG L q hq ?_
  have e:(2:Int)^(L+1+2)=2^(L+2)*2:=by rw [<- Int.pow_succ]
  rw [e] at hn
  have four:(4:Int)<=2^(L+2):=by
   have:=aI (show (0:Int)<2 by decide) L
   have e4:(2:Int)^(L+2)=2^L*4:=by rw [Pw.pow_add];rfl
   omega
  obtain⟨c,hc⟩:=hd
  rcases (by omega:n<=3∨3<n) with z | z
  ·have:q<=n-1:=Int.le_of_dvd (by
    rcases (by omega:n=2∨n=3) with y | y
    ·exfalso
     rw [y] at hc
     have:=Int.le_of_dvd (by decide) (show q∣1 from ⟨c,hc⟩)
     omega
    ·omega) ⟨c,hc⟩
   omega
  ·rcases (by omega:n%2=0∨n%2=1) with y | y
   ·exact absurd (Int.dvd_of_emod_eq_zero y) (h.no 2 (by decide) (by omega))
   ·rcases (by omega:q=2∨2<q) with x | x
    ·omega
    ·have qo:q%2=1:=by
      rcases (by omega:q%2=1∨q%2=0) with w | w
      ·exact w
      ·exact absurd (Int.dvd_of_emod_eq_zero w) (hq.no 2 (by decide) x)
     have ce:c%2=0:=by
      rcases (by omega:c%2=0∨c%2=1) with w | w
      ·exact w
      ·exfalso
       have:(q*c)%2=1:=by rw [Int.mul_emod,qo,w];rfl
       omega
     have c2:2<=c:=by
      rcases (by omega:c<=0∨2<=c) with w | w
      ·have:=Int.mul_nonpos_of_nonneg_of_nonpos (show 0<=q by omega) w
       omega
      ·exact w
     have:=Int.mul_le_mul_of_nonneg_left c2 (show 0<=q by omega)
     omega
theorem tD {n:Int} (h:Pm n) (hn:n<=10^9):Ht 30 n:=rG 28 n h (by
 have:(2:Int)^(28+2)=1073741824:=by decide
 omega)
end Num
namespace L2
open PySem PySem.Spec PyProof.Rows
def yx:PyData->String
 | .none => "NoneType"
 | .bool _ => "bool"
 | .int _ => "int"
 | .str _ => "str"
 | .list _ => "list"
 | .tuple _ => "tuple"
 | .dict _ => "dict"
def yg:PyData->Bool
 | .bool _=>true
 | _=>false
def yi:PyData->Bool
 | .tuple _=>true
 | _=>false
def yh:PyData->Bool
 | .list _=>true
 | _=>false
section
variable {X:Cx} {K:PySem.W.Frag}
def jA (K:PySem.W.Frag):List V->Hp->VK->Prop:=λxs H Q=>∃ d x n b,xs=[x,.ty n]/\dv K H d x/\PySem.W.kitOne K (.type (yx d)) (.type n)=some b/\Q (.bl b) H
theorem lD:cq X (.builtin "isinstance") (jA X.K):=by
 intro pins s σ H xs us Q I r h
 obtain⟨d,x,n,b,rfl,hd,ek,q⟩:=h
 obtain⟨u,w',rfl,rx,rc⟩:=vals2 r
 have e:w'=.type n:=rc
 subst e
 have fin:∀ tk,∃ v' H',Inv X pins σ H' { s with toks:=tk }/\RelV v' (.bool b)/\Q v' H':=λtk=>⟨.bl b,H,I.tok _,rfl,q⟩
 cases d with
 | none=>cases hd;exact cP I rx cT.non ek fin
 | bool y=>cases hd;exact cP I rx (cT.bl _) ek fin
 | int y=>cases hd;exact cP I rx (cT.int _) ek fin
 | str y=>cases hd;exact cP I rx (cT.str _) ek fin
 | list ds =>
  obtain⟨p,ys,rfl,h,t⟩:=hd
  cases rx
  obtain⟨its,rr,pl,_⟩:=I.list h
  obtain⟨o,h1,h2,_⟩:=pl.isList
  exact PySem.W.kia_one PySem.W.kitx_list I.eE ⟨o,h1,h2⟩ ek (λz=>nomatch z) fin
 | tuple ds =>
  obtain⟨p,ys,rfl,h,t⟩:=hd
  cases rx
  obtain⟨its,rr,pl,_⟩:=I.tuple h
  obtain⟨o,h1,h2,_⟩:=pl
  exact PySem.W.kia_one PySem.W.kitx_tuple I.eE ⟨o,h1,h2⟩ ek (λz=>nomatch z) fin
 | dict _=>exact hd.elim
theorem jc {H:Hp} {d:PyData} {x:V} {Q:VK} (h:dv K H d x) (q:Q (.bl (yg d)) H):jA K [x,.ty "bool"] H Q:=by
 refine⟨d,x,"bool",_,rfl,h,?_,q⟩
 cases d<;>first | exact h.elim | with_unfolding_all rfl
theorem kO {H:Hp} {d:PyData} {x:V} {Q:VK} (h:dv K H d x) (q:Q (.bl (yi d)) H):jA K [x,.ty "tuple"] H Q:=by
 refine⟨d,x,"tuple",_,rfl,h,?_,q⟩
 cases d<;>first | exact h.elim | with_unfolding_all rfl
theorem qb {H:Hp} {d:PyData} {x:V} {Q:VK} (h:dv K H d x) (q:Q (.bl (yh d)) H):jA K [x,.ty "list"] H Q:=by
 refine⟨d,x,"list",_,rfl,h,?_,q⟩
 cases d<;>first | exact h.elim | with_unfolding_all rfl
end
def vc (i:Int) (n:Nat):List V:=(List.range n).map fun(k:Nat)=>V.int (i+(k:Int))
def yv (ta:TA):TE:=λσ H Q=>ta σ H λvs H1=>∃ i j:Int,vs=[.int i,.int j]/\(-(2^62)<=i/\i<2^62 /\ -(2^62)<=j/\j<2^62)/\j-i<=10^6/\∀ l,H1 l=none->Q (.ref l) (upd H1 l (.lst (vc i (j-i).toNat)))
variable {X:Cx}
section
variable {X:Cx} {K:PySem.W.Frag}
end
section
variable {κ:Type} [DecidableEq κ]
def bT (kvs:List (κ × V)) (k:κ):Option V:=(kvs.find? λkv=>decide (kv.1=k)).map (·.2)
def putK (kvs:List (κ × V)) (k:κ) (v:V):List (κ × V) :=
 if (kvs.any λkv=>decide (kv.1=k))=true then kvs.map (λkv=>if kv.1=k then (kv.1,v) else kv) else kvs++[(k,v)]
theorem bJ {p:κ × V} {r:List (κ × V)} {k:κ} (e:p.1=k):bT (p::r) k=some p.2:=by simp [bT,List.find?_cons,e]
theorem bI {p:κ × V} {r:List (κ × V)} {k:κ} (e:¬p.1=k):bT (p::r) k=bT r k:=by simp [bT,List.find?_cons,e]
theorem fM (k:κ):∀ kvs:List (κ × V),(kvs.any λkv=>decide (kv.1=k))=(bT kvs k).isSome
 | []=>rfl
 | p::r=>by
  rw [List.any_cons]
  by_cases e:p.1=k
  ·simp only [bJ e,decide_eq_true e,Bool.true_or,Option.isSome_some]
  ·rw [bI e,decide_eq_false e,Bool.false_or];exact fM k r
theorem gL (k j:κ) (y:V):∀ kvs:List (κ × V),bT kvs k=none->bT (kvs++[(k,y)]) j=if j=k then some y else bT kvs j
 | [],_=>by
  by_cases e:k=j
  ·rw [if_pos e.symm];exact bJ (p:=(k,y)) e
  ·rw [if_neg (λz=>e z.symm)];exact bI (p:=(k,y)) e
 | p::r,hn=>by
  rw [List.cons_append]
  have hk:¬p.1=k:=λz=>by rw [bJ z] at hn;cases hn
  rw [bI hk] at hn
  have ih:=gL k j y r hn
  by_cases e:p.1=j
  ·rw [bJ e,bJ e,if_neg (λz=>hk (e.trans z))]
  ·rw [bI e,bI e,ih]
theorem cE (kvs:List (κ × V)) (k:κ) (v:V):(putK kvs k v).length<=kvs.length+1:=by
 unfold putK
 split
 ·rw [List.length_map];omega
 ·rw [List.length_append,List.length_cons,List.length_nil];omega
theorem oH {kvs:List (κ × V)} {k:κ} (v:V) (h:bT kvs k=none):putK kvs k v=kvs++[(k,v)]:=by
 unfold putK
 rw [fM,h]
 exact if_neg (by decide)
theorem dG.d8 {o:Option V} {u:Option Value} (r:dG o u):o.isSome=u.isSome:=by
 cases o with
 | none=>cases u with
  | none=>rfl
  | some _=>exact (show False from r).elim
 | some _=>cases u with
  | none=>exact (show False from r).elim
  | some _=>rfl
theorem dG.getD {o:Option V} {u:Option Value} {d:V} {d':Value} (r:dG o u) (rd:RelV d d'):RelV (o.getD d) (u.getD d'):=by
 cases o with
 | none=>cases u with
  | none=>exact rd
  | some _=>exact (show False from r).elim
 | some _=>cases u with
  | none=>exact (show False from r).elim
  | some _=>exact r
theorem KV.val {kvs:List (κ × V)} {vs:List (κ × Value)} (r:KV kvs vs) (k:κ):dG (bT kvs k) (valueAt vs k):=by
 unfold KV at r
 induction r with
 | nil=>exact True.intro
 | @cons p q ps qs h t ih =>
  obtain⟨h1,h2⟩:=h
  by_cases e:p.1=k
  ·have e':q.1=k:=h1.symm.trans e
   have b:valueAt (q::qs) k=some q.2:=by simp [valueAt,List.find?_cons,e']
   rw [bJ e,b];exact h2
  ·have e':¬q.1=k:=λz=>e (h1.trans z)
   have b:valueAt (q::qs) k=valueAt qs k:=by simp [valueAt,List.find?_cons,e']
   rw [bI e,b];exact ih
theorem KV.any {kvs:List (κ × V)} {vs:List (κ × Value)} (r:KV kvs vs) (k:κ):(kvs.any λkv=>decide (kv.1=k))=vs.any λkv=>decide (kv.1=k):=by
 unfold KV at r
 induction r with
 | nil=>rfl
 | cons h t ih=>rw [List.any_cons,List.any_cons,ih,h.1]
theorem KV.uk {kvs:List (κ × V)} {vs:List (κ × Value)} (r:KV kvs vs) (k:κ) {y:V} {u:Value} (ry:RelV y u) :
  KV (kvs.map λkv=>if kv.1=k then (kv.1,y) else kv) (vs.map λkv=>if kv.1=k then (kv.1,u) else kv):=by
 unfold KV at r ⊢
 induction r with
 | nil=>exact .nil
 | @cons p q ps qs h t ih =>
  rw [List.map_cons,List.map_cons]
  refine .cons ?_ ih
  obtain⟨h1,h2⟩:=h
  by_cases e:p.1=k
  ·rw [if_pos e,if_pos (h1.symm.trans e)];exact⟨h1,ry⟩
  ·rw [if_neg e,if_neg (λz=>e (h1.trans z))];exact⟨h1,h2⟩
theorem KV.put {kvs:List (κ × V)} {vs:List (κ × Value)} (r:KV kvs vs) (k:κ) {y:V} {u:Value} (ry:RelV y u):KV (putK kvs k y) (stored vs k u):=by
 unfold putK stored
 rw [r.any k]
 by_cases e:(vs.any λkv=>decide (kv.1=k))=true
 ·rw [if_pos e,if_pos e];exact r.uk k ry
 ·rw [if_neg e,if_neg e];exact Paired.snoc r ⟨rfl,ry⟩
theorem KV.length {kvs:List (κ × V)} {vs:List (κ × Value)} (r:KV kvs vs):kvs.length=vs.length:=Paired.length r
end
theorem jd {P:Program} {w:World} {k:Key} {u:Value} (r:RelV (kV k) u):(aK P w).is k u=true:=by
 cases k with
 | inl i=>obtain⟨t,e⟩:=(show ∃ t,u=Value.int i t from r);subst e;exact jg P w i t
 | inr x=>obtain⟨t,e⟩:=(show ∃ t,u=Value.str x t from r);subst e;exact jh P w x t
theorem gk {P:Program} {w:World}:∀{ks:List Key} {us:List Value},Vals (ks.map kV) us->ItemsAre (aK P w) ks us
 | [],_,r=>by rw [List.map_nil] at r;cases r;exact .nil
 | k::ks,_,r=>by
  rw [List.map_cons] at r
  cases r with
  | cons h t=>exact .cons (jd h) (gk t)
abbrev KT (H:Hp):List (List Key × V)->List (List Key × Addr × Value)->Prop:=Paired λp q=>p.1=q.1/\H q.2.1=some (.tup (p.1.map kV))/\RelV p.2 q.2.2
theorem KT.val {H:Hp} {kvs:List (List Key × V)} {xs:List (List Key × Addr × Value)} (r:KT H kvs xs) (k:List Key):dG (bT kvs k) ((atKey xs k).map (·.2)):=by
 induction r with
 | nil=>exact True.intro
 | @cons p q ps qs h t ih =>
  obtain⟨h1,_,h2⟩:=h
  by_cases e:p.1=k
  ·have e':q.1=k:=h1.symm.trans e
   have b:atKey (q::qs) k=some q.2:=by simp [atKey,List.find?_cons,e']
   rw [bJ e,b];exact h2
  ·have e':¬q.1=k:=λz=>e (h1.trans z)
   have b:atKey (q::qs) k=atKey qs k:=by simp [atKey,List.find?_cons,e']
   rw [bI e,b];exact ih
theorem KT.uk {H:Hp} {kvs:List (List Key × V)} {xs:List (List Key × Addr × Value)} (r:KT H kvs xs) (k:List Key) {y:V} {u:Value} (ry:RelV y u) :
  KT H (kvs.map λkv=>if kv.1=k then (kv.1,y) else kv) (xs.map (putAt k u)):=by
 induction r with
 | nil=>exact .nil
 | @cons p q ps qs h t ih =>
  rw [List.map_cons,List.map_cons]
  refine .cons ?_ ih
  obtain⟨h1,h2,h3⟩:=h
  unfold putAt
  by_cases e:p.1=k
  ·rw [if_pos e,if_pos (h1.symm.trans e)];exact⟨h1,h2,ry⟩
  ·rw [if_neg e,if_neg (λz=>e (h1.trans z))];exact⟨h1,h2,h3⟩
theorem KT.put {H:Hp} {kvs:List (List Key × V)} {xs:List (List Key × Addr × Value)} (r:KT H kvs xs) (k:List Key) {b:Addr} {y:V} {u:Value} (hb:H b=some (.tup (k.map kV))) (ry:RelV y u) :
  KT H (putK kvs k y) (storedH xs k b u):=by
 have e:(kvs.any λkv=>decide (kv.1=k))=(atKey xs k).isSome:=by
  rw [fM,(r.val k).d8,Option.isSome_map]
 unfold putK storedH
 rw [e]
 by_cases q:(atKey xs k).isSome=true
 ·rw [if_pos q,if_pos q];exact r.uk k ry
 ·rw [if_neg q,if_neg q];exact Paired.snoc r ⟨rfl,hb,ry⟩
theorem KT.keeps {H H':Hp} {kvs:List (List Key × V)} {xs:List (List Key × Addr × Value)} (r:KT H kvs xs) (ht:∀ b ys,H b=some (.tup ys)->H' b=some (.tup ys)):KT H' kvs xs :=
 Paired.tL r λ_ _ z=>⟨z.1,ht _ _ z.2.1,z.2.2⟩
section
variable {P:Program} {w:World} {H:Hp} {h:Heap} {a:Addr}
theorem rX {u:HO} (ok:cm P w H h) (e:Rd H a u):aG P w H h a u:=e.ok ok
theorem kH {kvs:List (Key × V)} (ok:cm P w H h) (e:Rd H a (.dK kvs)):kvs.length<=sizeLine/\(a==sysModules)=false/\∃ vs,KV kvs vs/\h.DictOf (aK P w) a vs :=
 show aG P w H h a (.dK kvs) from rX ok e
theorem kG {kvs:List (Key × V)} (ok:cm P w H h) (e:H a=some (.dK kvs)):kvs.length<=sizeLine/\(a==sysModules)=false/\∃ vs,KV kvs vs/\h.DictOf (aK P w) a vs:=kH ok (.inl e)
theorem ig {ks:List Key} (ok:cm P w H h) (e:H a=some (.tup (ks.map kV))):(tupleKind (aK P w)).is h ks a:=by
 obtain⟨_,its,r,o,h1,h2,n,h3⟩:=(show aG P w H h a (.tup (ks.map kV)) from ok a _ e)
 exact⟨o,its.toArray,n,h1,h2,h3,by simpa using gk r⟩
theorem kI {kvs:List (List Key × V)} (ok:cm P w H h) (e:Rd H a (.dT kvs)):kvs.length<=sizeLine/\(a==sysModules)=false /\
  ∃ xs,KT H kvs xs/\h.DictOfH (tupleKind (aK P w)) a xs:=by
 obtain⟨z,y,xs,r,o,es,ep,h1,h2,h3,h4,h5⟩:=(show aG P w H h a (.dT kvs) from rX ok e)
 refine⟨z,y,xs,r,o,es,ep,h1,h2,h3,h4,λx hx=>?_,h5⟩
 have all:∀{l:List (List Key × V)} {m:List (List Key × Addr × Value)},KT H l m->∀ x∈m,(tupleKind (aK P w)).is h x.1 x.2.1:=by
  intro l m q
  induction q with
  | nil=>intro x hx;exact nomatch hx
  | @cons p q ps qs hq t ih =>
   intro x hx
   rcases List.mem_cons.mp hx with e | hx
   ·subst e
    exact ig ok (by rw [<- hq.1];exact hq.2.1)
   ·exact ih x hx
 exact all r x hx
theorem u0 {kvs:List (List Key × V)} (ok:cm P w H h) (e:H a=some (.dT kvs)):kvs.length<=sizeLine/\(a==sysModules)=false /\
  ∃ xs,KT H kvs xs/\h.DictOfH (tupleKind (aK P w)) a xs:=kI ok (.inl e)
end
def dE (H:Hp) (a:Addr) (y:V) (r:Option V):Prop :=
 (∃ kvs k,Rd H a (.dK kvs)/\y=kV k/\r=bT kvs k)∨∃ kvs k b,Rd H a (.dT kvs)/\y=.ref b/\H b=some (.tup (k.map kV))/\r=bT kvs k
def iW (H:Hp) (a:Addr) (y v:V) (H':Hp):Prop :=
 (∃ kvs k,H a=some (.dK kvs)/\y=kV k/\kvs.length<sizeLine/\H'=upd H a (.dK (putK kvs k v))) ∨
 ∃ kvs k b,H a=some (.dT kvs)/\y=.ref b/\H b=some (.tup (k.map kV))/\kvs.length<sizeLine/\H'=upd H a (.dT (putK kvs k v))
theorem dE.k {H:Hp} {a:Addr} {kvs:List (Key × V)} {k:Key} (e:H a=some (.dK kvs)):dE H a (kV k) (bT kvs k):=.inl ⟨kvs,k,.inl e,rfl,rfl⟩
theorem dE.t {H:Hp} {a b:Addr} {kvs:List (List Key × V)} {k:List Key} (e:H a=some (.dT kvs)) (eb:H b=some (.tup (k.map kV))):dE H a (.ref b) (bT kvs k):=.inr ⟨kvs,k,b,.inl e,rfl,eb,rfl⟩
theorem iW.k {H:Hp} {a:Addr} {kvs:List (Key × V)} {k:Key} {v:V} (e:H a=some (.dK kvs)) (hl:kvs.length<sizeLine):iW H a (kV k) v (upd H a (.dK (putK kvs k v))):=.inl ⟨kvs,k,e,rfl,hl,rfl⟩
theorem iW.t {H:Hp} {a b:Addr} {kvs:List (List Key × V)} {k:List Key} {v:V} (e:H a=some (.dT kvs)) (eb:H b=some (.tup (k.map kV))) (hl:kvs.length<sizeLine) :
  iW H a (.ref b) v (upd H a (.dT (putK kvs k v))):=.inr ⟨kvs,k,b,e,rfl,eb,hl,rfl⟩
section
variable {X:Cx} {pins:List (Addr × Obj)} {σ:St} {H:Hp} {s:Shared} {a:Addr} {y v:V} {u r:Value} {o:Option V} {A:Around} {E:Value->Shared->Prop}
theorem Inv.big (I:Inv X pins σ H s):sysModules<s.heap.objs.size:=by
 have h:mainGlobals<s.heap.objs.size:=(I.mod.glob.keeps I.bk).lt
 exact Nat.lt_trans (by decide) h
theorem lI {Q:Value->Shared->Prop} (hu:A.units+1<cLine) (I:Inv X pins σ H s) (g:dE H a y (some v)) (ry:RelV y u) (h:∀ w' s',Inv X pins σ H s'->RelV v w'->Q w' s') :
  wpAny (model X.prog X.w) A (getItem (.ref a) u) Q E s:=by
 rcases g with⟨kvs,k,e,ey,l⟩|⟨kvs,k,b,e,ey,eb,l⟩
 ·subst ey
  obtain⟨z,hd,vs,rel,dd⟩:=kH I.hok e
  obtain⟨w',hw,rw'⟩:=dG.some_of (v:=v) (o:=valueAt vs k) (by rw [l];exact rel.val k)
  exact wpAny_getItem_of (jd ry) dd.mapOf hw (h w' _ (I.tok _) rw')
 ·subst ey
  cases (show u=Value.ref b from ry)
  obtain⟨z,hd,xs,rel,dd⟩:=kI I.hok e
  obtain⟨w',hw,rw'⟩:=dG.some_of (v:=v) (o:=(atKey xs k).map (·.2)) (by rw [l];exact rel.val k)
  obtain⟨p,hp,hp2⟩:=Option.map_eq_some_iff.mp hw
  refine wpAny_getItem_heap (tupleKind_room_in1 hu) (ig I.hok eb) dd hp ?_
  rw [hp2]
  exact h w' _ (I.tok _) rw'
theorem wY {Q:Value->Shared->Prop} (hu:A.units+1<cLine) (I:Inv X pins σ H s) (g:dE H a y o) (ry:RelV y u) (h:∀ s',Inv X pins σ H s'->Q (.bool o.isSome) s') :
  wpAny (model X.prog X.w) A (compareOp .In u (.ref a)) Q E s:=by
 rcases g with⟨kvs,k,e,ey,l⟩|⟨kvs,k,b,e,ey,eb,l⟩
 ·subst ey
  obtain⟨z,hd,vs,rel,dd⟩:=kH I.hok e
  refine wpAny_in_of (jd ry) hd dd.mapOf ?_
  rw [<- (rel.val k).d8,<- l]
  exact h _ (I.tok _)
 ·subst ey
  cases (show u=Value.ref b from ry)
  obtain⟨z,hd,xs,rel,dd⟩:=kI I.hok e
  refine wpAny_in_heap (tupleKind_room_in1 hu) (ig I.hok eb) hd dd ?_
  have q:=(rel.val k).d8
  rw [Option.isSome_map] at q
  rw [<- q,<- l]
  exact h _ (I.tok _)
theorem gX {h':Heap} {t':Nat} {ob:HO} (I:Inv X pins σ H s) (mu:uM (H a)) (hs:Heap.SameBut a s.heap h') (he:∃ q,h'.get? a=some q) (new:aG X.prog X.w (upd H a ob) h' a ob) :
  Inv X pins σ (upd H a ob) { s with heap:=h',toks:=t' } :=
 I.write (x:=a) (e:=a) mu (.inl rfl) (λb q hb z=>(hs.2 b hb).trans z) he new
theorem mN {P:Program} {w:World} {H':Hp} {h':Heap} {kvs:List (Key × V)} {vs:List (Key × Value)} (z:kvs.length<=sizeLine) (hd:(a==sysModules)=false) (rel:KV kvs vs) (dd:h'.DictOf (aK P w) a vs) :
  aG P w H' h' a (.dK kvs):=⟨z,hd,vs,rel,dd⟩
theorem lJ {H':Hp} {Q:Unit->Shared->Prop} (hu:A.units+1<cLine) (I:Inv X pins σ H s) (g:iW H a y v H') (ry:RelV y u) (rv:RelV v r) (h:∀ s',Inv X pins σ H' s'->Q () s') :
  wpAny (model X.prog X.w) A (setItem (.ref a) u r) Q E s:=by
 rcases g with⟨kvs,k,e,ey,l,eH⟩|⟨kvs,k,b,e,ey,eb,l,eH⟩
 ·subst ey eH
  obtain⟨z,hd,vs,rel,dd⟩:=kG I.hok e
  have hz:vs.length<=sizeLine:=by rw [<- rel.length];exact z
  have hl:(putK kvs k v).length<=sizeLine:=by have:=cE kvs k v;omega
  refine wpAny_setItem_pairs (hsz:=hz) (jd ry) dd λh' dd' hs=>h _ ?_
  have he:∃ q,h'.get? a=some q:=let ⟨q,_,_,hq,_⟩:=dd';⟨q,hq⟩
  exact gX I (by rw [e];exact True.intro) hs he (mN hl hd (rel.put k rv) dd')
 ·subst ey eH
  cases (show u=Value.ref b from ry)
  obtain⟨z,hd,xs,rel,dd⟩:=u0 I.hok e
  have hz:xs.length<=sizeLine:=by rw [<- Paired.length rel];exact z
  have hl:(putK kvs k v).length<=sizeLine:=by have:=cE kvs k v;omega
  refine wpAny_setItem_heap (hsz:=hz) (tupleKind_room_in1 hu) (ig I.hok eb) dd λh' dd' hs=>h _ ?_
  obtain⟨q,es,ep,hq,h2,h3,h4,_,h5⟩:=dd'
  refine gX I (by rw [e];exact True.intro) hs ⟨q,hq⟩ ⟨hl,hd,_,(rel.put k eb rv).keeps λc ys ec=>?_,q,es,ep,hq,h2,h3,h4,h5⟩
  rw [aj (vA ec e (λz=>nomatch z))]
  exact ec
end
section
variable {X:Cx} {pins:List (Addr × Obj)} {σ:St} {H:Hp} {s:Shared} {a:Addr} {kvs:List (Key × V)} {k:Key} {u:Value} {A:Around} {E:Value->Shared->Prop}
end
def uN (i:Expr):Prop:=∀ ov iv,subscripted i false ov iv=operate [ov,iv] (getItem ov iv)
theorem qU {prog:Program} {w:World} {A:Around} {E:Value->Shared->Prop} {s:Shared} {env:Env} {value slice:Expr} {pos:Pos} {T id:String} {Q:Value->Shared->Prop}
  (hl:typeLookup (.type T) "__getitem__"=pure (some (.builtin id))) (hs:uN slice)
  (h:wpAny (model prog w) A (eval value env) (λo s₁=>wpAny (model prog w) A (eval slice env) (λi s₂=>s₂.TypeIs o T/\wpAny (model prog w) A (getItem o i) Q E s₂) E s₁) E s) :
  wpAny (model prog w) A (eval (.Subscript value slice pos) env) Q E s:=by
 refine Subscript_ (wpAny_mono h (λo s₁ h₁=>wpAny_mono h₁ (λi s₂ h₂=>?_) λ_ _ x=>x) λ_ _ x=>x)
 obtain⟨hT,h₂⟩:=h₂
 unfold subscriptTail
 refine wpAny_bind ?_
 rw [getitemInPython_of_ne hT.not_modules]
 refine wpAny_bind (wpAny_specialOf hT hl ?_)
 have fin:wpAny (model prog w) A (subscripted slice false o i) (λr s₃=>wpAny (model prog w) A (letTemporaryGo value o r >>= λ_=>pure r) Q E s₃) E s₂:=by
  rw [hs o i]
  exact wpAny_operating (wpAny_mono h₂ (λr s₃ h₃=>wpAny_bind (wpAny_letTemporaryGo (wpAny_pure h₃))) λ_ _ x=>x)
 first
  | exact wpAny_pure (wpAny_bind fin)
  | exact wpAny_bind (wpAny_pure (wpAny_bind fin))
  | exact wpAny_bind fin
theorem i3 {X:Cx} {pins:List (Addr × Obj)} {σ:St} {H:Hp} {s:Shared} {a:Addr} {y:V} {o:Option V} (I:Inv X pins σ H s) (g:dE H a y o):s.TypeIs (.ref a) "dict":=by
 rcases g with⟨kvs,k,e,_,_⟩|⟨kvs,k,b,e,_,_,_⟩
 ·obtain⟨_,_,vs,_,dd⟩:=kH I.hok e
  exact dd.typeIs
 ·obtain⟨_,_,xs,_,dd⟩:=kI I.hok e
  exact dd.typeIs
def sg (td ty:TE):TE:=λσ H Q=>td σ H λx H1=>ty σ H1 λy H2=>∃ a v,x=.ref a/\dE H2 a y (some v)/\Q v H2
def wa (ty td:TE):TE:=λσ H Q=>ty σ H λy H1=>td σ H1 λx H2=>∃ a o,x=.ref a/\dE H2 a y o/\Q (.bl o.isSome) H2
def rY (td ty tv:TE):TS:=λD σ H=>tv σ H λv H1=>td σ H1 λx H2=>ty σ H2 λy H3=>∃ a H4,x=.ref a/\iW H3 a y v H4/\D.nx σ H4
section
variable {X:Cx} {o i e value:Expr} {pos pos' tpos:Pos} {td ty tv:TE}
theorem b3 (hu:X.A.units+1<cLine) (ho:PE X o td) (hi:PE X i ty) (hs:uN i):PE X (.Subscript o i pos) (sg td ty):=by
 intro pins s σ H Q I h
 refine qU PySem.F.slot_dict_getitem.lookup hs (aN (ho pins s σ H _ I h) λu s1 ⟨x,H1,I1,rx,q1⟩=>aN (hi pins s1 σ H1 _ I1 q1) λiv s2 ⟨y,H2,I2,ry,a,v,ex,g,q2⟩=>?_)
 subst ex
 obtain rfl:u=Value.ref a:=rx
 exact⟨i3 I2 g,lI hu I2 g ry λw' s3 I3 rw'=>⟨v,H2,I3,rw',q2⟩⟩
theorem tX (hu:X.A.units+1<cLine) (hi:PE X i ty) (ho:PE X o td):PC X .In i o (wa ty td):=by
 intro pins s σ H Q I h
 refine aN (hi pins s σ H _ I h) λiv s1 ⟨y,H1,I1,ry,q1⟩=>aN (ho pins s1 σ H1 _ I1 q1) λu s2 ⟨x,H2,I2,rx,a,ov,ex,g,q2⟩=>?_
 subst ex
 obtain rfl:u=Value.ref a:=rx
 exact wY hu I2 g ry λs3 I3=>⟨.bl ov.isSome,H2,I3,rfl,q2⟩
theorem iE (hu:X.A.units+1<cLine) (ho:PE X o td) (hi:PE X i ty) (hv:PE X value tv) (hs:swapsWith value (some (.Subscript o i pos')) pos.line X.env=pure false) :
  PS X (.Assign [.Subscript o i pos'] value pos) (rY td ty tv):=by
 intro pins s σ H D I h
 refine wpAny_Assign_Subscript (aN (hv pins s σ H _ I h) λr s1 ⟨v,H1,I1,rv,q1⟩=>aN (ho pins s1 σ H1 _ I1 q1) λu s2 ⟨x,H2,I2,rx,q2⟩=>aN (hi pins s2 σ H2 _ I2 q2) λiv s3 ⟨y,H3,I3,ry,a,H4,ex,g,q3⟩=>?_) hs
 subst ex
 obtain rfl:u=Value.ref a:=rx
 exact lJ hu I3 g ry rv λs4 I4=>⟨σ,H4,I4,q3⟩
end
theorem i4 {P:Program} {w:World} {H:Hp} (h:Heap) (hb:sysModules<h.objs.size):aG P w H (h.push { cls:=.type "dict",data:=.dict #[] }) h.objs.size (.dK []) :=
 ⟨Nat.zero_le _,beq_eq_false_iff_ne.mpr (Ne.symm (Nat.ne_of_lt hb)),[],.nil,Heap.DictOf.new h⟩
def uv:TE:=λ_ H Q=>∀ p,H p=none->Q (.ref p) (upd H p (.dK []))
section
variable {X:Cx} {pos:Pos}
theorem oo:PE X (.Dict [] [] pos) uv:=λpins s σ H Q I h =>
 wpAny_Dict_empty ⟨.ref s.heap.objs.size,_,I.laid (a:=s.heap.objs.size) (o:=.dK []) (t':=s.toks) (λ_ _ q=>Heap.get?_push_of_some _ q) (Nat.le_refl _) (i4 s.heap I.big),rfl,h _ (I.hok.fresh (Nat.le_refl _))⟩
end
def iQ:List (TE × TE)->St->Hp->(List (V × V)->Hp->Prop)->Prop
 | [],_,H,Q=>Q [] H
 | (tk,tv)::r,σ,H,Q=>tk σ H λx H1=>tv σ H1 λy H2=>iQ r σ H2 λps H3=>Q ((x,y)::ps) H3
abbrev VV:List (V × V)->List (Value × Value)->Prop:=Paired λp q=>RelV p.1 q.1/\RelV p.2 q.2
def wy (X:Cx) (pos:Pos) (keys:List (Option Expr)) (values:List Expr) (trs:List (TE × TE)):Prop :=
 ∀(pins:List (Addr × Obj)) (s:Shared) (σ:St) (H:Hp) (Q:List (V × V)->Hp->Prop),Inv X pins σ H s->iQ trs σ H Q ->
  wpAny (model X.prog X.w) X.A (evalPairs (pairTrees keys values X.env pos)) (λvs s'=>∃ ps H',Inv X pins σ H' s'/\VV ps vs/\Q ps H') X.xe s
theorem kW {X:Cx} {pos:Pos}:wy X pos [] [] []:=λpins s σ H Q I h=>pairTrees_nil_walk ⟨[],H,I,.nil,h⟩
theorem dR {X:Cx} {pos:Pos} {k v:Expr} {ks:List (Option Expr)} {vs:List Expr} {tk tv:TE} {trs:List (TE × TE)} (hk:PE X k tk) (hv:PE X v tv) (hr:wy X pos ks vs trs) :
  wy X pos (some k::ks) (v::vs) ((tk,tv)::trs):=λpins s σ H Q I h =>
 pairTrees_cons_walk (aN (hk pins s σ H _ I h) λu s1 ⟨x,H1,I1,rx,q1⟩=>aN (hv pins s1 σ H1 _ I1 q1) λw2 s2 ⟨y,H2,I2,ry,q2⟩ =>
  aN (hr pins s2 σ H2 _ I2 q2) λws s3 ⟨ps,H3,I3,rel,q3⟩=>⟨(x,y)::ps,H3,I3,.cons ⟨rx,ry⟩ rel,q3⟩)
def ft (kvs more:List (Key × V)):List (Key × V):=more.foldl (λacc kv=>putK acc kv.1 kv.2) kvs
theorem KV.merge:∀{more:List (Key × V)} {rs:List (Key × Value)} {kvs:List (Key × V)} {vs:List (Key × Value)},KV more rs->KV kvs vs->KV (ft kvs more) (merged vs rs):=by
 intro more rs kvs vs r
 unfold KV at r
 induction r generalizing kvs vs with
 | nil=>intro q;exact q
 | @cons p q ps qs h t ih =>
  intro r0
  have e:KV (putK kvs p.1 p.2) (stored vs q.1 q.2):=by
   have:=r0.put p.1 h.2
   rw [<- h.1];exact this
  exact ih e
theorem c6:∀(more kvs:List (Key × V)),(ft kvs more).length<=kvs.length+more.length
 | [],kvs=>by show kvs.length<=kvs.length+0;omega
 | p::r,kvs=>by
  have h1:=c6 r (putK kvs p.1 p.2)
  have h2:=cE kvs p.1 p.2
  show (ft (putK kvs p.1 p.2) r).length<=_
  rw [List.length_cons];omega
theorem fb {P:Program} {w:World}:∀{kvs:List (Key × V)} {ws:List (Value × Value)},VV (kvs.map λkv=>(kV kv.1,kv.2)) ws->∃ rs,Carries (aK P w) ws rs/\KV kvs rs
 | [],_,r=>by rw [List.map_nil] at r;cases r;exact⟨[],True.intro,.nil⟩
 | p::kvs,_,r=>by
  rw [List.map_cons] at r
  cases r with
  | @cons a b as bs h t =>
   obtain⟨rs,c,q⟩:=fb (P:=P) (w:=w) t
   obtain⟨b1,b2⟩:=b
   exact⟨(p.1,b2)::rs,⟨jd h.1,rfl,c⟩,.cons ⟨rfl,h.2⟩ q⟩
def sh (trs:List (TE × TE)):TE:=λσ H Q=>∀ p,H p=none->iQ trs σ (upd H p (.dK [])) λps H2=>H2 p=some (.dK [])/\∃ kvs:List (Key × V),ps=kvs.map (λkv=>(kV kv.1,kv.2))/\kvs.length<=15/\Q (.ref p) (upd H2 p (.dK (ft [] kvs)))
theorem kS {X:Cx} {pos:Pos} {keys:List (Option Expr)} {values:List Expr} {trs:List (TE × TE)} (h:wy X pos keys values trs) (hall:keys.all (·.isSome)=true) (hl:keys.length=values.length) (h0:keys≠[])
  (h15:keys.length<=15):PE X (.Dict keys values pos) (sh trs):=by
 intro pins s σ H Q I q
 have hn:=I.hok.fresh (Nat.le_refl s.heap.objs.size)
 have I1:=I.laid (a:=s.heap.objs.size) (o:=.dK []) (h':=s.heap.push { cls:=.type "dict",data:=.dict #[] }) (t':=s.toks) (λ_ _ q=>Heap.get?_push_of_some _ q) (Nat.le_refl _) (i4 s.heap I.big)
 refine wpAny_Dict_walk (knd:=aK X.prog X.w) hall hl h0 h15 (aN (h pins _ σ _ _ I1 (q _ hn)) λws s2 ⟨ps,H2,I2,rel,e,kvs,ep,lk,q2⟩=>?_)
 subst ep
 obtain⟨rs,c,rk⟩:=fb (P:=X.prog) (w:=X.w) rel
 obtain⟨z,hd,vs0,r0,dd⟩:=kG I2.hok e
 cases r0
 refine⟨rs,c,dd,λh' dd' hs=>⟨.ref s.heap.objs.size,_,?_,rfl,q2⟩⟩
 have hz:(ft [] kvs).length<=sizeLine:=by
  have h1:=c6 kvs []
  rw [List.length_nil] at h1
  rw [sizeLine_eq];omega
 have he:∃ q,h'.get? s.heap.objs.size=some q:=let ⟨q,_,_,hq,_⟩:=dd';⟨q,hq⟩
 exact gX I2 (by rw [e];exact True.intro) hs he (mN hz hd (rk.merge .nil) dd')
structure M1 (X:Cx) (o:Expr) (m:Str) (apos:Pos) (e:Expr) (cpos:Pos):Prop where
 base:attributeBase o m X.env (eval o X.env)=eval o X.env
 pH:((backTo cpos (starEach [e] X.env)).all (λx=>!x.1) && (backToKw cpos (keywordEach [] X.env)).all (λx=>x.1.isSome)
  && decide (([e]:List Expr).length+([]:List Keyword).length+(if ([]:List Keyword).isEmpty then 0 else 1)<30))=true
 line:(apos.endLine==cpos.line)=true
 trees:backTo cpos (starEach [e] X.env)=[(false,eval e X.env)]
structure M2 (X:Cx) (o:Expr) (m:Str) (apos:Pos) (e f:Expr) (cpos:Pos):Prop where
 base:attributeBase o m X.env (eval o X.env)=eval o X.env
 pH:((backTo cpos (starEach [e,f] X.env)).all (λx=>!x.1) && (backToKw cpos (keywordEach [] X.env)).all (λx=>x.1.isSome)
  && decide (([e,f]:List Expr).length+([]:List Keyword).length+(if ([]:List Keyword).isEmpty then 0 else 1)<30))=true
 line:(apos.endLine==cpos.line)=true
 trees:backTo cpos (starEach [e,f] X.env)=[(false,eval e X.env),(false,eval f X.env)]
section
variable {X:Cx} {pins:List (Addr × Obj)} {σ:St} {H:Hp} {s:Shared} {a:Addr} {y d:V} {u r:Value} {o:Option V} {A:Around} {E:Value->Shared->Prop}
end
section
variable {X:Cx} {o e f:Expr} {apos cpos:Pos} {td ty tx:TE}
end
section
variable {X:Cx} {pins:List (Addr × Obj)} {σ:St} {H:Hp} {s:Shared} {a:Addr} {kvs:List (Key × V)} {A:Around} {E:Value->Shared->Prop}
end
section
variable {X:Cx} {pins:List (Addr × Obj)} {σ:St} {H:Hp} {s:Shared} {a:Addr} {y:V} {u:Value} {A:Around} {E:Value->Shared->Prop}
end
def mx (l:Int) (b:Bool):HO:=.dK [(Sum.inr "left",.int l),(Sum.inr "free",.bl b)]
def rP (l:Int) (b:Bool):Prop:=b=true∨(0<=l/\l<2147483647)
def Up (p:Addr) (b:Bool) (H H':Hp):Prop:=∃ l,rP l b/\H'=upd H p (mx l b)
theorem eA {H:Hp} {p:Addr} {o o':HO}:upd (upd H p o) p o'=upd H p o':=by
 funext c
 by_cases e:c=p
 ·subst e;rw [ae,ae]
 ·rw [aj e,aj e,aj e]
theorem Up.trans {p:Addr} {b:Bool} {H H1 H2:Hp} (h:Up p b H H1) (h':Up p b H1 H2):Up p b H H2:=by
 obtain⟨l,_,rfl⟩:=h
 obtain⟨l',k',rfl⟩:=h'
 exact⟨l',k',eA⟩
theorem Up.at {p:Addr} {b:Bool} {H H1:Hp} (h:Up p b H H1):∃ l,rP l b/\H1 p=some (mx l b):=by
 obtain⟨l,k,rfl⟩:=h
 exact⟨l,k,ae⟩
theorem Up.ne {p q:Addr} {b:Bool} {H H1:Hp} (h:Up p b H H1) (n:q≠p):H1 q=H q:=by
 obtain⟨l,k,rfl⟩:=h
 exact aj n
theorem dJ {H:Hp} {p:Addr} {l:Int} {b:Bool} (h:H p=some (mx l b)):dE H p (.str "left") (some (.int l)):=dE.k (k:=Sum.inr "left") h
theorem mU {H:Hp} {p:Addr} {l:Int} {b:Bool} (h:H p=some (mx l b)):dE H p (.str "free") (some (.bl b)):=dE.k (k:=Sum.inr "free") h
theorem jz {H:Hp} {p:Addr} {l l':Int} {b:Bool} (h:H p=some (mx l b)):iW H p (.str "left") (.int l') (upd H p (mx l' b)):=.inl ⟨_,Sum.inr "left",h,rfl,by show 2<sizeLine;decide,rfl⟩
def Us (p:Addr) (b:Bool) (H H':Hp):Prop:=(∃ l,rP l b/\H' p=some (mx l b))/\∀ q o,q≠p->H q=some o->H' q=some o
theorem Up.us {p:Addr} {b:Bool} {H H':Hp} (h:Up p b H H'):Us p b H H':=⟨h.at,λq o n e=>by rw [h.ne n];exact e⟩
theorem Us.trans {p:Addr} {b:Bool} {H H1 H2:Hp} (h:Us p b H H1) (h':Us p b H1 H2):Us p b H H2:=⟨h'.1,λq o n e=>h'.2 q o n (h.2 q o n e)⟩
theorem Us.lay {p q:Addr} {b:Bool} {H H1:Hp} {o:HO} (h:Us p b H H1) (f:H1 q=none):Us p b H (upd H1 q o):=by
 obtain⟨⟨l,k,e⟩,s⟩:=h
 exact⟨⟨l,k,by rw [aj (λz=>by rw [<- z,e] at f;cases f)];exact e⟩,λr u n er=>by
  have:=s r u n er
  rw [aj (λz=>by rw [z,f] at this;cases this)];exact this⟩
theorem Us.refl {p:Addr} {b:Bool} {H:Hp} {l:Int} (h:H p=some (mx l b)) (k:rP l b):Us p b H H:=⟨⟨l,k,h⟩,λ_ _ _ e=>e⟩
theorem Us.free {p q:Addr} {b:Bool} {H H1:Hp} (h:Us p b H H1) (f:H1 q=none):H q=none:=by
 cases e:H q with
 | none=>rfl
 | some o =>
  by_cases n:q=p
  ·subst n
   obtain⟨l,_,z⟩:=h.1
   rw [z] at f;cases f
  ·rw [h.2 q o n e] at f;cases f
theorem Us.set {p q:Addr} {b:Bool} {H H1:Hp} {o:HO} (h:Us p b H H1) (f:H q=none) (n:q≠p):Us p b H (upd H1 q o):=by
 obtain⟨⟨l,k,e⟩,s⟩:=h
 exact⟨⟨l,k,by rw [aj (Ne.symm n)];exact e⟩,λr u n er=>by rw [aj (λz=>by rw [z,f] at er;cases er)];exact s r u n er⟩
theorem Us.same {p:Addr} {b:Bool} {H H0 H1:Hp} (h:Us p b H H1) (s:aA H0 H) (f:H0 p=none):aA H0 H1:=λc o e=>h.2 c o (λz=>by rw [z,f] at e;cases e) (s c o e)
section
variable {K:PySem.W.Frag} {H H':Hp}
theorem a9.gm {a:Addr} {xs:List V} (k:∀ a xs,Rd H a (.tup xs)->Rd H' a (.tup xs)) (h:a9 K H a xs):a9 K H' a xs:=h.imp (λz=>k _ _ z) id
mutual
theorem dv.gm (k:∀ a xs,Rd H a (.tup xs)->Rd H' a (.tup xs)):∀(d:PyData) {v:V},uI d=true->dv K H d v->dv K H' d v
 | .none,_,_,h=>h
 | .bool _,_,_,h=>h
 | .int _,_,_,h=>h
 | .str _,_,_,h=>h
 | .list ds,_,z,_=>by cases z
 | .tuple ds,_,z,⟨q,xs,e,h,t⟩=>⟨q,xs,e,h.gm k,aU.gm k ds z t⟩
 | .dict _,_,_,h=>h.elim
theorem aU.gm (k:∀ a xs,Rd H a (.tup xs)->Rd H' a (.tup xs)):∀(ds:List PyData) {xs:List V},fV ds=true->aU K H ds xs->aU K H' ds xs
 | [],_,_,h=>h
 | d::ds,_,z,⟨x,r,e,h,t⟩=>by
  have z':uI d=true/\fV ds=true:=by simpa [fV] using z
  exact⟨x,r,e,dv.gm k d z'.1 h,aU.gm k ds z'.2 t⟩
end
theorem aU.set:∀{ds:List PyData} {us:List V} (i:Nat) {d:PyData} {v:V},aU K H ds us->dv K H d v->aU K H (ds.set i d) (us.set i v)
 | [],_,_,_,_,h,_=>by cases h;exact rfl
 | e::ds,_,0,_,_,⟨x,r,ex,h,t⟩,hv=>by subst ex;exact⟨_,_,rfl,hv,t⟩
 | e::ds,_,i+1,_,_,⟨x,r,ex,h,t⟩,hv=>by subst ex;exact⟨_,_,rfl,h,aU.set i t hv⟩
end
theorem Us.ref {p:Addr} {b:Bool} {H H1:Hp} (h:Us p b H H1):∃ l,rP l b/\H1 p=some (mx l b):=h.1
theorem oG {X:Cx} {ss:List Stmt}:eY X ss (λ_ _ _=>False):=by
 intro _ _ _ _ _ _ h
 exact False.elim h
end L2
namespace Sq2
open Num
structure J (p y x s t:Int):Prop where
 s0:0<=s
 t0:0<=t
 e:y*t+x*s=p
 dy:p∣y*y+s*s
 dx:p∣x*x+t*t
 dxy:p∣x*y-s*t
 x0:0<=x
 xy:x<y
theorem J.start {p x:Int} (x0:0<=x) (x1:x<p) (h:p∣x*x+1):J p p x 0 1 :=
 ⟨by omega,by omega,by omega,⟨p,by omega⟩,by simpa using h,⟨x,by rw [Int.mul_comm];omega⟩,x0,x1⟩
theorem J.pos {p y x s t:Int} (hp:Pm p) (h:J p y x s t) (c:p<y*y):0<x:=by
 have p2:=hp.two
 rcases (by have:=h.x0;omega:0<x∨x=0) with z | z
 ·exact z
 ·exfalso
  subst z
  have y0:=h.xy
  have e:y*t=p:=by have:=h.e;omega
  have d:p∣t*t:=by have:=h.dx;simpa using this
  have dt:p∣t:=by
   by_cases z:p∣t
   ·exact z
   ·exact hp.or d z
  obtain⟨m,hm⟩:=dt
  have h1:p*(y*m)=p*1:=by rw [Int.mul_one];rw [hm] at e;rw [<- Int.mul_assoc,Int.mul_comm p y,Int.mul_assoc];exact e
  have h2:y*m=1:=Int.eq_of_mul_eq_mul_left (by omega) h1
  have h3:y<=1:=Int.le_of_dvd (by omega) ⟨m,h2.symm⟩
  have:y=1:=by omega
  subst this
  omega
theorem J.step {p y x s t:Int} (h:J p y x s t) (hx:0<x):J p x (y%x) t (s+y/x*t):=by
 have e0:y%x=y-x*(y/x):=by have:=Int.mul_ediv_add_emod y x;omega
 have hq:0<=y/x:=Int.ediv_nonneg (by have:=h.xy;omega) (by omega)
 have r0:0<=y%x:=Int.emod_nonneg _ (by omega)
 have r1:y%x<x:=Int.emod_lt_of_pos _ hx
 refine⟨h.t0,?_,?_,h.dx,?_,?_,r0,r1⟩
 ·have:=Int.mul_nonneg hq h.t0
  have:=h.s0
  omega
 ·rw [e0]
  have:=h.e
  generalize y/x=q at *
  grind
 ·rw [e0]
  generalize y/x=q at *
  obtain⟨a,ha⟩:=h.dy
  obtain⟨b,hb⟩:=h.dx
  obtain⟨c,hc⟩:=h.dxy
  exact⟨a-2*q*c+q*q*b,by grind⟩
 ·rw [e0]
  generalize y/x=q at *
  obtain⟨b,hb⟩:=h.dx
  obtain⟨c,hc⟩:=h.dxy
  exact⟨c-q*b,by grind⟩
theorem rO {p z:Int} (hp:Pm p) (hz:0<=z):z*z≠p:=by
 intro e
 have p2:=hp.two
 have z2:2<=z:=by
  rcases (by omega:z=0∨z=1∨2<=z) with h | h | h
  ·subst h;omega
  ·subst h;omega
  ·exact h
 have zp:z<p:=by
  have:=Int.mul_le_mul_of_nonneg_right z2 hz
  omega
 exact hp.no z z2 zp ⟨z,e.symm⟩
theorem fin {p y x s t Y S:Int} (hp:Pm p) (h2:p≠2) (h:J p y x s t) (Y0:0<=Y) (S0:0<=S) (hY:p<Y*Y) (e:Y*s+y*S=p) (c:¬p<y*y):1<=x/\x<=y/\x*x+y*y=p:=by
 have p2:=hp.two
 have y0:0<y:=by have:=h.x0;have:=h.xy;omega
 have s0:=h.s0
 have yS:0<=y*S:=Int.mul_nonneg (by omega) S0
 have yy:y*y<p:=by have:=rO hp (z:=y) (by omega);omega
 have sY:s<=Y:=by
  rcases (by omega:s<=Y∨Y<s) with z | z
  ·exact z
  ·have:=Int.mul_le_mul_of_nonneg_left (show Y<=s by omega) Y0
   omega
 have ss:s*s<p:=by
  have h1:=Int.mul_le_mul_of_nonneg_right sY s0
  have:=rO hp (z:=s) s0
  omega
 have yyp:0<y*y:=Int.mul_pos y0 y0
 have ssp:0<=s*s:=Int.mul_nonneg s0 s0
 have sum:y*y+s*s=p:=by
  obtain⟨k,hk⟩:=h.dy
  rcases (by omega:k<=0∨k=1∨2<=k) with z | z | z
  ·have:=Int.mul_le_mul_of_nonneg_left z (show 0<=p by omega)
   omega
  ·rw [z,Int.mul_one] at hk;exact hk
  ·have:=Int.mul_le_mul_of_nonneg_left z (show 0<=p by omega)
   omega
 have s1:0<s:=by
  rcases (by omega:0<s∨s=0) with z | z
  ·exact z
  ·subst z;omega
 have yp:y<p:=by
  have:=Int.mul_le_mul_of_nonneg_right (show 1<=y by omega) (show 0<=y by omega)
  omega
 have co:∃ u v:Int,u*y+v*s=1:=by
  obtain⟨u,v,huv⟩:=hp.co (a:=y) (λz=>by have:=Int.le_of_dvd y0 z;omega)
  exact⟨u+v*y,v*s,by rw [<- sum] at huv;grind⟩
 obtain⟨u,v,huv⟩:=co
 have sy:s<=y:=by
  rcases (by omega:s<=y∨y<s) with z | z
  ·exact z
  ·exfalso
   have Ys:s<Y:=by
    rcases (by omega:s<Y∨s=Y) with w | w
    ·exact w
    ·subst w;omega
   have e3:s*(Y-s)=y*(y-S):=by grind
   have pos:0<y*(y-S):=by rw [<- e3];exact Int.mul_pos s1 (by omega)
   have yS':0<y-S:=by
    rcases (by omega:0<y-S∨y-S<=0) with w | w
    ·exact w
    ·have:=Int.mul_le_mul_of_nonneg_left w (show 0<=y by omega)
     omega
   have d:s∣y-S:=Co.dvd (a:=y) ⟨u,v,huv⟩ ⟨Y-s,e3.symm⟩
   have:=Int.le_of_dvd yS' d
   omega
 have sy':s≠y:=by
  intro z
  subst z
  exact hp.no 2 (by omega) (by omega) ⟨s*s,by omega⟩
 have e4:s*(s-x)=y*(t-y):=by have:=h.e;grind
 have d:y∣s-x:=Co.dvd (a:=s) ⟨v,u,by omega⟩ ⟨t-y,e4⟩
 have sx:s=x:=by
  obtain⟨k,hk⟩:=d
  have x0:=h.x0
  have xy:=h.xy
  rcases (by omega:k <= -1∨k=0∨1<=k) with z | z | z
  ·have:=Int.mul_le_mul_of_nonneg_left z (show 0<=y by omega)
   omega
  ·subst z;omega
  ·have:=Int.mul_le_mul_of_nonneg_left z (show 0<=y by omega)
   omega
 subst sx
 exact⟨by omega,by omega,by omega⟩
inductive Wk (p:Int):Int->Int->Int->Int->Prop
 | stop {y x:Int}:¬p<y*y->Wk p y x y x
 | step {y x a b:Int}:p<y*y->Wk p x (y%x) a b->Wk p y x a b
theorem Wk.one {p y x a b a' b':Int} (h:Wk p y x a b) (h':Wk p y x a' b'):a=a'/\b=b':=by
 induction h with
 | stop c=>cases h' with
  | stop _=>exact⟨rfl,rfl⟩
  | step d _=>exact absurd d c
 | step c _ ih=>cases h' with
  | stop d=>exact absurd c d
  | step _ w=>exact ih w
end Sq2
namespace Sst
open PySem
def fO (xs:Array Nat):Prop:=∀ i j,(h':i<j)->(h:j<xs.size)->xs[i]'(Nat.lt_trans h' h)<xs[j]
theorem eZ {xs:Array Nat} (hr:fO xs) (j:Nat):∀(fuel lo hi:Nat),hi-lo<=fuel->lo<=hi->hi<=xs.size->(∀ i,i<lo->(h:i<xs.size)->xs[i]<j)->(∀ i,hi<=i->(h:i<xs.size)->j<=xs[i]) ->
  ∃ r,SetTable.below.go xs j fuel lo hi=r/\r<=xs.size/\(∀ i,i<r->(h:i<xs.size)->xs[i]<j)/\(∀ i,r<=i->(h:i<xs.size)->j<=xs[i])
 | 0,lo,hi,h1,h2,h3,h4,h5=>⟨lo,rfl,by omega,h4,by
   have:lo=hi:=by omega
   subst this;exact h5⟩
 | fuel+1,lo,hi,h1,h2,h3,h4,h5=>by
  unfold SetTable.below.go
  by_cases c:lo<hi
  ·rw [if_pos c]
   dsimp only
   have hm:(lo+hi)/2<xs.size:=by omega
   have hg:xs.getD ((lo+hi)/2) j=xs[(lo+hi)/2]:=by simp [Array.getD,hm]
   rw [hg]
   by_cases d:xs[(lo+hi)/2]<j
   ·rw [if_pos d]
    refine eZ hr j fuel _ hi (by omega) (by omega) h3 (λi hi' h=>?_) h5
    rcases (by omega:i<(lo+hi)/2∨i=(lo+hi)/2) with z | z
    ·exact Nat.lt_trans (hr i _ z hm) d
    ·subst z;exact d
   ·rw [if_neg d]
    refine eZ hr j fuel lo _ (by omega) (by omega) (by omega) h4 (λi hi' h=>?_)
    rcases (by omega:(lo+hi)/2<i∨i=(lo+hi)/2) with z | z
    ·exact Nat.le_trans (Nat.not_lt.mp d) (Nat.le_of_lt (hr _ i z h))
    ·subst z;exact Nat.not_lt.mp d
  ·rw [if_neg c]
   have:lo=hi:=by omega
   subst this
   exact⟨lo,rfl,h3,h4,h5⟩
theorem e9 {xs:Array Nat} (hr:fO xs) (j:Nat):SetTable.below xs j<=xs.size/\(∀ i,i<SetTable.below xs j->(h:i<xs.size)->xs[i]<j)/\(∀ i,SetTable.below xs j<=i->(h:i<xs.size)->j<=xs[i]):=by
 obtain⟨r,e,h⟩:=eZ hr j xs.size 0 xs.size (by omega) (by omega) (Nat.le_refl _) (λi h=>by omega) (λi h h'=>by omega)
 unfold SetTable.below
 rw [e]
 exact h
theorem jS {xs:Array Nat} (hr:fO xs) {i:Nat} (hi:i<xs.size):SetTable.below xs (xs[i]+1)=i+1:=by
 obtain⟨h1,h2,h3⟩:=e9 hr (xs[i]+1)
 rcases (by omega:SetTable.below xs (xs[i]+1)<=i∨SetTable.below xs (xs[i]+1)=i+1∨i+1<SetTable.below xs (xs[i]+1)) with z | z | z
 ·have:=h3 i z hi
  omega
 ·exact z
 ·have h4:=h2 (i+1) z (by omega)
  have h5:=hr i (i+1) (by omega) (by omega)
  omega
theorem jT {xs:Array Nat} (hr:fO xs):SetTable.below xs 0=0:=by
 obtain⟨h1,h2,h3⟩:=e9 hr 0
 rcases Nat.eq_zero_or_pos (SetTable.below xs 0) with z | z
 ·exact z
 ·have:=h2 0 z (by omega)
  omega
theorem jC {xs:Array Nat} (hr:fO xs) {j:Nat} (hj:xs[SetTable.below xs j]?≠some j):fO (SetTable.insertAt xs (SetTable.below xs j) j):=by
 obtain⟨h1,h2,h3⟩:=e9 hr j
 generalize SetTable.below xs j=p at *
 have h3':∀ i,p<=i->(h:i<xs.size)->j<xs[i]:=by
  intro i hi h
  have:=h3 i hi h
  rcases (by omega:p=i∨p<i) with z | z
  ·subst z
   have:xs[p]≠j:=λe=>hj (by rw [Array.getElem?_eq_getElem h,e])
   omega
  ·have h4:=h3 p (Nat.le_refl _) (by omega)
   have h5:=hr p i z h
   omega
 have hs:(SetTable.insertAt xs p j).size=xs.size+1:=by
  unfold SetTable.insertAt
  simp
  omega
 have get:∀ i,(h:i<(SetTable.insertAt xs p j).size)->(SetTable.insertAt xs p j)[i]?=if i<p then xs[i]? else if i=p then some j else xs[i-1]?:=by
  intro i h
  rw [hs] at h
  unfold SetTable.insertAt
  rw [Array.getElem?_append]
  have e1:((xs.extract 0 p).push j).size=p+1:=by simp;omega
  rw [e1]
  by_cases c:i<p+1
  ·rw [if_pos c,Array.getElem?_push]
   have e2:(xs.extract 0 p).size=p:=by simp;omega
   rw [e2]
   by_cases d:i=p
   ·rw [if_pos d,if_neg (by omega),if_pos d]
   ·rw [if_neg d,if_pos (by omega),Array.getElem?_extract]
    simp
    omega
  ·rw [if_neg c,if_neg (by omega),if_neg (by omega),Array.getElem?_extract]
   rw [if_pos (by omega)]
   congr 1
   omega
 intro a b ab hb
 have ga:=get a (by omega)
 have gb:=get b hb
 rw [Array.getElem?_eq_getElem (by omega)] at ga
 rw [Array.getElem?_eq_getElem hb] at gb
 generalize (SetTable.insertAt xs p j)[a]'(by omega)=va at *
 generalize (SetTable.insertAt xs p j)[b]=vb at *
 rw [hs] at hb
 by_cases c1:a<p
 ·rw [if_pos c1,Array.getElem?_eq_getElem (show a<xs.size by omega)] at ga
  injection ga with ga
  by_cases c2:b<p
  ·rw [if_pos c2,Array.getElem?_eq_getElem (show b<xs.size by omega)] at gb
   injection gb with gb
   rw [ga,gb];exact hr a b ab (by omega)
  ·rw [if_neg c2] at gb
   have ha:=h2 a c1 (by omega)
   by_cases c3:b=p
   ·rw [if_pos c3] at gb
    injection gb with gb
    rw [ga,gb];exact ha
   ·rw [if_neg c3,Array.getElem?_eq_getElem (show b-1<xs.size by omega)] at gb
    injection gb with gb
    rw [ga,gb];exact Nat.lt_trans ha (h3' (b-1) (by omega) (by omega))
 ·rw [if_neg c1] at ga
  rw [if_neg (by omega:¬b<p),if_neg (by omega:¬b=p),Array.getElem?_eq_getElem (show b-1<xs.size by omega)] at gb
  injection gb with gb
  by_cases c3:a=p
  ·rw [if_pos c3] at ga
   injection ga with ga
   rw [ga,gb];exact h3' (b-1) (by omega) (by omega)
  ·rw [if_neg c3,Array.getElem?_eq_getElem (show a-1<xs.size by omega)] at ga
   injection ga with ga
   rw [ga,gb];exact hr (a-1) (b-1) (by omega) (by omega)
theorem dA {t:SetTable} {f:Nat->Int} {h:Int}:∀(fuel:Nat) (p:SetTable.Probe) {j:Nat} {dm:Option Nat},(∀ d,p.dummy=some d->t.slot d=.dummy)->SetTable.probe.go t f h fuel p=some (.empty j dm)->t.slot j=.empty/\∀ d,dm=some d->t.slot d=.dummy
 | 0,p,j,dm,_,e=>by cases e
 | fuel+1,p,j,dm,hd,e=>by
  unfold SetTable.probe.go at e
  cases es:t.slot p.j with
  | empty =>
   rw [es] at e
   cases e
   exact⟨es,hd⟩
  | dummy =>
   rw [es] at e
   refine dA fuel _ (λd hd'=>?_) e
   unfold SetTable.advance at hd'
   split at hd'<;>(dsimp only at hd';cases hd';exact es)
  | live i =>
   rw [es] at e
   dsimp only at e
   split at e
   ·cases e
   ·refine dA fuel _ (λd hd'=>?_) e
    unfold SetTable.advance at hd'
    split at hd'<;>exact hd d hd'
theorem gF {t:SetTable} {j:Nat} (h:t.slot j=.empty∨t.slot j=.dummy):t.place[SetTable.below t.place j]?≠some j:=by
 intro e
 unfold SetTable.slot at h
 dsimp only at h
 rw [if_pos (by rw [e];simp)] at h
 rcases h with h | h<;>cases h
theorem fS {t:SetTable} {h:Int} {j:Nat} {b:Bool} (e:t.freeSlot h=some (j,b)):t.place[SetTable.below t.place j]?≠some j:=by
 unfold SetTable.freeSlot at e
 split at e
 ·rename_i j' dm hp
  obtain⟨h1,h2⟩:=dA _ _ (λd hd=>by cases hd) hp
  injection e with e
  injection e with e1 e2
  cases dm with
  | none =>
   have:j'=j:=e1
   subst this
   exact gF (.inl h1)
  | some d =>
   have:d=j:=e1
   subst this
   exact gF (.inr (h2 d rfl))
 ·cases e
structure Led (t:SetTable):Prop where
 led:t.led=true
 rise:t.plain=true->fO t.place
theorem Led.standIn {t:SetTable} (h:Led t) (n:Nat):Led (t.standIn n):=⟨h.led,λz=>by cases z⟩
theorem Led.layNew {t:SetTable} (h:Led t) (es:Array (Int × Value)) (hh:Int) (x:Value):Led (PySem.layNew t es hh x).2.1:=by
 unfold PySem.layNew
 split
 ·rename_i slot wd e
  dsimp only
  unfold SetTable.orStandIn
  split
  ·exact⟨h.led,λz=>jC (h.rise z) (fS e)⟩
  ·exact⟨h.led,λz=>by cases z⟩
 ·exact h.standIn _
theorem qJ {l:List Nat} (h:l.Pairwise (·<·)):fO l.toArray:=by
 intro i j ij hj
 have:=List.pairwise_iff_getElem.mp h i j (by simp at hj;omega) (by simpa using hj) ij
 simpa using this
theorem md (n:Nat) (f:Nat->Option Nat):(((List.range n).filterMap λj=>(f j).map (j,·)).map (·.1)).Pairwise (·<·):=by
 rw [List.pairwise_map,List.pairwise_filterMap]
 refine List.Pairwise.imp ?_ List.pairwise_lt_range
 intro a b ab x hx y hy
 obtain⟨u,_,rfl⟩:=Option.map_eq_some_iff.mp hx
 obtain⟨v,_,rfl⟩:=Option.map_eq_some_iff.mp hy
 exact ab
theorem Led.relayAll {t:SetTable} (h:Led t) (es:Array (Int × Value)) (n:Nat):Led (PySem.relayAll t es n).2.1:=by
 unfold PySem.relayAll
 split
 ·rename_i t' order e
  dsimp only
  split
  ·unfold SetTable.relaid SetTable.laid at e
   simp only [Option.bind_eq_bind,Option.bind_eq_some_iff,Option.pure_def,Option.some.injEq,Prod.mk.injEq] at e
   obtain⟨owner,_,e1,_⟩:=e
   subst e1
   exact⟨h.led,λ_=>qJ (md _ λj=>owner.getD j none)⟩
  ·exact h.standIn _
 ·exact h.standIn _
end Sst
namespace Sp
open PySem
abbrev Pr:=Int × Int
def hp (k:Pr):Int:=reduceHash (Builtin.Tuple.tupleHashOf [hashInt k.1,hashInt k.2])
def iP (t:SetTable) (ks:List Pr) (k:Pr):Nat->Option SetTable.Probe->Option (Option Nat)
 | 0,_=>none
 | n+1,stand =>
  match t.probe (λi=>(ks[i]?.map hp).getD 0) (hp k) (stand.getD (t.probeStart (hp k))) with
  | some (.empty j none)=>some (some j)
  | some (.candidate j i next) =>
   match ks[i]? with
   | some k'=>if k'=k then some none else if t.slot j=.live i then iP t ks k n (some next) else none
   | none=>none
  | _=>none
def nS (t:SetTable) (n:Nat):Bool:=t.fits n && SetTable.rising t.place && t.plain && t.mask%2==1 && decide (n<4096)
def ins (st:List Pr × SetTable) (k:Pr):Option (List Pr × SetTable) :=
 match iP st.2 st.1 k 100 none with
 | some none=>some st
 | some (some j) =>
  let t:=(st.2.put j).1
  let ks:=(SetTable.insertAt st.1.toArray (st.2.put j).2 k).toList
  if nS t ks.length then
   if t.tooFull then
    if SetTable.sizeAbove (SetTable.grown (st.1.length+1))<=sizeLine then
     match t.relaid (ks.map hp).toArray (SetTable.grown (st.1.length+1)) with
     | some (t2,order) =>
      let ks2:=order.toList.filterMap (ks[·]?)
      if ks2.length=ks.length/\nS t2 ks2.length then some (ks2,t2) else none
     | none=>none
    else none
   else some (ks,t)
  else none
 | none=>none
def run (st:List Pr × SetTable):List Pr->Option (List Pr × SetTable)
 | []=>some st
 | k::r=>match ins st k with
  | some st'=>run st' r
  | none=>none
def new (led:Bool):List Pr × SetTable:=([],.fresh 0 0 led)
end Sp
namespace Sq
open PySem
abbrev Pr:=Sp.Pr
def wV (d:Nat):List (Nat × Nat)->List (Nat × Nat)
 | (q,k)::r=>if q=d then (q,k+1)::r else (d,1)::(q,k)::r
 | []=>[(d,1)]
def wA:Nat->Nat->Nat->List (Nat × Nat)
 | 0,_,_=>[]
 | f+1,n,d=>if n<=1 then [] else if n<d*d then [(n,1)] else if n%d=0 then wV d (wA f (n/d) d) else wA f n (d+1)
def tp:Nat->Nat->Nat->Nat->List (Nat × Nat)
 | 0,_,_,_=>[]
 | f+1,n,x,y=>if y<x then [] else if x*x+y*y<n then tp f n (x+1) y else if n<x*x+y*y then tp f n x (y-1) else (x,y)::tp f n (x+1) (y-1)
def bQ (n:Nat):List (Nat × Nat):=tp 300 n 0 142
def dC (l:List (Nat × Nat)):List Pr:=l.map λx=>((x.1:Int),(x.2:Int))
def xP (p:Nat):Bool:=decide (2<=p) && (List.range 143).all λd=>decide (d<2) || decide (p<d*d) || !decide (p%d=0)
def ord (x y:Int):Pr:=(if x.natAbs<=y.natAbs then (x.natAbs:Int) else y.natAbs,if x.natAbs<=y.natAbs then (y.natAbs:Int) else x.natAbs)
def bp (o s:Pr):List Pr:=[ord (o.1*s.1+o.2*s.2) (o.1*s.2-o.2*s.1),ord (o.1*s.1-o.2*s.2) (o.1*s.2+o.2*s.1)]
def bG (ps:List Pr) (s:Pr):List Pr:=ps.flatMap λo=>bp o s
def rk (k:Pr):Int:=k.1*1048576+k.2
def ins (k:Pr):List Pr->List Pr
 | []=>[k]
 | x::r=>if rk k<=rk x then k::x::r else x::ins k r
def v3:List Pr->List Pr
 | []=>[]
 | k::r=>ins k (v3 r)
def inc:List Pr->Bool
 | k::x::r=>decide (rk k<rk x) && inc (x::r)
 | _=>true
def wz (ps:List Pr) (s:Pr):Option (List Pr) :=
 match Sp.run (Sp.new true) (bG ps s) with
 | some st=>if inc (v3 st.1) && decide (st.1.length<64) && (bG ps s).all (λk=>decide (0<=k.2/\k.2<1048576)) && (v3 st.1).all (λk=>decide ((0<=k.1/\k.1<=1000000000)/\(0<=k.2/\k.2<=1000000000))) then some (v3 st.1) else none
 | none=>none
def chain (ps:List Pr):List Pr->Option (List Pr)
 | []=>some ps
 | s::r=>match wz ps s with
  | some q=>chain q r
  | none=>none
def xJ (q:Nat):Pr:=((dC (bQ q)).headD (0,0))
def uq (x:Nat × Nat):List Pr:=if x.1%4=3 then List.replicate (x.2/2) (0,(x.1:Int)) else List.replicate x.2 (xJ x.1)
def many (ps:List (Nat × Nat)):Nat:=ps.foldl (λm x=>if x.1%4=1 then m*(x.2+1) else m) 1
def kr (ps:List (Nat × Nat)):List (Nat × Nat):=ps.filter λx=>decide (x.1%4=3/\x.2%2=1)
def xf (n:Nat) (ps:List (Nat × Nat)):Bool:=(ps.all λx=>xP x.1 && decide (1<=x.2) && decide (x.2<=30)) && decide (ps.Pairwise λa b=>a.1<b.1) && decide (Num.aJ (dC ps)=(n:Int))
def xO (n:Nat) (ps:List (Nat × Nat)):Bool :=
 xf n ps && (if (kr ps).isEmpty then (match chain [(0,1)] (ps.flatMap uq) with | some l=>decide (l=dC (bQ n)) | none=>false) && decide ((bQ n).length=(many ps+1)/2) && decide ((bQ n).length<=400) && !(bQ n).isEmpty && ps.all (λx=>decide (x.1%4=3) || decide ((bQ x.1).length=1))
  else (bQ n).isEmpty)
def sT (n:Nat):Bool:=xO n (wA 200 n 2)
end Sq
namespace Num
theorem fy {p:Int} (hp:2<=p):∀{k l:Nat} {R T:Int},¬p∣R->¬p∣T->p^k*R=p^l*T->k=l/\R=T
 | 0,0,R,T,_,_,e=>by rw [Int.pow_zero,Int.one_mul,Int.one_mul] at e;exact⟨rfl,e⟩
 | 0,l+1,R,T,h,_,e=>by
  rw [Int.pow_zero,Int.one_mul,Int.pow_succ,Int.mul_comm (p^l),Int.mul_assoc] at e
  exact absurd ⟨_,e⟩ h
 | k+1,0,R,T,_,h,e=>by
  rw [Int.pow_zero,Int.one_mul,Int.pow_succ,Int.mul_comm (p^k),Int.mul_assoc] at e
  exact absurd ⟨_,e.symm⟩ h
 | k+1,l+1,R,T,h,h',e=>by
  rw [Int.pow_succ,Int.pow_succ,Int.mul_comm (p^k),Int.mul_comm (p^l),Int.mul_assoc,Int.mul_assoc] at e
  obtain⟨e1,e2⟩:=fy hp h h' (Int.eq_of_mul_eq_mul_left (by omega) e)
  exact⟨by rw [e1],e2⟩
theorem Part.tail {n:Int} {x:Int × Int} {r:List (Int × Int)} (h:Part n (x::r)):Part (aJ r) r:=⟨λp hp=>h.ok p (List.mem_cons_of_mem _ hp),(List.pairwise_cons.mp h.rise).2,rfl⟩
theorem Part.nd {n:Int} {x:Int × Int} {r:List (Int × Int)} (h:Part n (x::r)):¬x.1∣aJ r:=λz=>by
 obtain⟨y,hy,e⟩:=dP (h.ok x (List.mem_cons_self ..)).1 (λp hp=>(h.ok p (List.mem_cons_of_mem _ hp)).1) z
 have:=(List.pairwise_cons.mp h.rise).1 y hy
 omega
theorem Part.hd {n:Int} {x:Int × Int} {r:List (Int × Int)} (h:Part n (x::r)) {q:Int} (hq:Pm q) (hd:q∣n):x.1<=q:=by
 obtain⟨y,hy,e⟩:=dP hq (λp hp=>(h.ok p hp).1) (h.prod▸hd)
 rcases List.mem_cons.mp hy with rfl | hy
 ·omega
 ·have:=(List.pairwise_cons.mp h.rise).1 y hy
  omega
theorem Part.dv {n:Int} {ps:List (Int × Int)} (h:Part n ps) {x:Int × Int} (hx:x∈ps):x.1∣n:=h.prod▸dI hx (h.ok x hx).2.1
theorem Part.one:∀{ps qs:List (Int × Int)} {n:Int},Part n ps->Part n qs->ps=qs
 | [],[],_,_,_=>rfl
 | [],y::t,n,h,h'=>by
  exfalso
  have e:n=1:=h.prod.symm
  have:=(h'.ok y (List.mem_cons_self ..)).1.two
  have:=Int.le_of_dvd (by decide) (e▸h'.dv (List.mem_cons_self ..))
  omega
 | x::r,[],n,h,h'=>by
  exfalso
  have e:n=1:=h'.prod.symm
  have:=(h.ok x (List.mem_cons_self ..)).1.two
  have:=Int.le_of_dvd (by decide) (e▸h.dv (List.mem_cons_self ..))
  omega
 | (p,k)::r,(q,l)::t,n,h,h'=>by
  have hp:=h.ok _ (List.mem_cons_self ..)
  have hq:=h'.ok _ (List.mem_cons_self ..)
  have e1:p<=q:=h.hd hq.1 (h'.dv (List.mem_cons_self ..))
  have e2:q<=p:=h'.hd hp.1 (h.dv (List.mem_cons_self ..))
  obtain rfl:p=q:=by omega
  obtain⟨a,b⟩:=fy hp.1.two h.nd h'.nd (h.prod.trans h'.prod.symm)
  have:k=l:=by have:=hp.2.1;have:=hq.2.1;simp only at *;omega
  subst this
  rw [Part.one h.tail (b▸h'.tail)]
def vG:List (Int × Int)->Int
 | []=>1
 | x::r=>x.1^(x.2.toNat-1)*(x.1-1)*vG r
theorem gE:∀{ps:List (Int × Int)},(∀ p∈ps,Pm p.1)->0<aJ ps
 | [],_=>by decide
 | x::r,h=>Int.mul_pos (aI (by have:=(h x (List.mem_cons_self ..)).two;omega) _) (gE λp hp=>h p (List.mem_cons_of_mem _ hp))
theorem Part.pos {n:Int} {ps:List (Int × Int)} (h:Part n ps):0<n:=h.prod▸gE λp hp=>(h.ok p hp).1
structure Dv (A:Int) (F:List (List (Int × Int))):Prop where
 part:∀ s∈F,Part (aJ s) s
 nodup:(F.map aJ).Nodup
 mem:∀ d,d∈F.map aJ↔0<d/\d∣A
 sum:(F.map vG).sum=A
theorem Dv.start:Dv 1 [[]]:=⟨λs hs=>by rw [List.mem_singleton.mp hs];exact⟨λ_ z=>by simp at z,List.Pairwise.nil,rfl⟩,by simp,λd=>by
  show d∈[1]↔_
  rw [List.mem_singleton]
  exact⟨λe=>by rw [e];exact⟨by decide,Int.dvd_refl _⟩,fun⟨a,b⟩=>by have:=Int.le_of_dvd (by decide) b;omega⟩,rfl⟩
structure Ds (n:Int) (ds:List Int):Prop where
 rise:ds.Pairwise (·<·)
 mem:∀ d,d∈ds↔0<d/\d∣n
theorem nH {l:List Int} (h:l.Pairwise (·<=·)) (nd:l.Nodup):l.Pairwise (·<·) :=
 (h.and nd).imp fun⟨a,b⟩=>by omega
theorem nG:∀{l m:List Int},l.Pairwise (·<·)->m.Pairwise (·<·)->(∀ a,a∈l↔a∈m)->l=m
 | [],[],_,_,_=>rfl
 | [],y::m,_,_,h=>by have:=(h y).mpr (List.mem_cons_self ..);simp at this
 | x::l,[],_,_,h=>by have:=(h x).mp (List.mem_cons_self ..);simp at this
 | x::l,y::m,hl,hm,h=>by
  obtain⟨a,b⟩:=List.pairwise_cons.mp hl
  obtain⟨c,d⟩:=List.pairwise_cons.mp hm
  have e:x=y:=by
   rcases List.mem_cons.mp ((h x).mp (List.mem_cons_self ..)) with z | z
   ·exact z
   ·rcases List.mem_cons.mp ((h y).mpr (List.mem_cons_self ..)) with w | w
    ·exact w.symm
    ·have:=a y w;have:=c x z;omega
  subst e
  rw [nG b d λz=>?_]
  constructor
  ·intro hz
   rcases List.mem_cons.mp ((h z).mp (List.mem_cons_of_mem _ hz)) with w | w
   ·have:=a z hz;omega
   ·exact w
  ·intro hz
   rcases List.mem_cons.mp ((h z).mpr (List.mem_cons_of_mem _ hz)) with w | w
   ·have:=c z hz;omega
   ·exact w
theorem Ds.one {n:Int} {ds es:List Int} (h:Ds n ds) (h':Ds n es):ds=es:=nG h.rise h'.rise λa=>(h.mem a).trans (h'.mem a).symm
theorem Dv.ds {n:Int} {F:List (List (Int × Int))} {ds:List Int} (h:Dv n F) (p:ds.Perm (F.map aJ)) (s:ds.Pairwise (·<=·)):Ds n ds :=
 ⟨nH s (p.nodup_iff.mpr h.nodup),λd=>p.mem_iff.trans (h.mem d)⟩
theorem fg (p:Int->Bool):∀ l:List Int,l.length=(l.filter p).length+(l.filter (λd=>!p d)).length
 | []=>rfl
 | x::l=>by
  have:=fg p l
  cases e:p x<;>simp [List.filter_cons,e]<;>omega
theorem pH {n:Int} (hn:n<=10^9) {l:List Int} (nd:l.Nodup) (h:∀ d∈l,0<d/\d∣n) (n0:0<n):l.length<=63246:=by
 have lo:(l.filter (λd=>decide (d<31623))).length<=31623:=by
  have:=iA 31623 ((l.filter (λd=>decide (d<31623))).map Int.toNat) ?_ ?_
  ·simpa using this
  ·refine List.pairwise_map.mpr ((nd.filter _).imp_of_mem λ{a b} ha hb ne e=>ne ?_)
   have h1:=h a (List.mem_filter.mp ha).1
   have h2:=h b (List.mem_filter.mp hb).1
   omega
  ·intro x hx
   obtain⟨d,hd,rfl⟩:=List.mem_map.mp hx
   have:=(List.mem_filter.mp hd).2
   simp at this
   omega
 have hi:(l.filter (λd=>!decide (d<31623))).length<=31623:=by
  have:=iA 31623 ((l.filter (λd=>!decide (d<31623))).map λd=>(n/d).toNat) ?_ ?_
  ·simpa using this
  ·refine List.pairwise_map.mpr ((nd.filter _).imp_of_mem λ{a b} ha hb ne e=>ne ?_)
   have h1:=h a (List.mem_filter.mp ha).1
   have h2:=h b (List.mem_filter.mp hb).1
   obtain⟨c,hc⟩:=h1.2
   obtain⟨c',hc'⟩:=h2.2
   have e1:n/a=c:=by rw [hc];exact Int.mul_ediv_cancel_left _ (by omega)
   have e2:n/b=c':=by rw [hc'];exact Int.mul_ediv_cancel_left _ (by omega)
   rw [e1,e2] at e
   have c0:0<c:=by
    rcases (by omega:c<=0∨0<c) with z | z
    ·have:=Int.mul_nonpos_of_nonneg_of_nonpos (show 0<=a by omega) z
     omega
    ·exact z
   have c0':0<c':=by
    rcases (by omega:c'<=0∨0<c') with z | z
    ·have:=Int.mul_nonpos_of_nonneg_of_nonpos (show 0<=b by omega) z
     omega
    ·exact z
   obtain rfl:c=c':=by omega
   exact Int.eq_of_mul_eq_mul_right (by omega) (hc.symm.trans hc')
  ·intro x hx
   obtain⟨d,hd,rfl⟩:=List.mem_map.mp hx
   have h1:=(List.mem_filter.mp hd).2
   simp at h1
   have h2:n/d<=n/31623:=by
    refine Int.le_ediv_of_mul_le (by decide) ?_
    have:=Int.ediv_mul_le n (show d≠0 by omega)
    have:=Int.mul_le_mul_of_nonneg_left h1 (Int.ediv_nonneg (show 0<=n by omega) (show 0<=d by omega))
    omega
   have:n/31623<31623:=Int.ediv_lt_of_lt_mul (by decide) (by omega)
   omega
 have:=fg (λd:Int=>decide (d<31623)) l
 omega
def ins (x:Int × Int):List (Int × Int)->List (Int × Int)
 | []=>[x]
 | y::r=>if x.1<y.1 then x::y::r else y::ins x r
def bG (ds es:List Int):List Int:=ds.flatMap λd=>es.map (d*·)
end Num
namespace Sq
open PySem
theorem ud {p:Nat} (hp:p<20449) (h:xP p=true):Num.Pm (p:Int):=by
 obtain⟨h1,h2⟩:=Bool.and_eq_true_iff.mp h
 have h1:=of_decide_eq_true h1
 have small:∀ d:Nat,2<=d->d*d<=p->¬d∣p:=λd d2 dd hd=>by
  have d143:d<143:=by
   rcases (by omega:d<143∨143<=d) with z | z
   ·exact z
   ·have:=Nat.mul_le_mul z z
    omega
  have:=List.all_eq_true.mp h2 d (List.mem_range.mpr d143)
  rw [decide_eq_false (show ¬d<2 by omega),decide_eq_false (show ¬p<d*d by omega),Nat.mod_eq_zero_of_dvd hd] at this
  simp at this
 refine⟨by omega,λd d2 dp hd=>?_⟩
 obtain⟨d,rfl⟩:∃ k:Nat,d=k:=⟨d.toNat,by omega⟩
 have hd':d∣p:=Int.natCast_dvd_natCast.mp hd
 obtain⟨c,hc⟩:=hd'
 have c2:2<=c:=by
  rcases (by omega:c=0∨c=1∨2<=c) with z | z | z
  ·subst z;omega
  ·subst z;omega
  ·exact z
 rcases Nat.le_total d c with z | z
 ·exact small d (by omega) (by rw [hc];exact Nat.mul_le_mul_left d z) ⟨c,hc⟩
 ·exact small c c2 (by rw [hc];exact Nat.mul_le_mul_right c z) ⟨d,by rw [hc,Nat.mul_comm]⟩
theorem iw {p:Int}:∀{ps:List (Int × Int)} {x:Int × Int},(∀ y∈ps,1<=y.1)->x∈ps->1<=x.2->x.1<=Num.aJ ps
 | y::r,x,h,hx,h1=>by
  have y1:=h y (List.mem_cons_self ..)
  have pos:∀{l:List (Int × Int)},(∀ y∈l,1<=y.1)->1<=Num.aJ l:=λ{l}=>by
   induction l with
   | nil=>intro _;decide
   | cons z l ih =>
    intro h
    have a:=ih λu hu=>h u (List.mem_cons_of_mem _ hu)
    have b:=Num.aI (show 0<z.1 by have:=h z (List.mem_cons_self ..);omega) z.2.toNat
    show 1<=z.1^z.2.toNat*Num.aJ l
    have:=Int.mul_pos b (show 0<Num.aJ l by omega)
    omega
  have pr:=pos (l:=r) λu hu=>h u (List.mem_cons_of_mem _ hu)
  have pw:=Num.aI (show 0<y.1 by omega) y.2.toNat
  show x.1<=y.1^y.2.toNat*Num.aJ r
  rcases List.mem_cons.mp hx with z | z
  ·subst z
   obtain⟨k,hk⟩:∃ k,x.2.toNat=k+1:=⟨x.2.toNat-1,by omega⟩
   rw [hk,Int.pow_succ]
   have pk:=Num.aI (show 0<x.1 by omega) k
   have a:=Int.mul_le_mul_of_nonneg_right (show 1<=x.1^k by omega) (show 0<=x.1 by omega)
   have b:=Int.mul_le_mul_of_nonneg_left pr (show 0<=x.1^k*x.1 by omega)
   omega
  ·have a:=iw (p:=p) (λu hu=>h u (List.mem_cons_of_mem _ hu)) z h1
   have b:=Int.mul_le_mul_of_nonneg_right (show 1<=y.1^y.2.toNat by omega) (show 0<=Num.aJ r by omega)
   omega
theorem nR {n:Nat} (hn:n<20000) {ps:List (Nat × Nat)} (h:xf n ps=true):Num.Part n (dC ps):=by
 unfold xf at h
 simp only [Bool.and_eq_true,decide_eq_true_eq] at h
 obtain⟨⟨z1,z2⟩,z3⟩:=h
 have one:∀ y∈dC ps,1<=y.1/\1<=y.2:=λy hy=>by
  obtain⟨x,hx,rfl⟩:=List.mem_map.mp hy
  have:=List.all_eq_true.mp z1 x hx
  simp only [Bool.and_eq_true,decide_eq_true_eq] at this
  have p2:=of_decide_eq_true (Bool.and_eq_true_iff.mp this.1.1).1
  exact⟨by show (1:Int)<=(x.1:Int);omega,by show (1:Int)<=(x.2:Int);omega⟩
 refine⟨λx hx=>?_,?_,by rw [z3]⟩
 ·have le:=iw (p:=0) (λy hy=>(one y hy).1) hx (one x hx).2
  rw [z3] at le
  obtain⟨y,hy,rfl⟩:=List.mem_map.mp hx
  have:=List.all_eq_true.mp z1 y hy
  simp only [Bool.and_eq_true,decide_eq_true_eq] at this
  have le':(y.1:Int)<=n:=le
  exact⟨ud (by omega) this.1.1,by show (1:Int)<=(y.2:Int);omega,by show (y.2:Int)<=30;omega⟩
 ·unfold dC
  rw [List.pairwise_map]
  exact z2.imp λh=>by show ((_:Nat):Int)<((_:Nat):Int);omega
theorem iR {n:Nat}:∀(f x y a b:Nat),y+1-x<f->((a,b)∈tp f n x y↔x<=a/\b<=y/\a<=b/\a*a+b*b=n)
 | 0,x,y,a,b,h=>absurd h (by omega)
 | f+1,x,y,a,b,h=>by
  unfold tp
  by_cases c1:y<x
  ·rw [if_pos c1]
   simp only [List.not_mem_nil,false_iff]
   omega
  rw [if_neg c1]
  have mono:∀ u v:Nat,u<=v->u*u<=v*v:=λu v h=>Nat.mul_le_mul h h
  have lt:∀ u v:Nat,u<v->u*u<v*v:=λu v h=>Nat.mul_lt_mul_of_lt_of_le h (by omega) (by omega)
  by_cases c2:x*x+y*y<n
  ·rw [if_pos c2,iR f (x+1) y a b (by omega)]
   constructor
   ·rintro⟨h1,h2⟩;exact⟨by omega,h2⟩
   ·rintro⟨h1,h2,h3,h4⟩
    refine⟨?_,h2,h3,h4⟩
    rcases (by omega:x=a∨x+1<=a) with z | z
    ·subst z
     have:=mono b y h2
     omega
    ·exact z
  rw [if_neg c2]
  by_cases c3:n<x*x+y*y
  ·rw [if_pos c3]
   have y0:0<y:=by
    rcases Nat.eq_zero_or_pos y with z | z
    ·subst z
     have:x=0:=by omega
     subst this
     omega
    ·exact z
   rw [iR f x (y-1) a b (by omega)]
   constructor
   ·rintro⟨h1,h2,h3⟩;exact⟨h1,by omega,h3⟩
   ·rintro⟨h1,h2,h3,h4⟩
    refine⟨h1,?_,h3,h4⟩
    rcases (by omega:b=y∨b<=y-1) with z | z
    ·subst z
     have:=mono x a h1
     omega
    ·exact z
  rw [if_neg c3]
  have e:x*x+y*y=n:=by omega
  have rest:(a,b)∈tp f n (x+1) (y-1)↔x+1<=a/\b<=y-1/\a<=b/\a*a+b*b=n:=by
   by_cases f0:y-1+1-(x+1)<f
   ·exact iR f (x+1) (y-1) a b f0
   ·omega
  rw [List.mem_cons,rest,Prod.mk.injEq]
  constructor
  ·rintro (⟨rfl,rfl⟩|⟨h1,h2,h3⟩)
   ·exact⟨Nat.le_refl _,Nat.le_refl _,by omega,e⟩
   ·exact⟨by omega,by omega,h3⟩
  ·rintro⟨h1,h2,h3,h4⟩
   rcases (by omega:x=a∨x<a) with z | z
   ·subst z
    left
    refine⟨rfl,?_⟩
    rcases (by omega:b=y∨b<y) with w | w
    ·exact w
    ·have:=lt b y w
     omega
   ·right
    refine⟨z,?_,h3,h4⟩
    rcases (by omega:b=y∨b<y) with w | w
    ·subst w
     have:=lt x a z
     omega
    ·omega
theorem eV {n:Nat}:∀(f x y:Nat),(∀ z∈tp f n x y,x<=z.1)/\(tp f n x y).Pairwise λa b=>a.1<b.1
 | 0,x,y=>⟨λz h=>(List.not_mem_nil h).elim,.nil⟩
 | f+1,x,y=>by
  unfold tp
  split
  ·exact⟨λz h=>(List.not_mem_nil h).elim,.nil⟩
  split
  ·obtain⟨h1,h2⟩:=eV (n:=n) f (x+1) y
   exact⟨λz h=>by have:=h1 z h;omega,h2⟩
  split
  ·exact eV f x (y-1)
  ·obtain⟨h1,h2⟩:=eV (n:=n) f (x+1) (y-1)
   refine⟨λz h=>?_,List.pairwise_cons.mpr ⟨λz h=>by have:=h1 z h;show x<z.1;omega,h2⟩⟩
   rcases List.mem_cons.mp h with w | w
   ·rw [w];exact Nat.le_refl _
   ·have:=h1 z w;omega
theorem dS {n:Nat} (hn:n<20000) {a b:Nat}:(a,b)∈bQ n↔a<=b/\a*a+b*b=n:=by
 unfold bQ
 rw [iR 300 0 142 a b (by omega)]
 constructor
 ·rintro⟨_,_,h⟩;exact h
 ·rintro⟨h1,h2⟩
  refine⟨Nat.zero_le _,?_,h1,h2⟩
  rcases (by omega:b<=142∨143<=b) with z | z
  ·exact z
  ·have:=Nat.mul_le_mul z z
   omega
theorem jb (k:Pr):∀ l:List Pr,(ins k l).Perm (k::l)
 | []=>.refl _
 | x::r=>by
  unfold ins
  split
  ·exact .refl _
  ·exact ((jb k r).cons x).trans (.swap _ _ _)
theorem fK:∀ l:List Pr,(v3 l).Perm l
 | []=>.refl _
 | k::r=>(jb k _).trans ((fK r).cons k)
theorem nc:∀{l:List Pr},inc l=true->(l.map rk).Pairwise (·<·)
 | [],_=>.nil
 | [_],_=>List.pairwise_singleton _ _
 | k::x::r,h=>by
  unfold inc at h
  obtain⟨h1,h2⟩:=Bool.and_eq_true_iff.mp h
  have ih:=nc h2
  have h1:=of_decide_eq_true h1
  refine List.pairwise_cons.mpr ⟨λy hy=>?_,ih⟩
  rcases List.mem_cons.mp hy with z | z
  ·rw [z];exact h1
  ·have:=(List.pairwise_cons.mp ih).1 y z
   omega
theorem mV {t:SetTable} {b:Bool} {f:Nat->Int} {h:Int}:∀(n:Nat) (p:SetTable.Probe),SetTable.probe.go { t with led:=b } f h n p=SetTable.probe.go t f h n p
 | 0,_=>rfl
 | n+1,p=>by
  unfold SetTable.probe.go
  have e1:SetTable.slot { t with led:=b } p.j=SetTable.slot t p.j:=rfl
  have e2:∀ q,SetTable.advance { t with led:=b } q=SetTable.advance t q:=λ_=>rfl
  rw [e1]
  simp only [e2,mV n]
theorem jJ {t:SetTable} {b:Bool} {ks:List Pr} {k:Pr}:∀(n:Nat) (st:Option SetTable.Probe),Sp.iP { t with led:=b } ks k n st=Sp.iP t ks k n st
 | 0,_=>rfl
 | n+1,st=>by
  unfold Sp.iP
  have e0:∀ f h p,SetTable.probe { t with led:=b } f h p=SetTable.probe t f h p:=λf h p=>mV _ _
  have e1:SetTable.probeStart { t with led:=b } (Sp.hp k)=SetTable.probeStart t (Sp.hp k):=rfl
  have e2:∀ j,SetTable.slot { t with led:=b } j=SetTable.slot t j:=λ_=>rfl
  rw [e0,e1]
  simp only [e2,jJ n]
theorem dB {t:SetTable} {b:Bool} {hs:Array Int} {m:Nat}:SetTable.relaid { t with led:=b } hs m=(SetTable.relaid t hs m).map λx=>({ x.1 with led:=b },x.2):=by
 unfold SetTable.relaid SetTable.laid
 have e:SetTable.movedTo { t with led:=b } (SetTable.sizeAbove m-1)=SetTable.movedTo t (SetTable.sizeAbove m-1):=rfl
 rw [e]
 cases SetTable.layClean (SetTable.sizeAbove m-1) hs<;>rfl
def vp (b:Bool) (st:List Pr × SetTable):List Pr × SetTable:=(st.1,{ st.2 with led:=b })
theorem qa {b:Bool} {st:List Pr × SetTable} {k:Pr}:Sp.ins (vp b st) k=(Sp.ins st k).map (vp b):=by
 obtain⟨ks,t⟩:=st
 unfold Sp.ins vp
 dsimp only
 rw [jJ]
 cases Sp.iP t ks k 100 none with
 | none=>rfl
 | some r =>
  cases r with
  | none=>rfl
  | some j =>
   dsimp only
   have e1:(SetTable.put { t with led:=b } j)=({ (SetTable.put t j).1 with led:=b },(SetTable.put t j).2):=rfl
   rw [e1]
   dsimp only
   have e2:∀(t:SetTable) n,Sp.nS { t with led:=b } n=Sp.nS t n:=λ_ _=>rfl
   have e3:∀ t:SetTable,SetTable.tooFull { t with led:=b }=SetTable.tooFull t:=λ_=>rfl
   rw [e2,e3,dB]
   split
   ·split
    ·split
     ·cases SetTable.relaid (SetTable.put t j).1 _ _ with
      | none=>rfl
      | some x =>
       dsimp only [Option.map]
       rw [e2]
       split<;>rfl
     ·rfl
    ·rfl
   ·rfl
theorem k6 {b:Bool}:∀(l:List Pr) (st:List Pr × SetTable),Sp.run (vp b st) l=(Sp.run st l).map (vp b)
 | [],_=>rfl
 | k::l,st=>by
  unfold Sp.run
  rw [qa]
  cases Sp.ins st k with
  | none=>rfl
  | some st'=>exact k6 l st'
theorem qK {l:List Pr} {st:List Pr × SetTable} (h:Sp.run (Sp.new true) l=some st) (b:Bool):∃ st',Sp.run (Sp.new b) l=some st'/\st'.1=st.1:=by
 have:=k6 (b:=b) l (Sp.new true)
 rw [h] at this
 exact⟨_,this,rfl⟩
structure Step (ps:List Pr) (s:Pr) (ks:List Pr):Prop where
 pH:ks.length<64
 inc:(ks.map rk).Pairwise (·<·)
 run:∀ led,∃ st,Sp.run (Sp.new led) (bG ps s)=some st/\st.1.Perm ks
 bd:∀ k∈bG ps s,0<=k.2/\k.2<1048576
 ok:∀ k∈ks,(0<=k.1/\k.1<=10^9)/\(0<=k.2/\k.2<=10^9)
theorem nQ {ps ks:List Pr} {s:Pr} (h:wz ps s=some ks):Step ps s ks:=by
 unfold wz at h
 cases hr:Sp.run (Sp.new true) (bG ps s) with
 | none=>rw [hr] at h;cases h
 | some st =>
  rw [hr] at h
  dsimp only at h
  split at h
  ·rename_i c
   simp only [Bool.and_eq_true,decide_eq_true_eq] at c
   obtain⟨⟨⟨c1,c2⟩,c3⟩,c4⟩:=c
   cases h
   refine⟨by rw [(fK _).length_eq];exact c2,nc c1,λled=>?_,λk hk=>of_decide_eq_true (List.all_eq_true.mp c3 k hk),λk hk=>of_decide_eq_true (List.all_eq_true.mp c4 k hk)⟩
   obtain⟨st',h1,h2⟩:=qK hr led
   exact⟨st',h1,by rw [h2];exact (fK _).symm⟩
  ·cases h
structure Known (n:Nat) (ps:List (Int × Int)):Prop where
 lt:n<20000
 part:Num.Part n ps
 none:(∃ x∈ps,x.1%4=3/\x.2%2=1)->bQ n=[]
 all:(∀ x∈ps,¬(x.1%4=3/\x.2%2=1))->∃ qs:List (Nat × Nat),ps=dC qs/\chain [(0,1)] (qs.flatMap uq)=some (dC (bQ n))/\(bQ n).length=(many qs+1)/2/\(bQ n).length<=400/\bQ n≠[]/\∀ x∈qs,x.1%4≠3->(bQ x.1).length=1
theorem known {n:Nat} (hn:n<20000) (h:sT n=true) {ps:List (Int × Int)} (hP:Num.Part n ps):Known n ps:=by
 unfold sT xO at h
 generalize wA 200 n 2=qs at h
 obtain⟨h1,h2⟩:=Bool.and_eq_true_iff.mp h
 have e:ps=dC qs:=hP.one (nR hn h1)
 have th:(kr qs).isEmpty=true↔∀ x∈ps,¬(x.1%4=3/\x.2%2=1):=by
  rw [List.isEmpty_iff]
  unfold kr
  rw [List.filter_eq_nil_iff,e]
  constructor
  ·intro z x hx
   obtain⟨y,hy,rfl⟩:=List.mem_map.mp hx
   have:=z y hy
   rw [decide_eq_true_eq] at this
   intro w
   exact this ⟨by have:((y.1:Nat):Int)%4=3:=w.1;omega,by have:((y.2:Nat):Int)%2=1:=w.2;omega⟩
  ·intro z y hy
   rw [decide_eq_true_eq]
   intro w
   exact z _ (List.mem_map.mpr ⟨y,hy,rfl⟩) ⟨by show ((y.1:Nat):Int)%4=3;omega,by show ((y.2:Nat):Int)%2=1;omega⟩
 refine⟨hn,hP,fun⟨x,hx,hx2⟩=>?_,λhno=>?_⟩
 ·rw [if_neg (λz=>th.mp z x hx hx2)] at h2
  exact List.isEmpty_iff.mp h2
 ·rw [if_pos (th.mpr hno)] at h2
  simp only [Bool.and_eq_true,decide_eq_true_eq,Bool.not_eq_true'] at h2
  obtain⟨⟨⟨⟨c1,c2⟩,c3⟩,c4⟩,c5⟩:=h2
  refine⟨qs,e,?_,c2,c3,(λz=>by rw [z] at c4;cases c4),λx hx hx3=>?_⟩
  ·cases hc:chain [(0,1)] (qs.flatMap uq) with
   | none=>rw [hc] at c1;cases c1
   | some l=>rw [hc] at c1;rw [of_decide_eq_true c1]
  ·have:=List.all_eq_true.mp c5 x hx
   rw [decide_eq_false hx3,Bool.false_or] at this
   exact of_decide_eq_true this
theorem uB {q:Nat} (hq:q<20000) (h1:(bQ q).length=1) {x y:Int} (x1:1<=x) (xy:x<=y) (e:x*x+y*y=q):xJ q=(x,y):=by
 obtain⟨a,rfl⟩:∃ a:Nat,x=a:=⟨x.toNat,by omega⟩
 obtain⟨b,rfl⟩:∃ b:Nat,y=b:=⟨y.toNat,by omega⟩
 have e2:((a*a+b*b:Nat):Int)=((q:Nat):Int):=by rw [Int.natCast_add,Int.natCast_mul,Int.natCast_mul];exact e
 have m:(a,b)∈bQ q:=(dS hq).mpr ⟨by omega,by omega⟩
 obtain⟨z,hz⟩:∃ z,bQ q=[z]:=by
  match bQ q,h1 with
  | [z],_=>exact⟨z,rfl⟩
 unfold xJ
 rw [hz] at m ⊢
 rw [<- List.mem_singleton.mp m]
 rfl
end Sq
namespace Sst
open PySem
def nV:Value->Int
 | .int n _=>n
 | _=>0
def dW (w:World):Bool:=w.params.followText "set-order"
def mE (prog:Program) (w:World) (h:Heap) (a:Addr) (ks:List Int):Prop :=
 ∃ o es ep t,h.get? a=some o/\o.ExactSet/\o.data=.set es ep t/\ElemsOf (intKind prog w) es.toList/\(es.toList.map λe=>nV e.2).Perm ks/\es.size<scanBound/\t.fits es.size=true/\(dW w=false->Led t)
section
variable {prog:Program} {w:World} {A:Around} {E:Value->Shared->Prop} {s:Shared}
theorem kK {es:List (Int × Value)} (h:ElemsOf (intKind prog w) es) {e:Int × Value} (he:e∈es):∃ t,e.2=.int (nV e.2) t:=by
 obtain⟨⟨k,hk,_⟩,_⟩:=h e he
 obtain⟨t,ht⟩:=Value.isInt_shape hk
 exact⟨t,by rw [ht];rfl⟩
theorem nj {k:Int} {v:Value} {t:Tok} (hv:v=.int (nV v) t):(intKind prog w).is k v=true↔nV v=k:=by
 rw [hv]
 show Value.isInt k (.int (nV v) t)=true↔nV v=k
 simp [Value.isInt,nV]
theorem mE.perm {h:Heap} {a:Addr} {ks ks':List Int} (hS:mE prog w h a ks) (p:ks.Perm ks'):mE prog w h a ks':=by
 obtain⟨o,es,ep,t,h1,h2,h3,h4,h5,h6⟩:=hS
 exact⟨o,es,ep,t,h1,h2,h3,h4,h5.trans p,h6⟩
theorem stored {h:Heap} {a:Addr} {o:Obj} {es:Array (Int × Value)} {ep:Nat} {t:SetTable} (ho:h.get? a=some o) (hd:o.data=.set es ep t) (es':Array (Int × Value)) (t':SetTable) :
  (h.update a (Obj.putSet es' t')).get? a=some { o with data:=.set es' (ep+1) t' }:=by
 rw [<- putSet_of es' t' hd]
 exact Heap.get?_update_self (Obj.putSet es' t') ho (by rw [putSet_of es' t' hd];rfl)
theorem uV {a:Addr} {ks:List Int} {k:Int} {tk:Tok} {Q:Bool->Shared->Prop} (hS:mE prog w s.heap a ks) (room:ks.length+1<scanBound)
  (q:∀(b:Bool) h',Heap.SameBut a s.heap h'->mE prog w h' a (if k∈ks then ks else ks++[k])->Q b { s with heap:=h' }) :
  wpAny (model prog w) A (setAddHashed a (.int k tk) (hashInt k)) Q E s:=by
 obtain⟨o,es,ep,t,ho,hex,hd,hel,hks,hb,hf,hl⟩:=hS
 have hkey:(intKind prog w).is k (.int k tk)=true:=by show Value.isInt k (.int k tk)=true;simp [Value.isInt]
 have hsc:(Value.int k tk).scannable=true:=rfl
 have sz:es.size=ks.length:=by rw [<- hks.length_eq,List.length_map,Array.length_toList]
 unfold setAddHashed setAddHashedIn
 refine wpAny_holding (wpAny_bind (wpAny_setState_of ho hd hf ?_))
 dsimp only
 rw [byScan_of hsc hb hel,if_pos rfl]
 unfold setAddByScan
 refine wpAny_bind (wpAny_bind (wpAny_rule (wpAny_bind (wpAny_setScan_of (knd:=intKind prog w) hkey ho hd hf hel ?_))))
 cases hr:es.toList.findIdx? (λe=>(intKind prog w).is k e.2) with
 | some j =>
  obtain⟨hj,hpj,_⟩:=List.findIdx?_eq_some_iff_getElem.mp hr
  have hin:k∈ks:=by
   refine hks.mem_iff.mp (List.mem_map.mpr ⟨_,List.getElem_mem hj,?_⟩)
   obtain⟨u,hu⟩:=kK hel (List.getElem_mem hj)
   exact (nj hu).mp hpj
  refine wpAny_pure (wpAny_pure ?_)
  have:=q false s.heap (Heap.SameBut.refl a s.heap) (by rw [if_pos hin];exact⟨o,es,ep,t,ho,hex,hd,hel,hks,hb,hf,hl⟩)
  exact this
 | none =>
  have hout:k∉ks:=λhk=>by
   obtain⟨e,he,ek⟩:=List.mem_map.mp (hks.mem_iff.mpr hk)
   have h1:=List.findIdx?_eq_none_iff.mp hr e he
   obtain⟨u,hu⟩:=kK hel he
   rw [(nj hu).mpr ek] at h1
   cases h1
  rw [if_neg hout] at q
  have hp:=layNew_perm t es (hashInt k) (.int k tk)
  have hf1:=layNew_fits t es (hashInt k) (.int k tk)
  have hl1:dW w=false->Led (layNew t es (hashInt k) (.int k tk)).2.1:=λz=>(hl z).layNew _ _ _
  generalize layNew t es (hashInt k) (.int k tk)=R at hp hf1 hl1 ⊢
  obtain⟨es1,t1,wd,gave⟩:=R
  dsimp only at hp hf1 hl1 ⊢
  have gw:∀(b:Bool) {s':Shared} {P:Unit->Shared->Prop},P () s'->wpAny (model prog w) A (match b with | true=>rule "set.scan.the-table-gave-way" | false=>pure ()) P E s':=by
   intro b s' P z
   cases b
   ·exact wpAny_pure z
   ·exact wpAny_rule z
  rw [Array.toList_push] at hp
  have hel1:ElemsOf (intKind prog w) es1.toList:=(hel.push hkey hsc).perm hp
  have hks1:(es1.toList.map λe=>nV e.2).Perm (ks++[k]):=by
   refine (hp.map _).trans ?_
   rw [List.map_append]
   exact hks.append (List.Perm.refl _)
  have sz1:es1.size=ks.length+1:=by
   have:=hks1.length_eq
   rw [List.length_map,Array.length_toList,List.length_append] at this
   exact this
  have hb1:es1.size<scanBound:=by omega
  -- the last rows,with any table
  have fin:∀{t2:SetTable},t2.fits es1.size=true->(dW w=false->Led t2)->wpAny (model prog w) A (do
    storeSet a es1 t2
    if (!wd && t2.tooFull)=true then do
     (match (relayAll t2 es1 (SetTable.grown es1.size)).2.2 with | true=>rule "set.scan.the-table-gave-way" | false=>pure ())
     storeSet a (relayAll t2 es1 (SetTable.grown es1.size)).1 (relayAll t2 es1 (SetTable.grown es1.size)).2.1
     pure (some true)
    else pure (some true)) (λr s'=>wpAny (model prog w) A (match r with | some added=>pure added | none=>setAddHashedIn a (.int k tk) (hashInt k) 99999) Q E s') E s:=by
   intro t2 hf2 hl2
   refine wpAny_bind (wpAny_storeSet_of ho hd ?_ (fits_of_scanBound hb1))
   have g1:=stored ho hd es1 t2
   have sb1:=Heap.SameBut.update s.heap a (Obj.putSet es1 t2)
   split
   ·have rp:=relayAll_perm t2 es1 (SetTable.grown es1.size)
    have rf:=relayAll_fits t2 es1 (SetTable.grown es1.size)
    have rl:dW w=false->Led (relayAll t2 es1 (SetTable.grown es1.size)).2.1:=λz=>(hl2 z).relayAll _ _
    generalize relayAll t2 es1 (SetTable.grown es1.size)=R2 at rp rf rl ⊢
    obtain⟨es2,t3,gave2⟩:=R2
    dsimp only at rp rf rl ⊢
    have sz2:es2.size=es1.size:=by rw [<- Array.length_toList,rp.length_eq,Array.length_toList]
    have hb2:es2.size<scanBound:=by omega
    refine wpAny_bind (gw _ (wpAny_bind (wpAny_storeSet_of g1 rfl (wpAny_pure (wpAny_pure (q true _ (sb1.trans (Heap.SameBut.update _ a _)) ?_))) (fits_of_scanBound hb2))))
    exact⟨_,es2,_,t3,stored g1 rfl es2 t3,hex,rfl,hel1.perm rp,(rp.map _).trans hks1,hb2,rf,rl⟩
   ·exact wpAny_pure (wpAny_pure (q true _ sb1 ⟨_,es1,_,t2,g1,hex,rfl,hel1,hks1,hb1,hf2,hl2⟩))
  refine wpAny_bind (gw _ ?_)
  split
  ·refine wpAny_bind ?_
   rw [hashByValue_scannable 8 hsc]
   refine wpAny_pure ?_
   exact fin hf1 hl1
  ·refine wpAny_bind (wpAny_pure ?_)
   exact fin hf1 hl1
end
end Sst
namespace Sst
open PySem PyProof.Rows
theorem slot_next:Slot "set_iterator" "__next__" "set_iterator.__next__" :=
 .of (owner := "set_iterator") (n := "__next__") (by rw [typeLookup_type,builtinLookup_eq_fast];kernel_rfl) (by decide +kernel) (by decide +kernel) (by decide +kernel)
  (by first | exact .inl (by decide +kernel) | exact .inr (by decide +kernel)) (by rw [isSubtype_type];kernel_rfl)
theorem entry_next:entryFor table "set_iterator.__next__"=some Builtin.«set_iterator.__next__»:=entryFor_of_fast (by kernel_rfl)
theorem args_next (a:Value):argsOk "set_iterator.__next__" ⟨[a],[]⟩:=by unfold argsOk;kernel_rfl
theorem gG:Slot "set" "__iter__" "set.__iter__" :=
 .of (owner := "set") (n := "__iter__") (by rw [typeLookup_type,builtinLookup_eq_fast];kernel_rfl) (by decide +kernel) (by decide +kernel) (by decide +kernel)
  (by first | exact .inl (by decide +kernel) | exact .inr (by decide +kernel)) (by rw [isSubtype_type];kernel_rfl)
theorem jX:entryFor table "set.__iter__"=some Builtin.«frozenset.__iter__» :=
 entryFor_alias (id' := "frozenset.__iter__") (by kernel_rfl) rfl (by decide +kernel) (by kernel_rfl)
theorem lB (a:Value):argsOk "set.__iter__" ⟨[a],[]⟩:=by unfold argsOk;kernel_rfl
def bK (h:Heap) (it:Addr) (first:Value) (i:Nat) (a:Addr) (n ep:Nat):Prop:=∃ o,h.get? it=some o/\o.cls=.type "set_iterator"/\o.data=.fields #[first,.int i 0,.ref a,.int n 0,.int ep 0]
theorem bK.typeIs {s:Shared} {it a:Addr} {first:Value} {i n ep:Nat} (h:bK s.heap it first i a n ep):s.TypeIs (.ref it) "set_iterator":=by
 obtain⟨o,ho,hc,_⟩:=h
 exact⟨o,ho,hc⟩
section
variable {prog:Program} {w:World} {A:Around} {E:Value->Shared->Prop} {s:Shared}
theorem bK.vY {h:Heap} {it a:Addr} {first:Value} {i n ep:Nat} {o:Obj} (ho:h.get? it=some o) (hc:o.cls=.type "set_iterator") (hd:o.data=.fields #[first,.int i 0,.ref a,.int n 0,.int ep 0]) :
  bK (h.update it (Obj.mapFields (·.setIfInBounds 1 (rawInt ((i:Int)+1))))) it first (i+1) a n ep :=
 ⟨_,Heap.get?_update_self _ ho (Obj.isFreed_of_fields (Obj.data_mapFields hd _)),(Obj.cls_mapFields ..).trans hc,by rw [Obj.data_mapFields hd];simp [rawInt]⟩
theorem bK.vX {h:Heap} {it a:Addr} {first:Value} {i n ep k:Nat} {o:Obj} (ho:h.get? it=some o) (hc:o.cls=.type "set_iterator") (hd:o.data=.fields #[first,.int i 0,.ref a,.int n 0,.int ep 0]) :
  bK (h.update it (Obj.mapFields (·.setIfInBounds 0 (rawInt (k:Int))))) it (.int k 0) i a n ep :=
 ⟨_,Heap.get?_update_self _ ho (Obj.isFreed_of_fields (Obj.data_mapFields hd _)),(Obj.cls_mapFields ..).trans hc,by rw [Obj.data_mapFields hd];simp [rawInt]⟩
theorem oO {b:Addr} {o:Obj} {xs:Array Value} {n:Nat} {Q:Option (Array Value)->Shared->Prop} (ho:s.heap.get? b=some o) (hd:o.data=.seq xs n) (h:Q (some xs) s):wpAny (model prog w) A (seqItems? (.ref b)) Q E s:=by
 unfold seqItems?
 refine wpAny_bind (wpAny_load ho ?_)
 rw [hd]
 exact wpAny_pure h
theorem nM {it a:Addr} {slot nx i ep:Nat} {o:Obj} {es:Array (Int × Value)} {t:SetTable} {x:Value} {Q:Option Value->Shared->Prop}
  (hit:bK s.heap it (.int slot 0) i a es.size ep) (ho:s.heap.get? a=some o) (hd:o.data=.set es ep t) (hf:t.fits es.size=true)
  (hn:∀{P:Option (Value × Nat)->Shared->Prop} {E:Value->Shared->Prop},P (some (x,nx)) s->wpAny (model prog w) A.in1 (setNext a slot i ep) P E s)
  (q:∀ h',bK h' it (.int nx 0) (i+1) a es.size ep->Heap.SameBut it s.heap h'->Q (some x) { s with heap:=h' }):wpAny (model prog w) A (pyNext (.ref it)) Q E s:=by
 obtain⟨oi,hoi,hci,hdi⟩:=id hit
 unfold pyNext
 refine wpAny_bind (wpAny_attempt (wpAny_callSpecial?_slot (name:=Str.ofString "__next__") hit.typeIs slot_next (wpAny_call_entry slot_next hit.typeIs entry_next ?_ (args_next _))))
 refine wpAny_bind (m:=slotArgs "__next__" 0 _) (wpAny_pure ?_)
 refine wpAny_bind (wpAny_fieldsOf hoi hdi ?_)
 dsimp only
 refine wpAny_bind (wpAny_setEntries_of ho hd hf ?_)
 rw [if_neg (by simp)]
 show wpAny _ _ (setNext a ((slot:Int).toNat) ((i:Int).toNat) ((ep:Int).toNat) >>= _) _ _ _
 rw [Int.toNat_natCast,Int.toNat_natCast,Int.toNat_natCast]
 refine wpAny_bind (hn ?_)
 dsimp only
 refine wpAny_bind (wpAny_setField hoi hdi (by simp) ?_)
 obtain⟨o2,ho2,hc2,hd2⟩:=bK.vX (k:=nx) hoi hci hdi
 refine wpAny_bind (wpAny_setField ho2 hd2 (by simp) ?_)
 have h3:=bK.vY ho2 hc2 hd2
 exact wpAny_pure ⟨_,rfl,wpAny_pure (q _ h3 ((Heap.SameBut.update s.heap it _).trans (Heap.SameBut.update _ it _)))⟩
theorem pS {it a:Addr} {slot i ep:Nat} {o:Obj} {es:Array (Int × Value)} {t:SetTable} {Q:Option Value->Shared->Prop} (hh:A.handled=none)
  (hit:bK s.heap it (.int slot 0) i a es.size ep) (ho:s.heap.get? a=some o) (hd:o.data=.set es ep t) (hf:t.fits es.size=true)
  (hn:∀{P:Option (Value × Nat)->Shared->Prop} {E:Value->Shared->Prop},P none s->wpAny (model prog w) A.in1 (setNext a slot i ep) P E s)
  (q:∀ h',Heap.ExtBut it s.heap h'->Q none { s with heap:=h' }):wpAny (model prog w) A (pyNext (.ref it)) Q E s:=by
 obtain⟨oi,hoi,hci,hdi⟩:=id hit
 unfold pyNext
 refine wpAny_bind (wpAny_attempt (wpAny_callSpecial?_slot (name:=Str.ofString "__next__") hit.typeIs slot_next (wpAny_call_entry slot_next hit.typeIs entry_next ?_ (args_next _))))
 refine wpAny_bind (m:=slotArgs "__next__" 0 _) (wpAny_pure ?_)
 refine wpAny_bind (wpAny_fieldsOf hoi hdi ?_)
 dsimp only
 refine wpAny_bind (wpAny_setEntries_of ho hd hf ?_)
 rw [if_neg (by simp)]
 show wpAny _ _ (setNext a ((slot:Int).toNat) ((i:Int).toNat) ((ep:Int).toNat) >>= _) _ _ _
 rw [Int.toNat_natCast,Int.toNat_natCast,Int.toNat_natCast]
 refine wpAny_bind (hn ?_)
 dsimp only
 refine wpAny_bind (wpAny_setField hoi hdi (by simp) ?_)
 refine wpAny_bind ?_
 simp only [newExc,newTuple]
 refine wpAny_bind (wpAny_newObj_type ?_ (by size_fits))
 refine wpAny_bind (m:=firstArgMember _ _) (wpAny_of_eq (a:=Value.none) (by first | rfl | (simp only [firstArgMember];rfl)) ?_)
 refine wpAny_newObj_type ?_ (by size_fits)
 simp only [raiseNew]
 refine wpAny_bind (wpAny_handled ?_)
 rw [show A.in1.handled=none from hh]
 refine wpAny_bind (wpAny_pure (wpAny_throw ?_))
 refine wpAny_bind (wpAny_isInstance (T := "StopIteration") (b:=true) ⟨_,Heap.get?_push_size _ rfl,rfl⟩ isSubtype_stop ?_)
 exact wpAny_pure (q _ (((Heap.SameBut.update ..).extBut.push _).push _))
theorem qj {it a tp:Addr} {i ep j:Nat} {o:Obj} {es:Array (Int × Value)} {t:SetTable} {ps:Array Value} {x:Int × Value} {Q:Option Value->Shared->Prop}
  (hit:bK s.heap it (.ref tp) i a es.size ep) (htp:IsTup s.heap tp ps) (hj:ps[i]?=some (.int j 0)) (hx:es[j]?=some x) (ho:s.heap.get? a=some o) (hd:o.data=.set es ep t) (hf:t.fits es.size=true)
  (q:∀ h',bK h' it (.ref tp) (i+1) a es.size ep->Heap.SameBut it s.heap h'->Q (some x.2) { s with heap:=h' }):wpAny (model prog w) A (pyNext (.ref it)) Q E s:=by
 obtain⟨oi,hoi,hci,hdi⟩:=id hit
 obtain⟨ot,hot,hct,nt,hdt⟩:=htp
 unfold pyNext
 refine wpAny_bind (wpAny_attempt (wpAny_callSpecial?_slot (name:=Str.ofString "__next__") hit.typeIs slot_next (wpAny_call_entry slot_next hit.typeIs entry_next ?_ (args_next _))))
 refine wpAny_bind (m:=slotArgs "__next__" 0 _) (wpAny_pure ?_)
 refine wpAny_bind (wpAny_fieldsOf hoi hdi ?_)
 dsimp only
 refine wpAny_bind (wpAny_setEntries_of ho hd hf ?_)
 rw [if_neg (by simp)]
 show wpAny _ _ (seqItems? (.ref tp) >>= _) _ _ _
 refine wpAny_bind (oO hot hdt ?_)
 dsimp only
 rw [Int.toNat_natCast,hj]
 dsimp only
 rw [Int.toNat_natCast,Int.toNat_natCast]
 unfold setNextDrawn
 refine wpAny_bind (wpAny_bind (wpAny_setState_of ho hd hf ?_))
 dsimp only
 rw [if_neg (by simp),hx]
 refine wpAny_pure (wpAny_bind (wpAny_setField hoi hdi (by simp) ?_))
 exact wpAny_pure ⟨_,rfl,wpAny_pure (q _ (bK.vY hoi hci hdi) (Heap.SameBut.update s.heap it _))⟩
theorem tj {it a tp:Addr} {i ep:Nat} {o:Obj} {es:Array (Int × Value)} {t:SetTable} {ps:Array Value} {Q:Option Value->Shared->Prop} (hh:A.handled=none)
  (hit:bK s.heap it (.ref tp) i a es.size ep) (htp:IsTup s.heap tp ps) (hj:ps[i]?=none) (ho:s.heap.get? a=some o) (hd:o.data=.set es ep t) (hf:t.fits es.size=true)
  (q:∀ h',Heap.ExtBut it s.heap h'->Q none { s with heap:=h' }):wpAny (model prog w) A (pyNext (.ref it)) Q E s:=by
 obtain⟨oi,hoi,hci,hdi⟩:=id hit
 obtain⟨ot,hot,hct,nt,hdt⟩:=htp
 unfold pyNext
 refine wpAny_bind (wpAny_attempt (wpAny_callSpecial?_slot (name:=Str.ofString "__next__") hit.typeIs slot_next (wpAny_call_entry slot_next hit.typeIs entry_next ?_ (args_next _))))
 refine wpAny_bind (m:=slotArgs "__next__" 0 _) (wpAny_pure ?_)
 refine wpAny_bind (wpAny_fieldsOf hoi hdi ?_)
 dsimp only
 refine wpAny_bind (wpAny_setEntries_of ho hd hf ?_)
 rw [if_neg (by simp)]
 show wpAny _ _ (seqItems? (.ref tp) >>= _) _ _ _
 refine wpAny_bind (oO hot hdt ?_)
 dsimp only
 rw [Int.toNat_natCast,hj]
 dsimp only
 refine wpAny_bind (wpAny_setField hoi hdi (by simp) ?_)
 obtain⟨o2,ho2,hc2,hd2⟩:=bK.vX (k:=0) hoi hci hdi
 refine wpAny_bind (wpAny_setField ho2 hd2 (by simp) ?_)
 refine wpAny_bind ?_
 simp only [newExc,newTuple]
 refine wpAny_bind (wpAny_newObj_type ?_ (by size_fits))
 refine wpAny_bind (m:=firstArgMember _ _) (wpAny_of_eq (a:=Value.none) (by first | rfl | (simp only [firstArgMember];rfl)) ?_)
 refine wpAny_newObj_type ?_ (by size_fits)
 simp only [raiseNew]
 refine wpAny_bind (wpAny_handled ?_)
 rw [show A.in1.handled=none from hh]
 refine wpAny_bind (wpAny_pure (wpAny_throw ?_))
 refine wpAny_bind (wpAny_isInstance (T := "StopIteration") (b:=true) ⟨_,Heap.get?_push_size _ rfl,rfl⟩ isSubtype_stop ?_)
 exact wpAny_pure (q _ (((((Heap.SameBut.update s.heap it _).trans (Heap.SameBut.update _ it _)).extBut).push _).push _))
end
end Sst
namespace Sst
open PySem PyProof.Rows
theorem gD {α:Type} (f:Nat->Nat):∀(fuel k:Nat) (left:List α) (out:Array α),left.length=fuel->(pickOrder.go f fuel k left out).toList.Perm (out.toList++left)
 | 0,k,left,out,h=>by
  have:left=[]:=List.length_eq_zero_iff.mp h
  subst this
  unfold pickOrder.go
  simp
 | fuel+1,k,left,out,h=>by
  unfold pickOrder.go
  have hl:f k%left.length<left.length:=Nat.mod_lt _ (by omega)
  rw [List.getElem?_eq_getElem hl]
  dsimp only
  refine (gD f fuel (k+1) _ _ (by rw [List.length_eraseIdx_of_lt hl];omega)).trans ?_
  rw [Array.toList_push,List.append_assoc]
  refine List.Perm.append_left _ ?_
  generalize f k%left.length=j at *
  have e:left=left.take j++left[j]::left.drop (j+1):=by rw [List.getElem_cons_drop,List.take_append_drop]
  rw [List.eraseIdx_eq_take_drop_succ]
  refine List.Perm.trans ?_ (List.Perm.of_eq e.symm)
  show (left[j]::(left.take j++left.drop (j+1))).Perm _
  exact List.perm_middle.symm
theorem oA {α:Type} (f:Nat->Nat) (xs:Array α):(pickOrder f xs).toList.Perm xs.toList:=by
 unfold pickOrder
 have:=gD f xs.size 0 xs.toList #[] (by simp)
 simpa using this
section
variable {prog:Program} {w:World} {A:Around} {E:Value->Shared->Prop} {s:Shared}
theorem jL {Q:Bool->Shared->Prop} (h:Q (dW w) s):wpAny (model prog w) A setsByText Q E s:=by
 unfold setsByText
 exact wpAny_bind (wpAny_askSetting (wpAny_pure h))
theorem pR {src:Source} {n:Nat} {Q:Nat->Shared->Prop} (hn:n≠0) (h:∀ i,i<n->Q i { s with drawn:=s.drawn.bump src }):wpAny (model prog w) A (choose src n) Q E s :=
 λΓ p hΓ=>⟨hn,h _ (Nat.mod_lt _ (by omega))⟩
theorem ro {α:Type}:∀{n:Nat} {xs:List α} {s:Shared} {Q:List α->Shared->Prop},xs.length=n->(∀ ys d,ys.Perm xs->Q ys { s with drawn:=d })->wpAny (model prog w) A (drawOrder n xs) Q E s
 | 0,xs,s,Q,hl,h=>by
  have:xs=[]:=List.length_eq_zero_iff.mp hl
  subst this
  unfold drawOrder
  exact wpAny_pure (h [] s.drawn (.refl _))
 | n+1,[],s,Q,hl,h=>by simp at hl
 | n+1,x::xs,s,Q,hl,h=>by
  unfold drawOrder
  refine wpAny_bind (pR (by simp) λi hi=>?_)
  rw [List.getElem?_eq_getElem hi]
  dsimp only
  refine wpAny_bind (ro (by rw [List.length_eraseIdx_of_lt hi];omega) λys d p=>wpAny_pure (h _ d ?_))
  generalize x::xs=l at *
  have e:l=l.take i++l[i]::l.drop (i+1):=by rw [List.getElem_cons_drop,List.take_append_drop]
  refine List.Perm.trans (p.cons _) ?_
  rw [List.eraseIdx_eq_take_drop_succ]
  exact List.Perm.trans List.perm_middle.symm (List.Perm.of_eq e.symm)
theorem hW {es:Array (Int × Value)}:∀{js:List Nat},(∀ j∈js,j<es.size)->(js.filterMap λj=>es[j]?.map (·.2))=js.map λj=>((es[j]?.map (·.2)).getD .none)
 | [],_=>rfl
 | j::js,h=>by
  have hj:=h j (List.mem_cons_self ..)
  rw [List.filterMap_cons,List.map_cons,hW λk hk=>h k (List.mem_cons_of_mem _ hk),Array.getElem?_eq_getElem hj]
  rfl
theorem kP {a:Addr} {slot i ep:Nat} {o:Obj} {es:Array (Int × Value)} {t:SetTable} {P:Option (Value × Nat)->Shared->Prop} (hT:dW w=true) (ho:s.heap.get? a=some o) (hd:o.data=.set es ep t) (hf:t.fits es.size=true)
  (h:P ((pickOrder (w.params.setOrder a ep) es)[i]?.map λe=>(e.2,slot)) s):wpAny (model prog w) A (setNext a slot i ep) P E s:=by
 unfold setNext
 refine wpAny_bind (wpAny_setState_of ho hd hf ?_)
 dsimp only
 refine wpAny_bind (jL ?_)
 rw [hT,if_pos rfl,if_neg (by simp)]
 refine wpAny_bind ?_
 unfold setWalk
 refine wpAny_bind (wpAny_setState_of ho hd hf ?_)
 dsimp only
 refine wpAny_bind (jL ?_)
 rw [hT,if_pos rfl]
 refine wpAny_bind (wpAny_askSetting ?_)
 exact wpAny_pure (wpAny_pure h)
theorem jo {a:Addr} {slot i ep:Nat} {o:Obj} {es:Array (Int × Value)} {t:SetTable} {P:Option (Value × Nat)->Shared->Prop} (hT:dW w=false) (hp:t.plain=true∨es.size<=1) (hl:t.led=true) (ho:s.heap.get? a=some o) (hd:o.data=.set es ep t) (hf:t.fits es.size=true)
  (h:P (match es[SetTable.below t.place slot]?,t.place[SetTable.below t.place slot]? with | some (_,x),some j=>some (x,j+1) | _,_=>none) s):wpAny (model prog w) A (setNext a slot i ep) P E s:=by
 unfold setNext
 refine wpAny_bind (wpAny_setState_of ho hd hf ?_)
 dsimp only
 refine wpAny_bind (jL ?_)
 rw [hT,if_neg (by simp),if_neg]
 ·refine wpAny_bind ?_
  show wpAny _ _ (if (!t.led && !es.isEmpty)=true then unsupported _ else pure ()) _ _ _
  rw [if_neg (by rw [hl];simp)]
  exact wpAny_pure (wpAny_pure h)
 ·show ¬(!t.plain && decide (es.size > 1))=true
  rcases hp with z | z
  ·rw [z];simp
  ·simp;intro _;omega
theorem slot_self:Slot "set_iterator" "__iter__" "set_iterator.__iter__" :=
 .of (owner := "set_iterator") (n := "__iter__") (by rw [typeLookup_type,builtinLookup_eq_fast];kernel_rfl) (by decide +kernel) (by decide +kernel) (by decide +kernel)
  (by first | exact .inl (by decide +kernel) | exact .inr (by decide +kernel)) (by rw [isSubtype_type];kernel_rfl)
theorem entry_self:entryFor table "set_iterator.__iter__"=some Builtin.«dict_keyiterator.__iter__» :=
 entryFor_alias (id' := "dict_keyiterator.__iter__") (by kernel_rfl) rfl (by decide +kernel) (by kernel_rfl)
theorem args_self (a:Value):argsOk "set_iterator.__iter__" ⟨[a],[]⟩:=by unfold argsOk;kernel_rfl
theorem rZ {it a:Addr} {first:Value} {i n ep:Nat} {Q:Value->Shared->Prop} (hit:bK s.heap it first i a n ep) (h:Q (.ref it) s):wpAny (model prog w) A (pyIter (.ref it)) Q E s:=by
 refine wpAny_pyIter_slot hit.typeIs slot_self (wpAny_call_entry slot_self hit.typeIs entry_self ?_ (args_self _))
 show wpAny _ _ (ret (.ref it)) _ _ s
 exact wpAny_pure ⟨_,rfl,"set_iterator",_,hit.typeIs,slot_next.lookup,h⟩
theorem bK.cp {h h':Heap} {it a:Addr} {first:Value} {i n ep:Nat} (x:bK h it first i a n ep) (k:∀ o,h.get? it=some o->h'.get? it=some o):bK h' it first i a n ep:=by
 obtain⟨o,h1,h2⟩:=x
 exact⟨o,k o h1,h2⟩
theorem pE (hh:A.handled=none) {I a:Addr} (ne:a≠I) {o:Obj} {es:Array (Int × Value)} {ep:Nat} {t:SetTable} (hd:o.data=.set es ep t) (hf:t.fits es.size=true) (ord:Array Value) (slot:Nat->Nat)
  (hi:∀ i,i<es.size->∃ x,ord[i]?=some x/\∀{A:Around} {s:Shared} {P:Option (Value × Nat)->Shared->Prop} {E:Value->Shared->Prop},s.heap.get? a=some o->P (some (x,slot (i+1))) s->wpAny (model prog w) A (setNext a (slot i) i ep) P E s)
  (he:∀{A:Around} {s:Shared} {P:Option (Value × Nat)->Shared->Prop} {E:Value->Shared->Prop},s.heap.get? a=some o->P none s->wpAny (model prog w) A (setNext a (slot es.size) es.size ep) P E s) :
  Walks prog w A I [I,a] [I] es.size (λi v=>ord[i]?=some v) (λi h=>bK h I (.int (slot i) 0) i a es.size ep/\h.get? a=some o) where
 sub:=λb hb=>by simp at hb;simp [hb]
 frame:=λi h h' st k=>⟨st.1.cp λo e=>k I (by simp) o e,k a (by simp) o st.2⟩
 item:=λi s Q E hlt st q=>by
  obtain⟨x,hx,nx⟩:=hi i hlt
  refine nM st.1 st.2 hd hf (λp=>nx st.2 p) λh' hit' sb=>?_
  exact q x h' s.toks hx ⟨hit',by rw [sb.2 a ne];exact st.2⟩ λb o hb e=>by rw [sb.2 b (λz=>hb (by simp [z]))];exact e
 done:=λs Q E st q=>pS hh st.1 st.2 hd hf (λp=>he st.2 p) λh' x=>q h' s.toks λb o hb e=>x b o (λz=>hb (by simp [z])) e
 self:=λi s Q E st q=>rZ st.1 q
theorem qY (hh:A.handled=none) {I a tp:Addr} (ne:a≠I) (nt:tp≠I) {o:Obj} {es:Array (Int × Value)} {ep:Nat} {t:SetTable} (hd:o.data=.set es ep t) (hf:t.fits es.size=true) {js:List Nat} (hj:js.Perm (List.range es.size)) :
  Walks prog w A I [I,a,tp] [I] es.size (λi v=>(js.filterMap λj=>es[j]?.map (·.2))[i]?=some v) (λi h=>bK h I (.ref tp) i a es.size ep/\h.get? a=some o/\IsTup h tp (js.map fun(j:Nat)=>rawInt j).toArray) where
 sub:=λb hb=>by simp at hb;simp [hb]
 frame:=λi h h' st k=>⟨st.1.cp λo e=>k I (by simp) o e,k a (by simp) o st.2.1,by
  obtain⟨u,h1,h2⟩:=st.2.2
  exact⟨u,k tp (by simp) u h1,h2⟩⟩
 item:=λi s Q E hlt st q=>by
  have jl:js.length=es.size:=by rw [hj.length_eq,List.length_range]
  have hij:i<js.length:=by omega
  have hjm:js[i]<es.size:=List.mem_range.mp (hj.mem_iff.mp (List.getElem_mem hij))
  have all:∀ j∈js,j<es.size:=λj h=>List.mem_range.mp (hj.mem_iff.mp h)
  have ef:(js.filterMap λj=>es[j]?.map (·.2))=js.map λj=>((es[j]?.map (·.2)).getD .none):=hW all
  refine qj (j:=js[i]) (x:=es[js[i]]) st.1 st.2.2 (by simp [rawInt,hij]) (Array.getElem?_eq_getElem hjm) st.2.1 hd hf λh' hit' sb=>?_
  have keep:∀ b o,b≠I->s.heap.get? b=some o->h'.get? b=some o:=λb o hb e=>by rw [sb.2 b hb];exact e
  refine q _ h' s.toks ?_ ⟨hit',keep _ _ ne st.2.1,?_⟩ λb o hb e=>keep b o (λz=>hb (by simp [z])) e
  ·rw [ef,List.getElem?_map,List.getElem?_eq_getElem hij]
   simp [Array.getElem?_eq_getElem hjm]
  ·obtain⟨u,h1,h2⟩:=st.2.2
   exact⟨u,keep _ _ nt h1,h2⟩
 done:=λs Q E st q=>by
  have jl:js.length=es.size:=by rw [hj.length_eq,List.length_range]
  exact tj hh st.1 st.2.2 (by simp;omega) st.2.1 hd hf λh' x=>q h' s.toks λb o hb e=>x b o (λz=>hb (by simp [z])) e
 self:=λi s Q E st q=>rZ st.1 q
end
end Sst
namespace Sp
open PySem
def dW (w:World):Bool:=w.params.followText "set-order"
abbrev TK (prog:Program) (w:World) (h:Heap) (k:Pr) (r:Addr):Prop:=IsTupleKey (intKind prog w) h [k.1,k.2] r
def cW (es:Array (Int × Value)) (ep:Nat) (t:SetTable):Obj:={ cls:=.type "set",dict:=none,data:=.set es ep t }
def uR (prog:Program) (w:World) (h:Heap) (a:Addr) (st:List Pr × SetTable) (xs:List (Pr × Addr)):Prop :=
 ∃ es ep,h.get? a=some (cW es ep st.2)/\es.toList=xs.map (λx=>(hp x.1,Value.ref x.2))/\xs.map (·.1)=st.1/\(∀ x∈xs,TK prog w h x.1 x.2)/\nS st.2 st.1.length=true/\st.2.led=!dW w
theorem jq {t:SetTable} {n:Nat} (h:nS t n=true):t.fits n=true/\SetTable.rising t.place=true/\t.plain=true/\t.mask%2=1/\n<4096:=by
 unfold nS at h
 simp only [Bool.and_eq_true,beq_iff_eq,decide_eq_true_eq] at h
 exact⟨h.1.1.1.1,h.1.1.1.2,h.1.1.2,h.1.2,h.2⟩
section
variable {prog:Program} {w:World} {A:Around} {E:Value->Shared->Prop} {s:Shared}
theorem vW {x:Addr} {k:Pr} {ys:List Value} {Q:Bool->Shared->Prop} (hx:TK prog w s.heap k x) (hy:∀ y∈ys,∃ r k',y=.ref r/\TK prog w s.heap k' r) (h:Q false s):wpAny (model prog w) A (searchCouldBeSeen (.ref x) ys) Q E s:=by
 have cls:∀{x:Addr} {k:Pr} {Q:Bool->Shared->Prop},TK prog w s.heap k x->Q false s->wpAny (model prog w) A (ofAClassStatement 8 (.ref x)) Q E s:=by
  intro x k Q hx h
  have hT:=hx.typeIs
  obtain⟨o,items,n,ho,_,hd,hi⟩:=hx
  unfold ofAClassStatement
  refine wpAny_bind (wpAny_typeOf hT ?_)
  dsimp only
  refine wpAny_ite_split (λ_=>?_) (λz=>absurd (by decide) z)
  refine wpAny_bind (wpAny_pure ?_)
  simp only [Bool.not_true,Bool.false_eq_true,if_false]
  refine wpAny_bind (wpAny_seqItems ho hd ?_)
  dsimp only
  refine wpAny_bind ?_
  rw [<- Array.forIn_toList]
  refine wpAny_forIn_list _ (λrest r s'=>r.1=none/\s'=s/\∃ ks,ItemsAre (intKind prog w) ks rest) _ ?_ ?_ _ _ ⟨rfl,rfl,_,hi⟩
  ·rintro y rest r s' ⟨hr,rfl,ks,hall⟩
   cases hall with
   | @cons k v ks vs h1 h2 =>
    obtain⟨t,rfl⟩:=Value.isInt_shape h1
    refine wpAny_bind (wpAny_pure ?_)
    exact wpAny_pure ⟨rfl,rfl,_,h2⟩
  ·rintro⟨r1,r2⟩ s' ⟨hr,rfl,_⟩
   simp only at hr
   subst hr
   exact wpAny_pure h
 unfold searchCouldBeSeen
 refine wpAny_bind ?_
 refine wpAny_forIn_list _ (λrest r s'=>r.1=none/\s'=s/\∀ y∈rest,∃ r k',y=.ref r/\TK prog w s.heap k' r) _ ?_ ?_ _ _ ⟨rfl,rfl,hy⟩
 ·rintro y rest r s' ⟨hr,rfl,hall⟩
  obtain⟨ry,ky,rfl,hty⟩:=hall y (List.mem_cons_self ..)
  have rest':=λy hy=>hall y (List.mem_cons_of_mem _ hy)
  dsimp only
  refine wpAny_ite_split (λ_=>wpAny_pure ⟨rfl,rfl,rest'⟩) λ_=>?_
  refine wpAny_bind (wpAny_eqIsQuiet_tuple hx ?_)
  simp only [Bool.not_true,Bool.false_eq_true,if_false]
  refine wpAny_bind (wpAny_eqIsQuiet_tuple hty ?_)
  simp only [Bool.not_true,Bool.false_eq_true,if_false]
  refine wpAny_bind (cls hx ?_)
  simp only [Bool.false_eq_true,if_false]
  refine wpAny_bind (cls hty ?_)
  simp only [Bool.false_eq_true,if_false]
  exact wpAny_pure ⟨rfl,rfl,rest'⟩
 ·rintro⟨r1,r2⟩ s' ⟨hr,rfl,_⟩
  simp only at hr
  subst hr
  exact wpAny_pure h
theorem vZ {a r:Addr} {k:Pr} {st:List Pr × SetTable} {xs:List (Pr × Addr)} {o:Obj} {es:Array (Int × Value)} {ep:Nat} (hu:A.units<cLine) (hk:TK prog w s.heap k r)
  (ho:s.heap.get? a=some o) (hd:o.data=.set es ep st.2) (he:es.toList=xs.map (λx=>(hp x.1,Value.ref x.2))) (hx:xs.map (·.1)=st.1) (ht:∀ x∈xs,TK prog w s.heap x.1 x.2) (hok:nS st.2 st.1.length=true) {Q:SetFound->Shared->Prop} :
  ∀(n N:Nat) (stand:Option SetTable.Probe) (res:Option Nat),iP st.2 st.1 k n stand=some res->n<=N->Q (match res with | none=>.there none | some j=>.free j false) s->wpAny (model prog w) A (setSearchFrom a (.ref r) (hp k) true N stand) Q E s:=by
 obtain⟨o1,o2,o3,o4,o5⟩:=jq hok
 have sz:es.size=st.1.length:=by rw [<- Array.length_toList,he,<- hx,List.length_map,List.length_map]
 have hf:st.2.fits es.size=true:=by rw [sz];exact o1
 have hfe:(λi=>(es[i]?.map Prod.fst).getD 0)=λi=>(st.1[i]?.map hp).getD 0:=funext λi=>by
  rw [<- hx,<- Array.getElem?_toList,he,List.getElem?_map,List.getElem?_map,Option.map_map,Option.map_map]
  rfl
 intro n
 induction n with
 | zero=>intro N stand res h;cases h
 | succ n ih =>
  intro N stand res h hN q
  obtain⟨N,rfl⟩:∃ M,N=M+1:=⟨N-1,by omega⟩
  unfold setSearchFrom
  refine wpAny_bind (wpAny_setState_of ho hd hf ?_)
  dsimp only
  have g:st.2.gaveWay=false:=by unfold SetTable.gaveWay;simp;omega
  rw [g]
  simp only [Bool.false_eq_true,if_false]
  unfold iP at h
  split
  case h_2 z =>
   cases hm:st.2.probe (λi=>(st.1[i]?.map hp).getD 0) (hp k) (stand.getD (st.2.probeStart (hp k))) with
   | none=>rw [hm] at h;cases h
   | some met =>
    rw [<- hfe] at hm
    exact (z met hm).elim
  case h_1 met z =>
   have z':st.2.probe (λi=>(es[i]?.map Prod.fst).getD 0) (hp k) (stand.getD (st.2.probeStart (hp k)))=some met:=z
   rw [hfe] at z'
   rw [z'] at h
   cases met with
   | empty j dm =>
    cases dm with
    | some d=>cases h
    | none =>
     cases h
     exact wpAny_pure q
   | candidate j i next =>
    dsimp only at h ⊢
    cases ei:st.1[i]? with
    | none=>rw [ei] at h;cases h
    | some k' =>
     rw [ei] at h
     dsimp only at h
     have xi:∃ r',xs[i]?=some (k',r'):=by
      rw [<- hx,List.getElem?_map] at ei
      obtain⟨⟨k2,r2⟩,e1,e2⟩:=Option.map_eq_some_iff.mp ei
      cases e2
      exact⟨r2,e1⟩
     obtain⟨r',xi⟩:=xi
     have esi:es[i]?=some (hp k',.ref r'):=by rw [<- Array.getElem?_toList,he,List.getElem?_map,xi];rfl
     have hk':=ht _ (List.mem_of_getElem? xi)
     -- behind the look at what is stored
     have rest:wpAny (model prog w) A (do
       let some (_,y):=es[i]? | unsupported "internal:set-entry"
       let equal <- holding [y] (eqBool y (.ref r))
       let (es',_,t') <- setState a
       if (true && equal)=true then return SetFound.there none
       let some same:=t'.sameMemory st.2.moves st.2.mask | unsupported "set.changed-during-lookup:is-the-new-block-at-the-old-address"
       let still <- match (if same=true then t'.slot j else .empty) with
        | .live i'=>match es'[i']? with
         | some (_,y')=>do pure (if <- isSame y' y then some i' else none)
         | none=>pure none
        | _=>pure none
       match still with
       | none=>rule "set.search.anew";setSearchFrom a (.ref r) (hp k) true N none
       | some i'=>if equal=true then return .there (some i') else setSearchFrom a (.ref r) (hp k) true N (some next)) Q E s:=by
      rw [esi]
      dsimp only
      refine wpAny_bind (wpAny_holding (wpAny_eqBool_tuple hu hk' hk ?_))
      refine wpAny_bind (wpAny_setState_of ho hd hf ?_)
      dsimp only
      by_cases c:k'=k
      ·rw [if_pos c] at h
       cases h
       have e:([k'.1,k'.2]=[k.1,k.2])=True:=by rw [c];simp
       simp only [e,decide_true,Bool.and_self,if_true]
       exact wpAny_pure q
      ·rw [if_neg c] at h
       have e:([k'.1,k'.2]=[k.1,k.2])=False:=by
        simp only [List.cons.injEq,and_true,eq_iff_iff,iff_false]
        exact λz=>c (Prod.ext z.1 z.2)
       simp only [e,decide_false,Bool.and_false,Bool.false_eq_true,if_false]
       have sm:st.2.sameMemory st.2.moves st.2.mask=some true:=by unfold SetTable.sameMemory;simp
       rw [sm]
       dsimp only
       by_cases c2:st.2.slot j=.live i
       ·rw [if_pos c2] at h
        rw [if_pos rfl,c2]
        dsimp only
        rw [esi]
        dsimp only
        refine wpAny_bind (wpAny_isSame_ref_self ?_)
        refine wpAny_bind (wpAny_pure ?_)
        simp only [if_true]
        exact ih N (some next) res h (by omega) q
       ·rw [if_neg c2] at h
        cases h
     cases hl:st.2.led with
     | true =>
      simp only [Bool.not_true,Bool.false_eq_true,if_false]
      exact rest
     | false =>
      simp only [Bool.not_false,if_true]
      refine wpAny_bind (vW hk (λy hy=>?_) ?_)
      ·obtain⟨e,he1,rfl⟩:=List.mem_map.mp hy
       have:e∈es.toList:=by
        have:=Array.mem_toList_iff.mp he1
        exact Array.mem_toList_iff.mpr (Array.mem_filter.mp this).1
       rw [he] at this
       obtain⟨x,hx1,rfl⟩:=List.mem_map.mp this
       exact⟨_,_,rfl,ht x hx1⟩
      ·simp only [Bool.false_eq_true,if_false]
       exact rest
theorem stored {h:Heap} {a:Addr} {o:Obj} {es:Array (Int × Value)} {ep:Nat} {t:SetTable} (ho:h.get? a=some o) (hd:o.data=.set es ep t) (es':Array (Int × Value)) (t':SetTable) :
  (h.update a (Obj.putSet es' t')).get? a=some { o with data:=.set es' (ep+1) t' }:=by
 rw [<- putSet_of es' t' hd]
 exact Heap.get?_update_self (Obj.putSet es' t') ho (by rw [putSet_of es' t' hd];rfl)
theorem TK.but {h h':Heap} {a r:Addr} {k:Pr} {o:Obj} {es ep t} (x:TK prog w h k r) (ho:h.get? a=some o) (hd:o.data=.set es ep t) (hs:Heap.SameBut a h h'):TK prog w h' k r:=by
 obtain⟨o',items,n,ho',hc,hd',hi⟩:=x
 have hne:r≠a:=by
  rintro rfl
  obtain rfl:o'=o:=Option.some.inj (ho'.symm.trans ho)
  rw [hd] at hd';exact nomatch hd'
 exact⟨o',items,n,(hs.2 r hne).trans ho',hc,hd',hi⟩
theorem a5 {α:Type} (xs:Array α) (p:Nat) (x:α):(SetTable.insertAt xs p x).toList=xs.toList.take p++x::xs.toList.drop p:=by
 unfold SetTable.insertAt
 simp [Array.toList_append,Array.toList_push,Array.toList_extract]
 rw [List.take_of_length_le (by simp)]
theorem w5 {r:Addr} {k:Pr} {Q:Bool->Shared->Prop} (hk:TK prog w s.heap k r) (h:Q true s):wpAny (model prog w) A (hashByValue 8 (.ref r)) Q E s:=by
 have hT:=hk.typeIs
 obtain⟨o,items,n,ho,_,hd,hi⟩:=hk
 unfold hashByValue
 refine wpAny_bind (wpAny_specialOf hT PySem.F.slot_tuple_hash.lookup ?_)
 dsimp only
 refine wpAny_bind (wpAny_seqItems ho hd ?_)
 dsimp only [Option.getD_some]
 refine wpAny_bind ?_
 rw [<- Array.forIn_toList]
 refine wpAny_forIn_list _ (λrest r s'=>r.1=none/\s'=s/\∃ ks,ItemsAre (intKind prog w) ks rest) _ ?_ ?_ _ _ ⟨rfl,rfl,_,hi⟩
 ·rintro y rest r s' ⟨hr,rfl,ks,hall⟩
  cases hall with
  | @cons k v ks vs h1 h2 =>
   obtain⟨t,rfl⟩:=Value.isInt_shape h1
   refine wpAny_bind (wpAny_pure ?_)
   simp only [Bool.not_true,Bool.false_eq_true,if_false]
   exact wpAny_pure ⟨rfl,rfl,_,h2⟩
 ·rintro⟨r1,r2⟩ s' ⟨hr,rfl,_⟩
  simp only at hr
  subst hr
  exact wpAny_pure h
theorem dB {t t2:SetTable} {hs:Array Int} {n:Nat} {order:Array Nat} (e:t.relaid hs n=some (t2,order)):t2.led=t.led:=by
 unfold SetTable.relaid SetTable.laid at e
 simp only [Option.bind_eq_bind,Option.bind_eq_some_iff,Option.pure_def,Option.some.injEq,Prod.mk.injEq] at e
 obtain⟨owner,_,e1,_⟩:=e
 subst e1
 rfl
theorem uV {a r:Addr} {k:Pr} {st st':List Pr × SetTable} {xs:List (Pr × Addr)} (hu:A.units<cLine) (hk:TK prog w s.heap k r) (hS:uR prog w s.heap a st xs) (hi:ins st k=some st') {Q:Bool->Shared->Prop}
  (q:∀ b h' xs',Heap.SameBut a s.heap h'->uR prog w h' a st' xs'->(∀ x∈xs',x∈xs∨x=(k,r))->Q b { s with heap:=h' }) :
  wpAny (model prog w) A (setAddHashed a (.ref r) (hp k)) Q E s:=by
 obtain⟨es,ep,ho,he,hx,ht,hok,hl⟩:=hS
 have hd:(cW es ep st.2).data=.set es ep st.2:=rfl
 obtain⟨o1,o2,o3,o4,o5⟩:=jq hok
 have sz:es.size=st.1.length:=by rw [<- Array.length_toList,he,<- hx,List.length_map,List.length_map]
 have hf:st.2.fits es.size=true:=by rw [sz];exact o1
 unfold ins at hi
 unfold setAddHashed setAddHashedIn
 refine wpAny_holding (wpAny_bind (wpAny_setState_of ho hd hf ?_))
 dsimp only
 have nb:byScan (.ref r) es=false:=rfl
 rw [nb]
 simp only [Bool.false_eq_true,if_false]
 unfold setSearch
 cases hs:iP st.2 st.1 k 100 none with
 | none=>rw [hs] at hi;cases hi
 | some res =>
  rw [hs] at hi
  refine wpAny_bind (vZ hu hk ho hd he hx ht hok 100 100000 none res hs (by omega) ?_)
  cases res with
  | none =>
   cases hi
   exact wpAny_pure (q false s.heap xs (Heap.SameBut.refl a s.heap) ⟨es,ep,ho,he,hx,ht,hok,hl⟩ λx h=>.inl h)
  | some j =>
   dsimp only at hi ⊢
   refine wpAny_bind (wpAny_setState_of ho hd hf ?_)
   dsimp only
   have pl:(st.2.put j).1.plain=true:=o3
   rw [pl]
   simp only [if_true]
   refine wpAny_bind (w5 hk ?_)
   simp only [if_true]
   obtain⟨p,hpt⟩:∃ p,(st.2.put j).2=p:=⟨_,rfl⟩
   obtain⟨t1,ht1⟩:∃ t1,(st.2.put j).1=t1:=⟨_,rfl⟩
   have hl1:t1.led=st.2.led:=by rw [<- ht1];rfl
   rw [hpt,ht1] at hi
   rw [hpt,ht1]
   -- the pairs with their tuples,the new one among them
   obtain⟨ks1,hks1⟩:∃ ks1,(SetTable.insertAt st.1.toArray p k).toList=ks1:=⟨_,rfl⟩
   rw [hks1] at hi
   obtain⟨xs1,hxs1⟩:∃ xs1,(SetTable.insertAt xs.toArray p (k,r)).toList=xs1:=⟨_,rfl⟩
   obtain⟨es1,hes1⟩:∃ es1,SetTable.insertAt es p (hp k,Value.ref r)=es1:=⟨_,rfl⟩
   rw [hes1]
   have e1:xs1.map (·.1)=ks1:=by rw [<- hxs1,<- hks1,a5,a5];simp [hx]
   have e2:es1.toList=xs1.map (λx=>(hp x.1,Value.ref x.2)):=by
    rw [<- hxs1,<- hes1,a5,a5,he]
    simp
   have e3:∀ x∈xs1,x∈xs∨x=(k,r):=λx h=>by
    rw [<- hxs1,a5] at h
    rcases List.mem_append.mp h with z | z
    ·exact .inl (List.mem_of_mem_take z)
    ·rcases List.mem_cons.mp z with z | z
     ·exact .inr z
     ·exact .inl (List.mem_of_mem_drop z)
   have e4:∀ x∈xs1,TK prog w s.heap x.1 x.2:=λx h=>by
    rcases e3 x h with z | z
    ·exact ht x z
    ·rw [z];exact hk
   by_cases c:nS t1 ks1.length=true
   ·rw [if_pos c] at hi
    obtain⟨c1,c2,c3,c4,c5⟩:=jq c
    have sz1:es1.size=ks1.length:=by rw [<- Array.length_toList,e2,<- e1,List.length_map,List.length_map]
    have z1:es1.size<=sizeLine:=fits_of_scanBound (by rw [sz1];exact c5)
    refine wpAny_bind (wpAny_storeSet_of ho hd ?_ z1)
    have g1:=stored ho hd es1 t1
    have sb1:=Heap.SameBut.update s.heap a (Obj.putSet es1 t1)
    simp only [Bool.not_false,Bool.true_and]
    by_cases tf:t1.tooFull=true
    ·rw [if_pos tf] at hi
     rw [if_pos tf]
     by_cases sa:SetTable.sizeAbove (SetTable.grown (st.1.length+1))<=sizeLine
     ·rw [if_pos sa] at hi
      cases hr:t1.relaid (ks1.map hp).toArray (SetTable.grown (st.1.length+1)) with
      | none=>rw [hr] at hi;cases hi
      | some R =>
       obtain⟨t2,order⟩:=R
       rw [hr] at hi
       dsimp only at hi
       split at hi
       ·rename_i cc
        obtain⟨cc1,cc2⟩:=cc
        cases hi
        obtain⟨d1,d2,d3,d4,d5⟩:=jq cc2
        unfold setRelay
        refine wpAny_bind ?_
        refine wpAny_bind (wpAny_setState_of g1 rfl (by rw [sz1];exact c1) ?_)
        dsimp only
        rw [if_neg (by rw [sz];omega)]
        have hm:es1.map (·.1)=(ks1.map hp).toArray:=by
         apply Array.toList_inj.mp
         rw [Array.toList_map,e2,<- e1,List.map_map,List.map_map]
         rfl
        rw [sz,hm,hr]
        have e5:(order.filterMap (es1[·]?)).toList=(order.toList.filterMap (xs1[·]?)).map (λx=>(hp x.1,Value.ref x.2)):=by
         rw [Array.toList_filterMap,List.map_filterMap]
         congr 1
         funext i
         rw [<- Array.getElem?_toList,e2,List.getElem?_map]
        have e6:(order.toList.filterMap (xs1[·]?)).map (·.1)=order.toList.filterMap (ks1[·]?):=by
         rw [List.map_filterMap]
         congr 1
         funext i
         rw [<- e1,List.getElem?_map]
        have sz2:(order.filterMap (es1[·]?)).size=(order.toList.filterMap (ks1[·]?)).length:=by
         rw [<- Array.length_toList,e5,<- e6,List.length_map,List.length_map]
        have ins1:∀ x∈order.toList.filterMap (xs1[·]?),x∈xs1:=λx h=>by
         obtain⟨i,_,e⟩:=List.mem_filterMap.mp h
         exact List.mem_of_getElem? e
        have ns:((order.filterMap (es1[·]?)).size != es1.size)=false:=by rw [sz2,sz1,cc1];simp
        show wpAny _ _ (do
         let x <- (do
          if ((order.filterMap (es1[·]?)).size != es1.size)=true then unsupported "internal:set-table-lost-an-element"
          pure (order.filterMap (es1[·]?),t2))
         storeSet a x.1 x.2) _ _ _
        rw [ns]
        simp only [Bool.false_eq_true,if_false]
        refine wpAny_bind (wpAny_bind (wpAny_pure (wpAny_pure ?_)))
        have z2:(order.filterMap (es1[·]?)).size<=sizeLine:=fits_of_scanBound (by rw [sz2];exact d5)
        refine wpAny_storeSet_of g1 rfl ?_ z2
        have sb2:=sb1.trans (Heap.SameBut.update _ a (Obj.putSet (order.filterMap (es1[·]?)) t2))
        refine wpAny_pure (q true _ (order.toList.filterMap (xs1[·]?)) sb2 ⟨_,_,stored g1 rfl _ t2,e5,e6,λx h=>(e4 x (ins1 x h)).but ho hd sb2,cc2,by rw [dB hr,hl1];exact hl⟩ λx h=>e3 x (ins1 x h))
       ·cases hi
     ·rw [if_neg sa] at hi;cases hi
    ·rw [if_neg tf] at hi
     rw [if_neg tf]
     cases hi
     refine wpAny_pure (q true _ xs1 sb1 ⟨es1,ep+1,g1,e2,e1,λx h=>(e4 x h).but ho hd sb1,c,by rw [hl1];exact hl⟩ e3)
   ·rw [if_neg c] at hi;cases hi
def SR (w:World) (o:Obj) (acc:List (Pr × Addr)):Prop :=
 ∃(es:Array (Int × Value)) (ep:Nat) (t:SetTable) (xs:List (Pr × Addr)),o=cW es ep t/\es.toList=xs.map (λx:Pr × Addr=>(hp x.1,Value.ref x.2))/\(∀ x∈xs,x∈acc)/\run (new (!dW w)) (acc.map (·.1))=some (xs.map (·.1),t)/\nS t xs.length=true/\t.led=!dW w
theorem SR.new (w:World):SR w (cW #[] 0 (.fresh 0 0 (!dW w))) []:=⟨#[],0,_,[],rfl,rfl,(λ_ h=>by cases h),rfl,(by cases dW w<;>decide),rfl⟩
theorem fF:∀(l:List Pr) (st:List Pr × SetTable) (k:Pr),run st (l++[k])=(run st l).bind λst'=>ins st' k
 | [],st,k=>by
  show (match ins st k with | some st'=>some st' | none=>none)=ins st k
  cases ins st k<;>rfl
 | x::l,st,k=>by
  show (match ins st x with | some st'=>run st' (l++[k]) | none=>none)=(match ins st x with | some st'=>run st' l | none=>none).bind _
  cases ins st x with
  | none=>rfl
  | some st'=>exact fF l st' k
theorem vg (k:Pr):tupleKeyHash (intKind prog w) [k.1,k.2]=hp k:=by
 unfold tupleKeyHash hp
 congr 1
theorem mI {a r:Addr} {k:Pr} {o:Obj} {acc:List (Pr × Addr)} (hu:A.units+1<cLine) (ho:s.heap.get? a=some o) (hS:SR w o acc) (ht:∀ x∈acc,TK prog w s.heap x.1 x.2) (hk:TK prog w s.heap k r) (hi:(run (Sp.new (!dW w)) (acc.map (·.1)++[k])).isSome=true) {Q:Value->Shared->Prop}
  (q:∀ h' o' tk,Heap.SameBut a s.heap h'->h'.get? a=some o'->SR w o' (acc++[(k,r)])->Q .none { s with heap:=h',toks:=tk }) :
  wpAny (model prog w) A (call (.builtin "set.add") [.ref a,.ref r]) Q E s:=by
 obtain⟨es,ep,t,xs,rfl,he,hxs,hrun,hok,hl⟩:=hS
 rw [fF,hrun] at hi
 obtain⟨st',hst'⟩:∃ st',ins (xs.map (·.1),t) k=some st':=by
  rw [Option.bind_some] at hi
  exact Option.isSome_iff_exists.mp hi
 obtain⟨st0,hst0⟩:∃ st0:List Pr × SetTable,st0=(xs.map (·.1),t):=⟨_,rfl⟩
 rw [<- hst0] at hst'
 refine wpAny_call_entry PySem.F.slot_set_add ⟨_,ho,rfl⟩ PySem.F.entry_set_add ?_ (PySem.F.args_set_add_2 _ _)
 unfold Builtin.«set.add» Builtin.Frozenset.oneOther
 simp only [List.isEmpty_nil,bind_assoc]
 unfold Builtin.Frozenset.addrOf setAdd
 refine wpAny_bind (wpAny_pure ?_)
 try dsimp only
 refine wpAny_bind (wpAny_pure ?_)
 try dsimp only
 refine wpAny_bind ?_
 refine wpAny_holding ?_
 refine wpAny_bind (wpAny_pyHash_tuple (A:=A.in1) (show A.units+1<cLine from hu) hk ?_)
 rw [vg]
 generalize s.toks+([k.1,k.2].length+1)=tk
 refine uV (A:=A.in1) (s:={ s with toks:=tk }) (k:=k) (st:=st0) (xs:=xs) (show A.units+1<cLine from hu) hk ⟨es,ep,by rw [hst0];exact ho,he,by rw [hst0],λx h=>ht x (hxs x h),by rw [hst0];show nS t (xs.map (·.1)).length=true;rw [List.length_map];exact hok,by rw [hst0];exact hl⟩ hst' λb h' xs' sb ⟨es',ep',g,e1,e2,e3,e4,e5⟩ hx'=>?_
 show wpAny _ _ (ret Value.none) _ _ _
 refine wpAny_pure ⟨_,rfl,q h' _ tk sb g ⟨es',ep',st'.2,xs',rfl,e1,λx h=>?_,?_,?_,e5⟩⟩
 ·rcases hx' x h with z | z
  ·exact List.mem_append_left _ (hxs x z)
  ·rw [z];exact List.mem_append_right _ (List.mem_singleton.mpr rfl)
 ·rw [List.map_append,List.map_cons,List.map_nil,fF,hrun,e2,Option.bind_some,<- hst0]
  exact hst'
 ·rw [<- e2,List.length_map] at e4
  exact e4
end
end Sp
namespace L2
open PySem PySem.Spec PyProof.Rows
def kn (elt:Expr) (acc:Value) (env:Env):Sem Unit:=do
 let v <- eval elt env
 standAt elt.pos
 let _ <- call (.builtin "set.add") [acc,v]
theorem mh {Ex:Value->Shared->Prop} {prog:Program} {w:World} {A:Around} {R:Result->Shared->Prop} {s:Shared} {elt target:Expr} {gens:List Comprehension} {scope:Scope} {pos ps:Pos} {ifs:List Expr} {d:Nat} {B:Sem Unit} {it acc:Value} {env:Env} (I:Nat->Shared->Prop)
  (ht:compTurn (.SetComp elt gens scope pos) d it acc env=(do
   standAt ps
   match <- pyNext it with
   | none=>pure (.done .next)
   | some v =>
    letOwnedTupleGo target it v
    assign target env v
    let mut ok:=true
    for c in ifs do
     if ok then ok <- isTrue c env (eval c env)
    if ok then B
    again (.compLoop (.SetComp elt gens scope pos) d it acc env)))
  (turn:∀ n s,I n s->wpAny (model prog w) A (pyNext it) (λr s₁=>match r with
   | none=>R (.ok .next) s₁
   | some v=>wpAny (model prog w) A (letOwnedTupleGo target it v) (λ_ s₁'=>wpAny (model prog w) A (assign target env v) (λ_ s₂ =>
     wpAny (model prog w) A (forIn ifs true λc r=>if r=true then do let ok <- isTrue c env (eval c env);pure (ForInStep.yield ok) else pure (ForInStep.yield r)) (λok s₃ =>
      if ok=true then wpAny (model prog w) A B (λ_ s₅=>∃ m,m<n/\I m s₅) Ex s₃
      else ∃ m,m<n/\I m s₃) Ex s₂) Ex s₁') Ex s₁) Ex s)
  (n:Nat) (h:I n s) (hE:∀ e s',Ex e s'->notedBy (model prog w) A env (λe s''=>R (.error e) s'') e s') :
  codeAny (model prog w) A (.compLoop (.SetComp elt gens scope pos) d it acc env) R s:=by
 refine codeAny_loop rfl I (λn s hI=>?_) n h
 show wpAny _ A ((compTurn (.SetComp elt gens scope pos) d it acc env).onRaise (λx=>do noteFrame x env;theTreesLotGoes x)) _ _ s
 refine wpAny_noted ?_
 rw [ht]
 refine wpAny_bind (wpAny_standAt (wpAny_bind (wpAny_mono (turn n s hI) (λr s₁ h₁=>?_) λ_ _ h'=>hE _ _ h')))
 cases r with
 | none=>exact wpAny_pure h₁
 | some v =>
  refine wpAny_bind (wpAny_mono h₁ (λ_ s₁' h₁'=>?_) λ_ _ h'=>hE _ _ h')
  refine wpAny_bind (wpAny_mono h₁' (λ_ s₂ h₂=>wpAny_bind (wpAny_mono h₂ (λok s₃ h₃=>?_) λ_ _ h'=>hE _ _ h')) λ_ _ h'=>hE _ _ h')
  cases ok with
  | false=>exact wpAny_pure ⟨rfl,h₃⟩
  | true=>exact wpAny_bind (wpAny_mono h₃ (λ_ s₅ h₅=>wpAny_pure ⟨rfl,h₅⟩) λ_ _ h'=>hE _ _ h')
theorem oM (elt t1 i1 t2 i2:Expr) (f1 f2:List Expr) (scope:Scope) (pos:Pos) (it acc:Value) (env:Env) :
  compTurn (.SetComp elt [⟨t1,i1,f1,0⟩,⟨t2,i2,f2,0⟩] scope pos) 1 it acc env=(do
   standAt i2.pos
   match <- pyNext it with
   | none=>pure (.done .next)
   | some v =>
    letOwnedTupleGo t2 it v
    assign t2 env v
    let mut ok:=true
    for c in f2 do
     if ok then ok <- isTrue c env (eval c env)
    if ok then kn elt acc env
    again (.compLoop (.SetComp elt [⟨t1,i1,f1,0⟩,⟨t2,i2,f2,0⟩] scope pos) 1 it acc env)):=by rfl
theorem ml (elt t1 i1 t2 i2:Expr) (f1 f2:List Expr) (scope:Scope) (pos:Pos) (it acc:Value) (env:Env) :
  compTurn (.SetComp elt [⟨t1,i1,f1,0⟩,⟨t2,i2,f2,0⟩] scope pos) 0 it acc env=(do
   standAt i1.pos
   match <- pyNext it with
   | none=>pure (.done .next)
   | some v =>
    letOwnedTupleGo t1 it v
    assign t1 env v
    let mut ok:=true
    for c in f1 do
     if ok then ok <- isTrue c env (eval c env)
    if ok then
     let x <- eval i2 env
     standAt i2.pos
     let x <- foldedSetIterable i2 env x
     let _ <- runOwn (.compStart (.SetComp elt [⟨t1,i1,f1,0⟩,⟨t2,i2,f2,0⟩] scope pos) 1 (<- holding [x] (pyIter x)) acc env) env
    again (.compLoop (.SetComp elt [⟨t1,i1,f1,0⟩,⟨t2,i2,f2,0⟩] scope pos) 0 it acc env)):=by rfl
theorem mi {Ex:Value->Shared->Prop} {prog:Program} {w:World} {A:Around} {R:Result->Shared->Prop} {s:Shared} {elt t1 i1 t2 i2:Expr} {f1 f2:List Expr} {scope:Scope} {pos:Pos} {it acc:Value} {env:Env} (I:Nat->Shared->Prop) (hs:∀ x,foldedSetIterable i2 env x=pure x)
  (turn:∀ n s,I n s->wpAny (model prog w) A (pyNext it) (λr s₁=>match r with
   | none=>R (.ok .next) s₁
   | some v=>wpAny (model prog w) A (letOwnedTupleGo t1 it v) (λ_ s₁'=>wpAny (model prog w) A (assign t1 env v) (λ_ s₂ =>
     wpAny (model prog w) A (forIn f1 true λc r=>if r=true then do let ok <- isTrue c env (eval c env);pure (ForInStep.yield ok) else pure (ForInStep.yield r)) (λok s₃ =>
      if ok=true then wpAny (model prog w) A (eval i2 env) (λx s₄=>wpAny (model prog w) A (pyIter x) (λit2 s₅ =>
       codeAny (model prog w) A (.compStart (.SetComp elt [⟨t1,i1,f1,0⟩,⟨t2,i2,f2,0⟩] scope pos) 1 it2 acc env) (λr s₆=>match r with | .ok _=>∃ m,m<n/\I m s₆ | .error _=>False) s₅) Ex s₄) Ex s₃
      else ∃ m,m<n/\I m s₃) Ex s₂) Ex s₁') Ex s₁) Ex s)
  (n:Nat) (h:I n s) (hE:∀ e s',Ex e s'->notedBy (model prog w) A env (λe s''=>R (.error e) s'') e s'):codeAny (model prog w) A (.compLoop (.SetComp elt [⟨t1,i1,f1,0⟩,⟨t2,i2,f2,0⟩] scope pos) 0 it acc env) R s:=by
 refine codeAny_loop rfl I (λn s hI=>?_) n h
 show wpAny _ A ((compTurn (.SetComp elt [⟨t1,i1,f1,0⟩,⟨t2,i2,f2,0⟩] scope pos) 0 it acc env).onRaise (λx=>do noteFrame x env;theTreesLotGoes x)) _ _ s
 refine wpAny_noted ?_
 rw [ml]
 refine wpAny_bind (wpAny_standAt (wpAny_bind (wpAny_mono (turn n s hI) (λr s₁ h₁=>?_) λ_ _ h'=>hE _ _ h')))
 cases r with
 | none=>exact wpAny_pure h₁
 | some v =>
  refine wpAny_bind (wpAny_mono h₁ (λ_ s₁' h₁'=>?_) λ_ _ h'=>hE _ _ h')
  refine wpAny_bind (wpAny_mono h₁' (λ_ s₂ h₂=>wpAny_bind (wpAny_mono h₂ (λok s₃ h₃=>?_) λ_ _ h'=>hE _ _ h')) λ_ _ h'=>hE _ _ h')
  cases ok with
  | false=>exact wpAny_pure ⟨rfl,h₃⟩
  | true =>
   refine wpAny_bind (wpAny_mono h₃ (λx s₄ h₄=>?_) λ_ _ h'=>hE _ _ h')
   refine wpAny_bind (wpAny_standAt (wpAny_bind (wpAny_of_eq (hs x) (wpAny_bind (wpAny_holding (wpAny_mono h₄ (λit2 s₅ h₅=>?_) λ_ _ h'=>hE _ _ h'))))))
   refine wpAny_bind (wpAny_runOwn (codeAny_mono h₅ λr s₆ h₆=>?_))
   cases r with
   | ok f=>exact wpAny_pure ⟨rfl,h₆⟩
   | error e=>exact h₆.elim
theorem mj {prog:Program} {w:World} {A:Around} {R:Result->Shared->Prop} {s:Shared} {elt t1 i1 t2 i2:Expr} {f1 f2:List Expr} {scope:Scope} {pos:Pos} {it acc:Value} {env:Env}
  (h0:codeAny (model prog w) A (.compLoop (.SetComp elt [⟨t1,i1,f1,0⟩,⟨t2,i2,f2,0⟩] scope pos) 1 it acc env) R s)
  (h:wpAny (model prog w) A (pyIter it) (λit' s'=>codeAny (model prog w) A (.compLoop (.SetComp elt [⟨t1,i1,f1,0⟩,⟨t2,i2,f2,0⟩] scope pos) 1 it' acc env) R s')
   (notedBy (model prog w) A env λx s'=>R (.error x) s') s) :
  codeAny (model prog w) A (.compStart (.SetComp elt [⟨t1,i1,f1,0⟩,⟨t2,i2,f2,0⟩] scope pos) 1 it acc env) R s:=by
 refine codeAny_of_tree ?_
 show wpAny _ _ ((compStart (.SetComp elt [⟨t1,i1,f1,0⟩,⟨t2,i2,f2,0⟩] scope pos) 1 it acc env).onRaise (λx=>do noteFrame x env;standAt theWindowsPlace)) _ _ s
 refine wpAny_notedAt ?_
 unfold compStart
 show wpAny _ _ (ask >>= _) _ _ s
 refine wpAny_bind (wpAny_askSetting (wpAny_ite ?_))
 split
 ·first
   | exact wpAny_bind (wpAny_pure (wpAny_pure (And.intro rfl h0)))
   | exact wpAny_pure (And.intro rfl h0)
 ·first
   | exact wpAny_bind (wpAny_rule (wpAny_bind (wpAny_standAt (wpAny_bind (wpAny_mono h (λit' s' h'=>wpAny_pure (And.intro rfl h')) λ_ _ x=>x)))))
   | (refine wpAny_bind (wpAny_rule ?_);show wpAny _ _ (standAt i2.pos >>= _) _ _ s;exact wpAny_bind (wpAny_standAt (wpAny_bind (wpAny_mono h (λit' s' h'=>wpAny_pure (And.intro rfl h')) λ_ _ x=>x))))
theorem kq {prog:Program} {w:World} {A:Around} {R:Result->Shared->Prop} {s:Shared} {elt t1 i1 t2 i2:Expr} {f1 f2:List Expr} {scope:Scope} {pos:Pos} {it acc:Value} {env:Env}
  (h0:codeAny (model prog w) A (.compLoop (.SetComp elt [⟨t1,i1,f1,0⟩,⟨t2,i2,f2,0⟩] scope pos) 0 it acc env) R s)
  (h:wpAny (model prog w) A (pyIter it) (λit' s'=>codeAny (model prog w) A (.compLoop (.SetComp elt [⟨t1,i1,f1,0⟩,⟨t2,i2,f2,0⟩] scope pos) 0 it' acc env) R s')
   (notedBy (model prog w) A env λx s'=>R (.error x) s') s) :
  codeAny (model prog w) A (.compStart (.SetComp elt [⟨t1,i1,f1,0⟩,⟨t2,i2,f2,0⟩] scope pos) 0 it acc env) R s:=by
 refine codeAny_of_tree ?_
 show wpAny _ _ ((compStart (.SetComp elt [⟨t1,i1,f1,0⟩,⟨t2,i2,f2,0⟩] scope pos) 0 it acc env).onRaise (λx=>do noteFrame x env;standAt theWindowsPlace)) _ _ s
 refine wpAny_notedAt ?_
 unfold compStart
 show wpAny _ _ (ask >>= _) _ _ s
 refine wpAny_bind (wpAny_askSetting (wpAny_ite ?_))
 split
 ·first
   | exact wpAny_bind (wpAny_pure (wpAny_pure (And.intro rfl h0)))
   | exact wpAny_pure (And.intro rfl h0)
 ·first
   | exact wpAny_bind (wpAny_rule (wpAny_bind (wpAny_standAt (wpAny_bind (wpAny_mono h (λit' s' h'=>wpAny_pure (And.intro rfl h')) λ_ _ x=>x)))))
   | (refine wpAny_bind (wpAny_rule ?_);show wpAny _ _ (standAt i1.pos >>= _) _ _ s;exact wpAny_bind (wpAny_standAt (wpAny_bind (wpAny_mono h (λit' s' h'=>wpAny_pure (And.intro rfl h')) λ_ _ x=>x))))
def sN (X:Cx) (elt target:Expr) (gens:List Comprehension) (ifs:List Expr) (scope:Scope) (pos:Pos) (Bd:(Value->Shared->Prop)->Value->Env->(Shared->Prop)->Shared->Prop):Prop :=
 ∀(Ex:Value->Shared->Prop) (R:Result->Shared->Prop) (s:Shared) (it acc:Value) (env:Env) (I:Nat->Shared->Prop),
  (∀ n s,I n s->wpAny (model X.prog X.w) X.A (pyNext it) (λr s₁=>match r with
   | none=>R (.ok .next) s₁
   | some v=>wpAny (model X.prog X.w) X.A (letOwnedTupleGo target it v) (λ_ s₁'=>wpAny (model X.prog X.w) X.A (assign target env v) (λ_ s₂ =>
     wpAny (model X.prog X.w) X.A (forIn ifs true λc r=>if r=true then do let ok <- isTrue c env (eval c env);pure (ForInStep.yield ok) else pure (ForInStep.yield r)) (λok s₃ =>
      if ok=true then Bd Ex acc env (λs₅=>∃ m,m<n/\I m s₅) s₃ else ∃ m,m<n/\I m s₃) Ex s₂) Ex s₁') Ex s₁) Ex s) ->
  ∀ n,I n s->(∀ e s',Ex e s'->notedBy (model X.prog X.w) X.A env (λe s''=>R (.error e) s'') e s')->codeAny (model X.prog X.w) X.A (.compLoop (.SetComp elt gens scope pos) 0 it acc env) R s
theorem qi {prog:Program} {w:World} {A:Around} {E:Value->Shared->Prop} {s:Shared} {Q:Value->Shared->Prop} (h:Q (.ref s.heap.objs.size) { s with heap:=s.heap.push (Sp.cW #[] 0 (.fresh 0 0 (!Sp.dW w))) }):wpAny (model prog w) A (newSet (.type "set")) Q E s:=by
 unfold newSet
 exact wpAny_bind (Sst.jL (wpAny_newObj_type h))
theorem uo {X:Cx} {Ex:Addr->Shared->Hp->List Addr->Value->Shared->Prop} {elt target iter:Expr} {rest:List Comprehension} {ifs:List Expr} {scope:Scope} {pos:Pos} {N':List Str} {js:List (Option Nat)} {cl:List (Str × Addr)} {g:TG} {tt:TT} {tb:List (Sp.Pr × Addr)->St->Hp->(List (Sp.Pr × Addr)->Hp->Prop)->Prop} {Bd:(Value->Shared->Prop)->Value->Env->(Shared->Prop)->Shared->Prop} (hcalm:X.calm=true) (hloop:sN X elt target (⟨target,iter,ifs,0⟩::rest) ifs scope pos Bd)
  (hstart:∀(R:Result->Shared->Prop) (s:Shared) (it acc:Value) (env:Env),codeAny (model X.prog X.w) X.A (.compLoop (.SetComp elt (⟨target,iter,ifs,0⟩::rest) scope pos) 0 it acc env) R s->wpAny (model X.prog X.w) X.A (pyIter it) (λit' s'=>codeAny (model X.prog X.w) X.A (.compLoop (.SetComp elt (⟨target,iter,ifs,0⟩::rest) scope pos) 0 it' acc env) R s') (notedBy (model X.prog X.w) X.A env λx s'=>R (.error x) s') s->codeAny (model X.prog X.w) X.A (.compStart (.SetComp elt (⟨target,iter,ifs,0⟩::rest) scope pos) 0 it acc env) R s)
  (K:du X N' js scope cl)
  (hg:∀ C s₂ H₂ fp,eX X C s₂ H₂ fp->PG (aP X (Ex C s₂ H₂ fp) N' scope cl C s₂ H₂ fp) target g) (ht:∀ C s₂ H₂ fp,eX X C s₂ H₂ fp->gO (aP X (Ex C s₂ H₂ fp) N' scope cl C s₂ H₂ fp) ifs tt) (hB:∀ C s₂ H₂ fp,eX X C s₂ H₂ fp->∀(D:Addr) ys vys P σ H s N Ps,Inv (aP X (Ex C s₂ H₂ fp) N' scope cl C s₂ H₂ fp) ([(D,ys)]++P) σ H s->Sp.SR X.w ys vys->dD (aP X (Ex C s₂ H₂ fp) N' scope cl C s₂ H₂ fp) D P->tb vys σ H N ->
   (∀ ys' vys' H' s',Inv (aP X (Ex C s₂ H₂ fp) N' scope cl C s₂ H₂ fp) ([(D,ys')]++P) σ H' s'->Sp.SR X.w ys' vys'->N vys' H'->Ps s')->Bd (Ex C s₂ H₂ fp) (.ref D) (aP X (Ex C s₂ H₂ fp) N' scope cl C s₂ H₂ fp).env Ps s)
  (herr:∀ C s₂ H₂ fp use Q' acc e s',Ex C s₂ H₂ fp e s'->notedBy (model X.prog X.w) X.A (compEnvC scope (cellsFrom (C+1) scope.names cl) C X.env) (λe s''=>compPost (model X.prog X.w) X.A X.xe use Q' acc C (.error e) s'') e s')
  {pins:List (Addr × Obj)} {σ:St} {Fin:List (Sp.Pr × Addr)->Hp->Prop} {use:Option (Value->Sem Unit)} {Q':Value->Shared->Prop} {itv:Value} {s2:Shared}
  (h2:uP X pins σ target (λJ H1=>∃ W:Nat->Nat->List (Sp.Pr × Addr)->Hp->Prop,(∃ m,W 0 m [] H1)/\∀ i m ys H,W i m ys H ->
 (J.stop i H/\Fin ys H) ∨
 (J.go i H/\∃ N:List (Sp.Pr × Addr)->Hp->Prop,(∀ ys' H',N ys' H'->∃ m',m'<m/\W (i+1) m' ys' H') /\
  ∀ x H',J.yld i H x H'->g x (aY js σ) H' λσ2 H2=>aO (aY js σ) σ2/\tt σ2 H2 λb H3=>if b=true then tb ys σ2 H3 N else N ys H3)) itv s2)
  (hok:∀ C D ob acc H4 s5,(∃ m,s5.heap.Ns C m)->D≠C->H4 D=none->Sp.SR X.w ob acc->s5.heap.get? D=some ob->(∀ h',Heap.SameBut C s5.heap h'->Inv X pins σ H4 { s5 with heap:=h' })->Fin acc H4->compPost (model X.prog X.w) X.A X.xe use Q' (.ref D) C (.ok .next) s5) :
  wpAny (model X.prog X.w) X.A (newSet (.type "set")) (λacc s₃=>wpAny (model X.prog X.w) X.A (newFunctionEnv scope X.env.globals cl [] X.env.qual none .none (some X.env)) (λcenv s₄ =>
   codeAny (model X.prog X.w) X.A (.compStart (.SetComp elt (⟨target,iter,ifs,0⟩::rest) scope pos) 0 itv acc { cenv with scope:=relabel scope X.env }) (compPost (model X.prog X.w) X.A X.xe use Q' acc cenv.locals) s₄) X.xe s₃) X.xe s2:=by
 obtain⟨it,fp,tn,J,H2,e,I2,T,st2,f2,W,⟨m0,w0⟩,turn⟩:=h2
 subst e
 refine qi (dj ?_)
 dsimp only
 generalize hP2:s2.heap.push (Sp.cW #[] 0 (.fresh 0 0 (!Sp.dW X.w)))=P2
 generalize hh₁:pushCells (P2.push { cls:=.type "dict",data:=.dict #[] }) scope.names=h₁
 have hns₁:h₁.Ns P2.objs.size λ_=>none:=hh₁▸(Heap.Ns.new P2 (.type "dict")).keeps (pushCells_keeps _ _)
 have upP:∀ b o,P2.get? b=some o->h₁.get? b=some o:=λb o e=>hh₁▸pushCells_keeps _ _ b o (Heap.get?_push_of_some _ e)
 have hcel:∀ x c,(cellsFrom (P2.objs.size+1) scope.names cl).lookup x=some c->∃ v,h₁.IsCell c v:=by
  have:=eT scope.names (P2.push { cls:=.type "dict",data:=.dict #[] }) cl λx c e=>by
   obtain⟨v,q⟩:=I2.cell x c (K.sub.get x c e)
   exact⟨v,q.keeps λb o e=>Heap.get?_push_of_some _ (hP2▸Heap.get?_push_of_some _ e)⟩
  rw [Heap.size_push,hh₁] at this
  exact this
 have hC:P2.objs.size=s2.heap.objs.size+1:=by rw [<- hP2,Heap.size_push]
 have hDC:s2.heap.objs.size≠P2.objs.size:=by rw [hC];exact Nat.ne_of_lt (Nat.lt_succ_self _)
 have below:∀ b,b<s2.heap.objs.size->b≠P2.objs.size/\b≠s2.heap.objs.size:=λb hb=>⟨by rw [hC];exact Nat.ne_of_lt (Nat.lt_succ_of_lt hb),Nat.ne_of_lt hb⟩
 have old:∀ b o,s2.heap.get? b=some o->h₁.get? b=some o:=λb o e=>upP b o (hP2▸Heap.get?_push_of_some _ e)
 have hacc:h₁.get? s2.heap.objs.size=some (Sp.cW #[] 0 (.fresh 0 0 (!Sp.dW X.w))):=upP _ _ (hP2▸Heap.get?_push_size _ rfl)
 generalize hCe:P2.objs.size=C at *
 generalize hDe:s2.heap.objs.size=D at *
 let Y:Cx:=aP X (Ex C s2 H2 fp) N' scope cl C s2 H2 fp
 have clLt:∀ y c,cl.lookup y=some c->c<D:=λy c e=>by
  obtain⟨v,q⟩:=I2.cell y c (K.sub.get y c e)
  rw [<- hDe]
  exact q.lt
 have cellsX:∀ y c,Y.env.cells.lookup y=some c->cl.lookup y=some c∨C+1<=c:=λy c e=>cw _ _ _ e
 have cellNe:∀ y c,Y.env.cells.lookup y=some c->c≠D:=λy c e=>by
  rcases cellsX y c e with z | z
  ·exact Nat.ne_of_lt (clLt y c z)
  ·exact Nat.ne_of_gt (by omega)
 have freshH:∀ a,D<=a->H2 a=none:=λa ha=>I2.hok.fresh (by rw [hDe];exact ha)
 have hDleC:D<=C:=by rw [hC];exact Nat.le_succ _
 have lc:eX X C s2 H2 fp:=⟨⟨pins,σ,I2⟩,λb hb=>((f2 b hb).2.2.2.1).symm,λb hf hb=>by
   rcases List.mem_cons.mp (I2.bA b hf) with z | z
   ·exact (f2 b hb).2.1 z
   ·exact (f2 b hb).2.2.1 z,by rw [hDe];exact hDleC⟩
 have hbelowfp:∀ b∈fp,b<D:=λb hb=>by
  obtain⟨o,e,_⟩:=T.obj _ _ st2 b hb
  rw [<- hDe]
  exact Heap.lt_size e
 have okY:Y.Ok:=by
  refine⟨I2.ok.mod,K.kind,I2.ok.glob,I2.ok.blt,?_,gT _ _ _ (λx c e=>Nat.lt_succ_of_lt (Nat.lt_of_lt_of_le (clLt x c e) hDleC)) (λx y c e1 e2=>I2.ok.inj x y c (K.sub.get x c e1) (K.sub.get y c e2)),λx hx=>?_,λx c hf hc=>?_,I2.ok.hd,I2.ok.frames,.inl rfl,λb hb=>?_,I2.bs,Nat.le_trans I2.ok.bsz I2.sz,λb o e hb=>?_,λb hb hf=>?_,I2.stack,I2.cS⟩
  ·show s2.heap.objs.size<=C
   rw [hDe];exact hDleC
  ·have hx':(relabel scope X.env).names.lookup x=some .cell∨(relabel scope X.env).names.lookup x=some .free:=hx
   have:∃ y∈scope.names,y.1=x/\(y.2=.free∨y.2=.cell):=by
    rcases hx' with q | q
    ·exact bM q (.inl rfl)
    ·exact bM q (.inr rfl)
   obtain⟨y,hm,e1,e2⟩:=this
   refine Option.isSome_iff_exists.mp (PySem.W.cellsFrom_some _ _ _ ?_)
   rcases e2 with e2 | e2
   ·have q:=K.has y hm e2
    rw [e1] at q
    exact .inr q
   ·exact .inl (e1▸(K.nocell y hm e2).1)
  ·have hf':scope.names.lookup x=some .cell:=by simpa using (show (scope.names.lookup x==some .cell)=true from hf)
   have:=gU _ _ _ hf' hc
   show s2.heap.objs.size<=c
   rw [hDe];exact Nat.le_trans hDleC (Nat.le_of_succ_le this)
  ·refine⟨Nat.ne_of_lt (Nat.lt_of_lt_of_le (hbelowfp b hb) hDleC),λx c e=>?_⟩
   rcases cellsX x c e with z | z
   ·exact (f2 b hb).2.2.2.2.1 x c (K.sub.get x c z)
   ·exact Nat.ne_of_gt (Nat.lt_of_lt_of_le (Nat.lt_of_lt_of_le (hbelowfp b hb) hDleC) (Nat.le_of_succ_le z))
  ·rcases (f2 b hb).2.2.2.1 with z | z
   ·exact I2.ok.noex b o e z
   ·exact absurd (Nat.lt_of_lt_of_le (Heap.lt_size e) (Nat.le_trans I2.ok.bsz z)) (Nat.lt_irrefl _)
  ·rcases List.mem_cons.mp (I2.bA b hf) with z | z
   ·exact (f2 b hb).2.1 z
   ·exact (f2 b hb).2.2.1 z
 -- the block's names
 have locY:∀{s':Shared} {H':Hp} {σ':St},True:=λ{_ _ _}=>trivial
 have invY0:Inv Y [(D,Sp.cW #[] 0 (.fresh 0 0 (!Sp.dW X.w)))] (aY js σ) H2 { s2 with heap:=h₁ }:=by
  refine⟨okY,rfl,I2.bare,Un.kept old,⟨_,hns₁,λi x v e1 e2 vis=>?_⟩,hcel,freshH C hDleC,λy c e=>?_,λp hp=>?_,I2.hok.kept old,?_⟩
  ·-- a name of the block that has a value stands outside in a cell
   have e2':(aY js σ)[i]?=some (some v):=e2
   unfold aY at e2'
   rw [List.getElem?_map] at e2'
   cases ej:js[i]? with
   | none=>rw [ej] at e2';cases e2'
   | some o =>
    rw [ej] at e2'
    cases o with
    | none=>cases e2'
    | some j =>
     obtain⟨n1,n2,n3,n4,n5⟩:=K.jok i j x ej e1
     have e3:(σ[j]?).join=some v:=by simpa using e2'
     have e4:σ[j]?=some (some v):=by
      cases q:σ[j]? with
      | none=>rw [q] at e3;cases e3
      | some z=>rw [q] at e3;simpa using e3
     obtain⟨m,hn,hl⟩:=I2.loc
     obtain⟨u,r,l⟩:=hl j x v n1 e4 n3
     refine⟨u,r,.inr ⟨n5,?_⟩⟩
     rcases l with⟨k,_⟩|⟨k,c,ec,z⟩
     ·exact absurd k n4
     ·obtain⟨c',ec'⟩:=Option.isSome_iff_exists.mp n2
      have ee:=K.sub.get x c' ec'
      rw [ec] at ee
      cases ee
      refine⟨c,(eU _ _ _ λy hy hk=>(K.nocell y hy hk).2 (some j,x) ?_ rfl).trans ec',?_⟩
      ·exact List.mem_of_getElem? (i:=i) (by rw [List.getElem?_zip_eq_some];exact⟨ej,e1⟩)
      obtain⟨o,ho,hd⟩:=z
      exact⟨o,old c o ho,hd⟩
  ·rcases cellsX y c e with z | z
   ·exact I2.freeC y c (K.sub.get y c z)
   ·exact freshH c (by omega)
  ·have hp':p∈[(D,Sp.cW #[] 0 (.fresh 0 0 (!Sp.dW X.w)))]:=hp
   have e:p=(D,Sp.cW #[] 0 (.fresh 0 0 (!Sp.dW X.w))):=by simpa using hp'
   subst e
   refine⟨hacc,freshH D (Nat.le_refl _),hDC,λz=>?_,λv z=>by cases z⟩
   rcases List.mem_cons.mp (I2.bA D z) with q | q
   ·exact absurd (q▸I2.lt) (by rw [hDe];exact Nat.lt_irrefl _)
   ·exact I2.nO (by rw [hDe];exact Nat.le_refl _) q
  ·show (aY js σ).length=N'.length
   unfold aY
   rw [List.length_map]
   exact K.jlen
 have hDfs:D∉Y.fs:=λz=>by
  rcases List.mem_cons.mp (I2.bA D z) with q | q
  ·exact absurd (q▸I2.lt) (by rw [hDe];exact Nat.lt_irrefl _)
  ·exact I2.nO (by rw [hDe];exact Nat.le_refl _) q
 have stat:∀{H':Hp} {ys:Obj},(∀ b∈fp,H' b=none)->∀ b∈fp,eW Y [(D,ys)] H' b:=λ{H' ys} hn b hb=>by
  refine⟨hn b hb,Nat.ne_of_lt (Nat.lt_of_lt_of_le (hbelowfp b hb) hDleC),okY.exfs b hb,.inl hb,okY.exf b hb |>.2,λp hp=>?_⟩
  have hp':p∈[(D,ys)]:=hp
  have e:p=(D,ys):=by simpa using hp'
  subst e
  exact Nat.ne_of_gt (hbelowfp b hb)
 have loop:∀ s3:Shared,s3={ s2 with heap:=h₁ } ->
   codeAny (model X.prog X.w) X.A (.compLoop (.SetComp elt (⟨target,iter,ifs,0⟩::rest) scope pos) 0 (.ref it) (.ref D) (compEnvC scope (cellsFrom (C+1) scope.names cl) C X.env)) (compPost (model X.prog X.w) X.A X.xe use Q' (.ref D) C) s3:=by
  rintro s3 rfl
  refine hloop _ _ _ _ _ _ (λn s'=>∃ i ys vys H',Inv Y [(D,ys)] (aY js σ) H' s'/\tn i s'.heap/\(∀ b∈fp,H' b=none)/\Sp.SR X.w ys vys/\W i n vys H') ?_ m0
   ⟨0,_,[],H2,invY0,T.keep _ _ _ st2 λb _ o e=>old b o e,λb hb=>(f2 b hb).1,Sp.SR.new X.w,w0⟩ λe s' z=>herr C s2 H2 fp use Q' (.ref D) e s' z
  rintro n s4 ⟨i,ys,vys,H4,I4,st4,fr4,rv,w4⟩
  rcases turn i n vys H4 w4 with⟨stop,qn⟩|⟨go,Nn,hN,step⟩
  ·refine aN (T.done Y rfl rfl rfl hcalm i _ s4 _ H4 (Ex C s2 H2 fp) I4 (stat fr4) st4 stop) λr s5 ⟨hr,I5⟩=>?_
   subst hr
   obtain⟨m5,hn5,_⟩:=I5.loc
   obtain⟨pD,nD,_,_,_⟩:=I5.pin (D,ys) (by show _∈[(D,ys)];simp)
   have nC:H4 C=none:=I5.free
   refine hok C D ys vys H4 s5 ⟨m5,hn5⟩ hDC nD rv pD (λh' hsb=>?_) qn
   refine I2.rj (s':={ s5 with heap:=h' }) (ch:=fp) I5.os ?_ ?_ I5.bare (λb hb=>?_)
   ·-- kept
    have u:=I5.base
    have neC:∀ b o,s2.heap.get? b=some o->b≠C/\b≠D:=λb o e=>by
     have:=Heap.lt_size e
     rw [hDe] at this
     exact⟨Nat.ne_of_lt (Nat.lt_of_lt_of_le this hDleC),Nat.ne_of_lt this⟩
    refine⟨λb o e nn hb hx=>hsb.extBut b o (neC b o e).1 (u.keep b o e nn hb hx),λb o e nn hb hx=>?_,λb o e nn hx=>?_,λb o e hx=>?_,λb xs e=>?_,λb o xs e=>?_,λb ps e=>?_⟩
    ·obtain⟨sl,q⟩:=u.slot b o e nn hb hx
     exact⟨sl,hsb.extBut b _ (neC b o e).1 q⟩
    ·exact u.free b o e nn hx
    ·obtain⟨o',q⟩:=u.there b o e hx
     exact⟨o',hsb.extBut b _ (neC b o e).1 q⟩
    ·exact u.tups b xs e
    ·exact u.frzs b o xs e
    ·exact u.tbls b ps e
   ·intro b o e
    refine (I5.hok b o e).cp (λc w' hc q=>hsb.extBut c w' ?_ q) (λc q=>q) λc xs q=>q
    rintro rfl
    rcases hc with rfl | hc
    ·rw [nC] at e;cases e
    ·rw [nC] at hc;cases hc
   ·exact⟨(f2 b hb).2.2.2.1,(f2 b hb).2.1,(f2 b hb).2.2.2.2.1,(f2 b hb).2.2.2.2.2⟩
  ·refine aN (T.item Y rfl rfl rfl hcalm i _ s4 _ H4 (Ex C s2 H2 fp) I4 (stat fr4) st4 go) λr s5 ⟨u,hr,h5⟩=>?_
   subst hr
   refine aN h5 λ_ s6 ⟨x,H6,I6,r6,y6,st6,fr6⟩=>?_
   have I6':=I6.pinned (stat fr6) (T.obj _ _ st6)
   refine aN (hg C s2 H2 fp lc _ s6 _ H6 x u _ I6' r6 (step x H6 y6)) λ_ s7 ⟨σ7,H7,I7,k7,q7⟩=>?_
   refine aN (ht C s2 H2 fp lc _ s7 σ7 H7 _ I7 q7) λb s8 ⟨H8,I8,q8⟩=>?_
   -- behind the tests and the element: the state goes back to what the next turn wants
   have again:∀{ys':Obj} {s9:Shared} {H9:Hp},Inv Y ([(D,ys')]++bP fp s6.heap) σ7 H9 s9->Inv Y [(D,ys')] (aY js σ) H9 s9/\tn (i+1) s9.heap/\∀ b∈fp,H9 b=none:=λ{ys' s9 H9} I9=>by
    refine⟨(I9.bY).weak k7.len k7.get,T.keep _ _ _ st6 λb hb o e=>(I9.pin (b,o) (List.mem_append_right _ (List.mem_append_right _ (aW hb e)))).1,λb hb=>?_⟩
    obtain⟨o,e,d⟩:=T.obj _ _ st6 b hb
    exact (I9.pin (b,o) (List.mem_append_right _ (List.mem_append_right _ (aW hb e)))).2.1
   cases b with
   | false =>
    rw [if_neg Bool.false_ne_true] at q8 ⊢
    obtain⟨m',hm,w8⟩:=hN _ _ q8
    obtain⟨J8,t8,f8⟩:=again I8
    exact⟨m',hm,i+1,ys,vys,H8,J8,t8,f8,rv,w8⟩
   | true =>
    rw [if_pos rfl] at q8 ⊢
    have aok:dD Y D (bP fp s6.heap):=⟨λp hp z=>absurd (hbelowfp p.1 (cQ hp).1) (by rw [z];exact Nat.lt_irrefl _),by show s2.heap.objs.size<=D;rw [hDe];exact Nat.le_refl _,λx c e=>cellNe x c e⟩
    refine hB C s2 H2 fp lc D ys vys _ σ7 H8 s8 Nn _ I8 rv aok q8 λys' vys' H9 s9 I9 rv' q9=>?_
    obtain⟨J9,t9,f9⟩:=again I9
    obtain⟨m',hm,w9⟩:=hN _ _ q9
    exact⟨m',hm,i+1,ys',vys',H9,J9,t9,f9,rv',w9⟩
 exact hstart _ _ _ _ _ (loop _ rfl) (T.self _ 0 _ _ _ (T.keep _ _ _ st2 λb _ o e=>old b o e) (loop _ rfl))
def uQ (te:TE) (ys:List (Sp.Pr × Addr)) (σ:St) (H:Hp) (N:List (Sp.Pr × Addr)->Hp->Prop):Prop:=te σ H λv H4=>∃(r:Addr) (a b:Int),v=.ref r/\H4 r=some (.tup [.int a,.int b])/\(∀ y∈ys,H4 y.2=some (.tup [.int y.1.1,.int y.1.2]))/\(∀ led,(Sp.run (Sp.new led) (ys.map (·.1)++[(a,b)])).isSome=true)/\N (ys++[((a,b),r)]) H4
theorem sD {X:Cx} {pins:List (Addr × Obj)} {σ:St} {H:Hp} {s:Shared} {r:Addr} {a b:Int} (I:Inv X pins σ H s) (e:H r=some (.tup [.int a,.int b])):Sp.TK X.prog X.w s.heap (a,b) r:=by
 obtain⟨its,rv,⟨o,h1,h2,n,h3⟩,hz⟩:=I.tuple (a9.of (K:=X.K) e)
 obtain⟨u,v,rfl,⟨t1,rfl⟩,t2,rfl⟩:=rv.two
 exact⟨o,_,n,h1,h2,h3,.cons (by show Value.isInt a (.int a t1)=true;simp [Value.isInt]) (.cons (by show Value.isInt b (.int b t2)=true;simp [Value.isInt]) .nil)⟩
theorem me {Y:Cx} {D:Addr} {ys:Obj} {vys:List (Sp.Pr × Addr)} {P:List (Addr × Obj)} {σ:St} {H:Hp} {s:Shared} {elt:Expr} {te:TE} {N:List (Sp.Pr × Addr)->Hp->Prop} {Ps:Shared->Prop} (hpn:Y.pn=[]) (hun:Y.A.units+1<cLine) (he:PE Y elt te) (I:Inv Y ([(D,ys)]++P) σ H s) (rv:Sp.SR Y.w ys vys) (ok:dD Y D P) (q:uQ te vys σ H N)
  (k:∀ ys' vys' H' s',Inv Y ([(D,ys')]++P) σ H' s'->Sp.SR Y.w ys' vys'->N vys' H'->Ps s'):wpAny (model Y.prog Y.w) Y.A (kn elt (.ref D) Y.env) (λ_ s'=>Ps s') Y.xe s:=by
 unfold kn
 refine wpAny_bind (aN (he _ s σ H _ I q) λy s9 ⟨vy,H9,I9,r9,r,a,b,e1,e2,e3,e4,q9⟩=>?_)
 subst e1
 cases r9
 refine wpAny_bind (wpAny_standAt ?_)
 obtain⟨pD,nD,neD,nfD,_⟩:=I9.pin (D,ys) (by rw [hpn];simp)
 refine wpAny_bind (Sp.mI hun pD rv (λx hx=>sD I9 (e3 x hx)) (sD I9 e2) (e4 _) λh' o' tk hsb eD sr=>wpAny_pure (k o' _ H9 _ ?_ sr q9))
 have J1:Inv Y P σ H9 s9:=I9.cR λp hp=>I9.pin p (List.mem_append_right _ (List.mem_append_right _ hp))
 have J2:Inv Y P σ H9 { s9 with heap:=h',toks:=tk }:=J1.turned (t':=tk) (it:=D) (λb o hb e=>hsb.extBut b o hb e) nD neD (.inr ok.new) ok.cell λp hp=>ok.ne p (by rw [hpn] at hp;simpa using hp)
 refine J2.cR λp hp=>?_
 rcases List.mem_append.mp hp with hp | hp
 ·have e:p=(D,o'):=by simpa using hp
  subst e
  obtain⟨es',ep',t',xs',rfl,_⟩:=sr
  exact⟨eD,nD,neD,nfD,λv z=>by cases z⟩
 ·exact J2.pin p (List.mem_append_right _ hp)
def uD (wi:TI) (g:TG) (tt:TT) (te:TE) (ys:List (Sp.Pr × Addr)) (σ:St) (H:Hp) (N:List (Sp.Pr × Addr)->Hp->Prop):Prop:=wi σ H λJ H1=>∃ W:Nat->Nat->List (Sp.Pr × Addr)->Hp->Prop,(∃ m,W 0 m ys H1)/\∀ i m zs H,W i m zs H ->
 (J.stop i H/\N zs H) ∨
 (J.go i H/\∃ N2:List (Sp.Pr × Addr)->Hp->Prop,(∀ zs' H',N2 zs' H'->∃ m',m'<m/\W (i+1) m' zs' H') /\
  ∀ x H',J.yld i H x H'->g x σ H' λσ2 H2=>aO σ σ2/\tt σ2 H2 λb H3=>if b=true then uQ te zs σ2 H3 N2 else N2 zs H3)
theorem mf {Y:Cx} {D:Addr} {ys:Obj} {vys:List (Sp.Pr × Addr)} {P:List (Addr × Obj)} {σ:St} {H:Hp} {s:Shared} {elt t1 i1 t2 i2:Expr} {f1 f2:List Expr} {scope:Scope} {pos:Pos} {wi:TI} {g:TG} {tt:TT} {te:TE} {N:List (Sp.Pr × Addr)->Hp->Prop} {Ps:Shared->Prop} (hpn:Y.pn=[]) (hun:Y.A.units+1<cLine) (hcalm:Y.calm=true) (hxe:Y.xe=λ_ _=>False) (hi:PI Y t2 i2 wi) (hg:PG Y t2 g) (ht:gO Y f2 tt) (he:PE Y elt te)
  (I:Inv Y ([(D,ys)]++P) σ H s) (rv:Sp.SR Y.w ys vys) (ok:dD Y D P) (q:uD wi g tt te vys σ H N)
  (k:∀ ys' vys' H' s',Inv Y ([(D,ys')]++P) σ H' s'->Sp.SR Y.w ys' vys'->N vys' H'->Ps s') :
  wpAny (model Y.prog Y.w) Y.A (eval i2 Y.env) (λx s₄=>wpAny (model Y.prog Y.w) Y.A (pyIter x) (λit2 s₅=>codeAny (model Y.prog Y.w) Y.A (.compStart (.SetComp elt [⟨t1,i1,f1,0⟩,⟨t2,i2,f2,0⟩] scope pos) 1 it2 (.ref D) Y.env) (λr s₆=>match r with | .ok _=>Ps s₆ | .error _=>False) s₅) Y.xe s₄) Y.xe s:=by
 refine aN (hi _ s σ H _ I q) λv s1 h1=>aN h1 λitv s2 h2=>?_
 obtain⟨it,fp,tn,J,H2,e,I2,T,st2,f2',W,⟨m0,w0⟩,turn⟩:=h2
 subst e
 have nDb:∀ b∈fp,D≠b:=λb hb=>(f2' b hb).2.2.2.2.2 (D,ys) (by rw [hpn];simp)
 have stat:∀{ys':Obj} {H':Hp},(∀ b∈fp,H' b=none)->∀ b∈fp,eW Y ([(D,ys')]++P) H' b:=λ{ys' H'} hn b hb=>by
  refine⟨hn b hb,(f2' b hb).2.1,(f2' b hb).2.2.1,(f2' b hb).2.2.2.1,(f2' b hb).2.2.2.2.1,λp hp=>?_⟩
  rw [hpn] at hp
  have hp':p∈[(D,ys')]++P:=by simpa using hp
  rcases List.mem_append.mp hp' with z | z
  ·have e:p=(D,ys'):=by simpa using z
   rw [e];exact nDb b hb
  ·exact (f2' b hb).2.2.2.2.2 p (by rw [hpn];exact List.mem_append_right _ (List.mem_append_right _ z))
 have loop:codeAny (model Y.prog Y.w) Y.A (.compLoop (.SetComp elt [⟨t1,i1,f1,0⟩,⟨t2,i2,f2,0⟩] scope pos) 1 (.ref it) (.ref D) Y.env) (λr s₆=>match r with | .ok _=>Ps s₆ | .error _=>False) s2:=by
  refine mh (Ex:=Y.xe) (λn s'=>∃ i zs vzs H',Inv Y ([(D,zs)]++P) σ H' s'/\tn i s'.heap/\(∀ b∈fp,H' b=none)/\Sp.SR Y.w zs vzs/\W i n vzs H') (oM elt t1 i1 t2 i2 f1 f2 scope pos (.ref it) (.ref D) Y.env) ?_ m0
   ⟨0,ys,vys,H2,I2,st2,λb hb=>(f2' b hb).1,rv,w0⟩ λe s' z=>by rw [hxe] at z;exact z.elim
  rintro n s4 ⟨i,zs,vzs,H4,I4,st4,fr4,rz,w4⟩
  rcases turn i n vzs H4 w4 with⟨stop,qn⟩|⟨go,Nn,hN,step⟩
  ·refine aN (T.done Y rfl rfl rfl hcalm i _ s4 _ H4 Y.xe I4 (stat fr4) st4 stop) λr s5 ⟨hr,I5⟩=>?_
   subst hr
   exact k zs vzs H4 s5 I5 rz qn
  ·refine aN (T.item Y rfl rfl rfl hcalm i _ s4 _ H4 Y.xe I4 (stat fr4) st4 go) λr s5 ⟨u,hr,h5⟩=>?_
   subst hr
   refine aN h5 λ_ s6 ⟨x,H6,I6,r6,y6,st6,fr6⟩=>?_
   have I6':=I6.pinned (stat fr6) (T.obj _ _ st6)
   refine aN (hg _ s6 _ H6 x u _ I6' r6 (step x H6 y6)) λ_ s7 ⟨σ7,H7,I7,k7,q7⟩=>?_
   refine aN (ht _ s7 σ7 H7 _ I7 q7) λb s8 ⟨H8,I8,q8⟩=>?_
   have again:∀{zs':Obj} {s9:Shared} {H9:Hp},Inv Y (([(D,zs')]++P)++bP fp s6.heap) σ7 H9 s9->Inv Y ([(D,zs')]++P) σ H9 s9/\tn (i+1) s9.heap/\∀ b∈fp,H9 b=none:=λ{zs' s9 H9} I9=>by
    refine⟨(I9.bY).weak k7.len k7.get,T.keep _ _ _ st6 λb hb o e=>(I9.pin (b,o) (List.mem_append_right _ (List.mem_append_right _ (aW hb e)))).1,λb hb=>?_⟩
    obtain⟨o,e,d⟩:=T.obj _ _ st6 b hb
    exact (I9.pin (b,o) (List.mem_append_right _ (List.mem_append_right _ (aW hb e)))).2.1
   cases b with
   | false =>
    rw [if_neg Bool.false_ne_true] at q8 ⊢
    obtain⟨m',hm,w8⟩:=hN _ _ q8
    obtain⟨J8,t8,f8⟩:=again I8
    exact⟨m',hm,i+1,zs,vzs,H8,J8,t8,f8,rz,w8⟩
   | true =>
    rw [if_pos rfl] at q8 ⊢
    have aok:dD Y D (P++bP fp s6.heap):=⟨λp hp z=>by
     rcases List.mem_append.mp hp with h | h
     ·exact ok.ne p h z
     ·exact nDb p.1 (cQ h).1 z.symm,ok.new,ok.cell⟩
    rw [List.append_assoc] at I8
    refine me hpn hun he I8 rz aok q8 λys' vys' H9 s9 I9 rv' q9=>?_
    rw [<- List.append_assoc] at I9
    obtain⟨J9,t9,f9⟩:=again I9
    obtain⟨m',hm,w9⟩:=hN _ _ q9
    exact⟨m',hm,i+1,ys',vys',H9,J9,t9,f9,rv',w9⟩
 exact mj loop (T.self _ 0 _ _ _ st2 loop)
end L2
namespace Sst
open PySem PyProof.Rows PySem.W
def SV (w:World) (h:Heap) (a:Addr) (vs:List Value):Prop :=
 ∃(es:Array (Int × Value)) (ep:Nat) (t:SetTable),h.get? a=some (Sp.cW es ep t)/\es.toList.map (·.2)=vs/\es.size<scanBound/\t.fits es.size=true/\(dW w=false->Led t)
theorem SV.cp {w:World} {h h':Heap} {a:Addr} {vs:List Value} (hS:SV w h a vs) (k:∀ o,h.get? a=some o->h'.get? a=some o):SV w h' a vs:=by
 obtain⟨es,ep,t,h1,h2⟩:=hS
 exact⟨es,ep,t,k _ h1,h2⟩
theorem qI {xs:Array Nat} (h:SetTable.rising xs=true):fO xs:=by
  unfold SetTable.rising at h
  rw [List.all_eq_true] at h
  have step:∀ i,(hi:i+1<xs.size)->xs[i]'(by omega)<xs[i+1]:=λi hi=>by
    have:=h i (List.mem_range.mpr (by omega))
    rw [decide_eq_true_eq] at this
    rwa [show xs.getD i 0=xs[i]'(by omega) by simp [Array.getD,show i<xs.size by omega],show xs.getD (i+1) 0=xs[i+1] by simp [Array.getD,hi]] at this
  intro i j ij hj
  obtain⟨d,rfl⟩:∃ d,j=i+1+d:=⟨j-i-1,by omega⟩
  have key:∀ d,(hd:i+1+d<xs.size)->xs[i]'(by omega)<xs[i+1+d]:=λd=>by
   induction d with
   | zero=>exact λhd=>step i hd
   | succ d ih =>
    intro hd
    have h1:=ih (by omega)
    have h2:=step (i+1+d) hd
    exact Nat.lt_trans h1 h2
  exact key d hj
theorem v5 {w:World} {h:Heap} {a:Addr} {o:Obj} {acc:List (Sp.Pr × Addr)} (ho:h.get? a=some o) (hS:Sp.SR w o acc):∃ xs:List (Sp.Pr × Addr),(∀ x∈xs,x∈acc)/\(∃ st,Sp.run (Sp.new (!Sp.dW w)) (acc.map (·.1))=some st/\st.1=xs.map (·.1))/\SV w h a (xs.map λx=>Value.ref x.2):=by
 obtain⟨es,ep,t,xs,rfl,he,hx,hr,hok,hl⟩:=hS
 obtain⟨c1,c2,c3,c4,c5⟩:=Sp.jq hok
 have sz:es.size=xs.length:=by rw [<- Array.length_toList,he,List.length_map]
 refine⟨xs,hx,⟨_,hr,rfl⟩,es,ep,t,ho,by rw [he,List.map_map];rfl,by rw [sz];exact c5,by rw [sz];exact c1,λhb=>⟨by rw [hl,show Sp.dW w=dW w from rfl,hb];rfl,λ_=>qI c2⟩⟩
def mB (P:Nat->Value->Prop) (n:Nat) (ks:List Value):Prop:=∀ acc:Array Value,ItemsOf P acc n->acc.toList.Perm ks
theorem fj {es:Array (Int × Value)} {ks:List Value} (hks:es.toList.map (·.2)=ks) {ord:List Value} (ho:ord.Perm (es.toList.map (·.2))) {n:Nat} (hn:ord.length=n) :
  mB (λi v=>ord[i]?=some v) n ks:=by
 intro acc ⟨h1,h2⟩
 have e:acc.toList=ord:=by
  refine List.ext_getElem? λi=>?_
  by_cases c:i<acc.size
  ·have:=h2 i acc[i] (Array.getElem?_eq_getElem c)
   rw [this,Array.getElem?_toList,Array.getElem?_eq_getElem c]
  ·rw [List.getElem?_eq_none (by rw [Array.length_toList];omega),List.getElem?_eq_none (by omega)]
 rw [e,<- hks]
 exact ho
def pL (prog:Program) (w:World) (A:Around) (h0:Heap) (a:Addr) (ks:List Value) (I:Addr) (h1:Heap):Prop :=
 ∃ n fp P St,Walks prog w A I fp [I] n P St/\St 0 h1/\(∀ b∈fp,b=a∨h0.objs.size<=b)/\h0.objs.size<=I/\n<=sizeLine/\mB P n ks
section
variable {prog:Program} {w:World} {A:Around} {E:Value->Shared->Prop} {s:Shared}
theorem vm {a:Addr} {ks:List Value} {Q:Value->Shared->Prop} (hh:A.handled=none) (hS:SV w s.heap a ks)
  (q:∀ I h1 d1,(∀ b o,s.heap.get? b=some o->h1.get? b=some o)->pL prog w A s.heap a ks I h1->Q (.ref I) { s with heap:=h1,drawn:=d1 }):wpAny (model prog w) A (pyIter (.ref a)) Q E s:=by
 obtain⟨es,ep,t,ho,hks,hb,hf,hl⟩:=hS
 have hd:(Sp.cW es ep t).data=.set es ep t:=rfl
 have hex:(Sp.cW es ep t).ExactSet:=⟨rfl,rfl,rfl⟩
 generalize Sp.cW es ep t=o at *
 have hT:s.TypeIs (.ref a) "set":=⟨o,ho,hex.1⟩
 have hlt:=Heap.lt_size ho
 have hz:es.size<=sizeLine:=fits_of_scanBound hb
 refine wpAny_pyIter_slot hT gG (wpAny_call_entry gG hT jX ?_ (lB _))
 show wpAny _ _ (do
  let n <- Builtin.Frozenset.sizeOf a
  let first <- if <- setDrawn a then newTuple ((<- drawOrder n (List.range n)).map fun(i:Nat)=>rawInt i) else pure (rawInt 0)
  ret (<- newFields "set_iterator" [first,rawInt 0,.ref a,rawInt n,rawInt (<- setEpoch a)])) _ _ s
 unfold Builtin.Frozenset.sizeOf
 refine wpAny_bind (wpAny_bind (wpAny_setEntries_of ho hd hf (wpAny_pure ?_)))
 have key:∀(slot:Nat->Nat) (ord:Array Value),slot 0=0->ord.toList.Perm (es.toList.map (·.2)) ->
   (∀ i,i<es.size->∃ x,ord[i]?=some x/\∀{A:Around} {s:Shared} {P:Option (Value × Nat)->Shared->Prop} {E:Value->Shared->Prop},s.heap.get? a=some o->P (some (x,slot (i+1))) s->wpAny (model prog w) A (setNext a (slot i) i ep) P E s) ->
   (∀{A:Around} {s:Shared} {P:Option (Value × Nat)->Shared->Prop} {E:Value->Shared->Prop},s.heap.get? a=some o->P none s->wpAny (model prog w) A (setNext a (slot es.size) es.size ep) P E s) ->
   wpAny (model prog w) A.in1 (do
    let first <- pure (rawInt 0)
    ret (<- newFields "set_iterator" [first,rawInt 0,.ref a,rawInt es.size,rawInt (<- setEpoch a)])) (λfin s'=>∃ v,fin=.done (.ret v)/\∃ T u,s'.TypeIs v T/\typeLookup (.type T) "__next__"=pure (some u)/\Q v s') E s:=by
  intro slot ord s0 hord hi he
  refine wpAny_bind (wpAny_pure (wpAny_bind (wpAny_setEpoch_of ho hd hf ?_)))
  refine wpAny_bind (wpAny_newObj_type (wpAny_pure ⟨_,rfl,"set_iterator",_,⟨_,Heap.get?_push_size _ rfl,rfl⟩,slot_next.lookup,?_⟩))
  have:=q s.heap.objs.size (s.heap.push { cls:=.type "set_iterator",data:=.fields #[rawInt 0,rawInt 0,.ref a,rawInt es.size,rawInt ep] }) s.drawn (λb o e=>Heap.get?_push_of_some _ e)
   ⟨es.size,_,_,_,pE hh (Nat.ne_of_lt hlt) hd hf ord slot hi he,⟨⟨_,Heap.get?_push_size _ rfl,rfl,by rw [s0];rfl⟩,Heap.get?_push_of_some _ ho⟩,λb hb'=>by
    simp only [List.mem_cons,List.not_mem_nil,or_false] at hb'
    rcases hb' with rfl | rfl
    ·exact .inr (Nat.le_refl _)
    ·exact .inl rfl,Nat.le_refl _,hz,?_⟩
  ·exact this
  ·have hg:=fj hks hord (n:=es.size) (by rw [hord.length_eq,List.length_map,Array.length_toList])
   intro acc hacc
   exact hg acc ⟨hacc.1,λj v e=>by show ord.toList[j]?=some v;rw [Array.getElem?_toList];exact hacc.2 j v e⟩
 have hdr:∀{P:Bool->Shared->Prop} {E:Value->Shared->Prop},P (!dW w && (!t.plain && decide (es.size > 1))) s->wpAny (model prog w) A.in1 (setDrawn a) P E s:=by
  intro P E h
  unfold setDrawn
  refine wpAny_bind (wpAny_setState_of ho hd hf ?_)
  dsimp only
  exact wpAny_bind (jL (wpAny_pure h))
 refine wpAny_bind (hdr ?_)
 by_cases hT':dW w=true
 ·rw [hT']
  show wpAny _ _ (do
   let first <- pure (rawInt 0)
   ret (<- newFields "set_iterator" [first,rawInt 0,.ref a,rawInt es.size,rawInt (<- setEpoch a)])) _ _ s
  have pl:=oA (w.params.setOrder a ep) es
  have ps:(pickOrder (w.params.setOrder a ep) es).size=es.size:=by rw [<- Array.length_toList,pl.length_eq,Array.length_toList]
  refine key (λ_=>0) ((pickOrder (w.params.setOrder a ep) es).map (·.2)) rfl (by rw [Array.toList_map];exact pl.map _) (λi hi=>?_) ?_
  ·have hi':i<(pickOrder (w.params.setOrder a ep) es).size:=by omega
   refine⟨(pickOrder (w.params.setOrder a ep) es)[i].2,by rw [Array.getElem?_map,Array.getElem?_eq_getElem hi'];rfl,λ{A s P E} ho' p=>kP hT' ho' hd hf ?_⟩
   rw [Array.getElem?_eq_getElem hi']
   exact p
  ·intro A s P E ho' p
   refine kP hT' ho' hd hf ?_
   rw [Array.getElem?_eq_none (by omega)]
   exact p
 ·have hF:dW w=false:=by simpa using hT'
  have L:=hl hF
  have fs:t.place.size=es.size:=by
   unfold SetTable.fits at hf
   simp at hf
   exact hf.1
  rw [hF]
  by_cases dr:t.plain=true∨es.size<=1
  ·have e0:(!false && (!t.plain && decide (es.size > 1)))=false:=by
    rcases dr with z | z
    ·rw [z];rfl
    ·have:decide (es.size > 1)=false:=by simp;omega
     rw [this];simp
   rw [e0]
   show wpAny _ _ (do
    let first <- pure (rawInt 0)
    ret (<- newFields "set_iterator" [first,rawInt 0,.ref a,rawInt es.size,rawInt (<- setEpoch a)])) _ _ s
   have R:fO t.place:=by
    rcases dr with z | z
    ·exact L.rise z
    ·intro i j ij hj;omega
   have bl:∀ i,i<=es.size->SetTable.below t.place (match i with | 0=>0 | i+1=>(t.place[i]?.getD 0)+1)=i:=by
    intro i hi
    cases i with
    | zero=>exact jT R
    | succ i =>
     have h':i<t.place.size:=by omega
     show SetTable.below t.place ((t.place[i]?.getD 0)+1)=i+1
     rw [Array.getElem?_eq_getElem h']
     exact jS R h'
   refine key (λi=>match i with | 0=>0 | i+1=>(t.place[i]?.getD 0)+1) (es.map (·.2)) rfl (by rw [Array.toList_map]) (λi hi=>?_) ?_
   ·have h':i<t.place.size:=by omega
    refine⟨es[i].2,by rw [Array.getElem?_map,Array.getElem?_eq_getElem hi];rfl,λ{A s P E} ho' p=>jo hF dr L.led ho' hd hf ?_⟩
    rw [bl i (by omega),Array.getElem?_eq_getElem hi,Array.getElem?_eq_getElem h']
    dsimp only at p ⊢
    rw [Array.getElem?_eq_getElem h'] at p
    exact p
   ·intro A s P E ho' p
    refine jo hF dr L.led ho' hd hf ?_
    rw [bl es.size (Nat.le_refl _),Array.getElem?_eq_none (Nat.le_refl _)]
    exact p
  ·have e1:(!false && (!t.plain && decide (es.size > 1)))=true:=by
    have h1:t.plain=false:=by
     cases h:t.plain with
     | false=>rfl
     | true=>exact absurd (.inl h) dr
    have h2:decide (es.size > 1)=true:=by
     rcases Nat.lt_or_ge 1 es.size with z | z
     ·simpa using z
     ·exact absurd (.inr z) dr
    rw [h1,h2];rfl
   rw [e1]
   dsimp only
   rw [if_pos rfl]
   refine wpAny_bind (ro (by rw [List.length_range]) λjs d pj=>?_)
   have jl:js.length=es.size:=by rw [pj.length_eq,List.length_range]
   refine wpAny_bind (wpAny_newTuple ?_ (by rw [List.length_map,jl];exact hz))
   have ho2:=Heap.get?_push_of_some (seqObj "tuple" (js.map fun(i:Nat)=>rawInt i).toArray 0) ho
   refine wpAny_bind (wpAny_setEpoch_of ho2 hd hf ?_)
   refine wpAny_bind (wpAny_newObj_type (wpAny_pure ⟨_,rfl,"set_iterator",_,⟨_,Heap.get?_push_size _ rfl,rfl⟩,slot_next.lookup,?_⟩))
   have sz2:(s.heap.push (seqObj "tuple" (js.map fun(i:Nat)=>rawInt i).toArray 0)).objs.size=s.heap.objs.size+1:=Heap.size_push ..
   have:=q (s.heap.push (seqObj "tuple" (js.map fun(i:Nat)=>rawInt i).toArray 0)).objs.size ((s.heap.push (seqObj "tuple" (js.map fun(i:Nat)=>rawInt i).toArray 0)).push { cls:=.type "set_iterator",data:=.fields #[.ref s.heap.objs.size,rawInt 0,.ref a,rawInt es.size,rawInt ep] }) d (λb o e=>Heap.get?_push_of_some _ (Heap.get?_push_of_some _ e))
    ⟨es.size,_,_,_,qY (tp:=s.heap.objs.size) hh (by rw [sz2];exact Nat.ne_of_lt (Nat.lt_succ_of_lt hlt)) (by rw [sz2];exact Nat.ne_of_lt (Nat.lt_succ_self _)) hd hf pj,⟨⟨_,Heap.get?_push_size _ rfl,rfl,rfl⟩,Heap.get?_push_of_some _ ho2,⟨_,Heap.get?_push_of_some _ (Heap.get?_push_size _ rfl),rfl,0,rfl⟩⟩,λb hb'=>by
     simp only [List.mem_cons,List.not_mem_nil,or_false] at hb'
     rcases hb' with rfl | rfl | rfl
     ·exact .inr (by rw [sz2];exact Nat.le_succ _)
     ·exact .inl rfl
     ·exact .inr (Nat.le_refl _),by rw [sz2];exact Nat.le_succ _,hz,?_⟩
   ·exact this
   ·have all:∀ j∈js,j<es.size:=λj h=>List.mem_range.mp (pj.mem_iff.mp h)
    have pf:(js.filterMap λj=>es[j]?.map (·.2)).Perm (es.toList.map (·.2)):=by
     refine (pj.filterMap _).trans (List.Perm.of_eq ?_)
     rw [hW (js:=List.range es.size) λj h=>List.mem_range.mp h]
     refine List.ext_getElem (by simp) λi h1 h2=>?_
     simp
     have:i<es.size:=by simpa using h1
     rw [Array.getElem?_eq_getElem this]
     rfl
    exact fj hks pf (by rw [pf.length_eq,List.length_map,Array.length_toList])
end
section
variable {prog:Program} {w:World} {A:Around} {E:Value->Shared->Prop} {s:Shared}
theorem vf {r:Addr} {Q:Bool->Shared->Prop} (hT:s.TypeIs (.ref r) "set") (h:Q false s):wpAny (model prog w) A (Builtin.List.listLengthHint (.ref r)) Q E s:=by
 unfold Builtin.List.listLengthHint
 refine wpAny_bind (wpAny_specialOf hT PySem.F.slot_set_len.lookup ?_)
 generalize hid:("set.__len__":String)=id0
 wp_delta
 rw [show splitId id0=some ("set","__len__") from by subst hid;decide +kernel]
 subst hid
 refine wpAny_bind (wpAny_isInstance (T := "set") (b:=true) hT (by rw [isSubtype_type];kernel_rfl) ?_)
 refine wpAny_ite_split (λz=>absurd z (by decide)) λ_=>?_
 refine wpAny_ite_split (λ_=>?_) λz=>absurd (by decide +kernel) z
 exact wpAny_bind (wpAny_typeOf hT (wpAny_pure h))
theorem uX {a:Addr} {ks:List Value} {Q:List Value->Shared->Prop} (hh:A.handled=none) (hS:SV w s.heap a ks)
  (q:∀ h' tk d vs,(∀ b o,s.heap.get? b=some o->h'.get? b=some o)->vs.Perm ks->Q vs { s with heap:=h',toks:=tk,drawn:=d }):wpAny (model prog w) A (collect (.ref a)) Q E s:=by
 obtain⟨es0,ep0,t0,ho0,_⟩:=id hS
 have hex0:(Sp.cW es0 ep0 t0).ExactSet:=⟨rfl,rfl,rfl⟩
 generalize Sp.cW es0 ep0 t0=o0 at *
 have hlt:=Heap.lt_size ho0
 unfold collect
 refine wpAny_bind (wpAny_runValue (codeAny_builtin PySem.F.entry_proto_collect ?_))
 rw [Around.under_plainId PySem.F.plain_proto_collect _]
 show wpAny _ A.in1 (newList [] >>= λl=>again (.builtin "list.__iadd__" ⟨[l,.ref a],[]⟩)) _ _ s
 refine wpAny_bind (wpAny_newObj_type (wpAny_pure ⟨plainId_quiet PySem.F.plain_list_iadd _,codeAny_builtin PySem.F.entry_list_iadd ?_⟩))
 rw [Around.under_plainId PySem.F.plain_list_iadd _]
 obtain⟨h1,eh1⟩:∃ h1,s.heap.push { cls:=.type "list",data:=.seq ([]:List Value).toArray }=h1:=⟨_,rfl⟩
 have gS:h1.get? s.heap.objs.size=some { cls:=.type "list",data:=.seq #[] }:=by rw [<- eh1];exact Heap.get?_push_size _ rfl
 have k1:∀ b o,s.heap.get? b=some o->h1.get? b=some o:=λb o e=>by rw [<- eh1];exact Heap.get?_push_of_some _ e
 have sz1:h1.objs.size=s.heap.objs.size+1:=by rw [<- eh1];exact Heap.size_push ..
 rw [eh1]
 show wpAny _ A.in1 (Builtin.List.listExtendWith (.ref s.heap.objs.size) (.ref a) (.ref s.heap.objs.size)) _ _ _
 have hS1:SV w h1 a ks:=hS.cp λo e=>k1 a o e
 have hT1:Shared.TypeIs { s with heap:=h1 } (.ref a) "set":=⟨o0,k1 a o0 ho0,hex0.1⟩
 unfold Builtin.List.listExtendWith
 refine wpAny_bind (wpAny_typeOf (T := "set") hT1 ?_)
 have n1:Builtin.List.listSameRef (.ref s.heap.objs.size) (.ref a)=false:=by simp [Builtin.List.listSameRef,Nat.ne_of_gt hlt]
 have n2:(Value.type "set"==Value.type "list")=false:=by decide
 have n3:(Value.type "set"==Value.type "tuple")=false:=by decide
 simp only [n1,n2,n3,Bool.or_false,Bool.false_eq_true,if_false]
 refine wpAny_bind (vm (s:={ s with heap:=h1 }) (A:=A.in1) hh hS1 λI h2 d2 k2 ⟨n,fp,P,St,W,st,hfp,hI,hn,gv⟩=>?_)
 have gS2:=k2 _ _ gS
 have nI:s.heap.objs.size∉fp:=λz=>by
  rcases hfp _ z with y | y
  ·exact absurd y (Nat.ne_of_gt hlt)
  ·have:h1.objs.size<=s.heap.objs.size:=y
   omega
 have hT2:Shared.TypeIs { s with heap:=h2,drawn:=d2 } (.ref a) "set":=⟨o0,k2 _ _ (k1 a o0 ho0),hex0.1⟩
 refine wpAny_bind (wpAny_holding (vf hT2 ?_))
 have loop:∀(h3:Heap) (c:Nat),St 0 h3->(∀ b o,b≠s.heap.objs.size->h2.get? b=some o->h3.get? b=some o)->h3.get? s.heap.objs.size=some { cls:=.type "list",data:=.seq #[] c } ->
   codeAny (model prog w) A (.builtin "list.extend.loop" ⟨[.ref s.heap.objs.size,.ref I,.ref s.heap.objs.size],[]⟩) (λr s'=>∃ v,r=.ok (.ret v)/\wpAny (model prog w) A (do
    let .ref b:=v | unsupported "internal:collect"
    match (<- load b).data with
    | .seq xs _=>pure xs.toList
    | _=>unsupported "internal:collect") Q E s') { s with heap:=h3,drawn:=d2 }:=by
  intro h3 c st3 k3 g3
  refine codeAny_extend_loopS W.toS hn _ nI _ n 0 _ #[] c rfl (Nat.zero_le _) st3 g3 (ItemsOf.nil _) λs' acc c' hm hg hacc=>?_
  rw [Moved.eq_with hm]
  have i1:=gv acc hacc
  refine⟨_,rfl,?_⟩
  refine wpAny_bind (wpAny_load hg ?_)
  refine wpAny_pure (q s'.heap s'.toks d2 acc.toList (λb o e=>?_) i1)
  have bl:b<s.heap.objs.size:=Heap.lt_size e
  refine hm.heap b o (λz=>?_) (k3 b o (Nat.ne_of_lt bl) (k2 _ _ (k1 _ _ e)))
  rcases List.mem_cons.mp z with y | y
  ·exact absurd y (Nat.ne_of_lt bl)
  ·have:=List.mem_singleton.mp y
   have hI':h1.objs.size<=I:=hI
   rw [sz1] at hI'
   have e2:b=I:=this
   have b2:b<s.heap.objs.size:=bl
   rw [e2] at b2
   exact absurd (Nat.lt_of_lt_of_le b2 (Nat.le_of_succ_le hI')) (Nat.lt_irrefl _)
 refine wpAny_ite_split (λ_=>?_) λ_=>wpAny_pure ⟨plainId_quiet PySem.F.plain_extend_loop _,codeAny_mono (loop h2 0 st (λb o _ e=>e) gS2) λr s' ⟨v,e,x⟩=>by subst e;exact x⟩
 refine wpAny_bind (wpAny_rule (wpAny_bind ?_))
 show wpAny _ _ (updateSeq s.heap.objs.size (·.push .none) >>= λ_=>updateSeq s.heap.objs.size (·.pop)) _ _ _
 refine wpAny_bind (wpAny_updateSeq gS2 rfl ?_)
 have gS3:=Heap.get?_update_self (Obj.mapSeq (·.push Value.none)) gS2 rfl
 refine wpAny_updateSeq (hz:=by seq_fits) gS3 rfl ?_
 have gS4:=Heap.get?_update_self (Obj.mapSeq (·.pop)) gS3 rfl
 have oth:∀ b o,b≠s.heap.objs.size->h2.get? b=some o->((h2.update s.heap.objs.size (Obj.mapSeq (·.push Value.none))).update s.heap.objs.size (Obj.mapSeq (·.pop))).get? b=some o :=
  λb o hb e=>(Heap.get?_update_other _ _ (Ne.symm hb)).trans ((Heap.get?_update_other _ _ (Ne.symm hb)).trans e)
 exact wpAny_pure ⟨plainId_quiet PySem.F.plain_extend_loop _,codeAny_mono (loop _ _ (W.frame 0 _ _ st λb hb o e=>oth b o (λz=>nI (z▸hb)) e) oth gS4) λr s' ⟨v,e,x⟩=>by subst e;exact x⟩
end
end Sst
namespace L2
open PySem PySem.Spec PyProof.Rows
theorem jM (it t:Addr) (i:Nat) (items:Array Value) (hx:items[i]?=none):Meets (Builtin.«tuple_iterator.__next__» ⟨[.ref it],[]⟩)
  (λA R s=>A.handled=none/\s.heap.IsTupleIter it t i/\s.heap.IsTuple t items/\∀ h' e,Heap.ExtBut it s.heap h'->(∃ o,h'.get? e=some o/\o.cls=.type "StopIteration")->R (.error (.ref e)) { s with heap:=h' }) :=
 .of_wp λprog w A R s h=>by
  obtain⟨hn,⟨o,e,c,d⟩,⟨o2,e2,c2,n2,d2⟩,q⟩:=h
  have hx':items[(i:Int).toNat]?=none:=by simpa using hx
  wp_walk using wpAny_field (i:=0) (x:=Value.ref t) e d rfl,wpAny_field (i:=1) (x:=Value.int i 0) e d rfl,wpAny_seqItems e2 d2
  rw [hx']
  wp_walk using wpAny_setField e d (show 0<2 by decide)
  refine wpAny_raiseNew_none hn (q _ _ (λb o hb e=>Heap.get?_push_of_some _ (Heap.get?_push_of_some _ ((Heap.get?_update_other _ _ (Ne.symm hb)).trans e))) ⟨_,Heap.get?_push_size _ rfl,rfl⟩)
section
variable {prog:Program} {w:World} {A:Around} {E:Value->Shared->Prop} {s:Shared} {it t:Addr} {i:Nat} {items:Array Value} {Q:Value->Shared->Prop}
theorem fu (hn:A.handled=none) (h1:s.heap.IsTupleIter it t i) (h2:s.heap.IsTuple t items) (hx:items[i]?=none) (q:∀ h' e,Heap.ExtBut it s.heap h'->(∃ o,h'.get? e=some o/\o.cls=.type "StopIteration")->E (.ref e) { s with heap:=h' }) :
  wpAny (model prog w) A (Builtin.SmallTypes.nextOf (.ref it)) Q E s:=by
 have ty:s.TypeIs (.ref it) "tuple_iterator":=by obtain⟨o,e,c,_⟩:=h1;exact⟨o,e,c⟩
 unfold Builtin.SmallTypes.nextOf
 exact wpAny_bind (wpAny_callSpecial?_slot ty slot_tupleiter_next (call_meets slot_tupleiter_next ty entry_tupleiter_next (args_tupleiter_next _) (jM it t i items hx) ⟨hn,h1,h2,λh' e a b=>q h' e a b⟩))
end
inductive Sd
 | l
 | t
def Sd.It:Sd->Heap->Addr->Addr->Nat->Prop
 | .l=>Heap.IsListIter
 | .t=>Heap.IsTupleIter
def Sd.Sq:Sd->Heap->Addr->Array Value->Prop
 | .l=>Heap.IsList
 | .t=>Heap.IsTuple
def Sd.io (k:Sd) (a:Addr):Obj:=match k with
 | .l=>{ cls:=.type "list_iterator",data:=.fields #[.ref a,.int 0 0] }
 | .t=>{ cls:=.type "tuple_iterator",data:=.fields #[.ref a,.int 0 0] }
theorem Sd.It.at {k:Sd} {h h':Heap} {it a:Addr} {i:Nat} (x:k.It h it a i) (e:∀ o,h.get? it=some o->h'.get? it=some o):k.It h' it a i:=by
 cases k<;>(obtain⟨o,e1,r⟩:=x;exact⟨o,e o e1,r⟩)
theorem Sd.It.there {k:Sd} {h:Heap} {it a:Addr} {i:Nat} (x:k.It h it a i):∃ o,h.get? it=some o/\∀ v,o.data≠.cell v:=by
 cases k<;>(obtain⟨o,e1,_,d⟩:=x;exact⟨o,e1,λv z=>by rw [d] at z;cases z⟩)
theorem Sd.Sq.at {k:Sd} {h h':Heap} {a:Addr} {xs:Array Value} (x:k.Sq h a xs) (e:∀ o,h.get? a=some o->h'.get? a=some o):k.Sq h' a xs:=by
 cases k<;>(obtain⟨o,e1,r⟩:=x;exact⟨o,e o e1,r⟩)
theorem Sd.start (k:Sd) {h:Heap} {it a:Addr} (e:h.get? it=some (k.io a)):k.It h it a 0:=by
 cases k<;>exact⟨_,e,rfl,rfl⟩
section
variable {prog:Program} {w:World} {A:Around} {E:Value->Shared->Prop} {s:Shared} {it a:Addr} {i:Nat} {xs:Array Value} {Q:Value->Shared->Prop} {k:Sd}
theorem Sd.fin (hn:A.handled=none) (h1:k.It s.heap it a i) (h2:k.Sq s.heap a xs) (hx:xs[i]?=none) (q:∀ h' e,Heap.ExtBut it s.heap h'->(∃ o,h'.get? e=some o/\o.cls=.type "StopIteration")->E (.ref e) { s with heap:=h' }) :
  wpAny (model prog w) A (Builtin.SmallTypes.nextOf (.ref it)) Q E s:=by
 cases k
 ·exact wpAny_nextOf_list_end hn h1 h2 hx q
 ·exact fu hn h1 h2 hx q
end
section
variable {prog:Program} {w:World} {A:Around} {E:Value->Shared->Prop} {s:Shared}
end
end L2
namespace Num
theorem tW {p x y:Int} {m:Nat} (h:Al p x y) (o:Ord p x m):Ord p y m:=⟨o.pos,(h.pow m).symm.trans o.one,λj z=>o.dv j ((h.pow j).trans z)⟩
def eN:List (Int × Int)->Nat
 | []=>1
 | p::r=>p.1.toNat^p.2.toNat*eN r
theorem dY:∀ a b:List (Int × Int),eN (a++b)=eN a*eN b
 | [],b=>by simp [eN]
 | p::r,b=>by
  show p.1.toNat^p.2.toNat*eN (r++b)=p.1.toNat^p.2.toNat*eN r*eN b
  rw [dY r b,Nat.mul_assoc]
theorem kJ:∀ a:List (Int × Int),(∀ p∈a,Pm p.1)->(eN a:Int)=aJ a
 | [],_=>rfl
 | p::r,h=>by
  have t:=(h p (List.mem_cons_self ..)).two
  show ((p.1.toNat^p.2.toNat*eN r:Nat):Int)=p.1^p.2.toNat*aJ r
  rw [Int.natCast_mul,Int.natCast_pow,kJ r λx z=>h x (List.mem_cons_of_mem _ z),show (p.1.toNat:Int)=p.1 by omega]
theorem jV:∀ a:List (Int × Int),(∀ p∈a,Pm p.1)->0<eN a
 | [],_=>Nat.one_pos
 | p::r,h=>by
  have t:=(h p (List.mem_cons_self ..)).two
  exact Nat.mul_pos (Nat.pow_pos (by omega)) (jV r λx z=>h x (List.mem_cons_of_mem _ z))
theorem sW {q m:Nat} (h:Nm q) (hm:¬q∣m) (k:Nat):Nat.Coprime (q^k) m:=Nat.Coprime.pow_left k (h.co hm)
theorem u6 {q:Int} (hq:Pm q) {b:List (Int × Int)} (hb:∀ p∈b,Pm p.1) (ne:∀ p∈b,p.1≠q):¬q.toNat∣eN b:=λz=>by
 have t:=hq.two
 have:q∣aJ b:=by
  rw [<- kJ b hb]
  have:=Int.natCast_dvd_natCast.mpr z
  rwa [show (q.toNat:Int)=q by omega] at this
 obtain⟨p,hp,e⟩:=dP hq hb this
 exact ne p hp e
theorem rq {b:List (Int × Int)} (hb:∀ p∈b,Pm p.1):∀ a:List (Int × Int),(∀ p∈a,Pm p.1)->(∀ x∈a,∀ y∈b,y.1≠x.1)->Nat.Coprime (eN a) (eN b)
 | [],_,_=>Nat.coprime_one_left _
 | p::r,h,ne=>by
  have hp:=h p (List.mem_cons_self ..)
  exact Nat.Coprime.mul_left (sW (rN hp) (u6 hp hb (ne p (List.mem_cons_self ..))) _) (rq hb r (λx z=>h x (List.mem_cons_of_mem _ z)) λx z=>ne x (List.mem_cons_of_mem _ z))
theorem qB {n a:Int} {q t:Nat} (hq:Nm q) (h:Al n (a^q^t) 1) (no:∀ j,j<t->¬Al n (a^q^j) 1):Ord n a (q^t):=by
 have q2:=hq.1
 obtain⟨m,o,_⟩:=kf (N:=q^t) (Nat.pow_pos (by omega)) h
 have d:=o.dv _ h
 cases t with
 | zero =>
  have:m=1:=Nat.eq_one_of_dvd_one (by simpa using d)
  rw [this] at o
  simpa using o
 | succ k =>
  have:m=q^(k+1):=kU hq k m d λz=>no k (Nat.lt_succ_self _) (by
   obtain⟨c,hc⟩:=z
   rw [hc]
   exact aQ o.one)
  rw [<- this]
  exact o
theorem bN {a:Int} {x y:Nat}:(a^x)^y=a^(x*y):=by rw [Int.pow_mul]
theorem kg {n a:Int} {M1 M2 E1 E2:Nat} (co:Nat.Coprime M1 M2) (p1:0<M1) (p2:0<M2) (h:Al n (a^(M1*M2)) 1) (o1:Ord n (a^M2) E1) (o2:Ord n (a^M1) E2):Ord n a (E1*E2):=by
 have d1:E1∣M1:=o1.dv M1 (by rw [bN,Nat.mul_comm];exact h)
 have d2:E2∣M2:=o2.dv M2 (by rw [bN];exact h)
 obtain⟨c1,hc1⟩:=d1
 obtain⟨c2,hc2⟩:=d2
 obtain⟨e,o,_⟩:=kf (Nat.mul_pos p1 p2) h
 have x1:e∣M2*E1:=o.dv _ (by rw [<- bN];exact o1.one)
 have x2:e∣M1*E2:=o.dv _ (by rw [<- bN];exact o2.one)
 have cc:Nat.Coprime c2 c1:=by
  have:Nat.Coprime c1 c2:=Nat.Coprime.coprime_dvd_left ⟨E1,by rw [hc1,Nat.mul_comm]⟩ (Nat.Coprime.coprime_dvd_right ⟨E2,by rw [hc2,Nat.mul_comm]⟩ co)
  exact this.symm
 have x3:e∣E1*E2:=by
  have:=Nat.dvd_gcd x1 x2
  rw [show M2*E1=E1*E2*c2 by rw [hc2];rw [Nat.mul_comm (E2*c2) E1,Nat.mul_assoc],show M1*E2=E1*E2*c1 by rw [hc1];rw [Nat.mul_assoc,Nat.mul_comm c1 E2,Nat.mul_assoc],Nat.gcd_mul_left,cc.gcd_eq_one,Nat.mul_one] at this
  exact this
 have ce:Nat.Coprime E1 E2:=Nat.Coprime.coprime_dvd_left ⟨c1,hc1⟩ (Nat.Coprime.coprime_dvd_right ⟨c2,hc2⟩ co)
 refine⟨Nat.mul_pos o1.pos o2.pos,?_,λj hj=>?_⟩
 ·obtain⟨c,hc⟩:=x3
  rw [hc]
  exact aQ o.one
 ·refine ce.mul_dvd_of_dvd_of_dvd (o1.dv j ?_) (o2.dv j ?_)
  ·rw [bN,Nat.mul_comm,<- bN]
   have:=hj.pow M2
   rwa [Int.one_pow] at this
  ·rw [bN,Nat.mul_comm,<- bN]
   have:=hj.pow M1
   rwa [Int.one_pow] at this
structure TO (n a:Int) (ps:List (Int × Int)) (ts:List Int):Prop where
 len:ts.length=ps.length
 nn:∀ t∈ts,0<=t
 ord:Ord n a (eN ((ps.map (·.1)).zip ts))
theorem TO.al {n a b:Int} {ps:List (Int × Int)} {ts:List Int} (h:TO n a ps ts) (e:Al n a b):TO n b ps ts:=⟨h.len,h.nn,tW e h.ord⟩
theorem TO.none {n a:Int} (h:Al n a 1):TO n a [] []:=⟨rfl,λ_ z=>by simp at z,⟨Nat.one_pos,by show Al n (a^1) 1;rw [Int.pow_one];exact h,λj _=>Nat.one_dvd j⟩⟩
theorem TO.one {n a q k:Int} {t:Nat} (hq:Pm q) (h:Al n (a^q.toNat^t) 1) (no:∀ j,j<t->¬Al n (a^q.toNat^j) 1):TO n a [(q,k)] [(t:Int)]:=by
 refine⟨rfl,λx z=>?_,?_⟩
 ·rw [List.mem_singleton.mp z];omega
 ·show Ord n a (q.toNat^(t:Int).toNat*1)
  rw [Nat.mul_one,Int.toNat_natCast]
  exact qB (rN hq) h no
theorem TO.two {n a:Int} {as bs:List (Int × Int)} {ts us:List Int} (ha:∀ p∈as,Pm p.1) (hb:∀ p∈bs,Pm p.1) (ne:∀ x∈as,∀ y∈bs,y.1≠x.1) (h:Al n (a^eN (as++bs)) 1) (h1:TO n (a^eN bs) as ts) (h2:TO n (a^eN as) bs us):TO n a (as++bs) (ts++us):=by
 refine⟨by rw [List.length_append,List.length_append,h1.len,h2.len],λt z=>(List.mem_append.mp z).elim (h1.nn t) (h2.nn t),?_⟩
 rw [List.map_append,List.zip_append (by rw [List.length_map,h1.len]),dY]
 rw [dY] at h
 exact kg (rq hb as ha ne) (jV as ha) (jV bs hb) h h1.ord h2.ord
end Num
namespace L2
open PySem PySem.Spec PyProof.Rows
end L2
namespace L2
open PySem PySem.Spec PyProof.Rows PySem.W
end L2
namespace Stp
open PySem PyProof.Rows
structure SB (κ:SortKind) (a₀:Array Keyed) (st:SortSt):Prop where
 perm:(arrOf st).Perm a₀
 kind:kindOf st=κ
 failed:failedOf st=none
 pend:pendingOf st=#[]
theorem SB.size {κ:SortKind} {a₀:Array Keyed} {st:SortSt} (h:SB κ a₀ st):(arrOf st).size=a₀.size:=h.perm.size_eq
theorem SB.set {κ:SortKind} {a₀:Array Keyed} {st:SortSt} (h:SB κ a₀ st) {xs:Array Keyed} (hp:xs.Perm (arrOf st)):SB κ a₀ (setArr st xs) :=
 ⟨hp.trans h.perm,h.kind,h.failed,h.pend⟩
section
variable {prog:Program} {w:World} {A:Around} {E:Value->Shared->Prop} {s:Shared} {a₀:Array Keyed} {κ:SortKind}
theorem at_ {st:SortSt} (h:SB κ a₀ st) {i:Nat} (hi:i<a₀.size):∃ x∈a₀.toList,(arrOf st)[i]?=some x:=by
 have hi':i<(arrOf st).size:=by rw [h.size];exact hi
 have hm:(arrOf st)[i]∈a₀.toList:=(Array.perm_iff_toList_perm.mp h.perm).mem_iff.mp (by simp)
 exact⟨_,hm,getElem?_pos (arrOf st) i hi'⟩
def Dn (a₀:Array Keyed) (st:SortSt):Prop:=(arrOf st).Perm a₀/\failedOf st=none/\pendingOf st=#[(0,a₀.size,0)]
theorem SB.done {st:SortSt} (hB:SB κ a₀ st):Dn a₀ (setPending st ((pendingOf st).push (0,a₀.size,0))) :=
 ⟨hB.perm,hB.failed,by show (pendingOf st).push _=_;rw [hB.pend];rfl⟩
def gP (h:Heap) (v:Value):Prop:=∃ a x y t u,v=.ref a/\IsTup h a #[.int x t,.int y u]
theorem fU (b:Bool) (x y:Value):keyLt' (tuples' b) x y=(do
  let xs <- Builtin.List.listItems x;let ys <- Builtin.List.listItems y
  for ((p,q),i) in (xs.toList.zip ys.toList).zipIdx do
   if !(<- eqBool p q) then return <- oneLt' (b && i==0) p q
  return xs.size<ys.size):=rfl
theorem d7 (v:Value):firstOfTuple' v=(do
 if (<- typeOf v) != .type "tuple" then return none
 return (<- Builtin.List.listItems v)[0]?):=rfl
theorem tu {v:Value} {Q:Option Value->Shared->Prop} (hv:gP s.heap v) (h:∀ n t,Q (some (.int n t)) s):wpAny (model prog w) A (firstOfTuple' v) Q E s:=by
 obtain⟨a,x1,x2,t1,t2,rfl,o,ho,hc,n,hd⟩:=hv
 rw [d7]
 refine wpAny_bind (wpAny_typeOf (T := "tuple") ⟨o,ho,hc⟩ ?_)
 rw [if_neg (by simp)]
 refine wpAny_bind (listItems_at ho hd (wpAny_pure (h _ _)))
theorem kL:∀{vs:List Value} {Q:List (Option Value)->Shared->Prop},(∀ v∈vs,gP s.heap v)->(∀ us ns,IntsAre us ns->us.length=vs.length->Q (us.map some) s)->wpAny (model prog w) A (vs.mapM firstOfTuple') Q E s
 | [],Q,_,h=>by
  rw [List.mapM_nil]
  exact wpAny_pure (h [] [] .nil rfl)
 | v::vs,Q,hv,h=>by
  rw [List.mapM_cons]
  refine wpAny_bind (tu (hv v (List.mem_cons_self ..)) λn t=>?_)
  refine wpAny_bind (kL (λv hv'=>hv v (List.mem_cons_of_mem _ hv')) λus ns hu hl=>?_)
  exact wpAny_pure (h (.int n t::us) (n::ns) (.cons n t hu) (by rw [List.length_cons,List.length_cons,hl]))
theorem vo {vs:List Value} {Q:SortKind->Shared->Prop} (hv:∀ v∈vs,gP s.heap v) (h:∀ b,Q (tuples' b) s):wpAny (model prog w) A (keyKind' vs.toArray) Q E s:=by
 rw [keyKind'_eq,List.mapM_toArray]
 refine wpAny_bind (wpAny_map (kL hv λus ns hu hl=>?_))
 rw [if_pos (by simp)]
 refine wpAny_bind (wpAny_rule ?_)
 have e:(us.map some).toArray.filterMap id=us.toArray:=by simp
 rw [e,oneTypeOnly'_eq,List.mapM_toArray,mapM_typeOf_ints hu]
 simp only [map_pure,pure_bind]
 split<;>simp only [pure_bind]<;>exact wpAny_pure (h _)
end
end Stp
namespace L2
open PySem PySem.Spec PyProof.Rows
end L2
namespace Stp
open PySem PyProof.Rows
variable {R:Value->Int}
def kk (R:Value->Int) (xs:Array Keyed) (i:Nat):Int:=(xs[i]?.map λx=>R x.1).getD 0
def Up (R:Value->Int) (xs:Array Keyed) (k:Nat):Prop:=∀ i j,i<j->j<k->kk R xs i<kk R xs j
def Down (R:Value->Int) (xs:Array Keyed) (k:Nat):Prop:=∀ i j,i<j->j<k->kk R xs j<kk R xs i
def Un (R:Value->Int) (xs:Array Keyed):Prop:=(xs.toList.map λx=>R x.1).Nodup
theorem Un.ne {xs:Array Keyed} (h:Un R xs) {i j:Nat} (ij:i<j) (hj:j<xs.size):kk R xs i≠kk R xs j:=by
 intro e
 unfold kk at e
 rw [Array.getElem?_eq_getElem hj,Array.getElem?_eq_getElem (by omega)] at e
 have hj':j<(xs.toList.map λx=>R x.1).length:=by simpa using hj
 have:=(List.pairwise_iff_getElem.mp h) i j (by omega) hj' ij
 simp only [List.getElem_map,Array.getElem_toList] at this
 exact this e
theorem SB.un {κ:SortKind} {a₀:Array Keyed} {st:SortSt} (h:SB κ a₀ st) (u:Un R a₀):Un R (arrOf st) :=
 (((Array.perm_iff_toList_perm.mp h.perm).map λx:Keyed=>R x.1).nodup_iff).mpr u
section
variable {prog:Program} {w:World} {A:Around} {E:Value->Shared->Prop} {s:Shared} {a₀:Array Keyed} {κ:SortKind}
def iV (prog:Program) (w:World) (A:Around) (s:Shared) (κ:SortKind) (R:Value->Int) (a₀:Array Keyed):Prop:=∀ x∈a₀.toList,∀ y∈a₀.toList,∀(Q:Bool->Shared->Prop) (E:Value->Shared->Prop),Q (decide (R x.1<R y.1)) s->wpAny (model prog w) A (keyLt' κ x.1 y.1) Q E s
theorem vw {st:SortSt} {i j:Nat} {Q:Option Bool->SortSt->Prop} (hC:iV prog w A s κ R a₀) (hB:SB κ a₀ st) (hi:i<a₀.size) (hj:j<a₀.size)
  (h:Q (some (decide (kk R (arrOf st) i<kk R (arrOf st) j))) st):wpS (model prog w) A E s (ltAt' i j) Q st:=by
 obtain⟨x,hx,ex⟩:=at_ hB hi
 obtain⟨y,hy,ey⟩:=at_ hB hj
 have h1:kk R (arrOf st) i=R x.1:=by unfold kk;rw [ex];rfl
 have h2:kk R (arrOf st) j=R y.1:=by unfold kk;rw [ey];rfl
 rw [h1,h2] at h
 rw [ltAt'_eq]
 refine wpS_bind (wpS_get ?_)
 show wpS _ _ _ _ (do let x <- elem' (arrOf st) i;let y <- elem' (arrOf st) j;lt' x y) Q st
 rw [elem'_eq,elem'_eq,ex,ey]
 refine wpS_bind (wpS_pure (wpS_bind (wpS_pure ?_)))
 rw [lt'_eq]
 refine wpS_bind (wpS_get ?_)
 rw [hB.kind]
 exact wpS_bind (wpS_lift (wpAny_attempt (hC x hx y hy _ _ ⟨rfl,wpS_pure h⟩)))
theorem Up.step {xs:Array Keyed} {x:Nat} (h:Up R xs x) (h0:1<=x) (l:kk R xs (x-1)<kk R xs x):Up R xs (x+1):=λi j ij jx=>by
 rcases (by omega:j<x∨j=x) with z | z
 ·exact h i j ij z
 ·subst z
  rcases (by omega:i=j-1∨i<j-1) with y | y
  ·subst y;exact l
  ·have:=h i (j-1) y (by omega)
   omega
theorem Down.step {xs:Array Keyed} {x:Nat} (h:Down R xs x) (h0:1<=x) (l:kk R xs x<kk R xs (x-1)):Down R xs (x+1):=λi j ij jx=>by
 rcases (by omega:j<x∨j=x) with z | z
 ·exact h i j ij z
 ·subst z
  rcases (by omega:i=j-1∨i<j-1) with y | y
  ·subst y;exact l
  ·have:=h i (j-1) y (by omega)
   omega
theorem uW {st:SortSt} {a nrem:Nat} {Q:AscSt->SortSt->Prop} (hC:iV prog w A s κ R a₀) (hD:Un R a₀) (hn:nrem<=a₀.size) (ha:1<=a) (han:a<=nrem) (hB:SB κ a₀ st) (hU:Up R (arrOf st) a)
  (h:∀ n,a<=n->n<=nrem->Up R (arrOf st) n->(n=nrem∨kk R (arrOf st) n<kk R (arrOf st) (n-1))->Q (none,n) st):wpS (model prog w) A E s (ascLoop a nrem) Q st:=by
 unfold ascLoop
 refine wpS_forRange (I:=λx c st'=>st'=st/\c=(none,x)/\Up R (arrOf st) x) ?step ?fin ⟨rfl,rfl,hU⟩
 case fin =>
  rintro c st' ⟨rfl,rfl,hU'⟩
  have e:a+(nrem-a)=nrem:=by omega
  first
   | exact h _ (by omega) (by omega) hU' (.inl (by omega))
   | (rw [e] at hU' ⊢;exact h _ (by omega) (by omega) hU' (.inl rfl))
 case step =>
  rintro x c st' hax hxn ⟨rfl,rfl,hU'⟩
  dsimp only
  refine wpS_bind (vw hC hB (by omega) (by omega) ?_)
  by_cases c:kk R (arrOf st') x<kk R (arrOf st') (x-1)
  ·rw [decide_eq_true c]
   exact wpS_pure (h x hax (by omega) hU' (.inr c))
  ·rw [decide_eq_false c]
   have:=(hB.un hD).ne (i:=x-1) (j:=x) (by omega) (by rw [hB.size];omega)
   exact wpS_pure ⟨rfl,rfl,hU'.step (by omega) (by omega)⟩
theorem lS {xs:Array Keyed} {n:Nat} (hn:n<=xs.size) (h:Down R xs n):Up R (mirror xs 0 n ((n-0)/2)) n:=λi j ij jn=>by
 have e:∀ k,k<n->kk R (mirror xs 0 n ((n-0)/2)) k=kk R xs (n-1-k):=λk hk=>by
  unfold kk
  rw [getElem?_mirror_all hn,if_pos ⟨Nat.zero_le _,hk⟩,Nat.zero_add]
 rw [e i (by omega),e j jn]
 exact h _ _ (by omega) (by omega)
theorem xI {st:SortSt} {n nrem:Nat} {Q:Option Nat->SortSt->Prop} (hC:iV prog w A s κ R a₀) (hD:Un R a₀) (hn:nrem<=a₀.size) (h1:1<=n) (hnn:n<=nrem) (hB:SB κ a₀ st) (hDn:Down R (arrOf st) n)
  (h:∀ m st',SB κ a₀ st'->m<=nrem->Up R (arrOf st') m->Q (some m) st'):wpS (model prog w) A E s (tail3 n nrem) Q st:=by
 unfold tail3
 have hB':SB κ a₀ (setArr st (mirror (arrOf st) 0 n ((n-0)/2))):=hB.set (mirror_perm _ _ _ _)
 exact wpS_bind (wpS_reverse (wpS_bind (uW hC hD hn h1 hnn hB' (lS (by rw [hB.size];omega) hDn) λm _ hm hU _=>wpS_pure (h m _ hB' hm hU))))
theorem uZ {st:SortSt} {n nrem:Nat} {Q:DescSt->SortSt->Prop} (hC:iV prog w A s κ R a₀) (hD:Un R a₀) (hn:nrem<=a₀.size) (h1:1<=n) (hnn:n<=nrem) (hB:SB κ a₀ st) (hDn:Down R (arrOf st) n)
  (h:∀ m,n<=m->m<=nrem->Down R (arrOf st) m->Q (none,m,0) st):wpS (model prog w) A E s (descLoop n nrem) Q st:=by
 unfold descLoop
 refine wpS_forRange (I:=λx c st'=>st'=st/\c=(none,x,0)/\Down R (arrOf st) x) ?step ?fin ⟨rfl,rfl,hDn⟩
 case fin =>
  rintro c st' ⟨rfl,rfl,hD'⟩
  exact h _ (by omega) (by omega) hD'
 case step =>
  rintro x c st' hax hxn ⟨rfl,rfl,hD'⟩
  dsimp only
  refine wpS_bind (vw hC hB (by omega) (by omega) ?_)
  by_cases c:kk R (arrOf st') x<kk R (arrOf st') (x-1)
  ·rw [decide_eq_true c]
   simp only [if_true]
   rw [if_neg (by omega)]
   exact wpS_pure ⟨rfl,rfl,hD'.step (by omega) c⟩
  ·rw [decide_eq_false c]
   simp only [Bool.false_eq_true,if_false]
   have:=(hB.un hD).ne (i:=x-1) (j:=x) (by omega) (by rw [hB.size];omega)
   refine wpS_bind (vw hC hB (by omega) (by omega) ?_)
   rw [decide_eq_true (show kk R (arrOf st') (x-1)<kk R (arrOf st') x by omega)]
   exact wpS_pure (h x hax (by omega) hD')
theorem sZ {st:SortSt} {n nrem:Nat} {Q:Option Nat->SortSt->Prop} (hC:iV prog w A s κ R a₀) (hD:Un R a₀) (hn:nrem<=a₀.size) (hnn:n+1<=nrem) (hB:SB κ a₀ st) (hDn:Down R (arrOf st) (n+1))
  (h:∀ m st',SB κ a₀ st'->m<=nrem->Up R (arrOf st') m->Q (some m) st'):wpS (model prog w) A E s (descPart n nrem) Q st:=by
 unfold descPart
 refine wpS_bind (wpS_lift (wpAny_rule ⟨rfl,?_⟩))
 refine wpS_bind (uZ hC hD hn (by omega) hnn hB hDn λm hm1 hm2 hDm=>?_)
 dsimp only
 rw [if_neg (by omega)]
 exact xI hC hD hn (by omega) hm2 hB hDm h
theorem wX {st:SortSt} {nrem:Nat} {Q:Option Nat->SortSt->Prop} (hC:iV prog w A s κ R a₀) (hD:Un R a₀) (hn:nrem<=a₀.size) (h1:1<=nrem) (hB:SB κ a₀ st)
  (h:∀ m st',SB κ a₀ st'->m<=nrem->Up R (arrOf st') m->Q (some m) st'):wpS (model prog w) A E s (countRun' 0 nrem) Q st:=by
 rw [countRun0_eq]
 refine wpS_bind (uW hC hD hn (Nat.le_refl 1) h1 hB (λi j ij j1=>by omega) λn hn1 hn2 hU hend=>?_)
 dsimp only
 by_cases hnn:n=nrem
 ·rw [if_pos (by simpa using hnn)]
  exact wpS_pure (h n st hB hn2 hU)
 ·rw [if_neg (by simpa using hnn)]
  have he:kk R (arrOf st) n<kk R (arrOf st) (n-1):=hend.resolve_left hnn
  by_cases hgt:n > 1
  ·rw [if_pos hgt]
   refine wpS_bind (vw hC hB (by omega) (by omega) ?_)
   have:=hU 0 (n-1) (by omega) (by omega)
   first
    | rw [decide_eq_true this]
    | rw [show 0+n-1=n-1 by omega,decide_eq_true this]
   exact wpS_pure (h n st hB hn2 hU)
  ·rw [if_neg hgt]
   have n1:n=1:=by omega
   subst n1
   refine sZ hC hD hn (by omega) hB (λi j ij j1=>?_) h
   have e1:j=1:=by omega
   have e2:i=0:=by omega
   subst e1 e2
   exact he
theorem wW {st:SortSt} {n ok:Nat} {Q:Bool->SortSt->Prop} (hC:iV prog w A s κ R a₀) (hD:Un R a₀) (hn:n<=a₀.size) (hok:ok<=n) (hB:SB κ a₀ st) (hU:Up R (arrOf st) ok)
  (h:∀ st',SB κ a₀ st'->Up R (arrOf st') n->Q true st'):wpS (model prog w) A E s (binarySort' 0 n ok) Q st:=by
 rw [binarySort'_eq]
 simp only [Nat.zero_add]
 by_cases h0:n<max ok 1
 ·have en:ok=n∨n=0:=by omega
  refine wpS_bind (wpS_mono (wpS_forRange (I:=λk c st'=>c=(none,())/\st'=st) (Q:=λc st'=>c=(none,())/\st'=st) (λk c st' h1 h2 _=>absurd h2 (by omega)) (λ_ _ z=>z) ⟨rfl,rfl⟩) ?_)
  rintro c st' ⟨rfl,rfl⟩
  refine wpS_pure (h _ hB ?_)
  rcases en with z | z
  ·rw [<- z];exact hU
  ·intro i j ij jn;omega
 refine wpS_bind (wpS_mono (wpS_forRange (I:=λk c st'=>c=(none,())/\SB κ a₀ st'/\Up R (arrOf st') k) (Q:=λc st'=>c=(none,())/\SB κ a₀ st'/\Up R (arrOf st') n) ?step ?fin ⟨rfl,hB,λi j ij jn=>?_⟩) ?post)
 case fin =>
  rintro c st' ⟨rfl,hB',hU'⟩
  first
   | exact⟨rfl,hB',hU'⟩
   | (rw [show max (max ok 1) n=n by omega] at hU';exact⟨rfl,hB',hU'⟩)
 case post =>
  rintro c st' ⟨rfl,hB',hU'⟩
  exact wpS_pure (h st' hB' hU')
 case step =>
  rintro k c st' hak hkn ⟨rfl,hB',hU'⟩
  have hk:k<a₀.size:=by omega
  have hne:=λi (hi:i<k)=>(hB'.un hD).ne hi (by rw [hB'.size];exact hk)
  refine wpS_bind (wpS_mono (wpS_forRange (I:=λx c st''=>st''=st'/\∃ l r,c=(none,l,r)/\l<=r/\r<=k/\r-l<=k-x/\(∀ i,i<l->kk R (arrOf st') i<kk R (arrOf st') k)/\∀ i,r<=i->i<k->kk R (arrOf st') k<kk R (arrOf st') i)
   (Q:=λc st''=>st''=st'/\∃ l,c=(none,l,l)/\l<=k/\(∀ i,i<l->kk R (arrOf st') i<kk R (arrOf st') k)/\∀ i,l<=i->i<k->kk R (arrOf st') k<kk R (arrOf st') i) ?istep ?ifin ⟨rfl,0,k,rfl,by omega,Nat.le_refl _,by omega,λi hi=>by omega,λi h1 h2=>by omega⟩) ?ipost)
  case ifin =>
   rintro c st'' ⟨rfl,l,r,rfl,hlr,hrk,hm,h1,h2⟩
   have e:l=r:=by omega
   subst e
   exact⟨rfl,l,rfl,hrk,h1,h2⟩
  case istep =>
   rintro x c st'' _ hxk ⟨rfl,l,r,rfl,hlr,hrk,hm,h1,h2⟩
   dsimp only
   by_cases hge:l≥r
   ·rw [if_pos hge]
    have e:l=r:=by omega
    subst e
    exact wpS_pure ⟨rfl,l,rfl,hrk,h1,h2⟩
   ·rw [if_neg hge]
    refine wpS_bind (vw hC hB' hk (by omega) ?_)
    by_cases c:kk R (arrOf st'') k<kk R (arrOf st'') ((l+r)/2)
    ·rw [decide_eq_true c]
     refine wpS_pure ⟨rfl,l,(l+r)/2,rfl,by omega,by omega,by omega,h1,λi hi hik=>?_⟩
     rcases (by omega:i=(l+r)/2∨(l+r)/2<i) with z | z
     ·rw [z];exact c
     ·have:=hU' ((l+r)/2) i z hik
      omega
    ·rw [decide_eq_false c]
     refine wpS_pure ⟨rfl,(l+r)/2+1,r,rfl,by omega,hrk,by omega,λi hi=>?_,h2⟩
     have n1:=hne ((l+r)/2) (by omega)
     rcases (by omega:i=(l+r)/2∨i<(l+r)/2) with z | z
     ·rw [z];omega
     ·have:=hU' i ((l+r)/2) z (by omega)
      omega
  case ipost =>
   rintro c st'' ⟨rfl,l,rfl,hlk,h1,h2⟩
   show wpS _ _ _ _ (do moveDown' k l;pure (ForInStep.yield (none,()))) _ _
   rw [moveDown'_eq]
   refine wpS_bind (wpS_modify (wpS_pure ⟨rfl,hB'.set (bubble_perm _ _ _),?_⟩))
   show Up R (bubble (arrOf st'') k (k-l)) (k+1)
   have e:∀ i,kk R (bubble (arrOf st'') k (k-l)) i=if i=l then kk R (arrOf st'') k else if l<i/\i<=k then kk R (arrOf st'') (i-1) else kk R (arrOf st'') i:=λi=>by
    unfold kk
    rw [getElem?_bubble (by rw [hB'.size];exact hk) _ (by omega),show k-(k-l)=l by omega]
    split
    ·rfl
    ·split<;>rfl
   intro i j ij jk
   rw [e i,e j]
   have hs:=λa b (h1:a<b) (h2:b<k)=>hU' a b h1 h2
   split
   ·rename_i c1
    rw [if_neg (by omega),if_pos ⟨by omega,by omega⟩]
    exact h2 _ (by omega) (by omega)
   ·rename_i c1
    split
    ·rename_i c2
     rw [if_neg (by omega),if_pos ⟨by omega,by omega⟩]
     exact hs _ _ (by omega) (by omega)
    ·rename_i c2
     split
     ·exact h1 i (by omega)
     ·rename_i c3
      split
      ·rename_i c4
       rcases (by omega:i<j-1∨i=j-1) with z | z
       ·exact hs _ _ z (by omega)
       ·omega
      ·exact hs _ _ ij (by omega)
 ·rcases (by omega:ok=max ok 1∨max ok 1=1) with z | z
  ·rw [<- z] at jn;exact hU i j ij jn
  ·omega
theorem vU {st:SortSt} {Q:Unit->SortSt->Prop} (hC:iV prog w A s κ R a₀) (hD:Un R a₀) (hB:SB κ a₀ st) (h2:2<=a₀.size) (h64:a₀.size<64)
  (h:∀ st',(arrOf st').Perm a₀->failedOf st'=none->Up R (arrOf st') a₀.size->Q () st'):wpS (model prog w) A E s sortRuns' Q st:=by
 rw [sortRuns'_eq]
 refine wpS_bind (wpS_get ?_)
 dsimp only
 have hmr:minRun' a₀.size a₀.size 0=a₀.size:=by
  obtain⟨f,hf⟩:∃ f,a₀.size=f+1:=⟨a₀.size-1,by omega⟩
  have:minRun' (f+1) a₀.size 0=a₀.size:=by rw [minRun'_succ,if_pos h64];rfl
  rwa [<- hf] at this
 simp only [hB.size,hmr]
 refine wpS_bind (wpS_mono (wpS_forRange
  (I:=λx c st'=>(x=0/\c=(none,0)/\SB κ a₀ st')∨(1<=x/\c=(none,a₀.size)/\Dn a₀ st'/\Up R (arrOf st') a₀.size))
  (Q:=λc st'=>c=(none,a₀.size)/\Dn a₀ st'/\Up R (arrOf st') a₀.size) ?step ?fin (.inl ⟨rfl,rfl,hB⟩)) ?post)
 case fin =>
  rintro c st' (⟨hx,_,_⟩|⟨_,hc,hD'⟩)
  ·omega
  ·exact⟨hc,hD'⟩
 case step =>
  rintro x c st' _ hx (⟨rfl,rfl,hB'⟩|⟨hx1,rfl,hD'⟩)
  ·dsimp only
   rw [if_neg (by omega)]
   simp only [Nat.sub_zero,Nat.min_self,Nat.zero_add]
   refine wpS_bind (wX hC hD (Nat.le_refl _) (by omega) hB' λm st2 hB2 hm2 hU2=>?_)
   dsimp only
   by_cases hlt:m<a₀.size
   ·rw [if_pos hlt]
    refine wpS_bind (wpS_lift (wpAny_rule ⟨rfl,?_⟩))
    refine wpS_bind (wW hC hD (Nat.le_refl _) (by omega) hB2 hU2 λst3 hB3 hU3=>?_)
    simp only [Bool.not_true,Bool.false_eq_true,if_false]
    refine wpS_bind (wpS_get ?_)
    have hb:(pendingOf st3).back?=none:=by rw [hB3.pend];rfl
    rw [hb]
    dsimp only
    exact wpS_bind (wpS_modify (wpS_pure (.inr ⟨by omega,rfl,hB3.done,hU3⟩)))
   ·rw [if_neg hlt]
    have hm:m=a₀.size:=by omega
    subst hm
    refine wpS_bind (wpS_get ?_)
    have hb:(pendingOf st2).back?=none:=by rw [hB2.pend];rfl
    rw [hb]
    dsimp only
    exact wpS_bind (wpS_modify (wpS_pure (.inr ⟨by omega,rfl,hB2.done,hU2⟩)))
  ·dsimp only
   rw [if_pos (Nat.le_refl _)]
   exact wpS_pure ⟨rfl,hD'⟩
 case post =>
  rintro c st' ⟨rfl,hD',hU'⟩
  dsimp only
  refine wpS_bind (wpS_mono (wpS_forRange (I:=λ_ c st''=>st''=st'/\c=(none,())) (Q:=λc st''=>st''=st'/\c=(none,())) ?_ (λ_ _ hh=>hh) ⟨rfl,rfl⟩) ?_)
  ·rintro x c st'' _ _ ⟨rfl,rfl⟩
   refine wpS_bind (wpS_get ?_)
   rw [if_pos (by rw [hD'.2.2];exact Nat.le_refl 1)]
   exact wpS_pure ⟨rfl,rfl⟩
  ·rintro c st'' ⟨rfl,rfl⟩
   exact wpS_pure (h _ hD'.1 hD'.2.1 hU')
def lA (R:Value->Int) (h:Heap) (v:Value):Prop:=∃ a x y t u,v=.ref a/\IsTup h a #[.int x t,.int y u]/\0<=y/\y<1048576/\R v=x*1048576+y
theorem lA.pair {h:Heap} {v:Value} (x:lA R h v):gP h v:=by
 obtain⟨a,x,y,t,u,e,i,_⟩:=x
 exact⟨a,x,y,t,u,e,i⟩
theorem kQ {b:Bool} {x y:Int} {t u:Tok} {Q:Bool->Shared->Prop} (h:Q (decide (x<y)) s):wpAny (model prog w) A (oneLt' b (.int x t) (.int y u)) Q E s:=by
 cases b with
 | true=>exact oneLt_int h
 | false =>
  rw [oneLt'_eq]
  simp only [Bool.false_eq_true,if_false]
  refine wpAny_bind (wpAny_richCompare_same (typeIs_int s x t) (typeIs_int s y u) slot_int_lt (call_int_lt ⟨(λz=>by cases z),?_⟩))
  exact wpAny_truthy_bool h
theorem oh {b:Bool} {x y:Value} {Q:Bool->Shared->Prop} (hx:lA R s.heap x) (hy:lA R s.heap y) (h:Q (decide (R x<R y)) s):wpAny (model prog w) A (keyLt' (tuples' b) x y) Q E s:=by
 obtain⟨a,x1,x2,t1,t2,rfl,⟨o,ho,hc,n,hd⟩,p0,p1,rx⟩:=hx
 obtain⟨a',y1,y2,u1,u2,rfl,⟨o',ho',hc',n',hd'⟩,q0,q1,ry⟩:=hy
 rw [rx,ry] at h
 rw [fU]
 refine wpAny_bind (listItems_at ho hd (wpAny_bind (listItems_at ho' hd' ?_)))
 have e:(#[Value.int x1 t1,Value.int x2 t2].toList.zip #[Value.int y1 u1,Value.int y2 u2].toList).zipIdx=[((Value.int x1 t1,Value.int y1 u1),0),((Value.int x2 t2,Value.int y2 u2),1)]:=rfl
 rw [e]
 rw [List.forIn_cons]
 refine wpAny_bind ?_
 refine wpAny_bind ?_
 dsimp only
 refine wpAny_bind (wpAny_eqBool_int ?_)
 cases c1:(x1==y1) with
 | false =>
  have ne:x1≠y1:=by simpa using c1
  rw [if_pos (by rfl)]
  refine wpAny_bind (kQ (wpAny_pure (wpAny_pure (wpAny_pure ?_))))
  rw [show decide (x1<y1)=decide (x1*1048576+x2<y1*1048576+y2) from decide_eq_decide.mpr (by omega)]
  exact h
 | true =>
  have eq:x1=y1:=by simpa using c1
  subst eq
  rw [if_neg (by decide)]
  refine wpAny_pure ?_
  dsimp only
  rw [List.forIn_cons]
  refine wpAny_bind ?_
  dsimp only
  refine wpAny_bind (wpAny_eqBool_int ?_)
  cases c2:(x2==y2) with
  | false =>
   rw [if_pos (by rfl)]
   refine wpAny_bind (kQ (wpAny_pure (wpAny_pure (wpAny_pure ?_))))
   rw [show decide (x2<y2)=decide (x1*1048576+x2<x1*1048576+y2) from decide_eq_decide.mpr (by omega)]
   exact h
  | true =>
   have eq:x2=y2:=by simpa using c2
   subst eq
   rw [if_neg (by decide)]
   refine wpAny_pure ?_
   dsimp only
   rw [List.forIn_nil]
   refine wpAny_pure (wpAny_pure ?_)
   rw [show decide (x1*1048576+x2<x1*1048576+x2)=false from decide_eq_false (by omega)] at h
   exact h
theorem sE:∀{l:List Int},(∀ i j,(ij:i<j)->(hj:j<l.length)->l[i]'(by omega)<l[j])->l.Pairwise (·<·):=λh=>List.pairwise_iff_getElem.mpr λi j hi hj ij=>h i j ij hj
theorem oP {a:Addr} {vs:List Value} {n:Nat} {P:Fin->Shared->Prop} (ho:s.heap.get? a=some (seqObj "list" vs.toArray n)) (hv:∀ h',(∀ b o,b≠a->s.heap.get? b=some o->Heap.get? h' b=some o)->∀ v∈vs,lA R h' v) (hD:(vs.map R).Nodup) (pH:vs.length<64)
  (h:∀(out:Array Value),out.toList.Perm vs->(out.toList.map R).Pairwise (·<·)->P (.done (.ret .none)) { s with heap:=sortedHeap s.heap a vs out }) :
  wpAny (model prog w) A (Builtin.«list.sort» ⟨[.ref a],[]⟩) P E s:=by
 have hl:vs.length<=sizeLine:=Nat.le_trans (Nat.le_of_lt pH) (by decide)
 have lt:=Heap.lt_size ho
 rw [list_sort_plain]
 refine wpAny_bind (listItems_at ho rfl (wpAny_bind (listUpdate_at ho rfl ?_ (by simpa using hl) (by simp))))
 obtain⟨c,h1⟩:∃ c,(s.heap.update a (Obj.mapSeq λ_=>#[])).get? a=some (seqObj "list" #[] c):=⟨_,get?_update_seq ho _⟩
 refine wpAny_bind (seqEpoch_at h1 rfl ?_)
 refine wpAny_bind (wpAny_newTuple ?_ (by simpa using hl))
 refine wpAny_bind (wpAny_newList ?_ (by simp))
 refine wpAny_holding ?_
 have h2:(((s.heap.update a (Obj.mapSeq λ_=>#[])).push (seqObj "tuple" vs.toArray 0)).push (seqObj "list" #[] 0)).get? a=some (seqObj "list" #[] c):=by
  refine Eq.trans (Heap.get?_push_ne _ _ _ ?_) (Eq.trans (Heap.get?_push_ne _ _ _ ?_) h1)
  ·rw [size_push',Heap.size_update];exact Nat.ne_of_lt (Nat.lt_succ_of_lt lt)
  ·rw [Heap.size_update];exact Nat.ne_of_lt lt
 have hp:=hv (((s.heap.update a (Obj.mapSeq λ_=>#[])).push (seqObj "tuple" vs.toArray 0)).push (seqObj "list" #[] 0)) λb o ne e=>Heap.get?_push_of_some _ (Heap.get?_push_of_some _ (by rw [Heap.get?_update_ne _ _ _ _ ne];exact e))
 have snd:(pairsOf vs).toList.map (·.2)=vs:=by rw [pairsOf_toList,List.map_snd_zip (by omega)]
 have fst:∀ xs:Array Keyed,xs.Perm (pairsOf vs)->xs.toList.map (λx:Keyed=>R x.1)=(xs.map (·.2)).toList.map R:=λxs hx=>by
  rw [Array.toList_map,List.map_map]
  refine List.map_congr_left λx hx'=>?_
  have:=(Array.perm_iff_toList_perm.mp hx).mem_iff.mp hx'
  rw [pairsOf_toList] at this
  have e:x.1=x.2:=by
   obtain⟨i,hi⟩:=List.mem_iff_getElem?.mp this
   obtain⟨a1,a2⟩:=List.getElem?_zip_eq_some.mp hi
   rw [a1] at a2
   exact Option.some.inj a2
  show R x.1=R x.2
  rw [e]
 have fin:∀ xs:Array Keyed,xs.Perm (pairsOf vs)->(xs.map (·.2)).toList.Perm vs:=by
  intro xs hx
  have h3:=(Array.perm_iff_toList_perm.mp hx).map (·.2)
  rw [Array.toList_map]
  rwa [snd] at h3
 have un:Un R (pairsOf vs):=by
  show ((pairsOf vs).toList.map λx:Keyed=>R x.1).Nodup
  rw [fst _ (Array.Perm.refl _),Array.toList_map,snd]
  exact hD
 dsimp only
 by_cases sz:vs.toArray.size<2
 ·rw [if_pos sz,if_pos sz]
  refine wpAny_bind (wpAny_pure ?_)
  rw [StateT.run_pure]
  refine wpAny_bind (wpAny_pure ?_)
  dsimp only
  refine wpAny_bind (seqEpoch_at h2 rfl ?_)
  refine wpAny_bind (listUpdate_at h2 rfl ?_ (by simp) ?_)
  ·simp only [bne_self_eq_false,Bool.false_eq_true,if_false]
   refine wpAny_pure (h _ (fin _ (Array.Perm.refl _)) ?_)
   refine sE λi j ij hj=>?_
   have hsz:vs.length<2:=by simpa using sz
   have e:((arrOf (SortSt.mk' general' (vs.toArray.zip vs.toArray) #[] 7 none)).map (·.2)).toList.length=vs.length:=(fin _ (Array.Perm.refl _)).length_eq
   rw [List.length_map] at hj
   omega
  ·rw [Array.size_map]
   show (pairsOf vs).size<=_
   rw [pairsOf_size]
   omega
 rw [if_neg sz,if_neg sz]
 rw [List.size_toArray] at sz
 refine wpAny_bind (vo (λv hv'=>(hp v hv').pair) λb=>?_)
 have run:=vU (R:=R) (prog:=prog) (w:=w) (A:=A) (E:=E) (κ:=tuples' b) (s:={ s with heap:=((s.heap.update a (Obj.mapSeq λ_=>#[])).push (seqObj "tuple" vs.toArray 0)).push (seqObj "list" #[] 0) })
  (a₀:=pairsOf vs) (st:=SortSt.mk' (tuples' b) (pairsOf vs) #[] 7 none)
  (Q:=λ_ t=>(arrOf t).Perm (pairsOf vs)/\failedOf t=none/\Up R (arrOf t) (pairsOf vs).size) (λx hx y hy Q E q=>by
   have m1:=mem_zip_self (by rw [pairsOf_toList] at hx;exact hx)
   have m2:=mem_zip_self (by rw [pairsOf_toList] at hy;exact hy)
   exact oh (hp _ m1.2) (hp _ m2.2) q) un ⟨Array.Perm.refl _,rfl,rfl,rfl⟩ (by rw [pairsOf_size];omega) (by rw [pairsOf_size];exact pH) λt p f u=>⟨p,f,u⟩
 refine wpAny_bind (wpAny_mono run ?_ λ_ _ e=>e)
 rintro⟨_,t⟩ s' ⟨rfl,p,f,u⟩
 refine wpAny_bind (seqEpoch_at h2 rfl ?_)
 refine wpAny_bind (listUpdate_at h2 rfl ?_ (by simp) ?_)
 ·dsimp only
  rw [f]
  simp only [bne_self_eq_false,Bool.false_eq_true,if_false]
  refine wpAny_pure (h _ (fin _ p) ?_)
  rw [<- fst _ p]
  refine sE λi j ij hj=>?_
  have hj':j<(arrOf t).size:=by simpa using hj
  have:=u i j ij (by rw [<- p.size_eq];exact hj')
  unfold kk at this
  rw [Array.getElem?_eq_getElem hj',Array.getElem?_eq_getElem (show i<(arrOf t).size by omega)] at this
  simpa using this
 ·rw [Array.size_map,p.size_eq,pairsOf_size]
  omega
end
end Stp
namespace Sst
open PySem PyProof.Rows
section
variable {prog:Program} {w:World} {A:Around} {E:Value->Shared->Prop} {s:Shared}
end
end Sst
namespace Sst
open PySem PyProof.Rows PySem.W
section
variable {prog:Program} {w:World} {A:Around} {E:Value->Shared->Prop} {s:Shared}
end
end Sst
set_option maxHeartbeats 3200000
namespace Sst
open PySem PyProof.Rows PySem.Spec
def met (ns:List Int):List Int:=ns.foldl (λks k=>if k∈ks then ks else ks++[k]) []
section
variable {prog:Program} {w:World} {A:Around} {E:Value->Shared->Prop} {s:Shared}
end
end Sst
namespace Sst
open PySem PyProof.Rows PySem.Spec
section
variable {prog:Program} {w:World} {A:Around} {E:Value->Shared->Prop} {s:Shared}
end
end Sst
set_option maxHeartbeats 1000000
namespace L2
open PySem PySem.Spec PyProof.Rows
theorem Inv.drew {X:Cx} {pins:List (Addr × Obj)} {σ:List (Option V)} {H:Hp} {s:Shared} {d:Drawn} (I:Inv X pins σ H s):Inv X pins σ H { s with drawn:=d }:=⟨I.ok,I.os,I.bare,I.base,I.loc,I.cell,I.free,I.freeC,I.pin,I.hok,I.len⟩
section
variable {X:Cx} {e:Expr} {t:TA} {p p2 pos pos2:Pos}
end
def rk (k:Sp.Pr):Int:=k.1*1048576+k.2
def sG (Q:VK) (ys:List (Sp.Pr × Addr)) (H:Hp):Prop:=(∀ y∈ys,H y.2=some (.tup [.int y.1.1,.int y.1.2])/\0<=y.1.2/\y.1.2<1048576)/\∃ ks:List Sp.Pr,ks.length<64/\(ks.map rk).Pairwise (·<·)/\(∀ led,∃ st,Sp.run (Sp.new led) (ys.map (·.1))=some st/\st.1.Perm ks) /\
 ∀(zs:List (Sp.Pr × Addr)) (p:Addr),zs.map (·.1)=ks->(∀ z∈zs,z∈ys)->H p=none->Q (.ref p) (upd H p (.lst (zs.map λz=>V.ref z.2)))
def xX (js:List (Option Nat)) (wi1:TI) (g1:TG) (tt1:TT) (wi2:TI) (g2:TG) (tt2:TT) (te:TE):TE:=λσ H Q=>wi1 σ H λJ H1=>∃ W:Nat->Nat->List (Sp.Pr × Addr)->Hp->Prop,(∃ m,W 0 m [] H1)/\∀ i m ys H,W i m ys H ->
 (J.stop i H/\sG Q ys H) ∨
 (J.go i H/\∃ N:List (Sp.Pr × Addr)->Hp->Prop,(∀ ys' H',N ys' H'->∃ m',m'<m/\W (i+1) m' ys' H') /\
  ∀ x H',J.yld i H x H'->g1 x (aY js σ) H' λσ2 H2=>aO (aY js σ) σ2/\tt1 σ2 H2 λb H3=>if b=true then uD wi2 g2 tt2 te ys σ2 H3 N else N ys H3)
def vJ (H:Hp):Value->Int
 | .ref a=>match H a with
  | some (.tup [.int x,.int y])=>x*1048576+y
  | _=>0
 | _=>0
theorem nK {α β:Type} {f:α->β}:∀{l m:List β},l.Perm m->∀{xs:List α},m=xs.map f->∃ zs:List α,zs.Perm xs/\l=zs.map f:=by
 intro l m h
 induction h with
 | nil=>intro xs e;exact⟨[],by rw [List.map_eq_nil_iff.mp e.symm],rfl⟩
 | cons x h ih =>
  intro xs e
  cases xs with
  | nil=>cases e
  | cons y ys =>
   obtain⟨rfl,e2⟩:=List.cons.inj e
   obtain⟨zs,h1,rfl⟩:=ih e2
   exact⟨y::zs,h1.cons _,rfl⟩
 | swap x y l =>
  intro xs e
  cases xs with
  | nil=>cases e
  | cons u us =>
   cases us with
   | nil=>cases e
   | cons v vs =>
    simp only [List.map_cons,List.cons.injEq] at e
    obtain⟨rfl,rfl,rfl⟩:=e
    exact⟨v::u::vs,.swap _ _ _,rfl⟩
 | trans h1 h2 ih1 ih2 =>
  intro xs e
  obtain⟨ys,a,b⟩:=ih2 e
  obtain⟨zs,c,d⟩:=ih1 b
  exact⟨zs,c.trans a,d⟩
theorem ju:∀{l m:List Sp.Pr},l.Perm m->(l.map rk).Pairwise (·<·)->(m.map rk).Pairwise (·<·)->l=m
 | [],m,p,_,_=>(List.nil_perm.mp p).symm
 | x::l,[],p,_,_=>absurd p.length_eq (by simp)
 | x::l,y::m,p,h1,h2=>by
  rw [List.map_cons,List.pairwise_cons] at h1 h2
  have e:x=y:=by
   rcases List.mem_cons.mp (p.mem_iff.mp (List.mem_cons_self ..)) with z | z
   ·exact z
   ·rcases List.mem_cons.mp (p.mem_iff.mpr (List.mem_cons_self ..)) with y' | y'
    ·exact y'.symm
    ·have a1:=h2.1 _ (List.mem_map.mpr ⟨_,z,rfl⟩)
     have a2:=h1.1 _ (List.mem_map.mpr ⟨_,y',rfl⟩)
     omega
  subst e
  rw [ju ((List.perm_cons x).mp p) h1.2 h2.2]
theorem gN:∀ xs:List (Sp.Pr × Addr),Vals (xs.map λz=>V.ref z.2) (xs.map λz=>Value.ref z.2)
 | []=>.nil
 | x::xs=>.cons rfl (gN xs)
section
variable {X:Cx} {p pos:Pos}
theorem ou {elt t1 i1 t2 i2:Expr} {f1 f2:List Expr} {scope:Scope} {cpos:Pos} {N':List Str} {js:List (Option Nat)} {cl:List (Str × Addr)} {wi1 wi2:TI} {g1 g2:TG} {tt1 tt2:TT} {te:TE} {k:Nat} (hcalm:X.calm=true) (hr:a4 k X.A) (hgl:Gl X "sorted") (hm:X.mg "sorted"=none)
  (K:du X N' js scope cl) (hi:PI X t1 i1 wi1)
  (hg:∀ C s₂ H₂ fp,PG (bE X N' scope cl C s₂ H₂ fp) t1 g1) (ht:∀ C s₂ H₂ fp,gO (bE X N' scope cl C s₂ H₂ fp) f1 tt1)
  (hi2:∀ C s₂ H₂ fp,PI (bE X N' scope cl C s₂ H₂ fp) t2 i2 wi2) (hg2:∀ C s₂ H₂ fp,PG (bE X N' scope cl C s₂ H₂ fp) t2 g2) (ht2:∀ C s₂ H₂ fp,gO (bE X N' scope cl C s₂ H₂ fp) f2 tt2) (he:∀ C s₂ H₂ fp,PE (bE X N' scope cl C s₂ H₂ fp) elt te)
  (hs:∀ x,foldedSetIterable i1 X.env x=pure x:=by intro _;rfl) (hs2:∀ env x,foldedSetIterable i2 env x=pure x:=by intro _ _;rfl) :
  PE X (.Call (.Name "sorted" p) [.SetComp elt [⟨t1,i1,f1,0⟩,⟨t2,i2,f2,0⟩] scope cpos] [] pos) (xX js wi1 g1 tt1 wi2 g2 tt2 te):=by
 intro pins s σ H Q I h
 refine wpAny_Call_Name_kw (fo I hgl hm PyProof.Rows.boot_sorted ?_ (by decide) (by decide))
 refine PyProof.Rows.callWith_builtin1 ?_ rfl rfl
 show wpAny _ _ (spliced ((false,eval (.SetComp elt [⟨t1,i1,f1,0⟩,⟨t2,i2,f2,0⟩] scope cpos) X.env)::backTo pos (starEach [] X.env))) _ _ s
 refine Calls.spliced_cons ?_
 rw [arm_eval_SetComp]
 refine wpAny_comprehension_free (use:=none) rfl hs K.clos K.kind K.names (aN (hi pins s σ H _ I h) λv s1 h1=>aN h1 λitv s2 h2=>?_)
 refine uo (Ex:=λ_ _ _ _ _ _=>False) (Bd:=λEx acc env Ps s=>wpAny (model X.prog X.w) X.A (eval i2 env) (λx s₄=>wpAny (model X.prog X.w) X.A (pyIter x) (λit2 s₅=>codeAny (model X.prog X.w) X.A (.compStart (.SetComp elt [⟨t1,i1,f1,0⟩,⟨t2,i2,f2,0⟩] scope cpos) 1 it2 acc env) (λr s₆=>match r with | .ok _=>Ps s₆ | .error _=>False) s₅) Ex s₄) Ex s) (tb:=uD wi2 g2 tt2 te) hcalm
  (λ_ _ _ it acc env I turn n h hE=>mi I (hs2 env) turn n h hE) (λR s it acc env h0 h=>kq h0 h) K (λC s H f _=>hg C s H f) (λC s H f _=>ht C s H f)
  (λC s₂ H₂ fp lc D ys vys P σ H s N Ps I rv ok q k=>mf (Y:=bE X N' scope cl C s₂ H₂ fp) rfl (show X.A.units+1<cLine by have:=hr.un;omega) hcalm rfl (hi2 C s₂ H₂ fp) (hg2 C s₂ H₂ fp) (ht2 C s₂ H₂ fp) (he C s₂ H₂ fp) I rv ok q k) (λ_ _ _ _ _ _ _ _ _ z=>z.elim) h2 λC D ob acc H4 s5 ⟨m,hn⟩ hDC hD sr hob hI fin=>⟨m,hn,λh' hsb=>?_⟩
 have I5:=hI h' hsb
 have ob5:h'.get? D=some ob:=(hsb.2 D hDC).trans hob
 obtain⟨fin1,ks,klen,kinc,krun,q⟩:=fin
 obtain⟨xs,hxs,⟨st,hst,e1⟩,sv⟩:=Sst.v5 ob5 sr
 have pk:(xs.map (·.1)).Perm ks:=by
  obtain⟨st',h1,h2⟩:=krun (!Sp.dW X.w)
  rw [hst] at h1
  cases h1
  rw [<- e1];exact h2
 refine Calls.spliced_nil ?_
 have hh:=I5.ok.hd hcalm
 refine Calls.call_function_entry kind_sorted plain_sorted entry_sorted (args_sorted1 _) ?_
 refine wpAny_bind (m:=checkCount "sorted" 1 1 _) (wpAny_pure ?_)
 refine wpAny_bind (Sst.uX (s:={ s5 with heap:=h' }) (A:=X.A.in1) hh sv λh3 tk3 d3 vs k3 p3=>?_)
 have ln:vs.length=ks.length:=by
  have a1:=p3.length_eq
  have a2:=pk.length_eq
  rw [List.length_map] at a1 a2
  omega
 have pH:vs.length<64:=by rw [ln];exact klen
 have zl:vs.length<=sizeLine:=Nat.le_trans (Nat.le_of_lt pH) (by decide)
 refine wpAny_bind (wpAny_newList ?_ zl)
 have z2:=Heap.get?_push_size h3 (o:=seqObj "list" vs.toArray 0) rfl
 have rkx:∀ x∈xs,vJ H4 (.ref x.2)=rk x.1:=λx hx=>by
  show (match H4 x.2 with | some (.tup [.int x,.int y])=>x*1048576+y | _=>0)=_
  rw [(fin1 x (hxs x hx)).1]
  rfl
 have mapR:∀ zs:List (Sp.Pr × Addr),(∀ z∈zs,z∈xs)->(zs.map λz=>Value.ref z.2).map (vJ H4)=(zs.map (·.1)).map rk:=λzs hz=>by
  rw [List.map_map,List.map_map]
  exact List.map_congr_left λz hz'=>rkx z (hz z hz')
 have atv:∀(h4:Heap),(∀ x∈xs,∀ o,h'.get? x.2=some o->h4.get? x.2=some o)->∀ v∈vs,Stp.lA (vJ H4) h4 v:=λh4 keep v hv=>by
  obtain⟨x,hx,rfl⟩:=List.mem_map.mp (p3.mem_iff.mp hv)
  obtain⟨f1,f2,f3⟩:=fin1 x (hxs x hx)
  obtain⟨its,rv,⟨o,h1,h2,n,h3'⟩,hz⟩:=I5.tuple (a9.of (K:=X.K) f1)
  obtain⟨u,v,rfl,⟨t1,rfl⟩,t2,rfl⟩:=rv.two
  exact⟨x.2,x.1.1,x.1.2,t1,t2,rfl,⟨o,keep x hx o h1,h2,n,h3'⟩,f2,f3,rkx x hx⟩
 have nd:(vs.map (vJ H4)).Nodup:=by
  refine ((p3.map (vJ H4)).nodup_iff).mpr ?_
  rw [mapR xs λz h=>h]
  refine ((pk.map rk).nodup_iff).mpr (kinc.imp λh=>?_)
  omega
 have lt3:∀ b o,h'.get? b=some o->b<h3.objs.size:=λb o e=>Heap.lt_size (k3 b o e)
 refine wpAny_bind (wpAny_holding (wpAny_call_entry slot_list_sort ⟨_,z2,rfl⟩ entry_list_sort (Stp.oP z2 (λh4 keep=>atv h4 λx hx o e=>keep x.2 o (Nat.ne_of_lt (lt3 _ _ e)) (Heap.get?_push_of_some _ (k3 _ _ e))) nd pH λout a b=>⟨_,rfl,wpAny_pure ⟨_,rfl,?_⟩⟩) (args_list_sort _)))
 obtain⟨zs,zp,ze⟩:=nK (f:=λz:Sp.Pr × Addr=>Value.ref z.2) (a.trans p3) rfl
 have zm:∀ z∈zs,z∈xs:=λz h=>zp.mem_iff.mp h
 have zk:zs.map (·.1)=ks:=by
  refine ju ((zp.map (·.1)).trans pk) ?_ kinc
  rw [<- mapR zs zm,<- ze]
  exact b
 have old:∀ b o,h'.get? b=some o->(sortedHeap (h3.push (seqObj "list" vs.toArray 0)) h3.objs.size vs out).get? b=some o:=λb o x=>by
  have lt:=Heap.lt_size (k3 b o x)
  rw [sortedHeap_old (Nat.ne_of_lt lt) (by rw [Heap.size_push];exact Nat.lt_succ_of_lt lt)]
  exact Heap.get?_push_of_some _ (k3 b o x)
 have I6:Inv X pins σ H4 { s5 with heap:=h3,toks:=tk3,drawn:=d3 }:=(I5.kept (t':=tk3) k3).drew
 have I7:Inv X pins σ H4 { s5 with heap:=sortedHeap (h3.push (seqObj "list" vs.toArray 0)) h3.objs.size vs out,toks:=tk3,drawn:=d3 }:=(I5.kept (t':=tk3) old).drew
 obtain⟨e4,he4⟩:=sortedHeap_at (out:=out) z2
 have fT:H4 h3.objs.size=none:=I6.hok.fresh (Nat.le_refl _)
 have lo:zs.length<=sizeLine:=by
  have:zs.length=vs.length:=by rw [<- a.length_eq,ze,List.length_map]
  rw [this];exact zl
 refine⟨.ref h3.objs.size,upd H4 h3.objs.size (.lst (zs.map λz=>V.ref z.2)),?_,rfl,q zs _ zk (λz h=>hxs z (zm z h)) fT⟩
 refine I7.adopt (T:=h3.objs.size) (o:=.lst (zs.map λz=>V.ref z.2)) (I6.lL (Nat.le_refl _) fT) ⟨by rw [List.length_map];exact lo,out.toList,e4,by rw [ze];exact gN zs,he4⟩
end
theorem oz {X:Cx} {tg l:Expr} {tl:TE} {K:PySem.W.Frag} (hK:X.K=K) (hl:PE X l tl):PI X tg l (mZ K tl):=hK▸bh hl
abbrev lz:=Sp.Pr × Addr
def mD (J:It) (g:TG) (tt:TT) (te:TE) (ys:List lz) (σ:St) (N:List lz->Hp->Prop) (H1:Hp):Prop:=∃ W:Nat->Nat->List lz->Hp->Prop,(∃ m,W 0 m ys H1)/\∀ i m zs H,W i m zs H ->
 (J.stop i H/\N zs H) ∨
 (J.go i H/\∃ N2:List lz->Hp->Prop,(∀ zs' H',N2 zs' H'->∃ m',m'<m/\W (i+1) m' zs' H') /\
  ∀ x H',J.yld i H x H'->g x σ H' λσ2 H2=>aO σ σ2/\tt σ2 H2 λb H3=>if b=true then uQ te zs σ2 H3 N2 else N2 zs H3)
theorem sI {wi:TI} {g:TG} {tt:TT} {te:TE} {ys:List lz} {σ:St} {H:Hp} {N:List lz->Hp->Prop}:uD wi g tt te ys σ H N=wi σ H λJ H1=>mD J g tt te ys σ N H1:=rfl
def mz (J:It) (js:List (Option Nat)) (g1:TG) (tt1:TT) (wi2:TI) (g2:TG) (tt2:TT) (te:TE) (σ:St) (Q:VK) (H1:Hp):Prop:=∃ W:Nat->Nat->List lz->Hp->Prop,(∃ m,W 0 m [] H1)/\∀ i m ys H,W i m ys H ->
 (J.stop i H/\sG Q ys H) ∨
 (J.go i H/\∃ N:List lz->Hp->Prop,(∀ ys' H',N ys' H'->∃ m',m'<m/\W (i+1) m' ys' H') /\
  ∀ x H',J.yld i H x H'->g1 x (aY js σ) H' λσ2 H2=>aO (aY js σ) σ2/\tt1 σ2 H2 λb H3=>if b=true then uD wi2 g2 tt2 te ys σ2 H3 N else N ys H3)
theorem ux {js:List (Option Nat)} {wi1 wi2:TI} {g1 g2:TG} {tt1 tt2:TT} {te:TE} {σ:St} {H:Hp} {Q:VK}:xX js wi1 g1 tt1 wi2 g2 tt2 te σ H Q=wi1 σ H λJ H1=>mz J js g1 tt1 wi2 g2 tt2 te σ Q H1:=rfl
theorem ja {K:PySem.W.Frag} {a:Addr} {xs:List V} {ys:List lz} {g:TG} {tt:TT} {te:TE} {σ:St} {N:List lz->Hp->Prop} {H1:Hp} (Pv:Nat->List lz->Hp->Prop) (h0:Pv 0 ys H1) (hl:∀ i zs H,i<=xs.length->Pv i zs H->aT K H a xs)
  (hs:∀ i x zs H,xs[i]?=some x->Pv i zs H->g x σ H λσ2 H2=>aO σ σ2/\tt σ2 H2 λb H3=>if b=true then uQ te zs σ2 H3 (Pv (i+1)) else Pv (i+1) zs H3)
  (hd:∀ zs H,Pv xs.length zs H->N zs H):mD (pI K a) g tt te ys σ N H1:=by
 refine⟨λi m zs H=>m=xs.length-i/\i<=xs.length/\Pv i zs H,⟨xs.length,by simp,Nat.zero_le _,h0⟩,?_⟩
 rintro i m zs H ⟨rfl,hi,p⟩
 have q:=hl i zs H hi p
 by_cases hlt:i<xs.length
 ·refine .inr ⟨⟨xs,xs[i],q,by simp [hlt]⟩,Pv (i+1),λzs' H' p'=>⟨xs.length-(i+1),by omega,rfl,hlt,p'⟩,λx H' y=>?_⟩
  obtain⟨e,y⟩:=y
  subst e
  exact hs i x zs _ (y xs q) p
 ·have e:i=xs.length:=by omega
  subst e
  exact .inl ⟨⟨xs,q,Nat.le_refl _⟩,hd zs H p⟩
theorem iZ {K:PySem.W.Frag} {a:Addr} {xs:List V} {js:List (Option Nat)} {g1 g2:TG} {tt1 tt2:TT} {wi2:TI} {te:TE} {σ:St} {Q:VK} {H1:Hp} (Pv:Nat->List lz->Hp->Prop) (h0:Pv 0 [] H1) (hl:∀ i ys H,i<=xs.length->Pv i ys H->aT K H a xs)
  (hs:∀ i x ys H,xs[i]?=some x->Pv i ys H->g1 x (aY js σ) H λσ2 H2=>aO (aY js σ) σ2/\tt1 σ2 H2 λb H3=>if b=true then uD wi2 g2 tt2 te ys σ2 H3 (Pv (i+1)) else Pv (i+1) ys H3)
  (hd:∀ ys H,Pv xs.length ys H->sG Q ys H):mz (pI K a) js g1 tt1 wi2 g2 tt2 te σ Q H1:=by
 refine⟨λi m ys H=>m=xs.length-i/\i<=xs.length/\Pv i ys H,⟨xs.length,by simp,Nat.zero_le _,h0⟩,?_⟩
 rintro i m ys H ⟨rfl,hi,p⟩
 have q:=hl i ys H hi p
 by_cases hlt:i<xs.length
 ·refine .inr ⟨⟨xs,xs[i],q,by simp [hlt]⟩,Pv (i+1),λys' H' p'=>⟨xs.length-(i+1),by omega,rfl,hlt,p'⟩,λx H' y=>?_⟩
  obtain⟨e,y⟩:=y
  subst e
  exact hs i x ys _ (y xs q) p
 ·have e:i=xs.length:=by omega
  subst e
  exact .inl ⟨⟨xs,q,Nat.le_refl _⟩,hd ys H p⟩
end L2
namespace L2
open PySem PySem.Spec PyProof.Rows PySem.W
def jQ (v d:Addr):HO:=.ext λh=>h.IsItemsView v d
def ug:V->List V->Hp->VK->Prop:=λx xs H Q=>∃(a:Addr) (kvs:List (Key × V)),x=.ref a/\xs=[]/\H a=some (.dK kvs)/\∀ v,H v=none->Q (.ref v) (upd H v (jQ v a))
theorem nL {X:Cx}:wx X "dict.items" ug:=by
 intro pins s σ H x xs v us Q I rx r h
 obtain⟨a,kvs,rfl,rfl,ha,q⟩:=h
 cases rx
 cases r
 obtain⟨z,hd,vs,rel,dd⟩:=kG I.hok ha
 have fT:H s.heap.objs.size=none:=I.hok.fresh (Nat.le_refl _)
 have hv:(s.heap.push { cls:=.type "dict_items",data:=.fields #[.ref a] }).IsItemsView s.heap.objs.size a:=⟨_,Heap.get?_push_size _ rfl,rfl,rfl⟩
 refine call_meetsIn PySem.F.slot_dict_items dd.typeIs PySem.F.entry_dict_items (PySem.F.args_dict_items_1 _) (meets_dict_items (aK X.prog X.w) a hd) ⟨⟨vs,dd⟩,?_⟩
 refine⟨.ref s.heap.objs.size,upd H s.heap.objs.size (jQ s.heap.objs.size a),I.laid (t':=s.toks) (λb u w=>Heap.get?_push_of_some _ w) (Nat.le_refl _) ?_,rfl,q _ fT⟩
 exact⟨hv,⟨_,Heap.get?_push_size _ rfl⟩,λh1 h2 ⟨o,e,r⟩ k=>⟨o,k o e,r⟩⟩
section
variable {X:Cx} {pins:List (Addr × Obj)} {σ:St} {H:Hp} {s:Shared}
theorem Inv.freeze {a:Addr} {kvs:List (Key × V)} {od:Obj} (I:Inv X pins σ H s) (ha:H a=some (.dK kvs)) (ho:s.heap.get? a=some od):Inv X pins σ (upd H a (.frz od (.dK kvs))) s:=by
 have ne:∀{b:Addr} {u:HO},H b=some u->u≠.dK kvs->b≠a:=λe n z=>by rw [z,ha] at e;exact n (Option.some.inj e).symm
 refine I.step (h':=s.heap) (g':=s.gens) (d':=s.drawn) (t':=s.toks) (ch:=[]) (λ_ z=>nomatch z) (λb o _ _ hc e _=>e) (λb o _ _ hc e _=>⟨o.slots,e⟩) (λb o hc e n=>by rw [aj (λz=>by rw [z,ha] at n;cases n)];exact n)
  (λb o hc e=>⟨o,e⟩) (λb xs e=>by rw [aj (ne e (λz=>by cases z))];exact e) (λb o u e=>by rw [aj (ne e (λz=>by cases z))];exact e) (λb ps e=>⟨#[],by rw [aj (ne e (λz=>by cases z)),e];simp⟩) (λm hm=>hm) (λb u e=>?_) I.bare
 by_cases z:b=a
 ·subst z
  rw [ae] at e
  cases e
  have:=I.hok b _ ha
  exact⟨ho,this⟩
 ·rw [aj z] at e
  exact (I.hok b u e).cp (λc v _ q=>q) (λc q=>by rw [aj (ne q (λz=>by cases z))];exact q) λc xs q=>by rw [aj (ne q (λz=>by cases z))];exact q
end
theorem KV.get {kvs:List (Key × V)} {vs:List (Key × Value)} (r:KV kvs vs) {i:Nat} {k:Key} {v:V} (h:kvs[i]?=some (k,v)):∃ u,vs[i]?=some (k,u)/\RelV v u:=by
 unfold KV at r
 induction r generalizing i with
 | nil=>cases h
 | @cons p q ps qs hh t ih =>
  cases i with
  | zero =>
   cases h
   obtain⟨q1,q2⟩:=q
   obtain⟨e,r⟩:=hh
   exact⟨q2,by have e:k=q1:=e;rw [e];rfl,r⟩
  | succ i=>exact ih h
theorem vn {P:Program} {w:World} {k:Key} {u:Value} (h:(aK P w).is k u=true):RelV (kV k) u:=by
 rcases aM h with⟨i,t,rfl,rfl⟩|⟨i,t,rfl,rfl⟩
 ·exact⟨t,rfl⟩
 ·exact⟨t,rfl⟩
def wH (a:Addr) (kvs:List (Key × V)) (od:Obj):It :=
 ⟨λi H=>H a=some (.frz od (.dK kvs))/\i<kvs.length,λi H x H'=>∃ p k v,H p=none/\x=.ref p/\kvs[i]?=some (k,v)/\H'=upd H p (.tup [kV k,v]),λi H=>H a=some (.frz od (.dK kvs))/\kvs.length<=i⟩
theorem cU:entryFor table "dict_itemiterator.__iter__"=some Builtin.«dict_keyiterator.__iter__» :=
 entryFor_alias (id' := "dict_keyiterator.__iter__") (by kernel_rfl) rfl (by decide +kernel) (by kernel_rfl)
theorem ku {P:Program} {w:World} {K:PySem.W.Frag} {elts:List Expr} {x1} {pos:Pos} (a it:Addr) (kvs:List (Key × V)) (od:Obj) (vs:List (Key × Value)) (ep:Nat) (rel:KV kvs vs)
  (dat:∀ h:Heap,h.get? a=some od->h.DictAt (aK P w) a vs ep) :
  Turn P w K (.Tuple elts x1 pos) (wH a kvs od) [it] it (λi h=>∃ ok ov,IsItemIter h it a i vs.length ep ok ov) where
 mem:=by simp
 obj:=λi h st b hb=>by
  obtain⟨ok,ov,he⟩:=st
  have z:b=it:=by simpa using hb
  subst z
  exact⟨_,he,λv z=>by cases z⟩
 keep:=λi h h' st k=>by
  obtain⟨ok,ov,he⟩:=st
  exact⟨ok,ov,k it (by simp) _ he⟩
 item:=by
  intro X hP hw hK hc i pins s σ H E I hf st hg
  subst hP hw hK
  obtain⟨hq,hi⟩:=hg
  have hd:=dat s.heap (show aG X.prog X.w H s.heap a (.frz od (.dK kvs)) from I.hok a _ hq).1
  obtain⟨ok,ov,he⟩:=st
  have hx:kvs[i]?=some kvs[i]:=List.getElem?_eq_getElem hi
  generalize kvs[i]=kv at hx
  obtain⟨k,v⟩:=kv
  obtain⟨u,hu,ru⟩:=rel.get hx
  refine wpAny_pyNext_items_item he hd hu λkey h' hkey ho hT hsz hk=>?_
  refine⟨_,rfl,?_⟩
  have fT:H s.heap.objs.size=none:=I.hok.fresh (Nat.le_refl _)
  refine wpAny_letOwnedTupleGo_items ho λh2 he2 hs2=>?_
  have ne1:s.heap.objs.size≠it:=Nat.ne_of_gt (Heap.lt_size he)
  have hke:∀ b o,b∉[it]->s.heap.get? b=some o->h2.get? b=some o:=λb o hb q=>by
   have n1:b≠it:=λz=>hb (by simp [z])
   exact hs2.extBut b _ n1 (hk b o n1 q)
  have I1:Inv X pins σ H { s with heap:=h2,toks:=s.toks }:=I.lr hke hf
  have hT2:h2.get? s.heap.objs.size=some { cls:=.type "tuple",data:=.seq #[key,u] }:=hs2.extBut _ _ ne1 hT
  refine⟨.ref s.heap.objs.size,upd H s.heap.objs.size (.tup [kV k,v]),?_,rfl,⟨_,k,v,fT,rfl,hx,rfl⟩,⟨_,_,he2⟩,λb hb=>?_⟩
  ·exact I1.adopt (T:=s.heap.objs.size) (o:=.tup [kV k,v]) (I.lL (Nat.le_refl _) fT) ⟨by show 2<=sizeLine;decide,[key,u],.cons (vn hkey) (.cons ru .nil),⟨_,hT2,rfl,_,rfl⟩⟩
  ·have z:b=it:=by simpa using hb
   rw [aj (λy=>ne1 (by rw [<- y];exact z))]
   exact (hf b hb).1
 done:=by
  intro X hP hw hK hc i pins s σ H E I hf st hg
  subst hP hw hK
  obtain⟨hq,hi⟩:=hg
  have hd:=dat s.heap (show aG X.prog X.w H s.heap a (.frz od (.dK kvs)) from I.hok a _ hq).1
  obtain⟨ok,ov,he⟩:=st
  refine wpAny_pyNext_items_end (I.ok.hd hc) he hd (List.getElem?_eq_none (by rw [<- rel.length];exact hi)) λh' eb=>⟨rfl,I.lr (t':=s.toks) (ch:=[it]) (λb o hb q=>eb b o (λz=>hb (by simp [z])) q) hf⟩
 self:=λA i s Q E st h=>by
  obtain⟨ok,ov,he⟩:=st
  have hT:s.TypeIs (.ref it) "dict_itemiterator":=⟨_,he,rfl⟩
  refine wpAny_pyIter_slot hT F.slot_dict_itemiterator_iter (wpAny_call_entry F.slot_dict_itemiterator_iter hT cU ?_ (F.args_dict_itemiterator_iter_1 _))
  show wpAny _ _ (ret (.ref it)) _ _ s
  exact wpAny_pure ⟨_,rfl,"dict_itemiterator",_,hT,F.slot_dict_itemiterator_next.lookup,h⟩
def mY (te:TE):TI:=λσ H R=>te σ H λx H1=>∃ v a kvs,x=.ref v/\H1 v=some (jQ v a)/\H1 a=some (.dK kvs)/\∀ od,R (wH a kvs od) (upd H1 a (.frz od (.dK kvs)))
theorem ow {X:Cx} {elts:List Expr} {x1} {tpos:Pos} {e:Expr} {te:TE} (he:PE X e te):PI X (.Tuple elts x1 tpos) e (mY te):=by
 intro pins s σ H R I h
 refine aN (he pins s σ H _ I h) λu s1 ⟨x,H1,I1,r1,v,a,kvs,e,hv,ha,q⟩=>?_
 subst e
 cases r1
 obtain⟨z,hd,vs,rel,dd⟩:=kG I1.hok ha
 obtain⟨ep,da⟩:=dd.dictAt
 have vv:s1.heap.IsItemsView v a:=(show aG X.prog X.w H1 s1.heap v (jQ v a) from I1.hok v _ hv).1
 obtain⟨od,es,ho,rest⟩:=id da
 refine wpAny_pyIter_items vv da ?_
 have fT:H1 s1.heap.objs.size=none:=I1.hok.fresh (Nat.le_refl _)
 have I2:=I1.freeze ha ho
 have I3:=I2.kept (h':=s1.heap.push { cls:=.type "dict_itemiterator",data:=.fields #[.none,.bool false,.ref a,.int 0 0,.int vs.length 0,.int ep 0,.none,.none] }) (t':=s1.toks) λb o e=>Heap.get?_push_of_some _ e
 refine⟨_,[s1.heap.objs.size],_,_,_,rfl,I3,ku a s1.heap.objs.size kvs od vs ep rel (λh e=>⟨od,es,e,rest⟩),⟨_,_,Heap.get?_push_size _ rfl⟩,λc hc=>?_,q od⟩
 have z:c=s1.heap.objs.size:=by simpa using hc
 subst z
 exact I2.lL (Nat.le_refl _) (I2.hok.fresh (Nat.le_refl _))
theorem j4 {a:Addr} {kvs:List (Key × V)} {od:Obj} {g:TG} {tb:TS} {D:Ends} {σ:St} {H:Hp} (Pv:Nat->St->Hp->Prop) (h0:Pv 0 σ H) (hl:∀ i σ H,i<=kvs.length->Pv i σ H->H a=some (.frz od (.dK kvs)))
  (hs:∀ i k v σ H p,kvs[i]?=some (k,v)->Pv i σ H->H p=none->g (.ref p) σ (upd H p (.tup [kV k,v])) λσ2 H2=>tb { D with nx:=Pv (i+1),ct:=Pv (i+1),bk:=D.nx } σ2 H2) (hd:∀ σ H,Pv kvs.length σ H->D.nx σ H):Loop (wH a kvs od) g tb D σ H:=by
 refine⟨λi m σ H=>m=kvs.length-i/\i<=kvs.length/\Pv i σ H,⟨kvs.length,by simp,Nat.zero_le _,h0⟩,?_⟩
 rintro i m σ H ⟨rfl,hi,p⟩
 have q:=hl i σ H hi p
 by_cases hlt:i<kvs.length
 ·refine .inr ⟨⟨q,hlt⟩,Pv (i+1),λσ' H' p'=>⟨kvs.length-(i+1),by omega,rfl,hlt,p'⟩,λx H' y=>?_⟩
  obtain⟨pt,k,v,f,e1,e2,e3⟩:=y
  subst e1 e3
  exact hs i k v σ H pt e2 p f
 ·have e:i=kvs.length:=by omega
  subst e
  exact .inl ⟨⟨q,Nat.le_refl _⟩,hd σ H p⟩
end L2
namespace Sq
def row (j:Nat):Bool:=(List.range 100).all λi=>sT (100*j+i+1)
theorem xm:row 0=true:=by decide +kernel
theorem xn:row 1=true:=by decide +kernel
theorem xq:row 2=true:=by decide +kernel
theorem xr:row 3=true:=by decide +kernel
theorem xt:row 4=true:=by decide +kernel
theorem xu:row 5=true:=by decide +kernel
theorem xw:row 6=true:=by decide +kernel
theorem xx:row 7=true:=by decide +kernel
theorem xA:row 8=true:=by decide +kernel
theorem xB:row 9=true:=by decide +kernel
theorem vK:row 10=true:=by decide +kernel
theorem vL:row 11=true:=by decide +kernel
theorem vM:row 12=true:=by decide +kernel
theorem vN:row 13=true:=by decide +kernel
theorem vO:row 14=true:=by decide +kernel
theorem vP:row 15=true:=by decide +kernel
theorem vQ:row 16=true:=by decide +kernel
theorem vR:row 17=true:=by decide +kernel
theorem vS:row 18=true:=by decide +kernel
theorem vT:row 19=true:=by decide +kernel
theorem rows {j:Nat} (h:j<20):row j=true:=by
 match j,h with
 | 0,_=>exact xm
 | 1,_=>exact xn
 | 2,_=>exact xq
 | 3,_=>exact xr
 | 4,_=>exact xt
 | 5,_=>exact xu
 | 6,_=>exact xw
 | 7,_=>exact xx
 | 8,_=>exact xA
 | 9,_=>exact xB
 | 10,_=>exact vK
 | 11,_=>exact vL
 | 12,_=>exact vM
 | 13,_=>exact vN
 | 14,_=>exact vO
 | 15,_=>exact vP
 | 16,_=>exact vQ
 | 17,_=>exact vR
 | 18,_=>exact vS
 | 19,_=>exact vT
 | n+20,h=>exact absurd h (by omega)
theorem kC {n:Nat} (h1:1<=n) (h2:n<=2000):sT n=true:=by
 have:=List.all_eq_true.mp (rows (j:=(n-1)/100) (by omega)) ((n-1)%100) (List.mem_range.mpr (Nat.mod_lt _ (by decide)))
 rwa [show 100*((n-1)/100)+(n-1)%100+1=n by omega] at this
def sm (a b c d e:Nat):Nat:=2^a*3^b*5^c*13^d*17^e
def eK (a:Nat):Bool:=(List.range 13).all λb=>(List.range 7).all λc=>(List.range 7).all λd=>(List.range 7).all λe=>decide (6<a+(b+1)/2+c+d+e) || decide (20000<=sm a b c d e) || decide (sm a b c d e<=2000) || sT (sm a b c d e)
theorem yj:eK 0=true:=by decide +kernel
theorem yk:eK 1=true:=by decide +kernel
theorem ym:eK 2=true:=by decide +kernel
theorem yo:eK 3=true:=by decide +kernel
theorem yq:eK 4=true:=by decide +kernel
theorem yr:eK 5=true:=by decide +kernel
theorem yt:eK 6=true:=by decide +kernel
theorem yu {a:Nat} (h:a<7):eK a=true:=by
 match a,h with
 | 0,_=>exact yj
 | 1,_=>exact yk
 | 2,_=>exact ym
 | 3,_=>exact yo
 | 4,_=>exact yq
 | 5,_=>exact yr
 | 6,_=>exact yt
 | n+7,h=>exact absurd h (by omega)
theorem sU {a b c d e:Nat} (h:a+(b+1)/2+c+d+e<=6) (hn:sm a b c d e<20000) (h1:1<=sm a b c d e):sT (sm a b c d e)=true:=by
 have t:=yu (a:=a) (by omega)
 have t:=List.all_eq_true.mp t b (List.mem_range.mpr (by omega))
 have t:=List.all_eq_true.mp t c (List.mem_range.mpr (by omega))
 have t:=List.all_eq_true.mp t d (List.mem_range.mpr (by omega))
 have t:=List.all_eq_true.mp t e (List.mem_range.mpr (by omega))
 rw [decide_eq_false (show ¬6<a+(b+1)/2+c+d+e by omega),decide_eq_false (show ¬20000<=sm a b c d e by omega),Bool.false_or,Bool.false_or] at t
 rcases Bool.or_eq_true_iff.mp t with z | z
 ·exact kC h1 (of_decide_eq_true z)
 ·exact z
end Sq
namespace L2
open PySem PySem.Spec PyProof.Rows
section
variable {prog:Program} {w:World} {K:Type} [DecidableEq K] {knd:HeapKind prog w K} {A:Around} {E:Value->Shared->Prop} {s:Shared}
end
end L2
namespace L2
open PySem PySem.Spec PyProof.Rows PySem.W
def uK (h:Heap) (d:Addr) (es:Array DictEntry) (ep:Nat):Prop:=∃ o,h.get? d=some o/\o.ExactDict/\o.data=.dict es ep
section
variable {P:Program} {w:World} {A:Around} {E:Value->Shared->Prop} {s:Shared} {d:Addr} {es:Array DictEntry} {ep:Nat}
theorem uK.type (x:uK s.heap d es ep):s.TypeIs (.ref d) "dict":=by obtain⟨o,a,c,_⟩:=x;exact⟨o,a,c.1⟩
end
section
variable {X:Cx} {pins:List (Addr × Obj)} {σ:St} {H:Hp} {s:Shared} {A:Around} {E:Value->Shared->Prop}
theorem gh:∀{ns:List Int} {us:List Value},Vals (ns.map V.int) us->IntsAre us ns
 | [],_,.nil=>.nil
 | n::ns,_,.cons ⟨t,e⟩ r=>by subst e;exact .cons _ t (gh r)
end
end L2
namespace L2
open PySem PySem.Spec PyProof.Rows
section
variable {X:Cx}
def vI (K:PySem.W.Frag):List V->Hp->VK->Prop:=λxs H Q=>∃(a:Addr) (ns:List Int),xs=[.ref a]/\aT K H a (ns.map V.int)/\ns≠[]/\∀ m,m∈ns->(∀ n∈ns,m<=n)->Q (.int m) H
theorem lG (hc:X.calm=true):cq X (.builtin "min") (vI X.K):=by
 intro pins s σ H xs us Q I r h
 obtain⟨a,ns,rfl,hq,ne,q⟩:=h
 obtain⟨u,rfl,ru⟩:=vals1 r
 cases ru
 obtain⟨its,rv,p,hz⟩:=I.list hq
 have hi:=gh rv
 have hl:=p.isList
 obtain⟨ys,e⟩:=hi.allInts.items
 have hns:ns=ys.toList.map (·.1):=by rw [<- hi.numsOf,<- nums_intItems,<- e]
 have hl0:0<ns.length:=List.length_pos_iff.mpr ne
 have hsz:0<ys.size:=by rw [hns,List.length_map,Array.length_toList] at hl0;exact hl0
 rw [e] at hl
 refine min_intList (I.ok.hd hc) hl hsz λv h' tk hv hk=>?_
 obtain⟨t,rfl⟩:=intItems_at hv
 obtain⟨b1,b2⟩:=argBest_lt (numAt ys) (ys.size-1)
 refine⟨.int _,H,I.kept hk,⟨t,rfl⟩,q _ ?_ λn hn=>?_⟩
 ·rw [hns,numAt_eq]
  exact getD_mem (by rw [List.length_map,Array.length_toList];omega)
 ·rw [hns] at hn
  obtain⟨j,hj,rfl⟩:=mem_getD hn
  rw [List.length_map,Array.length_toList] at hj
  rw [<- numAt_eq]
  exact b2 j (by omega)
end
theorem bD {X:Cx} (K:PySem.W.Frag) (hK:X.K=K):cq X (.builtin "isinstance") (jA K):=hK▸lD
theorem l9 {X:Cx} {a:Expr} {ta:TE} (K:PySem.W.Frag) (hK:X.K=K) (ha:PE X a ta) (he:∀ whole,isTrue a X.env whole=(do let v <- whole;standAt a.pos;holding [v] (truthy v))) :
  PT X a (λσ H Q=>ta σ H λx H'=>∃ k,mF K x H' k/\Q k H'):=hK▸bH ha he
end L2
set_option maxHeartbeats 8000000
namespace K
open PySem PySem.Spec PyProof.Rows L2
def top (i:Nat):Stmt:=PySem.Challenge.pw_rootprime_k75_sums_of_squares_gone_throu.main.body.getD i (.Pass ⟨0,0,0,0⟩)
theorem gu {α:Type} {us:List α} {n:Nat} (h:us.length=n+1):∃ a r,us=a::r/\r.length=n:=by
 cases us with
 | nil=>cases h
 | cons a r=>exact⟨a,r,rfl,Nat.succ.inj h⟩
theorem nq {α:Type} {us:List α} (h:us.length=1):∃ a,us=[a]:=(gu h).elim λa h=>h.elim λr h=>⟨a,h.1.trans (congrArg (a::·) (List.eq_nil_of_length_eq_zero h.2))⟩
theorem nr {α:Type} {us:List α} (h:us.length=2):∃ a b,us=[a,b]:=(gu h).elim λa h=>h.elim λr h=>(nq h.2).elim λb h2=>⟨a,b,h.1.trans (congrArg (a::·) h2)⟩
theorem ny {α:Type} {us:List α} (h:us.length=3):∃ a b c,us=[a,b,c]:=(gu h).elim λa h=>h.elim λr h=>(nr h.2).elim λb h2=>h2.elim λc h2=>⟨a,b,c,h.1.trans (congrArg (a::·) h2)⟩
theorem nz {α:Type} {us:List α} (h:us.length=4):∃ a b c d,us=[a,b,c,d]:=(gu h).elim λa h=>h.elim λr h=>(ny h.2).elim λb h2=>h2.elim λc h2=>h2.elim λd h2=>⟨a,b,c,d,h.1.trans (congrArg (a::·) h2)⟩
theorem nA {α:Type} {us:List α} (h:us.length=5):∃ a b c d e,us=[a,b,c,d,e]:=(gu h).elim λa h=>h.elim λr h=>(nz h.2).elim λb h2=>h2.elim λc h2=>h2.elim λd h2=>h2.elim λe h2=>⟨a,b,c,d,e,h.1.trans (congrArg (a::·) h2)⟩
theorem rL {α:Type} {us:List α} (h:us.length=6):∃ a b c d e f,us=[a,b,c,d,e,f]:=(gu h).elim λa h=>h.elim λr h=>(nA h.2).elim λb h2=>h2.elim λc h2=>h2.elim λd h2=>h2.elim λe h2=>h2.elim λf h2=>⟨a,b,c,d,e,f,h.1.trans (congrArg (a::·) h2)⟩
theorem fG {N P:List Str} {sc:Scope} (a:sc.kind=.function:=by exact rfl) (b:sc.isCoroutine=false:=by exact rfl) (c:sc.isGenerator=false:=by exact rfl) (d:N.Nodup:=by decide +kernel) (e:N.take P.length=P:=by exact rfl) (f:∀ x∈P,sc.names.lookup x=some .local∨sc.names.lookup x=some .cell:=by decide +kernel) (g:∀ y∈sc.names,y.2≠.free:=by decide +kernel):ar N P sc:=⟨a,b,c,d,e,f,g⟩
theorem fc {F:PySem.W.Frag} {mg:Str->Option Value} {x:Str} {h:Heap} {f:Addr} {st:Stmt} {oc:Value} {od an:Option Addr} {osl:Array (Option Value)} {kV doc pm cdv ct:Value} (X:F.In h) (G:h.Ns mainGlobals mg) (a:PySem.W.nsIn F mainGlobals x=some (some (.ref f)):=by k_is) (l:F.lookup f=some ⟨oc,od,.func (PySem.W.fnOf x x (aX st) (aE st) (ai st) .none kV doc pm an cdv ct),osl⟩:=by k_is) (c:PySem.W.codeIn F cdv x=true:=by k_is) (kk:PySem.W.keepIn F (.ref f)=true:=by k_is):av (eC X) mg x st:=mM X G a l c kk
theorem uH {X:Cx} {N':List Str} {js:List (Option Nat)} {scope:Scope} {cl:List (Str × Addr)} (clos:closureFor scope X.env=pure cl) (kind:scope.kind=.function) (nocell:∀ y∈scope.names,y.2=.cell->scope.names.lookup y.1=some .cell/\∀ p∈js.zip N',p.1.isSome=true->p.2≠y.1:=by decide +kernel) (names:∀ y∈scope.names,y.2=.local->scope.names.lookup y.1=some .local:=by decide +kernel) (sub:AllIn X.env cl:=by repeat (first | exact True.intro | refine⟨rfl,?_⟩)) (has:dX cl scope.names:=by repeat (first | exact True.intro | refine⟨rfl,?_⟩ | refine⟨True.intro,?_⟩)) (j:dF X scope cl js N':=by repeat (first | exact True.intro | refine⟨⟨rfl,rfl,.inl rfl,.inl rfl⟩,?_⟩)):du X N' js scope cl:=sX clos kind nocell names sub has j
theorem bU {X:Cx} {pos:Pos} {i:Nat} {x:Str} {e:Expr} {te:TE} {pos':Pos} (hN:X.N.Nodup) (he:PE X e te) (hi:X.N[i]?=some x:=by exact rfl) (hx:Loc X.env.scope x:=by exact Or.inl rfl) (hs:swapsWith e (some (.Name x pos')) pos.line X.env=pure false:=by rfl) (hf:X.fn x=true∨X.env.scope.names.lookup x=some .local:=by first | exact .inl rfl | exact .inr rfl | assumption):PS X (.Assign [.Name x pos'] e pos) (qV te (fh i)):=ue hN hi hx he hs hf
theorem fW {X:Cx} {CX:fN} {k n:Nat} {x:Str} {ps:List Str} {sp:Sp} {E:XK} {e:Expr} {es:List Expr} {t:TA} {p pos:Pos} (C:Callee X.prog X.w X.K X.mg X.base CX k x ps sp) (hr:a4 n X.A) (hx:Passes CX X E) (ha:PA X (e::es) t) (hm:k<=n:=by decide) (hg:Gl X x:=by exact rfl) (hdb:(x==("__debug__":Str))=false:=by decide) (he:starEach (e::es) X.env=(false,eval e X.env)::starEach es X.env:=by rfl) (hpl:(backTo pos (starEach es X.env)).any (·.1)=false:=by rfl):PE X (.Call (.Name x p) (e::es) [] pos) (lq sp [] E t):=bb C (hr.mono hm) hg hx ha hdb he hpl
theorem cO {P:Program} {w:World} {F:PySem.W.Frag} {mg:Str->Option Value} {base:Heap} {k:Nat} {x:Str} {ps:List Str} {sp:Sp} {st:Stmt} {N:List Str} (D:av F mg x st) (S:ar N ps (ai st))
  (hbody:∀(f:Addr) (cdv:Value) (A:Around) (outer:List Env) (s:Shared) (H:Hp) (vs:List V) (Q:VK) (E:XK),a4 k (A.deeper (envOfC x (ai st) s.heap.objs.size f cdv))->sp vs H Q E->∃ t,eY (bZ aZ P w F mg base N x (ai st) f cdv A outer s H E).j8 (aE st) t/\t { nx:=λ_ H'=>Q .non H',rt:=Q } (start N vs) H)
  (hb:∀(kV doc pm:Value) (an:Option Addr) (cdv ct:Value) (us:List Value),us.length=ps.length->bindArgs (PySem.W.fnOf x x (aX st) (aE st) (ai st) .none kV doc pm an cdv ct) ⟨us,[]⟩=pure (ps.zip us):=by
    intro _ _ _ _ _ _ us hl
    first | (obtain⟨_,rfl⟩:=nq hl;exact rfl) | (obtain⟨_,_,rfl⟩:=nr hl;exact rfl) | (obtain⟨_,_,_,rfl⟩:=ny hl;exact rfl) | (obtain⟨_,_,_,_,rfl⟩:=nz hl;exact rfl) | (obtain⟨_,_,_,_,_,rfl⟩:=nA hl;exact rfl) | (obtain⟨_,_,_,_,_,_,rfl⟩:=rL hl;exact rfl))
  (len:∀ vs H Q E,sp vs H Q E->vs.length=ps.length:=by
    intro _ _ _ _ h
    first | (obtain⟨_,rfl,_⟩:=h;rfl) | (obtain⟨_,_,rfl,_⟩:=h;rfl) | (obtain⟨_,_,_,rfl,_⟩:=h;rfl) | (obtain⟨_,_,_,_,rfl,_⟩:=h;rfl) | (obtain⟨_,_,_,_,_,rfl,_⟩:=h;rfl) | (obtain⟨_,_,_,_,_,_,rfl,_⟩:=h;rfl) | (obtain⟨_,_,_,_,_,_,_,rfl,_⟩:=h;rfl) | (obtain⟨_,_,_,_,_,_,_,_,rfl,_⟩:=h;rfl) | (obtain⟨_,_,_,_,_,_,_,_,_,rfl,_⟩:=h;rfl) | (obtain⟨_,_,_,_,_,_,_,_,_,_,rfl,_⟩:=h;rfl) | (obtain⟨_,_,_,_,_,_,_,_,_,_,_,rfl,_⟩:=h;rfl) | (obtain⟨_,_,_,_,_,_,_,_,_,_,_,_,rfl,_⟩:=h;rfl) | (obtain⟨_,_,_,_,_,_,_,_,_,_,_,_,_,rfl,_⟩:=h;rfl) | (obtain⟨_,_,_,_,_,_,_,_,_,_,_,_,_,_,rfl,_⟩:=h;rfl) | (obtain⟨_,_,_,_,_,_,_,_,_,_,_,_,_,_,_,rfl,_⟩:=h;rfl)):Callee P w F mg base aZ (k+1) x ps sp:=lH D hb S len hbody
theorem cX {P:Program} {w:World} {F:PySem.W.Frag} {mg:Str->Option Value} {base:Heap} {k:Nat} {x:Str} {ps:List Str} {sp:Sp} {st:Stmt} {N:List Str} (D:av F mg x st) (S:ar N ps (ai st))
  (hbody:∀(f:Addr) (cdv:Value) (A:Around) (outer:List Env) (s:Shared) (H:Hp) (vs:List V) (Q:VK) (E:XK),a4 k (A.deeper (envOfC x (ai st) s.heap.objs.size f cdv))->sp vs H Q E->∃ t,eY (bZ (iU P w) P w F mg base N x (ai st) f cdv A outer s H E) (aE st) t/\t { nx:=λ_ H'=>Q .non H',rt:=Q } (start N vs) H)
  (hb:∀(kV doc pm:Value) (an:Option Addr) (cdv ct:Value) (us:List Value),us.length=ps.length->bindArgs (PySem.W.fnOf x x (aX st) (aE st) (ai st) .none kV doc pm an cdv ct) ⟨us,[]⟩=pure (ps.zip us):=by
    intro _ _ _ _ _ _ us hl
    first | (obtain⟨_,rfl⟩:=nq hl;exact rfl) | (obtain⟨_,_,rfl⟩:=nr hl;exact rfl) | (obtain⟨_,_,_,rfl⟩:=ny hl;exact rfl) | (obtain⟨_,_,_,_,rfl⟩:=nz hl;exact rfl) | (obtain⟨_,_,_,_,_,rfl⟩:=nA hl;exact rfl) | (obtain⟨_,_,_,_,_,_,rfl⟩:=rL hl;exact rfl))
  (len:∀ vs H Q E,sp vs H Q E->vs.length=ps.length:=by
    intro _ _ _ _ h
    first | (obtain⟨_,rfl,_⟩:=h;rfl) | (obtain⟨_,_,rfl,_⟩:=h;rfl) | (obtain⟨_,_,_,rfl,_⟩:=h;rfl) | (obtain⟨_,_,_,_,rfl,_⟩:=h;rfl) | (obtain⟨_,_,_,_,_,rfl,_⟩:=h;rfl) | (obtain⟨_,_,_,_,_,_,rfl,_⟩:=h;rfl) | (obtain⟨_,_,_,_,_,_,_,rfl,_⟩:=h;rfl) | (obtain⟨_,_,_,_,_,_,_,_,rfl,_⟩:=h;rfl) | (obtain⟨_,_,_,_,_,_,_,_,_,rfl,_⟩:=h;rfl) | (obtain⟨_,_,_,_,_,_,_,_,_,_,rfl,_⟩:=h;rfl) | (obtain⟨_,_,_,_,_,_,_,_,_,_,_,rfl,_⟩:=h;rfl) | (obtain⟨_,_,_,_,_,_,_,_,_,_,_,_,rfl,_⟩:=h;rfl) | (obtain⟨_,_,_,_,_,_,_,_,_,_,_,_,_,rfl,_⟩:=h;rfl) | (obtain⟨_,_,_,_,_,_,_,_,_,_,_,_,_,_,rfl,_⟩:=h;rfl) | (obtain⟨_,_,_,_,_,_,_,_,_,_,_,_,_,_,_,rfl,_⟩:=h;rfl)):Callee P w F mg base (iU P w) (k+1) x ps sp:=jU D hb S len hbody
end K
local macro_rules | `(tactic| k_data) => `(tactic| (iterate 2 ((try dsimp only [L2.bL, L2.wm, L2.su, L2.sf, L2.wg, L2.xC, L2.uy, L2.tC, L2.wk, L2.rI, L2.rW, L2.rU, L2.xZ, L2.sC, L2.qV, L2.fh, L2.o9, L2.wo, L2.wq, L2.we, L2.xU, L2.wc, L2.sj, L2.v7, L2.xW, L2.wj, L2.se, L2.xE, L2.sq, L2.tB, L2.v8, L2.si, L2.rE, L2.vd, L2.lq, L2.qW, L2.uw, L2.rH, L2.vi, L2.vj, L2.mZ, L2.vk, L2.xY, L2.xF, L2.sA, L2.qX, L2.sk, L2.xR, L2.xS, L2.xT, L2.v9, L2.yv, L2.wZ, L2.sg, L2.rY, L2.sh, L2.iQ, L2.vh, L2.o8, L2.uz, L2.xH, L2.yw, L2.xG, L2.ve, L2.rF, L2.ux, L2.mY, List.getElem?_cons_zero, List.getElem?_cons_succ, List.set_cons_zero, List.set_cons_succ, List.nil_append, List.cons_append, L2.wD, L2.yd, L2.uY]); (try simp only [Option.some.injEq, exists_eq_left', exists_and_left, List.cons.injEq, L2.V.int.injEq, L2.V.bl.injEq, and_true, true_and, and_assoc, decide_eq_true_eq, List.append_nil, Int.reduceToNat, Int.reducePow, Int.reduceLT, Int.reduceLE, Int.reduceNeg, Int.zero_add, Nat.reducePow, Nat.reduceLT, Int.reduceAdd, Int.reduceSub, Int.reduceMul, L2.V.ref.injEq, L2.b8, L2.pe, exists_eq_left, exists_eq', exists_eq, exists_const, L2.qN, L2.qL, L2.qO, L2.qP, L2.qQ, L2.qM, L2.qR, reduceIte, reduceCtorEq, Bool.not_eq_true', decide_eq_false_iff_not, Int.reduceAbs, Bool.not_true, Bool.not_false, if_true, Bool.false_eq_true, if_false, L2.sI, L2.uQ]))))
namespace K
open PySem PySem.Spec PyProof.Rows L2
section
variable {P:Program} {w:World} {K:PySem.W.Frag} {mg:Str->Option Value} {base:Heap}
theorem uG {i:Int} (h:(decide (i.natAbs<10^250))=true):Bd i:=Nat.lt_of_lt_of_le (of_decide_eq_true h) mG
def jE (K:PySem.W.Frag):Sp:=λvs H Q _=>∃(a:Addr) (ns:List Int) (k:Nat),vs=[.ref a,.int k]/\aT K H a (ns.map V.int)/\∀ c,Q (.int c) H
theorem cf:ar ["_law_script","_law_k"] ["_law_script","_law_k"] (ai (top 23)):=fG
theorem lU (D:av K mg "_law_cell_at" (top 23)) (n_len:mg "len"=none):Callee P w K mg base aZ 1 "_law_cell_at" ["_law_script","_law_k"] (jE K):=by
 refine cO D cf (λf cdv A outer s H vs Q E hr h=>?_)
 obtain⟨a,ns,k,rfl,hS,q⟩:=h
 have nd:=cf.nd
 refine⟨_,(af (a6 (aw fw (pv 1) (aC cM rfl n_len PySem.boot_len (aa (pv 0) ah)) (az _)) (ak (ay (b9 ia (pv 0) (pv 1) (λ_ _=>rfl)))) aF) (ak (ay ag))),?_⟩
 show bL _ _ _ [some (.ref a),some (.int k)] H
 k_data
 refine ip hS ?_
 refine⟨_,rfl,?_⟩
 rw [List.length_map]
 refine ba (λc=>?_) (λc=>q _)
 refine ib hS (by omega) (by rw [List.length_map];exact c) λv hv=>?_
 obtain⟨i,_,rfl⟩:=List.mem_map.mp hv
 exact q i
def lj:Sp:=λvs H Q _=>∃(c:Int) (b:Bool),vs=[.int c,.bl b]/\∀ p l H',aA H H'->H p=none->H' p=some (mx l b)->rP l b->Q (.ref p) H'
theorem df:ar ["_law_cell","_law_free"] ["_law_cell","_law_free"] (ai (top 24)):=fG
theorem nZ (D:av K mg "_law_state" (top 24)):Callee P w K mg base aZ 1 "_law_state" ["_law_cell","_law_free"] lj:=by
 refine cO D df (λf cdv A outer s H vs Q E hr h=>?_)
 obtain⟨c,b,rfl,q⟩:=h
 have nd:=df.nd
 refine⟨_,(af (a6 (bH (pv 1) (λ_=>rfl)) (ak (ay (kS (dR a8 (pv 0) (dR a8 gA kW)) rfl rfl (by intro z;cases z) (by decide)))) aF) (ak (ay (kS (dR a8 (aq bw ag (aq aL (pv 0) ag)) (dR a8 gA kW)) rfl rfl (by intro z;cases z) (by decide))))),?_⟩
 show bL _ _ _ [some (.int c),some (.bl b)] H
 k_data
 refine ba (λz=>λp hp=>⟨ae,[(Sum.inr "left",.int c),(Sum.inr "free",.bl true)],rfl,by show 2<=15;decide,?_⟩) (λz=>λp hp=>⟨ae,[(Sum.inr "left",.int (1+c%2147483646)),(Sum.inr "free",.bl false)],rfl,by show 2<=15;decide,?_⟩)
 ·subst z
  rw [eA]
  exact q p c _ (ao hp) hp ae (.inl rfl)
 ·have z:b=false:=by simpa using z
  subst z
  rw [eA]
  exact q p (1+c%2147483646) _ (ao hp) hp ae (.inr ⟨by omega,by omega⟩)
def oX:Sp:=λvs H Q _=>∃(p:Addr) (m l:Int) (b:Bool),vs=[.ref p,.int m]/\H p=some (mx l b)/\rP l b/\0<m/\m<10^200/\∀ r H',0<=r->r<m->Up p b H H'->Q (.int r) H'
theorem dU:ar ["_law_state_here","_law_many","_law_found"] ["_law_state_here","_law_many"] (ai (top 25)):=fG
theorem qz (D:av K mg "_law_take" (top 25)):Callee P w K mg base aZ 1 "_law_take" ["_law_state_here","_law_many"] oX:=by
 refine cO D dU (λf cdv A outer s H vs Q E hr h=>?_)
 obtain⟨p,m,l,b,rfl,hp,hl,hm,hm1,q⟩:=h
 have nd:=dU.nd
 refine⟨_,(af (a6 (bH (b3 (cz hr) (pv 0) a8 (λ_ _=>rfl)) (λ_=>rfl)) (af (bU (i:=2) nd (aq aL (b3 (cz hr) (pv 0) a8 (λ_ _=>rfl)) (pv 1))) (af (iE (cz hr) (pv 0) a8 (aq b0 (b3 (cz hr) (pv 0) a8 (λ_ _=>rfl)) (pv 1)) rfl) (ak (ay (pv 2))))) aF) (af (iE (cz hr) (pv 0) a8 (aq aL (aq aD (b3 (cz hr) (pv 0) a8 (λ_ _=>rfl)) ag) ag) rfl) (ak (ay (aq aL (aq b0 (aq aL (aq aD (b3 (cz hr) (pv 0) a8 (λ_ _=>rfl)) ag) ag) ag) (pv 1)))))),?_⟩
 show bL _ _ _ [some (.ref p),some (.int m),none] H
 k_data
 refine⟨_,mU hp,b,b8.mpr rfl,?_⟩
 refine ba (λz=>?_) (λz=>?_)
 ·subst z
  refine⟨_,dJ hp,l,rfl,hm,_,dJ hp,l,rfl,hm,Bd.of (by omega) (by omega),_,jz hp,?_⟩
  exact q _ _ (Int.emod_nonneg _ (by omega)) (Int.emod_lt_of_pos _ hm) ⟨_,.inl rfl,rfl⟩
 ·have z:b=false:=by simpa using z
  subst z
  obtain⟨l0,l1⟩:0<=l/\l<2147483647:=by rcases hl with z | z;cases z;exact z
  refine⟨_,dJ hp,l,rfl,Bd.of (by omega) (by omega),uG (by decide),_,jz hp,_,dJ ae,_,rfl,Bd.of (by omega) (by omega),uG (by decide),uG (by decide),hm,?_⟩
  exact q _ _ (Int.emod_nonneg _ (by omega)) (Int.emod_lt_of_pos _ hm) ⟨_,.inr ⟨by omega,by omega⟩,rfl⟩
def eB (a:Int):Prop := -(10^240)<=a/\a<=10^240
theorem eB.bd {a:Int} (h:eB a):Bd a:=Bd.of (by have:=h.1;omega) (by have:=h.2;omega)
def gH:Sp:=λvs H Q _=>∃ a b:Int,vs=[.int a,.int b]/\eB a/\eB b/\∀ g u v p H',Gcd.wt a b g u v->aA H H'->H' p=some (.tup [.int g,.int u,.int v])->Q (.ref p) H'
theorem fH:ar ["a","b","g","u","v","next_g","next_u","next_v","times"] ["a","b"] (ai (top 5)):=fG
structure DS where
 (g u v ng nu nv:Int)
 t:Option V
theorem j9 (D:av K mg "divisor" (top 5)) (n_abs:mg "abs"=none):Callee P w K mg base aZ 1 "divisor" ["a","b"] gH:=by
 refine cO D fH (λf cdv A outer s H vs Q E hr h=>?_)
 obtain⟨a,b,rfl,ha,hb,q⟩:=h
 have nd:=fH.nd
 refine⟨_,(af (kY (i:=2) (j:=3) (k:=4) rfl nd rfl rfl rfl (by decide) (by decide) (by decide) rfl rfl rfl (aa (aC bC rfl n_abs L2.boot_abs (aa (pv 0) ah)) (aa ag (aa ag ah))) rfl) (af (kY (i:=5) (j:=6) (k:=7) rfl nd rfl rfl rfl (by decide) (by decide) (by decide) rfl rfl rfl (aa (aC bC rfl n_abs L2.boot_abs (aa (pv 1) ah)) (aa ag (aa ag ah))) rfl) (af (bj PassesOwn.never (aw dN (pv 5) ag (az _)) (af (bU (i:=8) nd (aq b0 (pv 2) (pv 5))) (af (iG (i:=2) (j:=5) rfl nd rfl rfl (by decide) rfl rfl (aa (pv 5) (aa (aq bF (pv 2) (aq aD (pv 8) (pv 5))) ah)) rfl) (af (iG (i:=3) (j:=6) rfl nd rfl rfl (by decide) rfl rfl (aa (pv 6) (aa (aq bF (pv 3) (aq aD (pv 8) (pv 6))) ah)) rfl) (ak (iG (i:=4) (j:=7) rfl nd rfl rfl (by decide) rfl rfl (aa (pv 7) (aa (aq bF (pv 4) (aq aD (pv 8) (pv 7))) ah)) rfl)))))) (ak (ay (aR (aa (pv 2) (aa (fx (aw fw (pv 0) ag (az _)) (rS pB (pv 3)) (pv 3)) (aa (fx (aw fw (pv 1) ag (az _)) (rS pB (pv 4)) (pv 4)) ah))))))))),?_⟩
 show bL _ _ _ [some (.int a),some (.int b),none,none,none,none,none,none,none] H
 k_data
 have hA:0<=(if a<0 then -a else a)/\(if a<0 then -a else a)<=10^240:=by have:=ha.1;have:=ha.2;split<;>omega
 have hB:0<=(if b<0 then -b else b)/\(if b<0 then -b else b)<=10^240:=by have:=hb.1;have:=hb.2;split<;>omega
 refine br (α:=DS) (λx=>[some (.int a),some (.int b),some (.int x.g),some (.int x.u),some (.int x.v),some (.int x.ng),some (.int x.nu),some (.int x.nv),x.t])
  (λx H'=>H'=H/\Gcd.J (if a<0 then -a else a) (if b<0 then -b else b) x.g x.u x.v x.ng x.nu x.nv/\x.g<=10^240/\x.ng<=10^240) (λx=>x.ng.toNat)
  ⟨_,1,0,_,0,1,none⟩ rfl ⟨rfl,Gcd.J.start hA.1 hB.1,hA.2,hB.2⟩ ?_
 rintro x H1 ⟨rfl,j,hg,hng⟩
 k_data
 refine ba (λc=>?_) (λc=>?_)
 ·refine⟨_,λ_ _ z=>z,?_⟩
  obtain⟨s1,s2,s3,s4⟩:=j.small hA.1 hB.1 hA.2 hB.2 (by omega)
  obtain⟨j',l,q0,ql⟩:=j.turn c
  have bg:eB x.ng:=⟨by omega,hng⟩
  have bq:eB (x.g/x.ng):=⟨by omega,by omega⟩
  refine⟨c,bg.bd,bq.bd,bg.bd,bq.bd,eB.bd s3,bq.bd,eB.bd s4,⟨x.ng,x.nu,x.nv,x.g-x.g/x.ng*x.ng,x.u-x.g/x.ng*x.nu,x.v-x.g/x.ng*x.nv,some (.int (x.g/x.ng))⟩,rfl,rfl,j',hng,by show (x.g-x.g/x.ng*x.ng)<=_;omega,by show (x.g-x.g/x.ng*x.ng).toNat<x.ng.toNat;omega⟩
 ·have e:x.ng=0:=by have:=j.n0;omega
  rw [e] at j
  have z:=j.done
  refine ba (λca=>?_) (λca=>?_)<;>simp only [ca,if_true,if_false] at z ⊢<;>refine ba (λcb=>?_) (λcb=>?_)<;>simp only [cb,if_true,if_false] at z ⊢ <;>
   exact⟨by show 3<=sizeLine;decide,λp hp=>q _ _ _ p _ z (ao hp) ae⟩
end
end K
namespace K
open PySem PySem.Spec PyProof.Rows L2
structure Gd (n a g:Int):Prop where
 pos:0<g
 dn:g∣n
 da:g∣a
 gr:∀ d:Int,d∣n->d∣a->d∣g
theorem Gd.one {n a g g':Int} (h:Gd n a g) (h':Gd n a g'):g=g' :=
 Int.le_antisymm (Int.le_of_dvd h'.pos (h'.gr g h.dn h.da)) (Int.le_of_dvd h.pos (h.gr g' h'.dn h'.da))
theorem i6 {n a g:Int} (dn:g∣n):g∣a%n↔g∣a:=by
 have e:=Int.mul_ediv_add_emod a n
 constructor
 ·intro h
  rw [<- e]
  exact Int.dvd_add (Int.dvd_mul_of_dvd_left dn) h
 ·intro h
  have:a%n=a-n*(a/n):=by omega
  rw [this]
  exact Int.dvd_sub h (Int.dvd_mul_of_dvd_left dn)
theorem Gd.of {n a g u v:Int} (hn:0<n) (z:Gcd.wt (a%n) n g u v):Gd n a g:=by
 refine⟨?_,z.db,(i6 z.db).mp z.da,λd h1 h2=>?_⟩
 ·have:=z.g0
  rcases (by omega:g=0∨0<g) with e | e
  ·have:=z.db
   rw [e] at this
   have:=Int.zero_dvd.mp this
   omega
  ·exact e
 ·rw [<- z.lin]
  exact Int.dvd_add (Int.dvd_mul_of_dvd_right ((i6 h1).mpr h2)) (Int.dvd_mul_of_dvd_right h1)
theorem tE {n a u v:Int} (hn:0<n) (z:Gcd.wt (a%n) n 1 u v):n∣u%n*a-1:=by
 have e:=z.lin
 have e1:=Int.mul_ediv_add_emod a n
 have e2:=Int.mul_ediv_add_emod u n
 refine⟨u*(a/n)-v-u/n*a,?_⟩
 generalize a%n=x at *
 generalize u%n=y at *
 generalize a/n=s at *
 generalize u/n=t at *
 grind
section
variable {P:Program} {w:World} {K:PySem.W.Frag} {mg:Str->Option Value} {base:Heap}
def gI (C:Addr):Sp:=λvs H Q E=>∃ n a:Int,vs=[.int n,.int a]/\0<n/\n<=10^240/\∀ g,Gd n a g ->
 (g=1->∀ r H',0<=r->r<n->n∣r*a-1->aA H H'->Q (.int r) H') /\
 (1<g->∀ x dx H',aA H H'->H x=none->H' x=some (XO x C (some dx))->H' dx=some (.xd [("divisor",.int g)])->E (.ref C) (some x) H')
theorem fI:ar ["n","a","g","u","v"] ["n","a"] (ai (top 6)):=fG
theorem ka {C:Addr} (D:av K mg "inverse" (top 6)) (c_divisor:Callee P w K mg base aZ 1 "divisor" ["a","b"] gH) (x_NoInverse:sO P w K mg base "NoInverse" C "divisor"):Callee P w K mg base (iU P w) 3 "inverse" ["n","a"] (gI C):=by
 refine cX D fI (λf cdv A outer s H vs Q E hr h=>?_)
 obtain⟨n,a,rfl,hn,hn1,q⟩:=h
 have nd:=fI.nd
 refine⟨_,(af (iC (fW c_divisor hr aS (aa (aq aL (pv 1) (pv 0)) (aa (pv 0) ah))) (b5 (n:=3) rfl (ax (au (i:=2) nd rfl (Or.inl rfl) (.inr rfl)) (ax (au (i:=3) nd rfl (Or.inl rfl) (.inr rfl)) (ax (au (i:=4) nd rfl (Or.inl rfl) (.inr rfl)) bc))))) (af (a6 (aw dN (pv 2) ag (az _)) (ak (oF (uc x_NoInverse (hr.mono (by decide)) rfl (aa (pv 2) ah)))) aF) (eY.j8 (ak (ay (aq aL (pv 3) (pv 0))))))),?_⟩
 show bL _ _ _ [some (.int n),some (.int a),none,none,none] H
 k_data
 have r0:=Int.emod_nonneg a (show n≠0 by omega)
 have r1:=Int.emod_lt_of_pos a hn
 refine⟨hn,a%n,n,rfl,⟨by omega,by omega⟩,⟨by omega,by omega⟩,λg u v p H1 z hs hh=>?_⟩
 have G:=Gd.of hn z
 obtain⟨q1,q2⟩:=q g G
 refine⟨p,_,rfl,a9.of hh,rfl,?_⟩
 k_data
 refine ba (λc=>?_) (λc=>?_)
 ·intro x dx hx hdx ne
  have ne':dx≠x:=ne
  refine⟨C,some dx,ae,x_NoInverse.cls,?_,?_⟩
  ·cases e:H x with
   | none=>rfl
   | some o=>rw [hs _ _ e] at hx;cases hx
  ·refine q2 c x dx _ ?_ ?_ ae ?_
   ·intro b o e
    have e1:=hs _ _ e
    have bx:b≠x:=λy=>by rw [y,hx] at e1;cases e1
    have bd:b≠dx:=λy=>by rw [y,hdx] at e1;cases e1
    rw [aj bx,aj bx,aj bd,aj bx]
    exact e1
   ·cases e:H x with
    | none=>rfl
    | some o=>rw [hs _ _ e] at hx;cases hx
   ·rw [aj ne',aj ne',ae]
 ·have g1:g=1:=by have:=G.pos;omega
  subst g1
  exact⟨hn,q1 rfl _ _ (Int.emod_nonneg _ (by omega)) (Int.emod_lt_of_pos _ hn) (tE hn z) hs⟩
end
end K
namespace K
open PySem PySem.Spec PyProof.Rows L2
section
variable {P:Program} {w:World} {K:PySem.W.Frag} {mg:Str->Option Value} {base:Heap}
def lh (C:Addr):Sp:=λvs H Q E=>∃ n a e:Int,vs=[.int n,.int a,.int e]/\0<n/\n<=10^120 /\
 (0<=e->∀ H',aA H H'->Q (.int (a^e.toNat%n)) H') /\
 (e<0->∀ g,Gd n a g ->
  (g=1->∀ b H',0<=b->b<n->n∣b*a-1->aA H H'->Q (.int (b^(-e).toNat%n)) H') /\
  (1<g->∀ x dx H',aA H H'->H x=none->H' x=some (XO x C (some dx))->H' dx=some (.xd [("divisor",.int g)])->E (.ref C) (some x) H'))
theorem jD:ar ["n","a","e","base","left","rest"] ["n","a","e"] (ai (top 11)):=fG
theorem nY {C:Addr} (D:av K mg "power" (top 11)) (c_inverse:Callee P w K mg base (iU P w) 3 "inverse" ["n","a"] (gI C)) (n_abs:mg "abs"=none):Callee P w K mg base (iU P w) 4 "power" ["n","a","e"] (lh C):=by
 refine cX D jD (λf cdv A outer s H vs Q E hr h=>?_)
 obtain⟨n,a,e,rfl,hn,hn1,q1,q2⟩:=h
 have nd:=jD.nd
 refine⟨_,(af (bU (i:=3) nd (aq aL (pv 1) (pv 0))) (af (iD (a6 (aw fw (pv 2) ag (az _)) (ak (bU (i:=3) nd (fW c_inverse hr oj (aa (pv 0) (aa (pv 1) ah))))) aF)) (eY.j8 (af (bU (i:=4) nd (aC bC rfl n_abs L2.boot_abs (aa (pv 2) ah))) (af (bU (i:=5) nd (aq aL ag (pv 0))) (af (bj PassesOwn.never (aw dN (pv 4) ag (az _)) (af (iD (a6 (aw c7 (aq aL (pv 4) ag) ag (az _)) (ak (bU (i:=5) nd (aq aL (aq aD (pv 5) (pv 3)) (pv 0)))) aF)) (af (bU (i:=3) nd (aq aL (aq aD (pv 3) (pv 3)) (pv 0))) (ak (oE (i:=4) nd rfl (Or.inl rfl) ag (rJ nh)))))) (ak (ay (pv 5))))))))),?_⟩
 show bL _ _ _ [some (.int n),some (.int a),some (.int e),none,none,none] H
 k_data
 refine⟨hn,λσ' H'=>aA H H'/\∃ b:Int,σ'=[some (.int n),some (.int a),some (.int e),some (.int b),none,none]/\0<=b/\b<n/\Q (.int (b^e.natAbs%n)) H',?_,?_⟩
 ·k_data
  refine ba (λc=>?_) (λc=>?_)
  ·refine⟨n,a,rfl,hn,by omega,λg G=>⟨λe1 r H' r0 r1 r2 hs=>?_,λg1 x dx H' hs hx hX hd=>?_⟩⟩
   ·have:=(q2 c g G).1 e1 r H' r0 r1 r2 hs
    rw [show (-e).toNat=e.natAbs by omega] at this
    exact⟨hs,r,rfl,r0,r1,this⟩
   ·exact (q2 c g G).2 g1 x dx H' hs hx hX hd
  ·have:=q1 (by omega) H (aA.refl _)
   rw [show e.toNat=e.natAbs by omega,<- Pw.fz] at this
   exact⟨aA.refl _,Int.emod_nonneg _ (by omega),Int.emod_lt_of_pos _ hn,this⟩
 ·rintro σ' H' ⟨hs,b,rfl,hb0,hb1,q⟩
  k_data
  refine⟨hn,?_⟩
  have ee:(if e<0 then -e else e)=(e.natAbs:Int):=by split<;>omega
  rw [ee]
  refine br (α:=Int × Nat × Int) (λx=>[some (.int n),some (.int a),some (.int e),some (.int x.1),some (.int x.2.1),some (.int x.2.2)]) (λx H1=>H1=H'/\0<=x.1/\x.1<n/\0<=x.2.2/\x.2.2<n/\x.2.2*x.1^x.2.1%n=b^e.natAbs%n) (λx=>x.2.1) (b,e.natAbs,1%n) rfl ⟨rfl,hb0,hb1,Int.emod_nonneg _ (by omega),Int.emod_lt_of_pos _ hn,?_⟩ ?_
  ·show 1%n*b^e.natAbs%n=_
   rw [Pw.vz,Int.one_mul]
  rintro⟨b',l,r⟩ H1 ⟨rfl,h1,h2,h3,h4,h5⟩
  replace h1:0<=b':=h1
  replace h2:b'<n:=h2
  replace h3:0<=r:=h3
  replace h4:r<n:=h4
  replace h5:r*b'^l%n=b^e.natAbs%n:=h5
  k_data
  refine ba (λc=>?_) (λc=>?_)
  ·refine⟨_,λ_ _ z=>z,λσ' H2=>H2=H1/\σ'=[some (.int n),some (.int a),some (.int e),some (.int b'),some (.int l),some (.int (if l%2=1 then r*b'%n else r))],?_,?_⟩
   ·k_data
    refine ba (λc=>?_) (λc=>?_)
    ·exact⟨Bd.of (by omega) (by omega),Bd.of (by omega) (by omega),hn,by rw [if_pos (by omega)]⟩
    ·rw [if_neg (by omega)]
   rintro σ' H2 ⟨rfl,rfl⟩
   k_data
   have r0:0<=(if l%2=1 then r*b'%n else r)/\(if l%2=1 then r*b'%n else r)<n:=by
    split
    ·exact⟨Int.emod_nonneg _ (by omega),Int.emod_lt_of_pos _ hn⟩
    ·exact⟨h3,h4⟩
   refine⟨Bd.of (by omega) (by omega),Bd.of (by omega) (by omega),hn,uG (by decide),(b'*b'%n,l/2,if l%2=1 then r*b'%n else r),rfl,(by show (l:Int)/2=((l/2:Nat):Int);omega),rfl,Int.emod_nonneg _ (by omega),Int.emod_lt_of_pos _ hn,r0.1,r0.2,?_,?_⟩
   ·show (if l%2=1 then r*b'%n else r)*(b'*b'%n)^(l/2)%n=_
    rw [Pw.step]
    exact h5
   ·show l/2<l
    omega
  ·have l0:l=0:=by omega
   subst l0
   rw [Int.pow_zero,Int.mul_one] at h5
   have h6:r%n=r:=Int.emod_eq_of_lt h3 h4
   rw [<- h5,h6] at q
   exact q
end
end K
namespace L2
open PySem PySem.Spec PyProof.Rows
theorem ie {X:Cx} (K:PySem.W.Frag) (h:X.K=K):wu X (ui K):=h▸dz
theorem iz {X:Cx} {pos:Pos} {es:List Expr} {k:Nat} {t:ri} {n:Nat} (K:PySem.W.Frag) (e:X.K=K) (hc:X.calm=true) (h:uO X es t)
  (hn:(assignEach es X.env).length=n:=by rfl) (hst:(assignEach es X.env).findIdx? (·.1)=none:=by rfl):PG X (.Tuple es k pos) (hZ K n t):=e▸b5 hc h hn hst
end L2
namespace K
open PySem PySem.Spec PyProof.Rows L2
section
variable {P:Program} {w:World} {K:PySem.W.Frag} {mg:Str->Option Value} {base:Heap}
theorem kh {X:Cx}:Passes (iU P w) X E0:=by
 intro pins σ H1 s1 e s' I hq
 obtain⟨x,C,T,dd,H',_,_,_,_,_,_,_,_,_,_,z⟩:=hq
 exact z.elim
theorem ic {H:Hp} {q:Addr} {xs:List V} {k:Int} {v:V} {Q:VK} (t:a9 K H q xs) (e:lC xs k=some v) (h:Q v H):ui K (.ref q) (.int k) H Q:=⟨q,xs,k,v,rfl,rfl,t,e,h⟩
theorem uF {x:V} {r:List V}:lC (x::r) 0=some x:=by
 unfold lC rK
 simp
theorem jR {n x:Int} (hn:2<=n):x%n=1↔Num.Al n x 1:=by
 constructor
 ·intro h
  refine⟨x/n,?_⟩
  have:=Int.emod_add_mul_ediv x n
  omega
 ·rintro⟨k,hk⟩
  rw [show x=1+n*k by omega,Int.add_mul_emod_self_left]
  exact Int.emod_eq_of_lt (by omega) (by omega)
theorem cD (P:Int->Prop) {g:Int} (h1:1<=g) (h:P g):∃ m,1<=m/\m<=g/\P m/\∀ a,1<=a->a<m->¬P a:=by
 have:∀(k:Nat) (g:Int),g.toNat=k->1<=g->P g->∃ m,1<=m/\m<=g/\P m/\∀ a,1<=a->a<m->¬P a:=by
  intro k
  induction k using Nat.strongRecOn with
  | ind k ih =>
   intro g hk h1 hg
   by_cases c:∃ a,1<=a/\a<g/\P a
   ·obtain⟨a,a1,a2,a3⟩:=c
    obtain⟨m,m1,m2,m3,m4⟩:=ih a.toNat (by omega) a rfl a1 a3
    exact⟨m,m1,by omega,m3,m4⟩
   ·exact⟨g,h1,Int.le_refl _,hg,λa a1 a2 a3=>c ⟨a,a1,a2,a3⟩⟩
 exact this _ g rfl h1 h
theorem vq {p:Int} (hp:Num.Pm p):∃ g,Num.LF p g:=by
 obtain⟨g,g1,g2,g3⟩:=Num.pX hp
 obtain⟨m,m1,m2,m3,m4⟩:=cD (λa=>Num.Ord p a (p-1).toNat) g1 g3
 exact⟨m,m1,by omega,m3,m4⟩
theorem iw {n:Int} {ps:List (Int × Int)} (h:Num.Part n ps) (hn:1<=n):∀ q∈ps.map (·.1),2<=q/\q<=n:=λq hq=>by
 obtain⟨x,hx,rfl⟩:=List.mem_map.mp hq
 obtain⟨o1,o2,_⟩:=h.ok x hx
 have:=Num.dI hx o2
 rw [h.prod] at this
 exact⟨o1.two,Int.le_of_dvd (by omega) this⟩
def iN:Sp:=λvs H Q _=>∃ p a:Int,vs=[.int p,.int a]/\Num.Pm p/\p<=10^60 /\ -(10^60)<=a/\a<=10^60/\¬p∣a/\∀ r,1<=r->r<p->Num.Ord p a r.toNat->Q (.int r) H
theorem dh:ar ["_law_p","_law_a","_law_here","_law_many"] ["_law_p","_law_a"] (ai (top 26)):=fG
theorem n6 (D:av K mg "_law_steps" (top 26)):Callee P w K mg base aZ 1 "_law_steps" ["_law_p","_law_a"] iN:=by
 refine cO D dh (λf cdv A outer s H vs Q E hr h=>?_)
 obtain⟨p,a,rfl,hp,p9,a0,a1,na,q⟩:=h
 have p2:=hp.two
 have nd:=dh.nd
 refine⟨_,(af (bU (i:=2) nd (aq aL (pv 1) (pv 0))) (af (bU (i:=3) nd ag) (af (bj PassesOwn.never (aw rR (pv 2) ag (az _)) (af (bU (i:=2) nd (aq aL (aq aD (pv 2) (pv 1)) (pv 0))) (ak (bU (i:=3) nd (aq bw (pv 3) ag))))) (ak (ay (pv 3)))))),?_⟩
 show bL _ _ _ [some (.int p),some (.int a),none,none] H
 k_data
 have r0:=λx:Int=>Int.emod_nonneg x (show p≠0 by omega)
 have r1:=λx:Int=>Int.emod_lt_of_pos x (show 0<p by omega)
 have fm:=(jR p2).mpr (Num.tq hp na)
 refine⟨by omega,?_⟩
 refine br (α:=Int × Nat) (λx=>[some (.int p),some (.int a),some (.int x.1),some (.int (x.2:Int))]) (λx H1=>H1=H/\x.1=a^x.2%p/\1<=x.2/\(x.2:Int)<=p-1/\∀ j:Nat,1<=j->j<x.2->a^j%p≠1) (λx=>(p+1-(x.2:Int)).toNat) (a%p,1) rfl ⟨rfl,by rw [Int.pow_succ,Int.pow_zero,Int.one_mul],Nat.le_refl _,by show (1:Int)<=p-1;omega,λj j1 (j2:j<1)=>by omega⟩ ?_
 rintro⟨h,k⟩ H1 ⟨eH,hh,k1,k2,no⟩
 replace hh:h=a^k%p:=hh
 replace k1:1<=k:=k1
 replace k2:(k:Int)<=p-1:=k2
 replace no:∀ j:Nat,1<=j->j<k->a^j%p≠1:=no
 rw [eH]
 have h0:=r0 (a^k)
 have h1:=r1 (a^k)
 rw [<- hh] at h0 h1
 k_data
 refine ba (λc=>?_) (λc=>?_)
 ·have kp:(k:Int)<p-1:=by
   rcases (by omega:(k:Int)<p-1∨(k:Int)=p-1) with z | z
   ·exact z
   ·rw [show (p-1).toNat=k by omega,<- hh] at fm
    exact absurd fm c
  refine⟨_,λ_ _ z=>z,Bd.of (by omega) (by omega),Bd.of (by omega) (by omega),by omega,(h*a%p,k+1),rfl,rfl,?_,by omega,by show ((k+1:Nat):Int)<=p-1;omega,λj j1 (j2:j<k+1)=>?_,by show (p+1-((k+1:Nat):Int)).toNat<(p+1-(k:Int)).toNat;omega⟩
  ·show h*a%p=a^(k+1)%p
   rw [hh,Int.pow_succ,Int.mul_emod,Int.emod_emod,<- Int.mul_emod]
  ·rcases (by omega:j<k∨j=k) with z | z
   ·exact no j j1 z
   ·rw [z,<- hh];exact c
 ·have c':h=1:=by omega
  have al:=(jR p2).mp (show a^k%p=1 by rw [<- hh,c'])
  exact q (k:Int) (by omega) (by omega) (by rw [Int.toNat_natCast];exact Num.dO (by omega) al λj j0 jk z=>no j (by omega) jk ((jR p2).mpr z))
def rT (p:Int × Int):PyData:=.tuple [.int p.1,.int p.2]
def bX (K:PySem.W.Frag):Sp:=λvs H Q _=>∃ n:Int,vs=[.int n]/\1<=n/\n<=10^9/\∀ ps us p H',Num.Part n ps->ps.length<=29->aA H H'->H p=none->H' p=some (.lst us)->aU K H' (ps.map rT) us->Q (.ref p) H'
theorem gj {n d:Int} (h:Ld.Inv n d) (hk:¬d∣n):Ld.Inv n (d+1+d%2):=by
 have:=h.step hk
 rcases h.odd with z | z
 ·rw [if_pos z] at this
  rwa [show d+1+d%2=d+1 by omega]
 ·rw [if_neg (by omega)] at this
  rwa [show d+1+d%2=d+2 by omega]
theorem cH:ar ["_law_n","_law_found","_law_d","_law_many"] ["_law_n"] (ai (top 27)):=fG
theorem ke (D:av K mg "_law_parted" (top 27)):Callee P w K mg base aZ 1 "_law_parted" ["_law_n"] (bX K):=by
 refine cO D cH (λf cdv A outer s H vs Q E hr h=>?_)
 obtain⟨n,rfl,n1,n9,q⟩:=h
 have nd:=cH.nd
 refine⟨_,(af (bU (i:=1) nd (bz ah)) (af (bU (i:=2) nd ag) (af (bj PassesOwn.never (aw dN (pv 0) ag (az _)) (af (iD (a6 (aw dN (aq aD (pv 2) (pv 2)) (pv 0) (az _)) (ak (bU (i:=2) nd (pv 0))) aF)) (af (bU (i:=3) nd ag) (af (bj PassesOwn.never (aw c7 (aq aL (pv 0) (pv 2)) ag (az _)) (af (bU (i:=0) nd (aq b0 (pv 0) (pv 2))) (ak (bU (i:=3) nd (aq bw (pv 3) ag))))) (af (iD (a6 (aw dN (pv 3) ag (az _)) (ak (iF (om PySem.F.plainAttrs_list PySem.F.slot_list_append PySem.F.type_list_append eo (pv 1) (aa (aR (aa (pv 2) (aa (pv 3) ah))) ah)))) aF)) (ak (bU (i:=2) nd (aq bw (aq bw (pv 2) ag) (aq aL (pv 2) ag))))))))) (ak (ay (pv 1)))))),?_⟩
 show bL _ _ _ [some (.int n),none,none,none] H
 k_data
 refine⟨by decide,λpp hpp=>?_⟩
 refine br (α:=Int × Int × Option V) (λx=>[some (.int x.1),some (.ref pp),some (.int x.2.1),x.2.2]) (λx H1=>aA H H1/\∃(ps:List (Int × Int)) (us:List V) (pr:Int),H1 pp=some (.lst us)/\aU K H1 (ps.map rT) us/\Num.Way n ps x.1 pr/\Ld.Inv x.1 x.2.1/\x.2.1<=10^9+10) (λx=>(10^9+20-x.2.1).toNat+x.1.toNat*10^10) (n,2,none) rfl ⟨ao hpp,[],[],2,ae,rfl,.start (by omega),⟨by show (2:Int)<=2;decide,.inl rfl,λd d0 (d1:d<2)=>by omega⟩,by show (2:Int)<=10^9+10;decide⟩ ?_
 rintro⟨left,d,o⟩ H1 ⟨hs,ps,us,pr,epp,hd,W,I,d9⟩
 replace W:Num.Way n ps left pr:=W
 replace I:Ld.Inv left d:=I
 replace d9:d<=10^9+10:=d9
 have l1:=W.pos
 have d2:=I.two
 have ln:left<=n:=by
  have z:=W.two
  have p0:=Num.aI (show (0:Int)<2 by decide) ps.length
  have:=Int.mul_le_mul_of_nonneg_right (show (1:Int)<=2^ps.length by omega) (show 0<=left by omega)
  omega
 k_data
 refine ba (λc3=>?_) (λc3=>?_)
 ·have dl:d<=left:=by
   rcases (by omega:d<=left∨left<d) with z | z
   ·exact z
   ·exact absurd (Int.dvd_refl left) (I.no left (by omega) z)
  refine⟨_,λ_ _ z=>z,λσ' H2=>H2=H1/\∃ e:Int,σ'=[some (.int left),some (.ref pp),some (.int e),o]/\d<=e/\e<=left/\Ld.Inv left e,?_,?_⟩
  ·k_data
   refine⟨Bd.of (by omega) (by omega),Bd.of (by omega) (by omega),?_⟩
   refine ba (λc4=>?_) (λc4=>?_)
   ·have hL:=I.done (by omega) c4
    refine⟨dl,Int.le_refl _,⟨by omega,?_,hL.no⟩⟩
    rcases (by omega:left=2∨left%2=1∨(left%2=0/\2<left)) with z | z | z
    ·exact .inl z
    ·exact .inr z
    ·exact absurd (Int.dvd_of_emod_eq_zero z.1) (hL.no 2 (by decide) z.2)
   ·exact⟨Int.le_refl _,dl,I⟩
  rintro σ' H2 ⟨rfl,e,rfl,de,el,Ie⟩
  have e2:=Ie.two
  k_data
  refine br (α:=Int × Nat) (λx=>[some (.int x.1),some (.ref pp),some (.int e),some (.int (x.2:Int))]) (λx H3=>H3=H2/\left=e^x.2*x.1/\1<=x.1/\x.1<=left) (λx=>x.1.toNat) (left,0) rfl ⟨rfl,by rw [Int.pow_zero,Int.one_mul],by omega,Int.le_refl _⟩ ?_
  rintro⟨lf,k⟩ H3 ⟨rfl,f1,f2,f3⟩
  replace f1:left=e^k*lf:=f1
  replace f2:1<=lf:=f2
  replace f3:lf<=left:=f3
  k_data
  refine⟨by omega,?_⟩
  refine ba (λc4=>?_) (λc4=>?_)
  ·obtain⟨y,hy⟩:=Int.dvd_of_emod_eq_zero c4
   have ey:lf/e=y:=by rw [hy];exact Int.mul_ediv_cancel_left _ (by omega)
   have y1:1<=y:=by
    rcases (by omega:y<=0∨1<=y) with z | z
    ·have:=Int.mul_nonpos_of_nonneg_of_nonpos (show 0<=e by omega) z
     omega
    ·exact z
   have yl:y<lf:=by
    rw [hy]
    have:=Int.mul_le_mul_of_nonneg_right e2 (show 0<=y by omega)
    omega
   refine⟨_,λ_ _ z=>z,by omega,Bd.of (by omega) (by omega),(y,k+1),?_,rfl,?_,y1,by show y<=left;omega,by show y.toNat<lf.toNat;omega⟩
   ·rw [ey];rfl
   ·show left=e^(k+1)*y
    rw [f1,hy,Int.pow_succ,Int.mul_assoc]
  ·have ng:¬e∣lf:=λz=>c4 (Int.emod_eq_zero_of_dvd z)
   refine⟨λσ' H4=>aA H H4/\σ'=[some (.int lf),some (.ref pp),some (.int e),some (.int (k:Int))]/\∃(ps:List (Int × Int)) (us:List V) (pr:Int),H4 pp=some (.lst us)/\aU K H4 (ps.map rT) us/\Num.Way n ps lf pr/\Ld.Inv lf (e+1+e%2)/\(k=0->lf=left)/\(0<k->lf<left),?_,?_⟩
   ·k_data
    refine ba (λc5=>?_) (λc5=>?_)
    ·have k1:1<=k:=by omega
     have hL:Ld.cY left e:=Ie.found (by
      obtain⟨k',rfl⟩:∃ k',k=k'+1:=⟨k-1,by omega⟩
      rw [f1,Int.pow_succ]
      exact Int.dvd_mul_of_dvd_left ⟨e^k',Int.mul_comm _ _⟩)
     have W2:=W.step n9 c3 hL f1 f2 k1 ng
     have len:=W.len n9
     have ul:us.length=ps.length:=by rw [hd.length,List.length_map]
     have lt:lf<left:=by
      obtain⟨k',rfl⟩:∃ k',k=k'+1:=⟨k-1,by omega⟩
      have p0:=Num.aI (show 0<e by omega) k'
      have h1:e<=e^(k'+1):=by
       rw [Int.pow_succ]
       have:=Int.mul_le_mul_of_nonneg_right (show 1<=e^k' by omega) (show 0<=e by omega)
       omega
      have:=Int.mul_le_mul_of_nonneg_right (show 2<=e^(k'+1) by omega) (show 0<=lf by omega)
      omega
     refine⟨.inl ⟨rfl,_,aT.of epp⟩,by show 2<=sizeLine;decide,λpt hpt=>?_⟩
     have s2:=ao (o:=.tup [V.int e,V.int (k:Int)]) hpt
     have npt:pp≠pt:=λz=>by rw [<- z,epp] at hpt;cases hpt
     have el':=s2 _ _ epp
     have et:upd H3 pt (.tup [V.int e,V.int (k:Int)]) pt=some (.tup [V.int e,V.int (k:Int)]):=ae
     have hd2:=aU.same s2 _ hd
     have S2:=hs.trans s2
     generalize upd H3 pt _=H4 at *
     refine⟨pp,us,.ref pt,rfl,rfl,el',Nat.lt_of_le_of_lt (show us.length<=29 by omega) (by decide),S2.upd hpp,ps++[(e,(k:Int))],us++[.ref pt],ae,?_,e,W2,gj W2.inv ng,λz=>absurd z (by omega),λ_=>lt⟩
     rw [List.map_append]
     refine aU.append (aU.but el' (λb o ne h=>by rw [aj ne];exact h) _ (ji (λ_=>rfl) ps) hd2) (.one (dv.tup (xs:=[V.int e,V.int (k:Int)]) ?_ ⟨_,_,rfl,rfl,.one rfl⟩))
     rw [aj (Ne.symm npt)]
     exact et
    ·have k0:k=0:=by omega
     subst k0
     rw [Int.pow_zero,Int.one_mul] at f1
     subst f1
     exact⟨hs,ps,us,epp,hd,pr,W,gj Ie ng,λ_=>rfl,λz=>absurd z (by omega)⟩
   ·rintro σ' H4 ⟨S4,rfl,ps',us',pr',g1,g2,g3,g4,g5,g6⟩
    k_data
    refine⟨(lf,e+1+e%2,some (.int (k:Int))),rfl,rfl,rfl,S4,⟨ps',us',g1,g2,pr',g3,g4,by show e+1+e%2<=10^9+10;omega⟩,?_⟩
    show (10^9+20-(e+1+e%2)).toNat+lf.toNat*10^10<(10^9+20-d).toNat+left.toNat*10^10
    rcases Nat.eq_zero_or_pos k with z | z
    ·have:=g5 z
     omega
    ·have:=g6 z
     omega
 ·have z:left=1:=by omega
  subst z
  exact q ps us pp H1 W.done (W.len n9) hs hpp epp hd
theorem eF {ps:List (Int × Int)} {p:Int × Int} {ds ds':Nat->PyData} (h:∀ j,j<ps.length->ds' j=ds j):Num.rowsOf (ps++[p]) ds'=Num.rowsOf ps ds++[.tuple [ds' ps.length,.int p.2]]:=by
 unfold Num.rowsOf
 rw [List.length_append,List.length_singleton,List.range_succ,List.map_append]
 congr 1
 ·refine List.map_congr_left λj hj=>?_
  have:=List.mem_range.mp hj
  rw [h j this,List.getD_eq_getElem?_getD,List.getD_eq_getElem?_getD,List.getElem?_append_left this]
 ·simp
theorem fe {H:Hp} {q k:Int} {v:V} (h:dv K H (rT (q,k)) v):∃ p,v=.ref p/\a9 K H p [.int q,.int k]:=by
 obtain⟨p,xs,rfl,h1,x,r,rfl,d1,y,r',rfl,d2,h4⟩:=h
 cases h4
 cases d1
 cases d2
 exact⟨p,rfl,h1⟩
def cL (K:PySem.W.Frag) (L:Nat):Sp:=λvs H Q _=>∃ n:Int,vs=[.int n]/\Num.Pm n/\n<=10^9/\Num.Ht L n/\∀ d v H',Num.gQ n d->aA H H'->dv K H' d v->Q v H'
theorem bR:ar ["_law_p","_law_full"] ["_law_p"] (ai (top 28)):=fG
theorem kd {L:Nat} (D:av K mg "_law_paper" (top 28)) (c__law_parted:Callee P w K mg base aZ 1 "_law_parted" ["_law_n"] (bX K)) (c__law_steps:Callee P w K mg base aZ 1 "_law_steps" ["_law_p","_law_a"] iN) (c__law_paper:Callee P w K mg base aZ (L+2) "_law_paper" ["_law_p"] (cL K L)) (n_tuple:mg "tuple"=none):Callee P w K mg base aZ (L+3) "_law_paper" ["_law_p"] (cL K (L+1)):=by
 refine cO D bR (λf cdv A outer s H vs Q E hr h=>?_)
 obtain⟨n,rfl,hp,hn,hH,q⟩:=h
 have n2:=hp.two
 obtain⟨g,G⟩:=vq hp
 have g1:=G.one
 have g2:=G.lt
 have nd:=bR.nd
 refine⟨_,(af (bU (i:=1) nd ag) (af (bj PassesOwn.never (aw fw (bb c__law_steps (hr.mono (by omega)) rfl aS (aa (pv 0) (aa (pv 1) ah))) (aq bF (pv 0) ag) (az _)) (ak (bU (i:=1) nd (aq bw (pv 1) ag)))) (ak (ay (aR (aa (pv 0) (aa (pv 1) (aa (gB cZ rfl n_tuple L2.boot_tuple (aa (jt rfl (uH (N':=["_law_q","_law_many"]) (js:=[none,none]) rfl rfl) (bh (bb c__law_parted (hr.mono (by omega)) rfl aS (aa (aq bF (pv 0) ag) ah))) (λ_ _ _ _=>(iz K rfl (n:=2) rfl (ax (au (i:=0) (show List.Nodup [("_law_q":Str),("_law_many":Str)] from by decide +kernel) rfl (Or.inl rfl) (.inr rfl)) (ax (au (i:=1) (show List.Nodup [("_law_q":Str),("_law_many":Str)] from by decide +kernel) rfl (Or.inl rfl) (.inr rfl)) bc)))) (λ_ _ _ _=>cF) (λ_ _ _ _=>(aR (aa (bb c__law_paper (hr.mono (by omega)) rfl aS (aa (pv 0) ah)) (aa (pv 1) ah))))) ah)) ah)))))))),?_⟩
 show bL _ _ _ [some (.int n),none] H
 k_data
 refine br (α:=Int) (λx=>[some (.int n),some (.int x)]) (λx H2=>H2=H/\1<=x/\x<=g) (λx=>(g-x).toNat) 1 rfl ⟨rfl,Int.le_refl _,g1⟩ ?_
 rintro x H2 ⟨eH,x1,x2⟩
 replace x1:1<=x:=x1
 replace x2:x<=g:=x2
 rw [eH]
 k_data
 refine⟨n,x,rfl,hp,by omega,by omega,by omega,λz=>by have:=Int.le_of_dvd (by omega) z;omega,λr r1 rn o=>⟨_,rfl,?_⟩⟩
 refine ba (λc=>?_) (λc=>?_)
 ·have ne:x≠g:=λz=>by
   have:=o.tO (z▸G.ord)
   omega
  exact⟨_,λ_ _ z=>z,x+1,rfl,rfl,by omega,by omega,by omega⟩
 ·have xg:x=g:=by
   rcases (by omega:x=g∨x<g) with z | z
   ·exact z
   ·refine absurd ?_ (G.no x x1 z)
    rw [show (n-1).toNat=r.toNat by omega]
    exact o
  subst xg
  refine⟨n-1,rfl,by omega,by omega,λps us p H1 hP hl s1 f1 h1 hd=>?_⟩
  have ul:us.length=ps.length:=by rw [hd.length,List.length_map]
  have at_:∀{i:Nat} {v:V},us[i]?=some v->∃ q' k',ps[i]?=some (q',k')/\(Num.Pm q'/\1<=k')/\q'∣n-1/\q'<=n-1/\∃ pt,v=.ref pt/\a9 K H1 pt [.int q',.int k']:=by
   intro i v hx
   obtain⟨d,hd',hv⟩:=hd.get hx
   rw [List.getElem?_map] at hd'
   obtain⟨⟨q',k'⟩,hy,rfl⟩:=Option.map_eq_some_iff.mp hd'
   have hok:=hP.ok _ (List.mem_of_getElem? hy)
   have hdv:q'∣n-1:=by
    have:=Num.dI (List.mem_of_getElem? hy) hok.2.1
    rwa [hP.prod] at this
   exact⟨q',k',hy,⟨hok.1,hok.2.1⟩,hdv,Int.le_of_dvd (by omega) hdv,fe hv⟩
  refine⟨p,rfl,⟨_,aT.of h1⟩,?_⟩
  refine dw (xs:=us) (λi zs H5=>aA H1 H5/\∃ ds,(∀ j q k,(ps.take i)[j]?=some (q,k)->Num.gQ q (ds j))/\aU K H5 (Num.rowsOf (ps.take i) ds) zs) ⟨aA.refl _,λ_=>.none,λj q k z=>by simp at z,rfl⟩ (by rw [ul];exact Nat.le_trans hl (by decide)) (λi zs H5 hi ⟨e1,ds,e2,e3⟩=>⟨aT.of (e1 _ _ h1),by rw [e3.length,Num.bf,List.length_take];omega⟩) ?_ ?_
  ·rintro i v zs H5 hx ⟨s5,ds,hds,hz⟩
   obtain⟨q',k',hy,hok,hdv,ql,pt,rfl,tt⟩:=at_ hx
   show hZ K 2 _ _ [none,none] _ _
   refine⟨pt,_,rfl,tt.same s5,rfl,?_⟩
   k_data
   refine⟨True.intro,q',rfl,hok.1,by omega,hH q' hok.1 hdv,λd v H6 hp6 s6 hv6=>⟨by show 2<=sizeLine;decide,λp7 hp7=>?_⟩⟩
   have s7:=ao (o:=.tup [v,V.int k']) hp7
   have tk:ps.take (i+1)=ps.take i++[(q',k')]:=by rw [List.take_add_one,hy];rfl
   have il:i<ps.length:=(List.getElem?_eq_some_iff.mp hy).1
   have tl:(ps.take i).length=i:=by rw [List.length_take];omega
   refine⟨(s5.trans s6).trans s7,λj=>if j=i then d else ds j,λj q k hj=>?_,?_⟩
   ·rw [tk] at hj
    rcases (by omega:j<i∨j=i∨i<j) with z | z | z
    ·rw [List.getElem?_append_left (by omega)] at hj
     show Num.gQ q (if j=i then d else ds j)
     rw [if_neg (by omega)]
     exact hds j q k hj
    ·subst z
     rw [List.getElem?_append_right (by omega),tl,Nat.sub_self] at hj
     show Num.gQ q (if j=j then d else ds j)
     rw [if_pos rfl]
     cases hj
     exact hp6
    ·rw [List.getElem?_eq_none (by simp;omega)] at hj
     cases hj
   ·rw [tk,eF (ds:=ds) (λj hj=>if_neg (by omega)),tl,if_pos rfl]
    exact aU.append (aU.same (s6.trans s7) _ hz) (.one (dv.tup ae ⟨_,_,rfl,dv.same s7 _ hv6,.one rfl⟩))
  ·rintro zs H5 p5 ⟨s5,ds,hds,hz⟩ hp5
   rw [ul,List.take_length] at hds hz
   have s6:=ao (o:=.lst zs) hp5
   refine⟨p5,rfl,zs,.inl ⟨aT.of ae,λl hl'=>⟨by show 3<=sizeLine;decide,λp8 hp8=>?_⟩⟩⟩
   generalize upd H5 p5 _=H6 at *
   have s7:=ao (o:=.tup zs) hl'
   have e7:upd H6 l (.tup zs) l=some (.tup zs):=ae
   generalize upd H6 l _=H7 at *
   have s8:=ao (o:=.tup [V.int n,V.int x,V.ref l]) hp8
   refine q _ _ _ (.mk n x ps ds hp hn G hP hl hds) ((((s1.trans s5).trans s6).trans s7).trans s8) (dv.tup ae ⟨_,_,rfl,rfl,_,_,rfl,rfl,.one (dv.tup (s8 _ _ e7) (aU.same ((s6.trans s7).trans s8) _ hz))⟩)
theorem kc (D:av K mg "_law_paper" (top 28)):Callee P w K mg base aZ 2 "_law_paper" ["_law_p"] (cL K 0):=by
 refine cO D bR (λf cdv A outer s H vs Q E hr h=>?_)
 obtain⟨n,rfl,hp,hn,hH,q⟩:=h
 exact hH.elim
theorem fv (D:av K mg "_law_paper" (top 28)) (c__law_parted:Callee P w K mg base aZ 1 "_law_parted" ["_law_n"] (bX K)) (c__law_steps:Callee P w K mg base aZ 1 "_law_steps" ["_law_p","_law_a"] iN) (n_tuple:mg "tuple"=none):∀ L:Nat,Callee P w K mg base aZ (L+2) "_law_paper" ["_law_p"] (cL K L)
 | 0=>kc D
 | L+1=>(kd D c__law_parted c__law_steps (fv D c__law_parted c__law_steps n_tuple L) n_tuple).mono (by omega)
def gJ (K:PySem.W.Frag):Sp:=λvs H Q _=>∃ n:Int,vs=[.int n]/\Num.Pm n/\n<=10^9/\∀ d v H',Num.gQ n d->aA H H'->dv K H' d v->Q v H'
theorem qg (h:Callee P w K mg base aZ (30+2) "_law_paper" ["_law_p"] (cL K 30)):Callee P w K mg base aZ 32 "_law_paper" ["_law_p"] (gJ K) :=
 Callee.imp h λvs H Q E z=>by
  obtain⟨n,h1,h2,h3,q⟩:=z
  exact⟨n,h1,h2,h3,Num.tD h2 h3,q⟩
theorem qC {n:Int} {d:PyData} (h:Num.gQ n d):∃ g ps ds,d=.tuple [.int n,.int g,.tuple (Num.rowsOf ps ds)]/\Num.LF n g/\Num.Part (n-1) ps/\ps.length<=29/\∀ i q k,ps[i]?=some (q,k)->Num.gQ q (ds i):=by
 cases h with
 | mk _ g ps ds h1 h2 h3 h4 h5 h6=>exact⟨g,ps,ds,rfl,h3,h4,h5,h6⟩
theorem vF {n:Int} {d:PyData} (h:Num.gQ n d):Num.Pm n/\n<=10^9:=by
 cases h with
 | mk _ _ _ _ a b=>exact⟨a,b⟩
theorem u4 {H:Hp} {d1 d2 d3:PyData} {v:V} (h:dv K H (.tuple [d1,d2,d3]) v):∃ p x1 x2 x3,v=.ref p/\a9 K H p [x1,x2,x3]/\dv K H d1 x1/\dv K H d2 x2/\dv K H d3 x3:=by
 obtain⟨p,xs,rfl,h1,x1,r1,rfl,e1,x2,r2,rfl,e2,x3,r3,rfl,e3,z⟩:=h
 cases z
 exact⟨p,x1,x2,x3,rfl,h1,e1,e2,e3⟩
def uS (p g:Int) (r:PyData):Prop:=(p%4=3/\r=.none)∨(p%4≠3/\∃ x y,r=.tuple [.int x,.int y]/\1<=x/\x<=y/\x*x+y*y=p/\(p=2->x=1/\y=1)/\(p≠2->Sq2.Wk p p (g^((p-1)/4).toNat%p) y x))
theorem uS.one {p g:Int} {r r':PyData} (h:uS p g r) (h':uS p g r'):r=r':=by
 rcases h with⟨a,rfl⟩|⟨a,x,y,rfl,_,_,_,b,c⟩
 ·rcases h' with⟨_,rfl⟩|⟨a',_⟩
  ·rfl
  ·exact absurd a a'
 ·rcases h' with⟨a',_⟩|⟨_,x',y',rfl,_,_,_,b',c'⟩
  ·exact absurd a' a
  ·by_cases z:p=2
   ·rw [(b z).1,(b z).2,(b' z).1,(b' z).2]
   ·obtain⟨e1,e2⟩:=(c z).one (c' z)
    rw [e1,e2]
def sd (K:PySem.W.Frag):Sp:=λvs H Q _=>∃(v:V) (p g:Int) (rows:PyData),vs=[v]/\dv K H (.tuple [.int p,.int g,rows]) v/\Num.gQ p (.tuple [.int p,.int g,rows])/\∀ r u H',uS p g r->aA H H'->dv K H' r u->Q u H'
theorem quarter {p g:Int} (hp:Num.Pm p) (h2:p≠2) (h3:p%4≠3) (o:Num.Ord p g (p-1).toNat):p∣g^((p-1)/4).toNat%p*(g^((p-1)/4).toNat%p)+1:=by
 have t:=hp.two
 have odd:¬(2:Int)∣p:=hp.no 2 (by omega) (by omega)
 obtain⟨h,e1,e2⟩:∃ h:Nat,((p-1)/4).toNat=h/\(p-1).toNat=4*h:=⟨_,rfl,by omega⟩
 rw [e1]
 rw [e2] at o
 have h0:=o.pos
 have h4:p∣(g^h*g^h-1)*(g^h*g^h - -1):=by
  have:=o.one
  rw [show 4*h=h+h+(h+h) by omega,Int.pow_add,Int.pow_add] at this
  have e:(g^h*g^h-1)*(g^h*g^h - -1)=g^h*g^h*(g^h*g^h)-1:=by grind
  rw [e];exact this
 have h5:Num.Al p (g^h*g^h) (-1):=hp.or h4 λz=>by
  have:=Nat.le_of_dvd (by omega) (o.dv (h+h) (by rw [Int.pow_add];exact z))
  omega
 have h6:Num.Al p (g^h%p*(g^h%p)) (-1):=((Num.Al.rest p _).mul (Num.Al.rest p _)).trans h5
 have:g^h%p*(g^h%p)+1=g^h%p*(g^h%p) - -1:=by omega
 rw [this]
 exact h6
theorem cK:ar ["paper","p","full","parts","y","x"] ["paper"] (ai (top 16)):=fG
theorem tN {C:Addr} (D:av K mg "two_squares" (top 16)) (c_power:Callee P w K mg base (iU P w) 4 "power" ["n","a","e"] (lh C)):Callee P w K mg base aZ 5 "two_squares" ["paper"] (sd K):=by
 refine cO D cK (λf cdv A outer s H vs Q E hr h=>?_)
 obtain⟨v,p,g,rows,rfl,hd,hp,q⟩:=h
 obtain⟨pm,p9⟩:=vF hp
 have p2:=pm.two
 have nd:=cK.nd
 refine⟨_,(af (iC (pv 0) (b5 (n:=3) rfl (ax (au (i:=1) nd rfl (Or.inl rfl) (.inr rfl)) (ax (au (i:=2) nd rfl (Or.inl rfl) (.inr rfl)) (ax (au (i:=3) nd rfl (Or.inl rfl) (.inr rfl)) bc))))) (af (a6 (aw c7 (pv 1) ag (az _)) (ak (ay (aR (aa ag (aa ag ah))))) aF) (af (a6 (aw c7 (aq aL (pv 1) ag) ag (az _)) (ak (ay ix)) aF) (af (bU (i:=4) nd (pv 1)) (af (bU (i:=5) nd (fW c_power hr kh (aa (pv 1) (aa (pv 2) (aa (aq b0 (aq bF (pv 1) ag) ag) ah))))) (af (bj PassesOwn.never (aw dN (aq aD (pv 4) (pv 4)) (pv 1) (az _)) (ak (iG (i:=4) (j:=5) rfl nd rfl rfl (by decide) rfl rfl (aa (pv 5) (aa (aq aL (pv 4) (pv 5)) ah)) rfl))) (ak (ay (aR (aa (pv 5) (aa (pv 4) ah))))))))))),?_⟩
 show bL _ _ _ [some v,none,none,none,none,none] H
 have hg:Num.LF p g:=by
  obtain⟨g',ps,ds,e,hg,_⟩:=qC hp
  cases e
  exact hg
 obtain⟨pp,y1,y2,vr,rfl,tS,e0,eg,dr⟩:=u4 hd
 cases e0
 cases eg
 k_data
 refine⟨pp,_,rfl,tS,rfl,?_⟩
 k_data
 refine ba (λc=>?_) (λc=>ba (λc3=>?_) (λc3=>?_))
 ·refine⟨by show 2<=sizeLine;decide,λp1 h1=>q (.tuple [.int 1,.int 1]) _ _ (.inr ⟨by omega,1,1,rfl,by omega,by omega,by omega,λ_=>⟨rfl,rfl⟩,λz=>absurd c z⟩) (ao h1) ⟨p1,_,rfl,a9.of ae,_,_,rfl,rfl,_,_,rfl,rfl,rfl⟩⟩
 ·exact q .none _ _ (.inl ⟨c3,rfl⟩) (aA.refl _) rfl
 refine⟨Bd.of (by omega) (by omega),p,g,(p-1)/4,rfl,by omega,by omega,λ_ H1 s1=>?_,λz=>absurd z (by omega)⟩
 have qt:=quarter pm c c3 hg.ord
 have X0:0<=g^((p-1)/4).toNat%p:=Int.emod_nonneg _ (by omega)
 have X1:g^((p-1)/4).toNat%p<p:=Int.emod_lt_of_pos _ (by omega)
 have ql:∀ x y,1<=x->x<=y->x*x+y*y=p->Sq2.Wk p p (g^((p-1)/4).toNat%p) y x->uS p g (.tuple [.int x,.int y]):=λx y h1 h2 h3 h4=>.inr ⟨c3,x,y,rfl,h1,h2,h3,λz=>absurd z c,λ_=>h4⟩
 generalize g^((p-1)/4).toNat%p=X at *
 refine br (α:=Int × Int) (λst=>[some (V.ref pp),some (V.int p),some (V.int g),some vr,some (V.int st.1),some (V.int st.2)]) (λst H2=>H2=H1/\st.1<=p/\(∀ a b,Sq2.Wk p st.1 st.2 a b->Sq2.Wk p p X a b)/\∃ s t,Sq2.J p st.1 st.2 s t/\(p<st.1*st.1∨∃ Y S,0<=Y/\0<=S/\p<Y*Y/\Y*s+st.1*S=p)) (λst=>st.2.toNat) (p,X) rfl ⟨rfl,Int.le_refl _,λ_ _ z=>z,0,1,Sq2.J.start X0 X1 qt,.inl ?_⟩ ?_
 ·have:=Int.mul_le_mul_of_nonneg_right p2 (show 0<=p by omega)
  show p<p*p
  omega
 rintro⟨y,x⟩ H2 ⟨rfl,yp,hw,s',t',hJ,hpr⟩
 replace yp:y<=p:=yp
 replace hw:∀ a b,Sq2.Wk p y x a b->Sq2.Wk p p X a b:=hw
 replace hJ:Sq2.J p y x s' t':=hJ
 replace hpr:p<y*y∨∃ Y S,0<=Y/\0<=S/\p<Y*Y/\Y*s'+y*S=p:=hpr
 have x0:=hJ.x0
 have xy:=hJ.xy
 have by':Bd y:=Bd.of (by omega) (by omega)
 k_data
 refine⟨by',by',?_⟩
 refine ba (λcc=>?_) (λcc=>?_)
 ·have xp:=hJ.pos pm cc
  refine⟨_,λ_ _ z=>z,xp,(x,y%x),rfl,rfl,by show x<=p;omega,λa b z=>hw a b (.step cc z),⟨t',_,hJ.step xp,.inr ⟨y,by omega,s',hJ.s0,cc,hJ.e⟩⟩,?_⟩
  show (y%x).toNat<x.toNat
  have:=Int.emod_lt_of_pos y xp
  have:=Int.emod_nonneg y (show x≠0 by omega)
  omega
 ·obtain⟨Y,S,Y0,S0,hY,e⟩:=hpr.resolve_left cc
  obtain⟨f1,f2,f3⟩:=Sq2.fin pm c hJ Y0 S0 hY e cc
  refine⟨by show 2<=sizeLine;decide,λp1 h1=>q (.tuple [.int x,.int y]) _ _ (ql x y f1 f2 f3 (hw _ _ (.stop cc))) (s1.trans (ao h1)) ⟨p1,_,rfl,a9.of ae,_,_,rfl,rfl,_,_,rfl,rfl,rfl⟩⟩
theorem mK {ns:List Int} {lo hi:Option Int} {x:V} (h:x∈dH (ns.map V.int) lo hi):∃ c,x=.int c:=by
 unfold dH at h
 have:=List.mem_of_mem_drop (List.mem_of_mem_take h)
 obtain⟨c,_,e⟩:=List.mem_map.mp this
 exact⟨c,e.symm⟩
theorem tF {x y k lo hi:Int} {p:Addr} {H':Hp} {Q:VK} (e:H' p=some (.lst [.int x,.int y])) (h0:0<=k) (h1:k<2) (hx:lo<=x/\x<hi) (hy:lo<=y/\y<hi) (q:∀ m,lo<=m->m<hi->Q (.int m) H'):uh K (.ref p) (.int k) H' Q :=
 ib (aT.of e) h0 (by show _<(2:Int);omega) λv hv=>by
  simp only [List.mem_cons,List.not_mem_nil,or_false] at hv
  rcases hv with rfl | rfl
  ·exact q _ hx.1 hx.2
  ·exact q _ hy.1 hy.2
theorem qG {a d L:Int} (hd:0<d) (h0:-L<=a) (h1:a<=L):-L<=a/d/\a/d<=L:=by
 have L0:0<=L:=by omega
 have h2:L*1<=L*d:=Int.mul_le_mul_of_nonneg_left (show 1<=d by omega) L0
 refine⟨Int.le_ediv_of_mul_le hd (by rw [Int.neg_mul];omega),Int.ediv_le_of_le_mul hd (by omega)⟩
def r8 (K:PySem.W.Frag):Sp:=λvs H Q _=>∃(a:Addr) (ns:List Int),vs=[.ref a]/\aT K H a (ns.map V.int)/\ns.length<=63/\∀ H',Q (.bl true) H'
def oW:Sp:=λvs H Q _=>∃ x y:Int,vs=[.int x,.int y] /\ -(10^60)<=x/\x<=10^60 /\ -(10^60)<=y/\y<=10^60/\∀ p,H p=none->Q (.ref p) (upd H p (.tup [.int (Sq.ord x y).1,.int (Sq.ord x y).2]))
theorem eI:ar ["x","y"] ["x","y"] (ai (top 21)):=fG
theorem qy (D:av K mg "in_order" (top 21)) (n_min:mg "min"=none) (n_max:mg "max"=none) (n_abs:mg "abs"=none):Callee P w K mg base aZ 1 "in_order" ["x","y"] oW:=by
 refine cO D eI (λf cdv A outer s H vs Q E hr h=>?_)
 obtain⟨x,y,rfl,x0,x1,y0,y1,q⟩:=h
 have nd:=eI.nd
 refine⟨_,(ak (ay (aR (aa (aC (lF rfl) rfl n_min L2.boot_min (aa (aC bC rfl n_abs L2.boot_abs (aa (pv 0) ah)) (aa (aC bC rfl n_abs L2.boot_abs (aa (pv 1) ah)) ah))) (aa (aC (lE rfl) rfl n_max L2.boot_max (aa (aC bC rfl n_abs L2.boot_abs (aa (pv 0) ah)) (aa (aC bC rfl n_abs L2.boot_abs (aa (pv 1) ah)) ah))) ah))))),?_⟩
 show o9 _ _ [some (.int x),some (.int y)] H
 k_data
 refine⟨by show 2<=sizeLine;decide,λp hp=>?_⟩
 have e1:(if (if y<0 then -y else y)<if x<0 then -x else x then if y<0 then -y else y else if x<0 then -x else x)=(Sq.ord x y).1:=by
  unfold Sq.ord
  dsimp only
  repeat' split
  all_goals omega
 have e2:(if (if y<0 then -y else y) > if x<0 then -x else x then if y<0 then -y else y else if x<0 then -x else x)=(Sq.ord x y).2:=by
  unfold Sq.ord
  dsimp only
  repeat' split
  all_goals omega
 rw [e1,e2]
 exact q p hp
theorem iu {a c:Int} (a0:0<=a/\a<=10^9) (c0:0<=c/\c<=10^9):0<=a*c/\a*c<=10^18:=by
 have h1:=Int.mul_nonneg a0.1 c0.1
 have h2:=Int.mul_le_mul a0.2 c0.2 c0.1 (by decide)
 exact⟨h1,h2⟩
def oU (K:PySem.W.Frag):Sp:=λvs H Q _=>∃(u v:V) (o s:Sq.Pr),vs=[u,v]/\dv K H (.tuple [.int o.1,.int o.2]) u/\dv K H (.tuple [.int s.1,.int s.2]) v/\(0<=o.1/\o.1<=10^9)/\(0<=o.2/\o.2<=10^9)/\(0<=s.1/\s.1<=10^9)/\(0<=s.2/\s.2<=10^9)/\∀ p r1 r2 H',aA H H'->H' p=some (.lst [.ref r1,.ref r2])->H' r1=some (.tup [.int ((Sq.bp o s).headD (0,0)).1,.int ((Sq.bp o s).headD (0,0)).2])->H' r2=some (.tup [.int ((Sq.bp o s).getD 1 (0,0)).1,.int ((Sq.bp o s).getD 1 (0,0)).2])->Q (.ref p) H'
theorem bW:ar ["one","other","a","b","c","d"] ["one","other"] (ai (top 20)):=fG
theorem qw (D:av K mg "both_products" (top 20)) (c_in_order:Callee P w K mg base aZ 1 "in_order" ["x","y"] oW):Callee P w K mg base aZ 2 "both_products" ["one","other"] (oU K):=by
 refine cO D bW (λf cdv A outer s H vs Q E hr h=>?_)
 obtain⟨u,v,o,s,rfl,hu,hv,o1,o2,s1,s2,q⟩:=h
 have nd:=bW.nd
 refine⟨_,(af (iC (pv 0) (b5 (n:=2) rfl (ax (au (i:=2) nd rfl (Or.inl rfl) (.inr rfl)) (ax (au (i:=3) nd rfl (Or.inl rfl) (.inr rfl)) bc)))) (af (iC (pv 1) (b5 (n:=2) rfl (ax (au (i:=4) nd rfl (Or.inl rfl) (.inr rfl)) (ax (au (i:=5) nd rfl (Or.inl rfl) (.inr rfl)) bc)))) (ak (ay (bz (aa (fW c_in_order hr aS (aa (aq bw (aq aD (pv 2) (pv 4)) (aq aD (pv 3) (pv 5))) (aa (aq bF (aq aD (pv 2) (pv 5)) (aq aD (pv 3) (pv 4))) ah))) (aa (fW c_in_order hr aS (aa (aq bF (aq aD (pv 2) (pv 4)) (aq aD (pv 3) (pv 5))) (aa (aq bw (aq aD (pv 2) (pv 5)) (aq aD (pv 3) (pv 4))) ah))) ah))))))),?_⟩
 show bL _ _ _ [some u,some v,none,none,none,none] H
 obtain⟨pu,us,rfl,tU,x1,r1,rfl,e1,x2,r2,rfl,e2,z⟩:=hu
 cases z;cases e1;cases e2
 obtain⟨pv,vs,rfl,tV,x3,r3,rfl,e3,x4,r4,rfl,e4,z⟩:=hv
 cases z;cases e3;cases e4
 have m13:=iu o1 s1
 have m24:=iu o2 s2
 have m14:=iu o1 s2
 have m23:=iu o2 s1
 have b:∀{x:Int},0<=x/\x<=10^9->Bd x:=λh=>Bd.of (by omega) (by omega)
 k_data
 refine⟨pu,_,rfl,tU,rfl,?_⟩
 k_data
 refine⟨pv,_,rfl,tV,rfl,?_⟩
 k_data
 refine⟨b o1,b s1,b o2,b s2,b o1,b s2,b o2,b s1,_,_,rfl,by omega,by omega,by omega,by omega,λp1 hp1=>?_⟩
 refine⟨b o1,b s1,b o2,b s2,b o1,b s2,b o2,b s1,_,_,rfl,by omega,by omega,by omega,by omega,λp2 hp2=>⟨by show 2<=sizeLine;decide,λp3 hp3=>?_⟩⟩
 have t1:=ao (o:=.tup [V.int (Sq.ord (o.1*s.1+o.2*s.2) (o.1*s.2-o.2*s.1)).1,V.int (Sq.ord (o.1*s.1+o.2*s.2) (o.1*s.2-o.2*s.1)).2]) hp1
 have t2:=ao (o:=.tup [V.int (Sq.ord (o.1*s.1-o.2*s.2) (o.1*s.2+o.2*s.1)).1,V.int (Sq.ord (o.1*s.1-o.2*s.2) (o.1*s.2+o.2*s.1)).2]) hp2
 have t3:=ao (o:=.lst [V.ref p1,V.ref p2]) hp3
 exact q p3 p1 p2 _ ((t1.trans t2).trans t3) ae (t3 _ _ (t2 _ _ ae)) (t3 _ _ ae)
def bt (H:Hp) (rs:List Addr) (ps:List Sq.Pr):Prop:=rs.length=ps.length/\∀(i:Nat) (r:Addr) (k:Sq.Pr),rs[i]?=some r->ps[i]?=some k->H r=some (.tup [.int k.1,.int k.2])
theorem bt.same {H H':Hp} {rs:List Addr} {ps:List Sq.Pr} (h:bt H rs ps) (s:aA H H'):bt H' rs ps:=⟨h.1,λi r k h1 h2=>s _ _ (h.2 i r k h1 h2)⟩
theorem kZ:∀(l m:List Sq.Pr) (st:List Sq.Pr × SetTable),Sp.run st (l++m)=(Sp.run st l).bind λst'=>Sp.run st' m
 | [],m,st=>rfl
 | x::l,m,st=>by
  show (match Sp.ins st x with | some st'=>Sp.run st' (l++m) | none=>none)=(match Sp.ins st x with | some st'=>Sp.run st' l | none=>none).bind _
  cases Sp.ins st x with
  | none=>rfl
  | some st'=>exact kZ l m st'
theorem jK {ps:List Sq.Pr} {s:Sq.Pr} {ks l:List Sq.Pr} (h:Sq.Step ps s ks) (hp:l <+: Sq.bG ps s) (led:Bool):(Sp.run (Sp.new led) l).isSome=true:=by
 obtain⟨t,ht⟩:=hp
 obtain⟨st,h1,_⟩:=h.run led
 rw [<- ht,kZ] at h1
 cases hr:Sp.run (Sp.new led) l with
 | none=>rw [hr] at h1;cases h1
 | some x=>rfl
theorem jw {ps:List Sq.Pr} {s k:Sq.Pr} {i:Nat} (h:ps[i]?=some k):Sq.bG (ps.take (i+1)) s=Sq.bG (ps.take i) s++Sq.bp k s:=by
 unfold Sq.bG
 rw [List.take_add_one,h,List.flatMap_append]
 simp
theorem lZ {ps:List Sq.Pr} {s:Sq.Pr} (i:Nat):Sq.bG (ps.take i) s <+: Sq.bG ps s:=by
 refine⟨Sq.bG (ps.drop i) s,?_⟩
 unfold Sq.bG
 rw [<- List.flatMap_append,List.take_append_drop]
def oQ (K:PySem.W.Frag):Sp:=λvs H Q _=>∃(a:Addr) (rs:List Addr) (ps:List Sq.Pr) (v:V) (s:Sq.Pr) (ks:List Sq.Pr),vs=[.ref a,v]/\aT K H a (rs.map V.ref)/\bt H rs ps/\dv K H (.tuple [.int s.1,.int s.2]) v/\(∀ k∈ps,(0<=k.1/\k.1<=10^9)/\(0<=k.2/\k.2<=10^9))/\((0<=s.1/\s.1<=10^9)/\(0<=s.2/\s.2<=10^9))/\Sq.Step ps s ks /\
 ∀(p:Addr) (rs':List Addr) (H':Hp),aA H H'->H p=none->H' p=some (.lst (rs'.map V.ref))->bt H' rs' ks->Q (.ref p) H'
theorem cj:ar ["pairs","step"] ["pairs","step"] (ai (top 19)):=fG
theorem qr (D:av K mg "all_products" (top 19)) (c_both_products:Callee P w K mg base aZ 2 "both_products" ["one","other"] (oU K)) (n_sorted:mg "sorted"=none):Callee P w K mg base aZ 3 "all_products" ["pairs","step"] (oQ K):=by
 refine cO D cj (λf cdv A outer s H vs Q E hr h=>?_)
 obtain⟨a,rs,ps,v,st,ks,rfl,hS,hrs,hv,hps,hst,step,q⟩:=h
 have nd:=cj.nd
 refine⟨_,(ak (ay (ou rfl hr rfl n_sorted (uH (N':=["pair","product","step"]) (js:=[none,none,some 1]) rfl rfl) (bh (pv 0)) (λ_ _ _ _=>(au (i:=0) (show List.Nodup [("pair":Str),("product":Str),("step":Str)] from by decide +kernel) rfl (Or.inl rfl) (.inr rfl))) (λ_ _ _ _=>cF) (λ_ _ _ _=>(oz (K:=K) rfl (fW c_both_products hr aS (aa (pv 0) (aa (pv 2) ah))))) (λ_ _ _ _=>(au (i:=1) (show List.Nodup [("pair":Str),("product":Str),("step":Str)] from by decide +kernel) rfl (Or.inl rfl) (.inr rfl))) (λ_ _ _ _=>cF) (λ_ _ _ _=>(pv 1))))),?_⟩
 show o9 _ _ [some (.ref a),some v] H
 k_data
 refine⟨⟨_,hS⟩,?_⟩
 refine iZ (xs:=rs.map V.ref) (λi acc H3=>aA H H3/\acc.map (·.1)=Sq.bG (ps.take i) st/\∀ y∈acc,H3 y.2=some (.tup [.int y.1.1,.int y.1.2])) ⟨aA.refl _,rfl,λy hy=>by cases hy⟩ (λi acc H3 _ h=>hS.same h.1) ?_ ?_
 ·rintro i x acc H3 hx ⟨s3,ha,hm⟩
  rw [List.getElem?_map] at hx
  obtain⟨r,hr',rfl⟩:=Option.map_eq_some_iff.mp hx
  have il:i<ps.length:=by rw [<- hrs.1];exact (List.getElem?_eq_some_iff.mp hr').1
  have gi:=List.getElem?_eq_getElem il
  generalize ps[i]=k at gi
  have hk:=hrs.2 i r k hr' gi
  show fh 0 _ [none,none,some v] _ _
  k_data
  have hp:=hps k (List.mem_of_getElem? gi)
  refine⟨⟨rfl,True.intro⟩,_,_,k,st,rfl,⟨r,_,rfl,a9.of (s3 _ _ hk),_,_,rfl,rfl,.one rfl⟩,dv.same s3 _ hv,hp.1,hp.2,hst.1,hst.2,λpb r1 r2 H4 s4 hb h1 h2=>⟨pb,rfl,⟨_,aT.of hb⟩,?_⟩⟩
  have pre:=lZ (ps:=ps) (s:=st) (i+1)
  rw [jw gi] at pre
  have hm4:∀ y∈acc,H4 y.2=some (.tup [.int y.1.1,.int y.1.2]):=λy hy=>s4 _ _ (hm y hy)
  refine ja (xs:=[V.ref r1,V.ref r2]) (λj zs H5=>H5=H4/\zs=acc++([((Sq.bp k st).headD (0,0),r1),((Sq.bp k st).getD 1 (0,0),r2)]:List lz).take j) ⟨rfl,by rw [List.take_zero,List.append_nil]⟩ (λj zs H5 _ h=>by rw [h.1];exact aT.of hb) ?_ ?_
  ·rintro j y zs H5 hy ⟨rfl,rfl⟩
   have hj:(j=0/\y=.ref r1)∨(j=1/\y=.ref r2):=by
    match j,hy with
    | 0,hy=>exact .inl ⟨rfl,(Option.some.inj hy).symm⟩
    | 1,hy=>exact .inr ⟨rfl,(Option.some.inj hy).symm⟩
    | n+2,hy=>cases hy
   show fh 1 _ [some (V.ref r),_,some v] _ _
   rcases hj with⟨rfl,rfl⟩|⟨rfl,rfl⟩
   ·k_data
    refine⟨⟨rfl,rfl,True.intro⟩,_,_,h1,λy hy=>hm4 y (by simpa using hy),λled=>?_,by simp⟩
    refine jK step (List.IsPrefix.trans ⟨[(Sq.bp k st).getD 1 (0,0)],?_⟩ pre) led
    simp [ha]
    rfl
   ·k_data
    refine⟨⟨rfl,rfl,True.intro⟩,_,_,h2,λy hy=>?_,λled=>?_,by simp⟩
    ·rcases List.mem_append.mp hy with z | z
     ·exact hm4 y z
     ·have:y=((Sq.bp k st).headD (0,0),r1):=by simpa using z
      rw [this];exact h1
    ·refine jK step (List.IsPrefix.trans ⟨[],?_⟩ pre) led
     simp [ha]
     rfl
  ·rintro zs H5 ⟨rfl,rfl⟩
   refine⟨s3.trans s4,?_,λy hy=>?_⟩
   ·rw [jw gi,List.map_append,ha]
    rfl
   ·rcases List.mem_append.mp hy with z | z
    ·exact hm4 y z
    ·have:y=((Sq.bp k st).headD (0,0),r1)∨y=((Sq.bp k st).getD 1 (0,0),r2):=by simpa using z
     rcases this with z | z<;>rw [z]
     ·exact h1
     ·exact h2
 ·rintro acc H3 ⟨s3,ha,hm⟩
  rw [List.length_map,hrs.1,List.take_length] at ha
  refine⟨λy hy=>⟨hm y hy,step.bd y.1 (by rw [<- ha];exact List.mem_map.mpr ⟨y,hy,rfl⟩)⟩,ks,step.pH,step.inc,λled=>?_,λzs p hz hzm hp=>?_⟩
  ·obtain⟨st',h1,h2⟩:=step.run led
   exact⟨st',by rw [ha];exact h1,h2⟩
  ·have s4:=ao (o:=.lst (zs.map λz=>V.ref z.2)) hp
   refine q p (zs.map (·.2)) _ (s3.trans s4) (s3.free hp) (by rw [ae,List.map_map];rfl) ⟨by rw [<- hz,List.length_map,List.length_map],λi r k h1 h2=>?_⟩
   rw [List.getElem?_map] at h1
   rw [<- hz,List.getElem?_map] at h2
   obtain⟨z1,e1,rfl⟩:=Option.map_eq_some_iff.mp h1
   rw [e1] at h2
   cases h2
   exact s4 _ _ (hm z1 (hzm z1 (List.mem_of_getElem? e1)))
def yf (row:PyData) (y:Int × Int):Prop:=∃ ds,row=.tuple [.tuple (.int y.1::ds),.int y.2]
def sH (rows:List PyData) (ps:List (Int × Int)):Prop:=rows.length=ps.length/\∀(i:Nat) (row:PyData),rows[i]?=some row->∃ y,ps[i]?=some y/\yf row y
def lg (K:PySem.W.Frag):Sp:=λvs H Q _=>∃(v:V) (rows:List PyData) (ps:List (Int × Int)),vs=[v]/\dv K H (.tuple rows) v/\sH rows ps/\rows.length<=10^6/\∀ p us H',aA H H'->H p=none->H' p=some (.lst us)->aU K H' (ps.map rT) us->Q (.ref p) H'
theorem tw {H:Hp} {rows:List PyData} {ps:List (Int × Int)} {xs:List V} (hd:aU K H rows xs) (h:sH rows ps) {i:Nat} {x:V} (hx:xs[i]?=some x):∃ q k pt pq r,ps[i]?=some (q,k)/\x=.ref pt/\a9 K H pt [.ref pq,.int k]/\a9 K H pq (.int q::r):=by
 obtain⟨d,hd',hv⟩:=hd.get hx
 obtain⟨⟨q,k⟩,hy,ds,rfl⟩:=h.2 i d hd'
 obtain⟨pt,ys,rfl,h1,x1,r1,rfl,e1,x2,r2,rfl,e2,z⟩:=hv
 cases z
 obtain⟨pq,zs,rfl,h2,y1,r3,rfl,f1,f2⟩:=e1
 cases f1
 cases e2
 exact⟨q,k,pt,pq,r3,hy,rfl,h1,h2⟩
theorem di:ar ["parts"] ["parts"] (ai (top 9)):=fG
theorem nX (D:av K mg "parting_in" (top 9)):Callee P w K mg base aZ 1 "parting_in" ["parts"] (lg K):=by
 refine cO D di (λf cdv A outer s H vs Q E hr h=>?_)
 obtain⟨v,rows,ps,rfl,hd,hh,h6,q⟩:=h
 have nd:=di.nd
 refine⟨_,(ak (ay (jt rfl (uH (N':=["row"]) (js:=[none]) rfl rfl) (kj (pv 0)) (λ_ _ _ _=>(au (i:=0) (show List.Nodup [("row":Str)] from by decide +kernel) rfl (Or.inl rfl) (.inr rfl))) (λ_ _ _ _=>cF) (λ_ _ _ _=>(aR (aa (b9 (ie K rfl) (b9 (ie K rfl) (pv 0) ag (λ_ _=>rfl)) ag (λ_ _=>rfl)) (aa (b9 (ie K rfl) (pv 0) ag (λ_ _=>rfl)) ah))))))),?_⟩
 show o9 _ _ [some v] H
 obtain⟨p,xs,rfl,hS,ht⟩:=hd
 have xl:=ht.length
 have rl:=hh.1
 k_data
 refine⟨⟨_,hS⟩,?_⟩
 refine gf (xs:=xs) (λi zs H3=>aA H H3/\aU K H3 ((ps.take i).map rT) zs) ⟨aA.refl _,rfl⟩ (Nat.le_trans (by omega) (show 10^6<=sizeLine by decide)) (λi zs H3 hi ⟨e1,e2⟩=>⟨hS.same e1,by rw [e2.length,List.length_map,List.length_take];omega⟩) ?_ ?_
 ·rintro i x zs H3 hx ⟨s3,hz⟩
  obtain⟨q',k',pt,pq,r,hy,rfl,t1,t2⟩:=tw ht hh hx
  show fh 0 _ [none] _ _
  k_data
  refine⟨True.intro,ic (t1.same s3) uF (ic (t2.same s3) uF (ic (t1.same s3) rfl ⟨by show 2<=sizeLine;decide,λp4 hp4=>?_⟩))⟩
  have s4:=ao (o:=.tup [V.int q',V.int k']) hp4
  refine⟨s3.trans s4,?_⟩
  rw [List.take_add_one,hy,List.map_append]
  exact aU.append (aU.same s4 _ hz) (.one (dv.tup ae ⟨_,_,rfl,rfl,.one rfl⟩))
 ·rintro zs H3 p3 ⟨s3,hz⟩ hp3
  rw [show xs.length=ps.length by omega,List.take_length] at hz
  exact q p3 zs _ (s3.trans (ao hp3)) (s3.free hp3) ae (aU.same (ao hp3) _ hz)
def rh (q:Int) (t n:Nat) (s:Sq.Pr):Prop:=(q%4=3/\n=t/2/\s=(0,q))∨(q%4≠3/\n=t/\1<=s.1/\s.1<=s.2/\s.1*s.1+s.2*s.2=q)
theorem fD {x:V}:∀ n:Nat,(List.replicate n [x]).flatten=List.replicate n x
 | 0=>rfl
 | n+1=>by
  rw [List.replicate_succ,List.flatten_cons,fD n,List.replicate_succ]
  rfl
def jG (K:PySem.W.Frag):Sp:=λvs H Q _=>∃(v:V) (p g:Int) (rows:PyData) (t:Nat),vs=[v,.int (t:Int)]/\dv K H (.tuple [.int p,.int g,rows]) v/\Num.gQ p (.tuple [.int p,.int g,rows])/\t<=30 /\
 ∀(a:Addr) (u:V) (n:Nat) (s:Sq.Pr) (H':Hp),aA H H'->H' a=some (.lst (List.replicate n u))->rh p t n s->dv K H' (.tuple [.int s.1,.int s.2]) u->Q (.ref a) H'
theorem eJ:ar ["paper","times","pair"] ["paper","times"] (ai (top 18)):=fG
theorem lW (D:av K mg "steps_of" (top 18)) (c_two_squares:Callee P w K mg base aZ 5 "two_squares" ["paper"] (sd K)):Callee P w K mg base aZ 6 "steps_of" ["paper","times"] (jG K):=by
 refine cO D eJ (λf cdv A outer s H vs Q E hr h=>?_)
 obtain⟨v,p,g,rows,t,rfl,hv,hp,ht,q⟩:=h
 have nd:=eJ.nd
 refine⟨_,(af (bU (i:=2) nd (fW c_two_squares hr aS (aa (pv 0) ah))) (ak (ay (fx (aw tR (pv 2) ix (az _)) (aq oe (bz (aa (aR (aa ag (aa (b9 dz (pv 0) ag (λ_ _=>rfl)) ah))) ah)) (aq b0 (pv 1) ag)) (aq oe (bz (aa (pv 2) ah)) (pv 1)))))),?_⟩
 show bL _ _ _ [some v,some (.int t),none] H
 have tn:((t:Int)/2).toNat=t/2:=by omega
 k_data
 refine⟨v,p,g,rows,rfl,hv,hp,λr u H1 h2 s1 hu=>?_⟩
 rcases h2 with⟨m3,rfl⟩|⟨m3,x,y,rfl,x1,xy,e,_⟩
 ·cases hu
  rw [if_pos rfl]
  obtain⟨pp,y1,y2,vr,rfl,tS,e0,eg,dr⟩:=u4 (dv.same s1 _ hv)
  cases e0
  refine ic tS uF ⟨by show 2<=sizeLine;decide,λp1 h1=>⟨by show 1<=sizeLine;decide,λp2 h2=>⟨uG (by decide),p2,_,[V.ref p1],rfl,rfl,ae,by omega,by omega,?_,λp3 h3=>?_⟩⟩⟩
  ·rw [tn];show 1*(t/2)<=sizeLine;exact Nat.le_trans (show 1*(t/2)<=30 by omega) (by decide)
  ·have t1:=ao (o:=.tup [V.int 0,V.int p]) h1
   have t2:=ao (o:=.lst [V.ref p1]) h2
   have t3:=ao (o:=.lst (List.replicate ((t:Int)/2).toNat [V.ref p1]).flatten) h3
   refine q p3 (.ref p1) (t/2) (0,p) _ (((s1.trans t1).trans t2).trans t3) ?_ (.inl ⟨m3,rfl,rfl⟩) ⟨p1,_,rfl,a9.of (t3 _ _ (t2 _ _ ae)),_,_,rfl,rfl,.one rfl⟩
   rw [ae,tn,fD]
 ·obtain⟨r,us,rfl,tS,v1,r1,rfl,e1,v2,r2,rfl,e2,z⟩:=hu
  cases z;cases e1;cases e2
  rw [if_neg (by simp)]
  refine⟨by show 1<=sizeLine;decide,λp2 h2=>⟨p2,_,[V.ref r],rfl,rfl,ae,by omega,by omega,?_,λp3 h3=>?_⟩⟩
  ·show 1*t<=sizeLine;exact Nat.le_trans (show 1*t<=30 by omega) (by decide)
  ·have t2:=ao (o:=.lst [V.ref r]) h2
   have t3:=ao (o:=.lst (List.replicate ((t:Int)).toNat [V.ref r]).flatten) h3
   refine q p3 (.ref r) t (x,y) _ ((s1.trans t2).trans t3) ?_ (.inr ⟨m3,rfl,x1,xy,e⟩) ⟨r,_,rfl,(tS.same t2).same t3,_,_,rfl,rfl,.one rfl⟩
   rw [ae,Int.toNat_natCast,fD]
def wM (ps:List (Int × Int)) (r:V):Prop:=(r=.non/\∀ x∈ps,¬(x.1%4=3/\x.2%2=1))∨∃ l y m,ps=l++y::m/\(∀ x∈l,¬(x.1%4=3/\x.2%2=1))/\y.1%4=3/\y.2%2=1/\r=V.int y.1
def ll (K:PySem.W.Frag):Sp:=λvs H Q _=>∃(p:Addr) (us:List V) (ps:List (Int × Int)),vs=[.ref p]/\H p=some (.lst us)/\aU K H (ps.map rT) us/\∀ r,wM ps r->Q r H
theorem cJ:ar ["parting","prime","many"] ["parting"] (ai (top 13)):=fG
theorem n8 (D:av K mg "least_three" (top 13)):Callee P w K mg base aZ 1 "least_three" ["parting"] (ll K):=by
 refine cO D cJ (λf cdv A outer s H vs Q E hr h=>?_)
 obtain⟨p,us,ps,rfl,hS,hus,q⟩:=h
 have nd:=cJ.nd
 refine⟨_,(af (b7 PassesOwn.never rfl (bh (pv 0)) (b5 (n:=2) rfl (ax (au (i:=1) nd rfl (Or.inl rfl) (.inr rfl)) (ax (au (i:=2) nd rfl (Or.inl rfl) (.inr rfl)) bc))) (ak (a6 (PW.pt (km (aw c7 (aq aL (pv 1) ag) ag (az _)) (iI (aw c7 (aq aL (pv 2) ag) ag (az _))))) (ak (ay (pv 1))) aF))) (ak (ay ix))),?_⟩
 show bL _ _ _ [some (.ref p),none,none] H
 have ul:us.length=ps.length:=by rw [hus.length,List.length_map]
 k_data
 refine⟨⟨_,aT.of hS⟩,?_⟩
 refine bV (xs:=us) (λi σ' H'=>H'=H/\(∃ o1 o2,σ'=[some (.ref p),o1,o2])/\∀ x∈ps.take i,¬(x.1%4=3/\x.2%2=1)) ⟨rfl,⟨_,_,rfl⟩,λx hx=>by simp at hx⟩ (λi σ' H' _ h=>by rw [h.1];exact aT.of hS) ?_ ?_
 ·rintro i x σ' H' hx ⟨rfl,⟨o1,o2,rfl⟩,no⟩
  have il:i<ps.length:=by rw [<- ul];exact (List.getElem?_eq_some_iff.mp hx).1
  obtain⟨d,e,hd⟩:=hus.get hx
  have gi:=List.getElem?_eq_getElem il
  generalize ps[i]=y at gi
  rw [List.getElem?_map,gi] at e
  cases e
  obtain⟨pt,rfl,tS⟩:=fe hd
  show hZ K 2 _ _ [_,_,_] _ _
  refine⟨pt,_,rfl,tS,rfl,?_⟩
  k_data
  have tk:ps.take (i+1)=ps.take i++[y]:=by rw [List.take_add_one,gi];rfl
  have next:¬(y.1%4=3/\y.2%2=1)->∀ x∈ps.take (i+1),¬(x.1%4=3/\x.2%2=1):=λh x hx=>by
   rw [tk] at hx
   rcases List.mem_append.mp hx with z | z
   ·exact no x z
   ·rw [List.mem_singleton.mp z];exact h
  refine ba (λc=>?_) (λc=>?_)
  ·refine ba (λc2=>?_) (λc2=>?_)
   ·refine q _ (.inr ⟨ps.take i,y,ps.drop (i+1),?_,no,c,c2,rfl⟩)
    have d:=List.drop_eq_getElem_cons il
    have e:ps[i]=y:=Option.some.inj ((List.getElem?_eq_getElem il).symm.trans gi)
    rw [<- e,<- d,List.take_append_drop]
   ·exact next λz=>c2 z.2
  ·exact next λz=>c z.1
 ·rintro σ' H' ⟨rfl,⟨o1,o2,rfl⟩,no⟩
  rw [ul,List.take_length] at no
  k_data
  exact q _ (.inl ⟨rfl,no⟩)
theorem ir:∀(l:List (Nat × Nat)) (m:Nat),m<=l.foldl (λm x=>if x.1%4=1 then m*(x.2+1) else m) m
 | [],m=>Nat.le_refl _
 | x::l,m=>by
  show m<=l.foldl _ (if x.1%4=1 then m*(x.2+1) else m)
  refine Nat.le_trans ?_ (ir l _)
  split
  ·have:=Nat.mul_le_mul_left m (show 1<=x.2+1 by omega)
   omega
  ·exact Nat.le_refl _
theorem nJ (l:List (Nat × Nat)):1<=Sq.many l:=ir l 1
theorem gy (l:List (Nat × Nat)) (i:Nat):Sq.many (l.take i)<=Sq.many l:=by
 have e:Sq.many l=(l.drop i).foldl (λm x=>if x.1%4=1 then m*(x.2+1) else m) (Sq.many (l.take i)):=by
  unfold Sq.many
  rw [<- List.foldl_append,List.take_append_drop]
 rw [e]
 exact ir _ _
def k9 (K:PySem.W.Frag):Sp:=λvs H Q _=>∃(p:Addr) (us:List V) (qs:List (Nat × Nat)),vs=[.ref p]/\H p=some (.lst us)/\aU K H ((Sq.dC qs).map rT) us/\Sq.many qs<=1000/\Q (.int (((Sq.many qs+1)/2:Nat):Int)) H
theorem bO:ar ["parting","many_ways","prime","many"] ["parting"] (ai (top 14)):=fG
theorem nU (D:av K mg "how_many_pairs" (top 14)):Callee P w K mg base aZ 1 "how_many_pairs" ["parting"] (k9 K):=by
 refine cO D bO (λf cdv A outer s H vs Q E hr h=>?_)
 obtain⟨p,us,qs,rfl,hS,hus,hb,q⟩:=h
 have nd:=bO.nd
 refine⟨_,(af (bU (i:=1) nd ag) (af (b7 PassesOwn.never rfl (bh (pv 0)) (b5 (n:=2) rfl (ax (au (i:=2) nd rfl (Or.inl rfl) (.inr rfl)) (ax (au (i:=3) nd rfl (Or.inl rfl) (.inr rfl)) bc))) (ak (a6 (aw c7 (aq aL (pv 2) ag) ag (az _)) (ak (oE (i:=1) nd rfl (Or.inl rfl) (aq bw (pv 3) ag) (rJ ni))) aF))) (ak (ay (aq b0 (aq bw (pv 1) ag) ag))))),?_⟩
 show bL _ _ _ [some (.ref p),none,none,none] H
 have ul:us.length=qs.length:=by rw [hus.length,List.length_map];unfold Sq.dC;rw [List.length_map]
 k_data
 refine⟨⟨_,aT.of hS⟩,?_⟩
 refine bV (xs:=us) (λi σ' H'=>H'=H/\∃ o1 o2,σ'=[some (.ref p),some (.int ((Sq.many (qs.take i):Nat):Int)),o1,o2]) ⟨rfl,_,_,rfl⟩ (λi σ' H' _ h=>by rw [h.1];exact aT.of hS) ?_ ?_
 ·rintro i x σ' H' hx ⟨rfl,o1,o2,rfl⟩
  have il:i<qs.length:=by rw [<- ul];exact (List.getElem?_eq_some_iff.mp hx).1
  obtain⟨d,e,hd⟩:=hus.get hx
  have gi:=List.getElem?_eq_getElem il
  generalize qs[i]=y at gi
  unfold Sq.dC at e
  rw [List.getElem?_map,List.getElem?_map,gi] at e
  cases e
  obtain⟨pt,rfl,tS⟩:=fe hd
  have m1:=gy qs i
  have m2:=gy qs (i+1)
  have tk:Sq.many (qs.take (i+1))=if y.1%4=1 then Sq.many (qs.take i)*(y.2+1) else Sq.many (qs.take i):=by
   rw [List.take_add_one,gi]
   unfold Sq.many
   rw [List.foldl_append]
   rfl
  show hZ K 2 _ _ [_,_,_,_] _ _
  refine⟨pt,_,rfl,tS,rfl,?_⟩
  k_data
  have b1:Bd ((Sq.many (qs.take i):Nat):Int):=Bd.of (by omega) (by omega)
  refine ba (λc=>?_) (λc=>?_)
  ·have y2:y.2+1<=1000:=by
    rw [tk,if_pos (by omega)] at m2
    have m0:1<=Sq.many (qs.take i):=nJ _
    have:=Nat.mul_le_mul_right (y.2+1) m0
    omega
   refine⟨b1,Bd.of (by omega) (by omega),?_⟩
   rw [tk,if_pos (by omega)]
   rw [Int.natCast_mul,Int.natCast_add];rfl
  ·rw [tk,if_neg (by omega)]
 ·rintro σ' H' ⟨rfl,o1,o2,rfl⟩
  rw [ul,List.take_length]
  k_data
  refine⟨uG (by decide),?_⟩
  have e:(((Sq.many qs:Nat):Int)+1)/2=(((Sq.many qs+1)/2:Nat):Int):=by omega
  rw [e]
  exact q
theorem lM {ps:List (Int × Int)} {ds:Nat->PyData} (h:∀ i q k,ps[i]?=some (q,k)->Num.gQ q (ds i)):sH (Num.rowsOf ps ds) ps:=by
 refine⟨Num.bf,λi row hi=>?_⟩
 have hl:=(List.getElem?_eq_some_iff.mp hi).1
 rw [Num.bf] at hl
 have hg:=List.getElem?_eq_getElem hl
 rw [Num.fE hg] at hi
 obtain⟨g,rows,e⟩:=(h i _ _ hg).head
 exact⟨ps[i],hg,[.int g,.tuple rows],by rw [<- Option.some.inj hi,e];rfl⟩
theorem ur {a b n:Nat} {s:Sq.Pr} (ha:a<20000) (h1:a%4≠3->(Sq.bQ a).length=1) (h:rh a b n s):Sq.uq (a,b)=List.replicate n s:=by
 unfold Sq.uq
 rcases h with⟨h3,rfl,rfl⟩|⟨h3,rfl,x1,xy,e⟩
 ·rw [if_pos (show a%4=3 by omega)]
 ·rw [if_neg (show ¬a%4=3 by omega),Sq.uB ha (h1 (by omega)) x1 xy e]
def x9 (K:PySem.W.Frag) (H:Hp) (v pr m:V) (fin:List Sq.Pr) (left:List Sq.Pr) (σ:List (Option V)) (H':Hp):Prop:=aA H H'/\∃(pl:Addr) (rs:List Addr) (cur:List Sq.Pr) (o5 o6 o7:Option V),σ=[some v,some pr,some .non,some m,some (.ref pl),o5,o6,o7]/\H pl=none/\H' pl=some (.lst (rs.map V.ref))/\bt H' rs cur/\Sq.chain cur left=some fin/\∀ k∈cur,(0<=k.1/\k.1<=10^9)/\(0<=k.2/\k.2<=10^9)
def wJ (K:PySem.W.Frag) (H:Hp) (v pr m:V) (fin:List Sq.Pr) (left:List Sq.Pr) (x5 x6:V) (la:Addr) (us:List V) (σ:List (Option V)) (H':Hp):Prop:=aA H H'/\H' la=some (.lst us)/\∃(pl:Addr) (rs:List Addr) (cur:List Sq.Pr) (o7:Option V),σ=[some v,some pr,some .non,some m,some (.ref pl),some x5,some x6,o7]/\H pl=none/\H' pl=some (.lst (rs.map V.ref))/\bt H' rs cur/\Sq.chain cur left=some fin/\∀ k∈cur,(0<=k.1/\k.1<=10^9)/\(0<=k.2/\k.2<=10^9)
def oR (K:PySem.W.Frag):Sp:=λvs H Q _=>∃(v:V) (n:Nat) (ps:List (Int × Int)) (ds:Nat->PyData),vs=[v]/\Sq.Known n ps/\(∀ i q k,ps[i]?=some (q,k)->Num.gQ q (ds i))/\dv K H (.tuple (Num.rowsOf ps ds)) v /\
 ∀(t l u:Addr) (rs:List Addr) (H':Hp),aA H H'->H l=none->H' t=some (.tup [.ref l,.ref u])->H' l=some (.lst (rs.map V.ref))->bt H' rs (Sq.dC (Sq.bQ n))->((∃ r,wM ps (.int r)/\H' u=some (.tup [.str "three",.int r]))∨((∀ x∈ps,¬(x.1%4=3/\x.2%2=1))/\H' u=some (.tup [.str "all",.int ((Sq.bQ n).length:Nat)])))->Q (.ref t) H'
theorem cI:ar ["parts","parting","three","many","pairs","paper","times","step"] ["parts"] (ai (top 17)):=fG
theorem qu (D:av K mg "all_squares" (top 17)) (c_parting_in:Callee P w K mg base aZ 1 "parting_in" ["parts"] (lg K)) (c_least_three:Callee P w K mg base aZ 1 "least_three" ["parting"] (ll K)) (c_how_many_pairs:Callee P w K mg base aZ 1 "how_many_pairs" ["parting"] (k9 K)) (c_steps_of:Callee P w K mg base aZ 6 "steps_of" ["paper","times"] (jG K)) (c_all_products:Callee P w K mg base aZ 3 "all_products" ["pairs","step"] (oQ K)) (g_MOST_TOLD:∃ t,mg "MOST_TOLD"=some (.int 400 t)):Callee P w K mg base aZ 7 "all_squares" ["parts"] (oR K):=by
 refine cO D cI (λf cdv A outer s H vs Q E hr h=>?_)
 obtain⟨v,n,ps,ds,rfl,hK,hds,hv,q⟩:=h
 obtain⟨tk,g_MOST_TOLD⟩:=g_MOST_TOLD
 have nd:=cI.nd
 refine⟨_,(af (bU (i:=1) nd (bb c_parting_in (hr.mono (by omega)) rfl aS (aa (pv 0) ah))) (af (bU (i:=2) nd (bb c_least_three (hr.mono (by omega)) rfl aS (aa (pv 1) ah))) (af (a6 (aw qA (pv 2) ix (az _)) (eY.j8 (ak (ay (aR (aa (bz ah) (aa (aR (aa a8 (aa (pv 2) ah))) ah)))))) aF) (af (bU (i:=3) nd (bb c_how_many_pairs (hr.mono (by omega)) rfl aS (aa (pv 1) ah))) (af (a6 (aw dN (pv 3) (qE (v:=.int 400) rfl g_MOST_TOLD ⟨_,rfl⟩) (az _)) oG aF) (eY.j8 (af (bU (i:=4) nd (bz (aa (aR (aa ag (aa ag ah))) ah))) (af (b7 PassesOwn.never rfl (kj (pv 0)) (b5 (n:=2) rfl (ax (au (i:=5) nd rfl (Or.inl rfl) (.inr rfl)) (ax (au (i:=6) nd rfl (Or.inl rfl) (.inr rfl)) bc))) (ak (b7 PassesOwn.never rfl (bh (bb c_steps_of (hr.mono (by omega)) rfl aS (aa (pv 5) (aa (pv 6) ah)))) (au (i:=7) nd rfl (Or.inl rfl) (.inr rfl)) (ak (bU (i:=4) nd (bb c_all_products (hr.mono (by omega)) rfl aS (aa (pv 4) (aa (pv 7) ah)))))))) (ak (ay (aR (aa (pv 4) (aa (aR (aa a8 (aa (pv 3) ah))) ah))))))))))))),?_⟩
 show bL _ _ _ [some v,none,none,none,none,none,none,none] H
 have hP:=hK.part
 obtain⟨a,xs,rfl,hS,dd⟩:=id hv
 have xl:xs.length=ps.length:=by rw [dd.length,Num.bf]
 have n2:=hK.lt
 have n1:=hP.pos
 k_data
 refine⟨_,_,ps,rfl,hv,lM hds,?_,λp1 us H1 s1 f1 h1 d1=>?_⟩
 ·rw [Num.bf]
  have:ps.length<=20000:=by
   have:(ps.length:Int)<=n:=by
    rw [<- hP.prod]
    have:∀ l:List (Int × Int),(∀ x∈l,Num.Pm x.1/\1<=x.2)->(l.length:Int)<=Num.aJ l/\1<=Num.aJ l:=λl=>by
     induction l with
     | nil=>intro _;exact⟨by decide,by decide⟩
     | cons x l ih =>
      intro h
      obtain⟨i1,i2⟩:=ih λy hy=>h y (List.mem_cons_of_mem _ hy)
      obtain⟨x1,x2⟩:=h x (List.mem_cons_self ..)
      have x3:=x1.two
      obtain⟨k,hk⟩:∃ k,x.2.toNat=k+1:=⟨x.2.toNat-1,by omega⟩
      have pk:=Num.aI (show 0<x.1 by omega) k
      have pw:2<=x.1^x.2.toNat:=by
       rw [hk,Int.pow_succ]
       have:=Int.mul_le_mul_of_nonneg_right (show 1<=x.1^k by omega) (show 0<=x.1 by omega)
       omega
      have m:=Int.mul_le_mul_of_nonneg_right pw (show 0<=Num.aJ l by omega)
      show (((l.length+1:Nat)):Int)<=x.1^x.2.toNat*Num.aJ l/\1<=x.1^x.2.toNat*Num.aJ l
      omega
    exact (this ps λx hx=>⟨(hP.ok x hx).1,(hP.ok x hx).2.1⟩).1
   omega
  exact Nat.le_trans this (by decide)
 refine⟨p1,us,ps,rfl,h1,d1,λr hr=>?_⟩
 rcases id hr with⟨rfl,hno⟩|⟨l,y,m,e,hl,y3,y2,rfl⟩
 ·rw [if_neg (by simp)]
  obtain⟨qs,e,hch,hlen,h400,hne,hone⟩:=hK.all hno
  have hm:Sq.many qs<=1000:=by omega
  refine⟨p1,us,qs,rfl,h1,by rw [<- e];exact d1,hm,_,rfl,?_⟩
  rw [if_neg (by omega)]
  refine⟨by show 2<=sizeLine;decide,λp2 hp2=>⟨by show 1<=sizeLine;decide,λp3 hp3=>?_⟩⟩
  have t2:=ao (o:=.tup [V.int 0,V.int 1]) hp2
  have t3:=ao (o:=.lst [V.ref p2]) hp3
  have e3:upd (upd H1 p2 (.tup [V.int 0,V.int 1])) p3 (.lst [V.ref p2]) p3=some (.lst [V.ref p2]):=ae
  have e2:upd (upd H1 p2 (.tup [V.int 0,V.int 1])) p3 (.lst [V.ref p2]) p2=some (.tup [V.int 0,V.int 1]):=t3 _ _ ae
  have f3:H p3=none:=s1.free (t2.free hp3)
  have S3:=(s1.trans t2).trans t3
  generalize upd (upd H1 p2 (.tup [V.int 0,V.int 1])) p3 (.lst [V.ref p2])=H3 at *
  have pl:ps.length=qs.length:=by rw [e];unfold Sq.dC;rw [List.length_map]
  refine⟨⟨_,hS.same S3⟩,?_⟩
  refine nE (xs:=xs) (λi σ' H'=>x9 K H (.ref a) (.ref p1) (.int (((Sq.many qs+1)/2:Nat):Int)) (Sq.dC (Sq.bQ n)) ((qs.drop i).flatMap Sq.uq) σ' H') ⟨S3,p3,[p2],[(0,1)],none,none,none,rfl,f3,e3,⟨rfl,λi r k h1 h2=>?_⟩,hch,λk hk=>?_⟩ (λi σ' H' _ h=>hS.same h.1) ?_ ?_
  ·match i,h1,h2 with
   | 0,h1,h2 =>
    cases h1;cases h2
    exact e2
   | i+1,h1,h2=>cases h1
  ·rw [List.mem_singleton.mp hk]
   exact⟨⟨by decide,by decide⟩,by decide,by decide⟩
  ·rintro i x σ' H4 hx ⟨s4,pl4,rs,cur,o5,o6,o7,rfl,f4,h4,pr4,ch4,b4⟩
   have il:i<qs.length:=by rw [<- pl,<- xl];exact (List.getElem?_eq_some_iff.mp hx).1
   obtain⟨d,ed,hd⟩:=dd.get hx
   have gq:=List.getElem?_eq_getElem il
   have dq:=List.drop_eq_getElem_cons il
   generalize qs[i]=y at gq dq
   obtain⟨ya,yb⟩:=y
   have gi:ps[i]?=some ((ya:Int),(yb:Int)):=by rw [e];unfold Sq.dC;rw [List.getElem?_map,gq];rfl
   rw [Num.fE gi] at ed
   cases ed
   have ok:=hP.ok _ (List.mem_of_getElem? gi)
   have y30:(yb:Int)<=30:=ok.2.2
   have yn:=Int.le_of_dvd n1 (hP.dv (List.mem_of_getElem? gi))
   have yn':(ya:Int)<=n:=yn
   have pap:=hds i _ _ gi
   obtain⟨g',rows',eh⟩:=pap.head
   obtain⟨pt,ws,rfl,tT,x1,r1,rfl,dv1,x2,r2,rfl,dv2,r3⟩:=hd
   cases dv2;cases r3
   rw [eh] at dv1 pap
   show hZ K 2 _ _ [_,_,_,_,_,_,_,_] _ _
   refine⟨pt,_,rfl,tT.same s4,rfl,?_⟩
   k_data
   refine⟨x1,(ya:Int),g',.tuple rows',yb,rfl,dv.same s4 _ dv1,pap,by omega,λla u nn st H5 s5 h5 hq hu=>⟨la,rfl,⟨_,aT.of h5⟩,?_⟩⟩
   have es:=ur (a:=ya) (b:=yb) (by omega) (λz=>hone _ (List.mem_of_getElem? gq) z) hq
   rw [dq,List.flatMap_cons,es] at ch4
   have st0:(0<=st.1/\st.1<=10^9)/\(0<=st.2/\st.2<=10^9):=by
    rcases hq with⟨_,_,rfl⟩|⟨_,_,x1,xy,e⟩
    ·exact⟨⟨by show (0:Int)<=0;decide,by show (0:Int)<=10^9;decide⟩,by show (0:Int)<=(ya:Int);omega,by show (ya:Int)<=10^9;omega⟩
    ·have a1:=Int.mul_le_mul_of_nonneg_right (show 1<=st.1 by omega) (show 0<=st.1 by omega)
     have a2:=Int.mul_le_mul_of_nonneg_right (show 1<=st.2 by omega) (show 0<=st.2 by omega)
     exact⟨⟨by omega,by omega⟩,by omega,by omega⟩
   refine bV (xs:=List.replicate nn u) (λj σ' H'=>wJ K H (.ref a) (.ref p1) (.int (((Sq.many qs+1)/2:Nat):Int)) (Sq.dC (Sq.bQ n)) (List.replicate (nn-j) st++(qs.drop (i+1)).flatMap Sq.uq) x1 (.int (yb:Int)) la (List.replicate nn u) σ' H'/\dv K H' (.tuple [.int st.1,.int st.2]) u) ⟨⟨s4.trans s5,h5,pl4,rs,cur,_,rfl,f4,s5 _ _ h4,pr4.same s5,ch4,b4⟩,hu⟩ (λj σ' H' _ h=>aT.of h.1.2.1) ?_ ?_
   ·rintro j z σ' H6 hz ⟨⟨s6,h6,pl6,rs6,cur6,o7',rfl,f6,e6,pr6,ch6,b6⟩,hu6⟩
    have jl:j<nn:=by have:=(List.getElem?_eq_some_iff.mp hz).1;rwa [List.length_replicate] at this
    have ez:z=u:=by rw [List.getElem?_replicate,if_pos jl] at hz;exact (Option.some.inj hz).symm
    subst ez
    obtain⟨mm,hmm⟩:∃ mm,nn-j=mm+1:=⟨nn-j-1,by omega⟩
    rw [hmm,List.replicate_succ,List.cons_append] at ch6
    unfold Sq.chain at ch6
    cases hn:Sq.wz cur6 st with
    | none=>rw [hn] at ch6;cases ch6
    | some q1 =>
     rw [hn] at ch6
     have stp1:=Sq.nQ hn
     k_data
     refine⟨pl6,rs6,cur6,z,st,q1,rfl,aT.of e6,pr6,hu6,b6,st0,stp1,λp7 rs7 H7 s7 f7 h7 pr7=>?_⟩
     exact⟨⟨s6.trans s7,s7 _ _ h6,p7,rs7,q1,_,rfl,s6.free f7,h7,pr7,by rw [show nn-(j+1)=mm by omega];exact ch6,stp1.ok⟩,dv.same s7 _ hu6⟩
   ·rintro σ' H6 ⟨⟨s6,h6,pl6,rs6,cur6,o7',rfl,f6,e6,pr6,ch6,b6⟩,hu6⟩
    rw [List.length_replicate,Nat.sub_self] at ch6
    exact⟨s6,pl6,rs6,cur6,_,_,_,rfl,f6,e6,pr6,ch6,b6⟩
  ·rintro σ' H4 ⟨s4,pl4,rs,cur,o5,o6,o7,rfl,f4,h4,pr4,ch4,b4⟩
   rw [xl,pl,List.drop_length] at ch4
   have ec:cur=Sq.dC (Sq.bQ n):=Option.some.inj ch4
   subst ec
   k_data
   refine⟨by show 2<=sizeLine;decide,λp5 hp5=>⟨by show 2<=sizeLine;decide,λp6 hp6=>?_⟩⟩
   have t5:=ao (o:=.tup [V.str (Str.ofString "all"),V.int (((Sq.many qs+1)/2:Nat):Int)]) hp5
   have t6:=ao (o:=.tup [V.ref pl4,V.ref p5]) hp6
   exact q p6 pl4 p5 rs _ ((s4.trans t5).trans t6) f4 ae (t6 _ _ (t5 _ _ h4)) ((pr4.same t5).same t6) (.inr ⟨hno,by rw [hlen];exact t6 _ _ ae⟩)
 ·rw [if_pos (by simp)]
  have e0:=hK.none ⟨y,by rw [e];simp,y3,y2⟩
  refine⟨by show 0<=sizeLine;decide,λp2 hp2=>⟨by show 2<=sizeLine;decide,λp3 hp3=>⟨by show 2<=sizeLine;decide,λp4 hp4=>?_⟩⟩⟩
  have t2:=ao (o:=.lst []) hp2
  have t3:=ao (o:=.tup [V.str (Str.ofString "three"),V.int y.1]) hp3
  have t4:=ao (o:=.tup [V.ref p2,V.ref p3]) hp4
  exact q p4 p2 p3 [] _ (((s1.trans t2).trans t3).trans t4) (s1.free hp2) ae (t4 _ _ (t3 _ _ ae)) (by rw [e0];exact⟨rfl,λi r k h=>by cases h⟩) (.inl ⟨y.1,hr,t4 _ _ ae⟩)
def oS:Sp:=λvs H Q _=>∃(p:Addr) (l:Int) (b:Bool),vs=[.ref p]/\H p=some (mx l b)/\rP l b/\∀(n:Nat) H',n<20000->1<=n->Sq.sT n=true->Us p b H H'->Q (.int n) H'
theorem c8:ar ["_law_state_here","_law_way","_law_n","_law_k","_law_more"] ["_law_state_here"] (ai (top 29)):=fG
theorem qv (D:av K mg "_law_asked" (top 29)) (c__law_take:Callee P w K mg base aZ 1 "_law_take" ["_law_state_here","_law_many"] oX) (n_range:mg "range"=none):Callee P w K mg base aZ 2 "_law_asked" ["_law_state_here"] oS:=by
 refine cO D c8 (λf cdv A outer s H vs Q E hr h=>?_)
 obtain⟨p,l,b,rfl,hp,hl,q⟩:=h
 have nd:=c8.nd
 refine⟨_,(af (bU (i:=1) nd (fW c__law_take hr aS (aa (pv 0) (aa ag ah)))) (af (a6 (aw fw (pv 1) ag (az _)) (ak (ay (aq bw ag (fW c__law_take hr aS (aa (pv 0) (aa (b9 ia (bz (aa ag (aa ag ah))) (pv 1) (λ_ _=>rfl)) ah)))))) aF) (af (bU (i:=2) nd ag) (af (b7 PassesOwn.never rfl (gC rfl n_range (aa (fW c__law_take hr aS (aa (pv 0) (aa ag ah))) ah)) (au (i:=3) nd rfl (Or.inl rfl) (.inr rfl)) (af (bU (i:=4) nd (b9 ia (bz (aa ag (aa ag (aa ag (aa ag (aa ag (aa ag ah))))))) (fW c__law_take hr aS (aa (pv 0) (aa ag ah))) (λ_ _=>rfl))) (ak (a6 (aw fw (aq aD (pv 2) (pv 4)) ag (az _)) (ak (bU (i:=2) nd (aq aD (pv 2) (pv 4)))) aF)))) (ak (ay (pv 2))))))),?_⟩
 show bL _ _ _ [some (.ref p),none,none,none,none] H
 k_data
 refine⟨p,3,l,b,rfl,hp,hl,by decide,by decide,λr H1 r0 r3 u1=>⟨r,rfl,?_⟩⟩
 refine ba (λc=>?_) (λc=>?_)
 ·refine⟨by show 2<=sizeLine;decide,λpt hpt=>?_⟩
  have U:=u1.us.lay (o:=.lst [V.int 60,V.int 2000]) hpt
  refine tF ae r0 c (lo:=60) (hi:=2001) ⟨by omega,by omega⟩ ⟨by omega,by omega⟩ λm m0 m1=>?_
  obtain⟨l2,k2,e2⟩:=U.1
  refine⟨p,m,l2,b,rfl,e2,k2,by omega,by omega,λx H2 x0 x1 u2=>⟨x,rfl,?_⟩⟩
  obtain⟨y,rfl⟩:∃ y:Nat,x=y:=⟨x.toNat,by omega⟩
  rw [show (1+(y:Int))=((1+y:Nat):Int) by omega]
  exact q (1+y) H2 (by omega) (by omega) (Sq.kC (by omega) (by omega)) (U.trans u2.us)
 ·obtain⟨l1,k1,e1⟩:=u1.at
  refine⟨p,7,l1,b,rfl,e1,k1,by decide,by decide,λt H2 t0 t7 u2=>⟨t,rfl,by omega,by omega,?_⟩⟩
  have U2:=u1.us.trans u2.us
  refine fq (λi σ' H'=>(∃ o3 o4 a b' c d e,σ'=[some (.ref p),some (.int r),some (.int ((Sq.sm a b' c d e:Nat):Int)),o3,o4]/\a+(b'+1)/2+c+d+e<=i/\Sq.sm a b' c d e<20000/\1<=Sq.sm a b' c d e)/\Us p b H H') ⟨⟨none,none,0,0,0,0,0,rfl,by decide,by decide,by decide⟩,U2⟩ ?_ ?_
  ·rintro i σ' H3 hi ⟨⟨o3,o4,a,b',c',d,e,rfl,hs,h2,h1⟩,U3⟩
   k_data
   refine⟨by show 6<=sizeLine;decide,λpt hpt=>?_⟩
   have U4:=U3.lay (o:=.lst [V.int 2,V.int 3,V.int 5,V.int 9,V.int 13,V.int 17]) hpt
   have e4:upd H3 pt (.lst [V.int 2,V.int 3,V.int 5,V.int 9,V.int 13,V.int 17]) pt=some (.lst [V.int 2,V.int 3,V.int 5,V.int 9,V.int 13,V.int 17]):=ae
   generalize upd H3 pt _=H4 at *
   obtain⟨l4,k4,e5⟩:=U4.1
   refine⟨p,6,l4,b,rfl,e5,k4,by decide,by decide,λx H5 x0 x6 u5=>?_⟩
   have npt:pt≠p:=λz=>by rw [z,e5] at e4;cases e4
   have e6:H5 pt=some (.lst [V.int 2,V.int 3,V.int 5,V.int 9,V.int 13,V.int 17]):=by rw [u5.ne npt];exact e4
   have U5:=U4.trans u5.us
   refine ib (aT.of e6) x0 (by show x<6;exact x6) λv hv=>?_
   have key:∃(m:Nat) (a2 b2 c2 d2 e2:Nat),v=.int m/\1<=m/\m<=17/\Sq.sm a2 b2 c2 d2 e2=Sq.sm a b' c' d e*m/\a2+(b2+1)/2+c2+d2+e2<=i+1:=by
    simp only [List.mem_cons,List.not_mem_nil,or_false] at hv
    rcases hv with rfl | rfl | rfl | rfl | rfl | rfl
    ·exact⟨2,a+1,b',c',d,e,rfl,by decide,by decide,by unfold Sq.sm;rw [Nat.pow_succ];simp only [Nat.mul_comm,Nat.mul_left_comm,Nat.mul_assoc],by omega⟩
    ·exact⟨3,a,b'+1,c',d,e,rfl,by decide,by decide,by unfold Sq.sm;rw [Nat.pow_succ 3];simp only [Nat.mul_comm,Nat.mul_left_comm,Nat.mul_assoc],by omega⟩
    ·exact⟨5,a,b',c'+1,d,e,rfl,by decide,by decide,by unfold Sq.sm;rw [Nat.pow_succ 5];simp only [Nat.mul_comm,Nat.mul_left_comm,Nat.mul_assoc],by omega⟩
    ·exact⟨9,a,b'+2,c',d,e,rfl,by decide,by decide,by unfold Sq.sm;rw [Nat.pow_add 3 b' 2,show 3^2=9 from rfl];simp only [Nat.mul_comm,Nat.mul_left_comm,Nat.mul_assoc],by omega⟩
    ·exact⟨13,a,b',c',d+1,e,rfl,by decide,by decide,by unfold Sq.sm;rw [Nat.pow_succ 13];simp only [Nat.mul_comm,Nat.mul_left_comm,Nat.mul_assoc],by omega⟩
    ·exact⟨17,a,b',c',d,e+1,rfl,by decide,by decide,by unfold Sq.sm;rw [Nat.pow_succ 17];simp only [Nat.mul_comm,Nat.mul_left_comm,Nat.mul_assoc],by omega⟩
   obtain⟨m,a2,b2,c2,d2,e2,rfl,m1,m17,es,hs2⟩:=key
   have bm:Bd ((Sq.sm a b' c' d e:Nat):Int)/\Bd ((m:Nat):Int):=⟨Bd.of (by omega) (by omega),Bd.of (by omega) (by omega)⟩
   have em:((Sq.sm a b' c' d e:Nat):Int)*(m:Int)=((Sq.sm a2 b2 c2 d2 e2:Nat):Int):=by rw [es,Int.natCast_mul]
   have p2:1<=Sq.sm a2 b2 c2 d2 e2:=by rw [es];exact Nat.mul_pos h1 m1
   refine⟨_,rfl,bm.1,bm.2,?_⟩
   rw [em]
   refine ba (λcc=>⟨_,rfl,bm.1,bm.2,⟨_,_,a2,b2,c2,d2,e2,em,rfl,rfl,hs2,by omega,p2⟩,U5⟩) (λcc=>⟨⟨_,_,a,b',c',d,e,rfl,rfl,rfl,by omega,h2,h1⟩,U5⟩)
  ·rintro σ' H3 ⟨⟨o3,o4,a,b',c',d,e,rfl,hs,h2,h1⟩,U3⟩
   k_data
   exact q _ H3 h2 h1 (Sq.sU (by omega) h2 h1) U3
def gK (m:Nat):List (Key × V):=(List.range m).map fun(i:Nat)=>(Sum.inl ((i:Int)*i),V.int i)
theorem jI (m:Nat):gK (m+1)=gK m++[(Sum.inl ((m:Int)*m),V.int m)]:=by
 unfold gK
 rw [List.range_succ,List.map_append]
 rfl
theorem iO (m:Nat):(gK m).length=m:=by unfold gK;rw [List.length_map,List.length_range]
theorem qT {m i:Nat} (h:i<m):(gK m)[i]?=some (Sum.inl ((i:Int)*i),V.int i):=by
 unfold gK
 rw [List.getElem?_map,List.getElem?_range h]
 rfl
theorem lp {i j:Nat} (h:i<j):(i:Int)*i<(j:Int)*j:=by
 have:i*i<j*j:=Nat.mul_lt_mul_of_lt_of_le h (by omega) (by omega)
 exact_mod_cast this
theorem fJ {m:Nat} {t:Int} (h:∀ i:Nat,i<m->(i:Int)*i≠t):bT (gK m) (Sum.inl t)=none:=by
 unfold bT
 have:(gK m).find? (λkv=>decide (kv.1=Sum.inl t))=none:=by
  rw [List.find?_eq_none]
  intro x hx
  unfold gK at hx
  obtain⟨i,hi,rfl⟩:=List.mem_map.mp hx
  rw [decide_eq_true_eq]
  intro z
  exact h i (List.mem_range.mp hi) (Sum.inl.inj z)
 rw [this]
 rfl
theorem jH:∀{m i:Nat},i<m->bT (gK m) (Sum.inl ((i:Int)*i))=some (.int i)
 | 0,_,h=>absurd h (Nat.not_lt_zero _)
 | m+1,i,h=>by
  rw [jI,gL _ _ _ _ (fJ λj hj z=>by have:=lp hj;omega)]
  by_cases e:i=m
  ·subst e;rw [if_pos rfl]
  ·rw [if_neg (λz=>by have:=lp (show i<m by omega);have:=Sum.inl.inj z;omega)]
   exact jH (by omega)
def upTo (i:Nat) (l:List (Nat × Nat)):List (Nat × Nat):=l.filter λp=>decide (p.1<i)
theorem mw (l:List (Nat × Nat)):upTo 0 l=[]:=by
 unfold upTo
 rw [List.filter_eq_nil_iff]
 intro a _
 simp
theorem pC {i:Nat} {l:List (Nat × Nat)} (h:∀ x∈l,x.1<i):upTo i l=l:=by
 unfold upTo
 rw [List.filter_eq_self]
 intro a ha
 exact decide_eq_true (h a ha)
theorem lu {i:Nat} {l:List (Nat × Nat)} (h:∀ y,(i,y)∉l):upTo (i+1) l=upTo i l:=by
 unfold upTo
 refine List.filter_congr λx hx=>?_
 have:x.1≠i:=λz=>h x.2 (by rw [<- z];exact hx)
 rw [decide_eq_decide]
 omega
theorem jN {i y:Nat}:∀{l:List (Nat × Nat)},l.Pairwise (λa b=>a.1<b.1)->(i,y)∈l->upTo (i+1) l=upTo i l++[(i,y)]
 | a::l,hp,h=>by
  obtain⟨h1,h2⟩:=List.pairwise_cons.mp hp
  unfold upTo
  rcases List.mem_cons.mp h with z | z
  ·subst z
   have e1:(l.filter λp=>decide (p.1<i+1))=[]:=by
    rw [List.filter_eq_nil_iff]
    intro b hb
    have:i<b.1:=h1 b hb
    rw [decide_eq_true_eq]
    omega
   have e2:(l.filter λp=>decide (p.1<i))=[]:=by
    rw [List.filter_eq_nil_iff]
    intro b hb
    have:i<b.1:=h1 b hb
    rw [decide_eq_true_eq]
    omega
   rw [List.filter_cons_of_pos (by simp),List.filter_cons_of_neg (by simp),e1,e2]
   rfl
  ·have:a.1<i:=h1 _ z
   have ih:=jN h2 z
   unfold upTo at ih
   rw [List.filter_cons_of_pos (by rw [decide_eq_true_eq];omega),List.filter_cons_of_pos (by rw [decide_eq_true_eq];omega),ih]
   rfl
theorem fL {n:Nat}:∀ f x y:Nat,(Sq.tp f n x y).length<=f
 | 0,x,y=>Nat.le_refl _
 | f+1,x,y=>by
  unfold Sq.tp
  split
  ·exact Nat.zero_le _
  split
  ·exact Nat.le_succ_of_le (fL f _ _)
  split
  ·exact Nat.le_succ_of_le (fL f _ _)
  ·exact Nat.succ_le_succ (fL f _ _)
theorem bt.snoc {H:Hp} {rs:List Addr} {ps:List Sq.Pr} {r:Addr} {k:Sq.Pr} (h:bt H rs ps) (e:H r=some (.tup [.int k.1,.int k.2])):bt H (rs++[r]) (ps++[k]):=by
 refine⟨by rw [List.length_append,List.length_append,h.1];rfl,λi r' k' h1 h2=>?_⟩
 rcases (by omega:i<rs.length∨rs.length<=i) with z | z
 ·rw [List.getElem?_append_left z] at h1
  rw [List.getElem?_append_left (by rw [<- h.1];exact z)] at h2
  exact h.2 i r' k' h1 h2
 ·rw [List.getElem?_append_right z] at h1
  rw [List.getElem?_append_right (by rw [<- h.1];exact z),<- h.1] at h2
  generalize i-rs.length=t at h1 h2
  cases t with
  | zero=>cases h1;cases h2;exact e
  | succ t=>cases h1
theorem bt.upd {H:Hp} {rs:List Addr} {ps:List Sq.Pr} {l:Addr} {o:HO} {xs:List V} (h:bt H rs ps) (hl:H l=some (.lst xs)):bt (L2.upd H l o) rs ps :=
 ⟨h.1,λi r k h1 h2=>by
  have:=h.2 i r k h1 h2
  rw [aj (λz=>by rw [z,hl] at this;cases this)]
  exact this⟩
def lb (K:PySem.W.Frag):Sp:=λvs H Q _=>∃ n:Nat,vs=[.int n]/\n<20000/\∀(l:Addr) (rs:List Addr) (H':Hp),aA H H'->H l=none->H' l=some (.lst (rs.map V.ref))->bt H' rs (Sq.dC (Sq.bQ n))->Q (.ref l) H'
theorem c9:ar ["_law_n","_law_squares","_law_y","_law_found","_law_square","_law_x"] ["_law_n"] (ai (top 30)):=fG
theorem nW (D:av K mg "_law_pairs" (top 30)):Callee P w K mg base aZ 1 "_law_pairs" ["_law_n"] (lb K):=by
 refine cO D c9 (λf cdv A outer s H vs Q E hr h=>?_)
 obtain⟨n,rfl,hn,q⟩:=h
 have nd:=c9.nd
 refine⟨_,(af (bU (i:=1) nd oo) (af (bU (i:=2) nd ag) (af (bj PassesOwn.never (aw rQ (aq aD (pv 2) (pv 2)) (pv 0) (az _)) (af (iE (cz hr) (pv 1) (aq aD (pv 2) (pv 2)) (pv 2) rfl) (ak (bU (i:=2) nd (aq bw (pv 2) ag))))) (af (bU (i:=3) nd (bz ah)) (af (b7 PassesOwn.never rfl (ow (tZ PySem.F.plainAttrs_dict PySem.F.slot_dict_items PySem.F.type_dict_items nL (pv 1))) (b5 (n:=2) rfl (ax (au (i:=4) nd rfl (Or.inl rfl) (.inr rfl)) (ax (au (i:=5) nd rfl (Or.inl rfl) (.inr rfl)) bc))) (ak (a6 (PW.pt (km (uf (tX (cz hr) (aq bF (pv 0) (pv 4)) (pv 1))) (iI (aw rQ (pv 5) (b3 (cz hr) (pv 1) (aq bF (pv 0) (pv 4)) (λ_ _=>rfl)) (az _))))) (ak (iF (om PySem.F.plainAttrs_list PySem.F.slot_list_append PySem.F.type_list_append eo (pv 3) (aa (aR (aa (pv 5) (aa (b3 (cz hr) (pv 1) (aq bF (pv 0) (pv 4)) (λ_ _=>rfl)) ah))) ah)))) aF))) (ak (ay (pv 3)))))))),?_⟩
 show bL _ _ _ [some (.int n),none,none,none,none,none] H
 k_data
 intro d hd
 refine br (α:=Nat) (λy=>[some (.int n),some (.ref d),some (.int y),none,none,none]) (λy H1=>aA H H1/\H1 d=some (.dK (gK y))/\∀ j:Nat,j<y->(j:Int)*j<=n) (λy=>n+1-y) 0 rfl ⟨ao hd,ae,λj hj=>absurd hj (Nat.not_lt_zero _)⟩ ?_
 rintro y H1 ⟨s1,e1,le⟩
 have yb:y<=20000:=by
  rcases (by omega:y<=20000∨20000<y) with z | z
  ·exact z
  ·have:=le 20000 z
   omega
 have by':Bd (y:Int):=Bd.of (by omega) (by omega)
 k_data
 refine⟨by',by',?_⟩
 refine ba (λc=>?_) (λc=>?_)
 ·refine⟨_,λ_ _ z=>z,by',by',_,iW.k (k:=Sum.inl ((y:Int)*y)) e1 (by rw [iO];exact Nat.lt_of_le_of_lt yb (by decide)),y+1,rfl,s1.upd hd,?_,λj hj=>?_,?_⟩
  ·rw [ae,oH _ (fJ λi hi z=>by have:=lp hi;omega),jI]
  ·rcases (by omega:j<y∨j=y) with z | z
   ·exact le j z
   ·rw [z];exact c
  ·have:y<=n:=by
    rcases (by omega:y=0∨1<=y) with z | z
    ·omega
    ·have:=Nat.mul_le_mul_left y z
     have:y*y<=n:=by exact_mod_cast c
     omega
   omega
 ·refine⟨by show 0<=sizeLine;decide,λl hl=>?_⟩
  have hdl:l≠d:=λz=>by rw [z,e1] at hl;cases hl
  have e2:upd H1 l (.lst []) d=some (.dK (gK y)):=by rw [aj (Ne.symm hdl)];exact e1
  have s2:=s1.trans (ao (o:=.lst []) hl)
  have l2:upd H1 l (.lst []) l=some (.lst []):=ae
  have fl:=s1.free hl
  generalize upd H1 l _=H2 at *
  refine⟨.inr (.inr (.inl ⟨rfl,.inl ⟨_,e2⟩⟩)),d,_,rfl,rfl,e2,λv hv=>⟨v,rfl,d,ae,_,by rw [aj (λz=>by rw [z,hv] at e2;cases e2)];exact e2,λod=>?_⟩⟩
  have s3:=s2.trans (ao (o:=jQ v d) hv)
  have l3:upd (upd H2 v (jQ v d)) d (.frz od (.dK (gK y))) l=some (.lst []):=by rw [aj hdl,aj (λz=>by rw [z,hv] at l2;cases l2)];exact l2
  have s4:=s3.upd (o:=.frz od (.dK (gK y))) hd
  have d4:upd (upd H2 v (jQ v d)) d (.frz od (.dK (gK y))) d=some (.frz od (.dK (gK y))):=ae
  generalize upd (upd H2 v _) d _=H4 at *
  have all:∀ i:Nat,(i:Int)*i<=n↔i<y:=λi=>⟨λz=>by
   rcases (by omega:i<y∨y=i∨y<i) with w | w | w
   ·exact w
   ·rw [w] at c;exact absurd z c
   ·have:=lp w;omega,le i⟩
  obtain⟨_,rise⟩:=Sq.eV (n:=n) 300 0 142
  have rise:(Sq.bQ n).Pairwise λa b=>a.1<b.1:=rise
  refine j4 (λi σ' H'=>(∃ o4 o5,σ'=[some (.int n),some (.ref d),some (.int y),some (.ref l),o4,o5])/\aA H H'/\H' d=some (.frz od (.dK (gK y)))/\∃ rs:List Addr,H' l=some (.lst (rs.map V.ref))/\bt H' rs (Sq.dC (upTo i (Sq.bQ n)))) ⟨⟨none,none,rfl⟩,s4,d4,[],l3,by rw [mw];rfl,λi r k h1 h2=>by cases h1⟩ (λi σ' H' _ h=>h.2.2.1) ?_ ?_
  ·rintro i k v2 σ' H5 p hk ⟨⟨o4,o5,rfl⟩,s5,d5,rs,l5,pr5⟩ hp
   have iy:i<y:=by have:=(List.getElem?_eq_some_iff.mp hk).1;rwa [iO] at this
   rw [qT iy] at hk
   cases hk
   have t6:=ao (o:=.tup [kV (Sum.inl ((i:Int)*i)),V.int i]) hp
   have e6:upd H5 p (.tup [kV (Sum.inl ((i:Int)*i)),V.int i]) p=some (.tup [.int ((i:Int)*i),.int i]):=ae
   generalize upd H5 p _=H6 at *
   show hZ K 2 _ _ [_,_,_,_,_,_] _ _
   refine⟨p,_,rfl,a9.of e6,rfl,?_⟩
   k_data
   unfold wa
   k_data
   have s6:=s5.trans t6
   have d6:=t6 _ _ d5
   have l6:=t6 _ _ l5
   have pr6:=pr5.same t6
   have dg:∀ o,bT (gK y) (Sum.inl ((n:Int)-i*i))=o->dE H6 d (V.int ((n:Int)-i*i)) o:=λo e=>.inl ⟨_,Sum.inl ((n:Int)-i*i),.inr ⟨od,d6⟩,rfl,e.symm⟩
   by_cases hj:∃ j:Nat,j<y/\(j:Int)*j=n-i*i
   ·obtain⟨j,jy,ej⟩:=hj
    have e:bT (gK y) (Sum.inl ((n:Int)-i*i))=some (.int j):=by rw [<- ej];exact jH jy
    have eN:i*i+j*j=n:=by
     have:((i*i+j*j:Nat):Int)=((n:Nat):Int):=by rw [Int.natCast_add,Int.natCast_mul,Int.natCast_mul];omega
     omega
    refine⟨_,dg _ e,?_⟩
    rw [if_pos (show (some (V.int (j:Int))).isSome=true from rfl)]
    refine⟨_,dg _ e,_,rfl,?_⟩
    refine ba (λc2=>?_) (λc2=>?_)
    ·have m:(i,j)∈Sq.bQ n:=(Sq.dS hn).mpr ⟨by omega,eN⟩
     refine⟨.inl ⟨rfl,_,aT.of l6⟩,_,dg _ e,by show 2<=sizeLine;decide,λpt hpt=>?_⟩
     have t7:=ao (o:=.tup [V.int i,V.int j]) hpt
     have e7:upd H6 pt (.tup [V.int i,V.int j]) pt=some (.tup [V.int i,V.int j]):=ae
     generalize upd H6 pt _=H7 at *
     have l7:=t7 _ _ l6
     have rl:rs.length<=300:=by
      rw [pr6.1]
      unfold Sq.dC upTo
      rw [List.length_map]
      exact Nat.le_trans (List.length_filter_le _ _) (fL _ _ _)
     refine⟨l,rs.map V.ref,.ref pt,rfl,rfl,l7,by rw [List.length_map];exact Nat.lt_of_le_of_lt rl (by decide),(s6.trans t7).upd fl,by rw [aj (Ne.symm hdl)];exact t7 _ _ d6,rs++[pt],by rw [ae,List.map_append];rfl,?_⟩
     rw [jN rise m]
     have:=(bt.snoc (pr6.same t7) (k:=((i:Int),(j:Int))) e7).upd (o:=.lst (rs.map V.ref++[V.ref pt])) l7
     unfold Sq.dC at this ⊢
     rw [List.map_append]
     exact this
    ·refine⟨s6,d6,rs,l6,?_⟩
     rw [lu λz hz=>?_]
     ·exact pr6
     ·obtain⟨h1,h2⟩:=(Sq.dS hn).mp hz
      have:z*z=j*j:=by omega
      rcases (by omega:z<j∨z=j∨j<z) with w | w | w
      ·have:=Nat.mul_lt_mul_of_lt_of_le w (show z<=j by omega) (by omega);omega
      ·omega
      ·have:=Nat.mul_lt_mul_of_lt_of_le w (show j<=z by omega) (by omega);omega
   ·refine⟨_,dg _ (fJ λj hjy z=>hj ⟨j,hjy,z⟩),?_⟩
    rw [if_neg (show ¬(none:Option V).isSome=true by intro z;cases z)]
    refine⟨s6,d6,rs,l6,?_⟩
    rw [lu λz hz=>?_]
    ·exact pr6
    ·obtain⟨h1,h2⟩:=(Sq.dS hn).mp hz
     refine hj ⟨z,(all z).mp ?_,?_⟩
     ·have:z*z<=n:=by omega
      exact_mod_cast this
     ·have:((i*i+z*z:Nat):Int)=((n:Nat):Int):=by rw [h2]
      rw [Int.natCast_add,Int.natCast_mul,Int.natCast_mul] at this
      omega
  ·rintro σ' H5 ⟨⟨o4,o5,rfl⟩,s5,d5,rs,l5,pr5⟩
   k_data
   rw [iO,pC (λx hx=>?_)] at pr5
   ·exact q l rs H5 s5 fl l5 pr5
   ·have:=(Sq.dS hn (a:=x.1) (b:=x.2)).mp hx
    refine (all x.1).mp ?_
    have:x.1*x.1<=n:=by omega
    exact_mod_cast this
def rV (ps:List Sq.Pr):List PyData:=ps.map λk=>.tuple [.int k.1,.int k.2]
theorem bt.aU:∀{rs:List Addr} {ps:List Sq.Pr} {H:Hp},bt H rs ps->aU K H (rV ps) (rs.map V.ref)
 | [],[],_,_=>rfl
 | [],_::_,_,h=>by cases h.1
 | _::_,[],_,h=>by cases h.1
 | r::rs,k::ps,H,h=>by
  have h0:=h.2 0 r k rfl rfl
  have:bt H rs ps:=⟨by have:=h.1;simpa using this,λi r' k' h1 h2=>h.2 (i+1) r' k' h1 h2⟩
  exact⟨.ref r,_,rfl,⟨r,_,rfl,a9.of h0,_,_,rfl,rfl,_,_,rfl,rfl,rfl⟩,bt.aU this⟩
theorem iB:∀ ps:List Sq.Pr,PyData.canLayAll0 (rV ps)=true
 | []=>rfl
 | k::ps=>by
  have:=iB ps
  unfold rV at this ⊢
  simp [PyData.canLay0,PyData.canLayAll0,this]
theorem kX:∀ ps:List Sq.Pr,PyData.depthAll (rV ps)<=3
 | []=>by decide
 | k::ps=>by
  have:=kX ps
  have e:PyData.depth (.tuple [.int k.1,.int k.2])<=3:=by simp [PyData.depth,PyData.depthAll]
  show PyData.depthAll (.tuple [.int k.1,.int k.2]::rV ps)<=3
  simp only [PyData.depthAll]
  omega
def Due (H:Hp) (n:Nat) (ps:List (Int × Int)) (t l u:Addr) (rs:List Addr):Prop:=H t=some (.tup [.ref l,.ref u])/\H l=some (.lst (rs.map V.ref))/\bt H rs (Sq.dC (Sq.bQ n)) /\
 ((∃ r,wM ps (.int r)/\H u=some (.tup [.str "three",.int r]))∨((∀ x∈ps,¬(x.1%4=3/\x.2%2=1))/\H u=some (.tup [.str "all",.int ((Sq.bQ n).length:Nat)])))
def cn (x:Int × Int):Bool:=decide (x.1%4=3/\x.2%2=1)
def eO (n:Nat) (ps:List (Int × Int)):Str × Int:=match ps.find? cn with
 | some y=>("three",y.1)
 | none=>("all",((Sq.bQ n).length:Nat))
theorem Due.word {H:Hp} {n:Nat} {ps:List (Int × Int)} {t l u:Addr} {rs:List Addr} (h:Due H n ps t l u rs):H u=some (.tup [.str (eO n ps).1,.int (eO n ps).2]):=by
 unfold eO
 rcases h.2.2.2 with⟨r,⟨z,_⟩|⟨a,y,m,rfl,h1,h2,h3,h4⟩,hu⟩|⟨h1,hu⟩
 ·cases z
 ·have:(a++y::m).find? cn=some y:=by
   rw [List.find?_append,List.find?_eq_none.mpr (λx hx=>by unfold cn;rw [decide_eq_true_eq];exact h1 x hx),List.find?_cons_of_pos (by unfold cn;exact decide_eq_true ⟨h2,h3⟩)]
   rfl
  rw [this]
  cases h4
  exact hu
 ·rw [List.find?_eq_none.mpr (λx hx=>by unfold cn;rw [decide_eq_true_eq];exact h1 x hx)]
  exact hu
def mO (n:Nat) (ps:List (Int × Int)):PyData:=.tuple [.list (rV (Sq.dC (Sq.bQ n))),.tuple [.str (eO n ps).1,.int (eO n ps).2]]
theorem Due.dv {H:Hp} {n:Nat} {ps:List (Int × Int)} {t l u:Addr} {rs:List Addr} (h:Due H n ps t l u rs):L2.dv K H (mO n ps) (.ref t):=by
 have:=h.word
 obtain⟨h1,h2,h3,h4⟩:=h
 exact⟨t,_,rfl,a9.of h1,_,_,rfl,⟨l,_,rfl,aT.of h2,bt.aU h3⟩,_,_,rfl,⟨u,_,rfl,a9.of this,_,_,rfl,rfl,_,_,rfl,rfl,rfl⟩,rfl⟩
theorem mQ (n:Nat) (ps:List (Int × Int)):(mO n ps).canLay0=true:=by
 have:PyData.strOk (eO n ps).1=true:=by
  unfold eO
  cases ps.find? cn with
  | none=>show PyData.strOk (Str.ofString "all")=true;decide +kernel
  | some y=>show PyData.strOk (Str.ofString "three")=true;decide +kernel
 unfold mO
 simp [PyData.canLay0,PyData.canLayAll0,iB,this]
theorem mP (n:Nat) (ps:List (Int × Int)):(mO n ps).depth<=60:=by
 have:=kX (Sq.dC (Sq.bQ n))
 unfold mO
 simp only [PyData.depth,PyData.depthAll]
 omega
def oV (K:PySem.W.Frag):Sp:=λvs H Q _=>∃(n:Nat) (ps:List (Int × Int)),vs=[.int n]/\Sq.Known n ps/\∀(t l u:Addr) (rs:List Addr) (H':Hp),aA H H'->Due H' n ps t l u rs->Q (.ref t) H'
theorem eG:ar ["_law_n","_law_pairs_here"] ["_law_n"] (ai (top 31)):=fG
theorem qx (D:av K mg "_law_due" (top 31)) (c__law_pairs:Callee P w K mg base aZ 1 "_law_pairs" ["_law_n"] (lb K)) (c__law_parted:Callee P w K mg base aZ 1 "_law_parted" ["_law_n"] (bX K)) (n_min:mg "min"=none) (n_len:mg "len"=none):Callee P w K mg base aZ 2 "_law_due" ["_law_n"] (oV K):=by
 refine cO D eG (λf cdv A outer s H vs Q E hr h=>?_)
 obtain⟨n,ps,rfl,hK,q⟩:=h
 have nd:=eG.nd
 refine⟨_,(af (bU (i:=1) nd (fW c__law_pairs hr aS (aa (pv 0) ah))) (af (a6 (aw (oa hr.units) (pv 1) (bz ah) (az _)) (ak (ay (aR (aa (bz ah) (aa (aR (aa a8 (aa (aC (lG rfl) rfl n_min L2.boot_min (aa (jt rfl (uH (N':=["_law_q","_law_many"]) (js:=[none,none]) rfl rfl) (bh (fW c__law_parted hr aS (aa (pv 0) ah))) (λ_ _ _ _=>(iz K rfl (n:=2) rfl (ax (au (i:=0) (show List.Nodup [("_law_q":Str),("_law_many":Str)] from by decide +kernel) rfl (Or.inl rfl) (.inr rfl)) (ax (au (i:=1) (show List.Nodup [("_law_q":Str),("_law_many":Str)] from by decide +kernel) rfl (Or.inl rfl) (.inr rfl)) bc)))) (λ_ _ _ _=>(jv (PW.pt (km (aw c7 (aq aL (pv 0) ag) ag (az _)) (iI (aw c7 (aq aL (pv 1) ag) ag (az _))))))) (λ_ _ _ _=>(pv 0))) ah)) ah))) ah))))) aF) (ak (ay (aR (aa (pv 1) (aa (aR (aa a8 (aa (aC cM rfl n_len PySem.boot_len (aa (pv 1) ah)) ah))) ah))))))),?_⟩
 show bL _ _ _ [some (.int n),none] H
 k_data
 have hP:=hK.part
 have n1:=hP.pos
 have n2:=hK.lt
 refine⟨n,rfl,hK.lt,λl rs H1 s1 f1 e1 pr1=>?_⟩
 refine⟨by show 0<=sizeLine;decide,λp hp=>?_⟩
 have t2:=ao (o:=.lst []) hp
 have e2:upd H1 p (.lst []) p=some (.lst []):=ae
 generalize upd H1 p _=H2 at *
 have l2:=t2 _ _ e1
 have pr2:=pr1.same t2
 have s2:=s1.trans t2
 refine⟨.list (rV (Sq.dC (Sq.bQ n))),.list [],⟨l,_,rfl,aT.of l2,bt.aU pr2⟩,⟨p,[],rfl,aT.of e2,rfl⟩,by simp [PyData.canLay0,iB],rfl,by show min _ (1+0)<=60;omega,decide (Sq.bQ n=[]),?_,?_⟩
 ·cases h:Sq.bQ n with
  | nil=>rfl
  | cons a m=>rfl
 refine ba (λc=>?_) (λc=>?_)
 ·have c:=of_decide_eq_true c
  refine⟨by show 0<=sizeLine;decide,λp3 hp3=>?_⟩
  have t3:=ao (o:=.lst []) hp3
  have e3:upd H2 p3 (.lst []) p3=some (.lst []):=ae
  generalize upd H2 p3 _=H3 at *
  refine⟨n,rfl,by omega,by omega,λps' us pl H4 hP' hl4 s4 f4 h4 d4=>?_⟩
  have:=hP'.one hP
  subst this
  have ul:us.length=ps'.length:=by rw [d4.length,List.length_map]
  refine⟨pl,rfl,⟨_,aT.of h4⟩,?_⟩
  refine dw (xs:=us) (λi zs H5=>H5=H4/\zs=(((ps'.take i).filter cn).map (·.1)).map V.int) ⟨rfl,rfl⟩ (by rw [ul];exact Nat.le_trans hl4 (by decide)) (λi zs H5 hi ⟨eH,ez⟩=>⟨by rw [eH];exact aT.of h4,by rw [ez,List.length_map,List.length_map];exact Nat.le_trans (List.length_filter_le _ _) (by rw [List.length_take];omega)⟩) ?_ ?_
  ·rintro i v zs H5 hx ⟨rfl,rfl⟩
   obtain⟨d,hd',hv⟩:=d4.get hx
   rw [List.getElem?_map] at hd'
   obtain⟨⟨q',k'⟩,hy,rfl⟩:=Option.map_eq_some_iff.mp hd'
   obtain⟨pt,rfl,tT⟩:=fe hv
   have tk:ps'.take (i+1)=ps'.take i++[(q',k')]:=by rw [List.take_add_one,hy];rfl
   show hZ K 2 _ _ [none,none] _ _
   refine⟨pt,_,rfl,tT,rfl,?_⟩
   k_data
   refine⟨True.intro,?_⟩
   rw [tk,List.filter_append]
   have f1:∀ b,cn (q',k')=b->(List.filter cn [(q',k')])=if b=true then [(q',k')] else []:=λb e=>by
    rw [List.filter_cons,e]
    rfl
   refine ba (λc1=>ba (λc2=>?_) (λc2=>?_)) (λc1=>?_)
   ·rw [f1 true (decide_eq_true ⟨c1,c2⟩),if_pos rfl,List.map_append,List.map_append]
    rfl
   ·rw [f1 false (decide_eq_false λz=>c2 z.2),if_neg (by decide),List.append_nil]
   ·rw [f1 false (decide_eq_false λz=>c1 z.1),if_neg (by decide),List.append_nil]
  ·rintro zs H5 p5 ⟨rfl,rfl⟩ hp5
   rw [ul,List.take_length]
   have ex:∃ a y m,ps'=a++y::m/\(∀ x∈a,¬(x.1%4=3/\x.2%2=1))/\y.1%4=3/\y.2%2=1:=by
    cases h:ps'.find? cn with
    | none =>
     refine absurd c ?_
     obtain⟨_,_,_,_,_,ne,_⟩:=hK.all λx hx=>by
      have:=List.find?_eq_none.mp h x hx
      unfold cn at this
      rwa [decide_eq_true_eq] at this
     exact ne
    | some y =>
     obtain⟨hy,a,m,e,hn⟩:=List.find?_eq_some_iff_append.mp h
     have hy:=of_decide_eq_true hy
     refine⟨a,y,m,e,λx hx z=>?_,hy.1,hy.2⟩
     have:=hn x hx
     unfold cn at this
     rw [decide_eq_true z] at this
     cases this
   obtain⟨a,y,m,e,ha,y3,y2⟩:=ex
   have fil:ps'.filter cn=y::m.filter cn:=by
    rw [e,List.filter_append,List.filter_eq_nil_iff.mpr (λx hx=>by unfold cn;rw [decide_eq_true_eq];exact ha x hx),List.nil_append,List.filter_cons_of_pos (show cn y=true from decide_eq_true ⟨y3,y2⟩)]
   refine⟨p5,(ps'.filter cn).map (·.1),rfl,aT.of ae,by rw [fil];simp,λr hr hmin=>⟨by show 2<=sizeLine;decide,λp6 hp6=>⟨by show 2<=sizeLine;decide,λp7 hp7=>?_⟩⟩⟩
   have er:r=y.1:=by
    have h1:=hmin y.1 (by rw [fil];exact List.mem_cons_self ..)
    rw [fil] at hr
    rcases List.mem_cons.mp hr with z | z
    ·exact z
    ·obtain⟨x,hx,rfl⟩:=List.mem_map.mp z
     have hx:=(List.mem_filter.mp hx).1
     have pw:=hP.rise
     rw [e] at pw
     have:=(List.pairwise_cons.mp (List.pairwise_append.mp pw).2.1).1 x hx
     have h1:x.1<=y.1:=h1
     omega
   subst er
   have t5:=ao (o:=.lst (((ps'.filter cn).map (·.1)).map V.int)) hp5
   have t6:=ao (o:=.tup [V.str (Str.ofString "three"),V.int y.1]) hp6
   have t7:=ao (o:=.tup [V.ref p3,V.ref p6]) hp7
   refine q p7 p3 p6 [] _ ((((s2.trans t3).trans s4).trans t5).trans (t6.trans t7)) ⟨ae,t7 _ _ (t6 _ _ (t5 _ _ (s4 _ _ e3))),by rw [c];exact⟨rfl,λi r k h=>by cases h⟩,.inl ⟨y.1,.inr ⟨a,y,m,e,ha,y3,y2,rfl⟩,t7 _ _ ae⟩⟩
 ·have c:¬Sq.bQ n=[]:=λz=>c (decide_eq_true z)
  have no:∀ x∈ps,¬(x.1%4=3/\x.2%2=1):=λx hx z=>c (hK.none ⟨x,hx,z⟩)
  refine ip (aT.of l2) ?_
  have rl:(rs.map V.ref).length=(Sq.bQ n).length:=by
   rw [List.length_map,pr1.1]
   unfold Sq.dC
   rw [List.length_map]
  rw [rl]
  refine⟨by show 2<=sizeLine;decide,λp3 hp3=>⟨by show 2<=sizeLine;decide,λp4 hp4=>?_⟩⟩
  have t3:=ao (o:=.tup [V.str (Str.ofString "all"),V.int ((Sq.bQ n).length:Nat)]) hp3
  have t4:=ao (o:=.tup [V.ref l,V.ref p3]) hp4
  exact q p4 l p3 rs _ ((s2.trans t3).trans t4) ⟨ae,t4 _ _ (t3 _ _ l2),(pr2.same t3).same t4,.inr ⟨no,t4 _ _ ae⟩⟩
def jF (K:PySem.W.Frag):Sp:=λvs H Q _=>∃(n:Nat) (ps:List (Int × Int)) (t l u:Addr) (rs:List Addr),vs=[.int n,.ref t]/\Sq.Known n ps/\Due H n ps t l u rs/\∀ H',aA H H'->Q (.bl true) H'
theorem dc:ar ["_law_n","_law_found","_law_pair"] ["_law_n","_law_found"] (ai (top 32)):=fG
theorem lV (D:av K mg "_law_right" (top 32)) (c__law_due:Callee P w K mg base aZ 2 "_law_due" ["_law_n"] (oV K)) (n_isinstance:mg "isinstance"=none) (n_bool:mg "bool"=none) (n_len:mg "len"=none) (n_tuple:mg "tuple"=none) (n_list:mg "list"=none):Callee P w K mg base aZ 3 "_law_right" ["_law_n","_law_found"] (jF K):=by
 refine cO D dc (λf cdv A outer s H vs Q E hr h=>?_)
 obtain⟨n,ps,t,l,u,rs,rfl,hK,hD,q⟩:=h
 have nd:=dc.nd
 refine⟨_,(af (a6 (PW.pt (oI (iH (bH (aC (bD K rfl) rfl n_isinstance PyProof.Rows.boot_isinstance (aa (pv 1) (aa (dQ (v:=.ty "tuple") rfl n_tuple L2.boot_tuple rfl) ah))) (λ_=>rfl))) (oI (aw rR (aC cM rfl n_len PySem.boot_len (aa (pv 1) ah)) ag (az _)) (oJ (iH (bH (aC (bD K rfl) rfl n_isinstance PyProof.Rows.boot_isinstance (aa (b9 dz (pv 1) ag (λ_ _=>rfl)) (aa (dQ (v:=.ty "list") rfl n_list L2.boot_list rfl) ah))) (λ_=>rfl))))))) (ak (ay gA)) aF) (af (b7 PassesOwn.never rfl (bh (b9 dz (pv 1) ag (λ_ _=>rfl))) (au (i:=2) nd rfl (Or.inl rfl) (.inr rfl)) (ak (a6 (PW.pt (oI (iH (bH (aC (bD K rfl) rfl n_isinstance PyProof.Rows.boot_isinstance (aa (pv 2) (aa (dQ (v:=.ty "tuple") rfl n_tuple L2.boot_tuple rfl) ah))) (λ_=>rfl))) (oJ (aw dN (aC cM rfl n_len PySem.boot_len (aa (jt rfl (uH (N':=["_law_one"]) (js:=[none]) rfl rfl) (kj (pv 2)) (λ_ _ _ _=>(au (i:=0) (show List.Nodup [("_law_one":Str)] from by decide +kernel) rfl (Or.inl rfl) (.inr rfl))) (λ_ _ _ _=>(jv (l9 K rfl (aC (bD K rfl) rfl n_isinstance PyProof.Rows.boot_isinstance (aa (pv 0) (aa (dQ (v:=.ty "bool") rfl n_bool L2.boot_bool rfl) ah))) (λ_=>rfl)))) (λ_ _ _ _=>(pv 0))) ah)) ag (az _))))) (ak (ay gA)) aF))) (ak (ay (tY (kR (oa hr.units) (pv 1) (fW c__law_due hr aS (aa (pv 0) ah)) (az _)) (ub (ua (aC (bD K rfl) rfl n_isinstance PyProof.Rows.boot_isinstance (aa (b9 dz (b9 dz (pv 1) ag (λ_ _=>rfl)) ag (λ_ _=>rfl)) (aa (dQ (v:=.ty "bool") rfl n_bool L2.boot_bool rfl) ah)))))))))),?_⟩
 show bL _ _ _ [some (.int n),some (.ref t),none] H
 k_data
 have dT:=hD.dv (K:=K)
 have hw:=hD.word
 obtain⟨ht,hl,hpr,_⟩:=id hD
 refine kO dT ⟨true,b8.mpr rfl,?_⟩
 rw [if_neg (by decide)]
 refine qf (a9.of ht) ⟨rfl,?_⟩
 rw [if_neg (by intro z;exact z rfl)]
 have dl:dv K H (.list (rV (Sq.dC (Sq.bQ n)))) (.ref l):=⟨l,_,rfl,aT.of hl,bt.aU hpr⟩
 refine ic (a9.of ht) uF (qb dl ⟨true,b8.mpr rfl,?_⟩)
 rw [if_neg (by decide)]
 refine ic (a9.of ht) uF ⟨l,rfl,⟨_,aT.of hl⟩,?_⟩
 refine bV (xs:=rs.map V.ref) (λi σ' H'=>(∃ o,σ'=[some (.int n),some (.ref t),o])/\aA H H') ⟨⟨_,rfl⟩,aA.refl _⟩ (λi σ' H' _ h=>aT.of (h.2 _ _ hl)) ?_ ?_
 ·rintro i z σ' H' hz ⟨⟨o,rfl⟩,s1⟩
  rw [List.getElem?_map] at hz
  obtain⟨r,hr2,rfl⟩:=Option.map_eq_some_iff.mp hz
  have il:i<(Sq.dC (Sq.bQ n)).length:=by rw [<- hpr.1];exact (List.getElem?_eq_some_iff.mp hr2).1
  have hk:=hpr.2 i r _ hr2 (List.getElem?_eq_getElem il)
  generalize (Sq.dC (Sq.bQ n))[i]=k at hk
  have hk:=s1 _ _ hk
  have dk:dv K H' (.tuple [.int k.1,.int k.2]) (.ref r):=⟨r,_,rfl,a9.of hk,_,_,rfl,rfl,_,_,rfl,rfl,rfl⟩
  k_data
  refine kO dk ⟨true,b8.mpr rfl,?_⟩
  rw [if_neg (by decide)]
  refine⟨⟨_,a9.of hk⟩,?_⟩
  refine gf (xs:=[V.int k.1,V.int k.2]) (λi zs H5=>H5=H'/\zs=[]) ⟨rfl,rfl⟩ (by show 2<=sizeLine;decide) (λi zs H5 hi ⟨eH,ez⟩=>⟨by rw [eH];exact a9.of hk,by rw [ez];exact Nat.zero_le _⟩) ?_ ?_
  ·rintro j v zs H5 hx ⟨rfl,rfl⟩
   obtain⟨x,rfl⟩:∃ x,v=.int x:=by
    have:=List.mem_of_getElem? hx
    simp only [List.mem_cons,List.not_mem_nil,or_false] at this
    rcases this with rfl | rfl
    ·exact⟨_,rfl⟩
    ·exact⟨_,rfl⟩
   k_data
   refine⟨True.intro,_,rfl,jc (d:=.int x) rfl ⟨false,b8.mpr rfl,?_⟩⟩
   rw [if_neg (by decide)]
  ·rintro zs H5 p5 ⟨rfl,rfl⟩ hp5
   refine ip (aT.of ae) ⟨_,rfl,?_⟩
   rw [if_neg (by show ¬(0:Int)<0;decide)]
   exact s1.trans (ao hp5)
 ·rintro σ' H1 ⟨⟨o,rfl⟩,s1⟩
  k_data
  refine⟨n,ps,rfl,hK,λt2 l2 u2 rs2 H2 s2 hD2=>?_⟩
  refine mJ (hD.dv.same (s1.trans s2)) (hD2.dv) (mQ n ps) (mP n ps) ⟨true,rfl,?_⟩
  rw [if_pos rfl]
  have t2':=(s1.trans s2) _ _ ht
  have w2:=(s1.trans s2) _ _ hw
  refine ic (a9.of t2') rfl (ic (a9.of w2) rfl (jc (d:=.int (eO n ps).2) rfl ⟨false,rfl,q _ (s1.trans s2)⟩))
theorem oN:ar ["_law_script","_law_cell","_law_n","_law_parts","_law_turn","_law_found"] ["_law_script"] (ai (top 33)):=fG
theorem tM {fl:Addr} {fdl:FuncData} (F:pG K "law" "law" (top 33) fl fdl) (c__law_cell_at:Callee P w K mg base aZ 1 "_law_cell_at" ["_law_script","_law_k"] (jE K)) (c__law_asked:Callee P w K mg base aZ 2 "_law_asked" ["_law_state_here"] oS) (c__law_paper:Callee P w K mg base aZ 32 "_law_paper" ["_law_p"] (gJ K)) (c__law_parted:Callee P w K mg base aZ 1 "_law_parted" ["_law_n"] (bX K)) (c__law_state:Callee P w K mg base aZ 1 "_law_state" ["_law_cell","_law_free"] lj) (c_all_squares:Callee P w K mg base aZ 7 "all_squares" ["parts"] (oR K)) (c__law_right:Callee P w K mg base aZ 3 "_law_right" ["_law_n","_law_found"] (jF K)) (n_tuple:mg "tuple"=none) (n_range:mg "range"=none):bB P w K mg base aZ 33 fl fdl ["_law_script"] (r8 K):=by
 refine pV F oN (λvs H Q E h=>by obtain⟨a,b,rfl,_⟩:=h;rfl) (λcdv A outer s H vs Q E hr h=>?_)
 obtain⟨sc,ns,rfl,hS,h63,q⟩:=h
 have nd:=oN.nd
 refine⟨_,(af (b7 PassesOwn.never rfl (bh (aq tQ (oq qS (pv 0) (kT ag) (kT ag)) (bz (aa ag ah)))) (au (i:=1) nd rfl (Or.inl rfl) (.inr rfl)) (af (bU (i:=2) nd (fW c__law_asked hr aS (aa (fW c__law_state hr aS (aa (pv 1) (aa (kR c7 (aq aL (fW c__law_cell_at hr aS (aa (pv 0) (aa ag ah))) ag) ag (az _)) ah))) ah))) (af (bU (i:=3) nd (gB cZ rfl n_tuple L2.boot_tuple (aa (jt rfl (uH (N':=["_law_q","_law_many"]) (js:=[none,none]) rfl rfl) (bh (fW c__law_parted hr aS (aa (pv 2) ah))) (λ_ _ _ _=>(iz K rfl (n:=2) rfl (ax (au (i:=0) (show List.Nodup [("_law_q":Str),("_law_many":Str)] from by decide +kernel) rfl (Or.inl rfl) (.inr rfl)) (ax (au (i:=1) (show List.Nodup [("_law_q":Str),("_law_many":Str)] from by decide +kernel) rfl (Or.inl rfl) (.inr rfl)) bc)))) (λ_ _ _ _=>cF) (λ_ _ _ _=>(aR (aa (fW c__law_paper hr aS (aa (pv 0) ah)) (aa (pv 1) ah))))) ah))) (ak (b7 PassesOwn.never rfl (gC rfl n_range (aa ag ah)) (au (i:=4) nd rfl (Or.inl rfl) (.inr rfl)) (af (bU (i:=5) nd (fW c_all_squares hr aS (aa (pv 3) ah))) (af (a6 (iH (bH (fW c__law_right hr aS (aa (pv 2) (aa (pv 5) ah))) (λ_=>rfl))) (ak (ay gA)) aF) (ak (iF (om PySem.F.plainAttrs_list PySem.F.slot_list_append PySem.F.type_list_append eo (b9 dz (pv 5) ag (λ_ _=>rfl)) (aa (aR (aa ag (aa ag ah))) ah))))))))))) (ak (ay gA))),?_⟩
 show bL _ _ _ [some (.ref sc),none,none,none,none,none] H
 k_data
 refine⟨sc,_,rfl,hS,λpc hpc=>⟨by show 1<=sizeLine;decide,λpz hpz=>?_⟩⟩
 have s4:=ao (o:=.lst (dH (ns.map V.int) (some 1) (some 21))) hpc
 have s5:=ao (o:=.lst [V.int 0]) hpz
 have e4:upd (upd H pc (.lst (dH (ns.map V.int) (some 1) (some 21)))) pz (.lst [V.int 0]) pc=some (.lst (dH (ns.map V.int) (some 1) (some 21))):=s5 _ _ ae
 have e5:upd (upd H pc (.lst (dH (ns.map V.int) (some 1) (some 21)))) pz (.lst [V.int 0]) pz=some (.lst [V.int 0]):=ae
 have S5:=s4.trans s5
 generalize upd (upd H pc _) pz _=H5 at *
 have cl:(dH (ns.map V.int) (some 1) (some 21)).length<=63:=by
  unfold dH
  rw [List.length_take,List.length_drop,List.length_map]
  omega
 have hin:∀ x∈dH (ns.map V.int) (some 1) (some 21)++[V.int 0],∃ c,x=.int c:=by
  intro x hx
  rcases List.mem_append.mp hx with y | y
  ·exact mK y
  ·exact⟨0,List.mem_singleton.mp y⟩
 refine⟨pc,pz,_,_,rfl,rfl,e4,e5,Nat.le_trans (show _+1<=64 by omega) (by decide),λpl hpl=>⟨pl,rfl,⟨_,aT.of ae⟩,?_⟩⟩
 generalize dH (ns.map V.int) (some 1) (some 21)++[V.int 0]=L at *
 have S6:=S5.trans (ao (o:=.lst L) hpl)
 have e6:upd H5 pl (.lst L) pl=some (.lst L):=ae
 generalize upd H5 pl _=H6 at *
 refine bV (xs:=L) (λi σ' H'=>(∃ o2 o3 o4 o5 o6,σ'=[some (.ref sc),o2,o3,o4,o5,o6])/\aA H6 H') ⟨⟨_,_,_,_,_,rfl⟩,aA.refl _⟩ (λi σ' H' _ h=>aT.of (h.2 _ _ e6)) ?_ ?_
 ·rintro i x σ' H7 hx ⟨⟨o2,o3,o4,o5,o6,rfl⟩,s7⟩
  obtain⟨c,rfl⟩:=hin x (List.mem_of_getElem? hx)
  k_data
  refine⟨sc,ns,0,rfl,hS.same (S6.trans s7),λc0=>⟨c0,rfl,c,_,rfl,λp8 l8 H8 s8 f8 e8 k8=>?_⟩⟩
  refine⟨p8,l8,_,rfl,e8,k8,λn H9 n2 n1 hch u9=>?_⟩
  have S9:aA H7 H9:=u9.same s8 f8
  refine⟨n,rfl,by omega,by omega,λps us pl H10 hP hl10 s10 f10 h10 d10=>?_⟩
  have hK:=Sq.known n2 hch hP
  have S10:=S9.trans s10
  have ul:us.length=ps.length:=by rw [d10.length,List.length_map]
  have n0:=hP.pos
  refine⟨pl,rfl,⟨_,aT.of h10⟩,?_⟩
  refine dw (xs:=us) (λi zs H5=>aA H10 H5/\∃ ds,(∀ j q k,(ps.take i)[j]?=some (q,k)->Num.gQ q (ds j))/\aU K H5 (Num.rowsOf (ps.take i) ds) zs) ⟨aA.refl _,λ_=>.none,λj q k z=>by simp at z,rfl⟩ (by rw [ul];exact Nat.le_trans hl10 (by decide)) (λi zs H5 hi ⟨e1,ds,e2,e3⟩=>⟨aT.of (e1 _ _ h10),by rw [e3.length,Num.bf,List.length_take];omega⟩) ?_ ?_
  ·rintro i v zs H5 hx ⟨s5,ds,hds,hz⟩
   obtain⟨d,hd',hv⟩:=d10.get hx
   rw [List.getElem?_map] at hd'
   obtain⟨⟨q',k'⟩,hy,rfl⟩:=Option.map_eq_some_iff.mp hd'
   have hok:=hP.ok _ (List.mem_of_getElem? hy)
   have ql:=Int.le_of_dvd n0 (hP.dv (List.mem_of_getElem? hy))
   have ql:q'<=n:=ql
   obtain⟨pt,rfl,tt⟩:=fe hv
   show hZ K 2 _ _ [none,none] _ _
   refine⟨pt,_,rfl,tt.same s5,rfl,?_⟩
   k_data
   refine⟨True.intro,q',rfl,hok.1,by omega,λd v H6 hp6 s6 hv6=>⟨by show 2<=sizeLine;decide,λp7 hp7=>?_⟩⟩
   have s7:=ao (o:=.tup [v,V.int k']) hp7
   have tk:ps.take (i+1)=ps.take i++[(q',k')]:=by rw [List.take_add_one,hy];rfl
   have il:i<ps.length:=(List.getElem?_eq_some_iff.mp hy).1
   have tl:(ps.take i).length=i:=by rw [List.length_take];omega
   refine⟨(s5.trans s6).trans s7,λj=>if j=i then d else ds j,λj q k hj=>?_,?_⟩
   ·rw [tk] at hj
    rcases (by omega:j<i∨j=i∨i<j) with z | z | z
    ·rw [List.getElem?_append_left (by omega)] at hj
     show Num.gQ q (if j=i then d else ds j)
     rw [if_neg (by omega)]
     exact hds j q k hj
    ·subst z
     rw [List.getElem?_append_right (by omega),tl,Nat.sub_self] at hj
     show Num.gQ q (if j=j then d else ds j)
     rw [if_pos rfl]
     cases hj
     exact hp6
    ·rw [List.getElem?_eq_none (by simp;omega)] at hj
     cases hj
   ·rw [tk,eF (ds:=ds) (λj hj=>if_neg (by omega)),tl,if_pos rfl]
    exact aU.append (aU.same (s6.trans s7) _ hz) (.one (dv.tup ae ⟨_,_,rfl,dv.same s7 _ hv6,.one rfl⟩))
  ·rintro zs H5 p5 ⟨s5,ds,hds,hz⟩ hp5
   rw [ul,List.take_length] at hds hz
   have t6:=ao (o:=.lst zs) hp5
   refine⟨p5,rfl,zs,.inl ⟨aT.of ae,λlt hlt=>?_⟩⟩
   generalize upd H5 p5 _=H11 at *
   have t7:=ao (o:=.tup zs) hlt
   have e12:upd H11 lt (.tup zs) lt=some (.tup zs):=ae
   generalize upd H11 lt _=H12 at *
   have hv:dv K H12 (.tuple (Num.rowsOf ps ds)) (.ref lt):=⟨lt,zs,rfl,a9.of e12,aU.same (t6.trans t7) _ hz⟩
   have S12:aA H6 H12:=((s7.trans S10).trans s5).trans (t6.trans t7)
   refine fq (λi σ' H'=>(∃ o5 o6,σ'=[some (.ref sc),some (.int c),some (.int n),some (.ref lt),o5,o6])/\aA H12 H') ⟨⟨_,_,rfl⟩,aA.refl _⟩ ?_ ?_
   ·rintro j σ' H13 hj ⟨⟨o5,o6,rfl⟩,s13⟩
    k_data
    refine⟨.ref lt,n,ps,ds,rfl,hK,hds,dv.same s13 _ hv,λt l u rs H14 s14 fl et el pr ww=>?_⟩
    k_data
    refine⟨n,ps,t,l,u,rs,rfl,hK,⟨et,el,pr,ww⟩,λH15 s15=>?_⟩
    refine⟨true,b8.mpr rfl,?_⟩
    rw [if_neg (by decide)]
    have et':=s15 _ _ et
    have el':=s15 _ _ el
    refine ic (a9.of et') uF ⟨.inl ⟨rfl,_,aT.of el'⟩,by show 2<=sizeLine;decide,λp9 hp9=>?_⟩
    have t9:=ao (o:=.tup [V.int 0,V.int 0]) hp9
    have rl:rs.length<=300:=by
     rw [pr.1]
     unfold Sq.dC
     rw [List.length_map]
     exact fL _ _ _
    refine⟨l,rs.map V.ref,_,rfl,rfl,t9 _ _ el',by rw [List.length_map];exact Nat.lt_of_le_of_lt rl (by decide),?_⟩
    exact (((s13.trans s14).trans s15).trans t9).upd (s13.free fl)
   ·rintro σ' H13 ⟨⟨o5,o6,rfl⟩,s13⟩
    exact⟨⟨_,_,_,_,_,rfl⟩,S12.trans s13⟩
 ·rintro σ' H7 ⟨⟨o2,o3,o4,o5,o6,rfl⟩,s7⟩
  k_data
  exact q _
end
end K
namespace K
open PySem PySem.Spec PyProof.Rows L2
theorem h9:jP "NoInverse.__init__" "divisor" "divisor" (inClass (top 2) 0):=⟨⟨rfl,rfl,rfl,by decide +kernel,rfl,by decide +kernel,by decide +kernel⟩,⟨_,_,_,_,rfl,λ_=>rfl,λ_=>rfl⟩,rfl,rfl,by decide,by decide,λ_ _ _ _ _ _ us hl=>match us,hl with | [_,_],_=>rfl⟩
theorem jY:jP "TooMany.__init__" "many" "many" (inClass (top 3) 0):=⟨⟨rfl,rfl,rfl,by decide +kernel,rfl,by decide +kernel,by decide +kernel⟩,⟨_,_,_,_,rfl,λ_=>rfl,λ_=>rfl⟩,rfl,rfl,by decide,by decide,λ_ _ _ _ _ _ us hl=>match us,hl with | [_,_],_=>rfl⟩
end K
open PySem PySem.W PyProof.Rows L2
set_option maxHeartbeats 0 in
theorem PySem.Challenge.cw_rootprime_k75_sums_of_squares_gone_throu_holds : PySem.Challenge.rw_rootprime_k75_sums_of_squares_gone_throu.Holds := by
 w_on;o_law;k_head;(case hw=>w_witness2)
 k_fill
 refine L2.pF (l:=PySem.Challenge.rw_rootprime_k75_sums_of_squares_gone_throu) (n:=63) (k:=33) (x := "_law_script") (CX:=L2.aZ) (sp:=K.r8) rfl (by decide) rfl ⟨rfl,by decide,by decide,rfl⟩ (λw h Y=>PySem.W.kIn_of Y) ?F ?S ?C
 case F =>
  intro w mg fa h KX G hmg
  have d_divisor:L2.av (L2.eC KX) mg "divisor" (K.top 5):=K.fc KX G
  have d_inverse:L2.av (L2.eC KX) mg "inverse" (K.top 6):=K.fc KX G
  have d_parting_in:L2.av (L2.eC KX) mg "parting_in" (K.top 9):=K.fc KX G
  have d_power:L2.av (L2.eC KX) mg "power" (K.top 11):=K.fc KX G
  have d_least_three:L2.av (L2.eC KX) mg "least_three" (K.top 13):=K.fc KX G
  have d_how_many_pairs:L2.av (L2.eC KX) mg "how_many_pairs" (K.top 14):=K.fc KX G
  have d_two_squares:L2.av (L2.eC KX) mg "two_squares" (K.top 16):=K.fc KX G
  have d_all_squares:L2.av (L2.eC KX) mg "all_squares" (K.top 17):=K.fc KX G
  have d_steps_of:L2.av (L2.eC KX) mg "steps_of" (K.top 18):=K.fc KX G
  have d_all_products:L2.av (L2.eC KX) mg "all_products" (K.top 19):=K.fc KX G
  have d_both_products:L2.av (L2.eC KX) mg "both_products" (K.top 20):=K.fc KX G
  have d_in_order:L2.av (L2.eC KX) mg "in_order" (K.top 21):=K.fc KX G
  have d__law_cell_at:L2.av (L2.eC KX) mg "_law_cell_at" (K.top 23):=K.fc KX G
  have d__law_state:L2.av (L2.eC KX) mg "_law_state" (K.top 24):=K.fc KX G
  have d__law_take:L2.av (L2.eC KX) mg "_law_take" (K.top 25):=K.fc KX G
  have d__law_steps:L2.av (L2.eC KX) mg "_law_steps" (K.top 26):=K.fc KX G
  have d__law_parted:L2.av (L2.eC KX) mg "_law_parted" (K.top 27):=K.fc KX G
  have d__law_paper:L2.av (L2.eC KX) mg "_law_paper" (K.top 28):=K.fc KX G
  have d__law_asked:L2.av (L2.eC KX) mg "_law_asked" (K.top 29):=K.fc KX G
  have d__law_pairs:L2.av (L2.eC KX) mg "_law_pairs" (K.top 30):=K.fc KX G
  have d__law_due:L2.av (L2.eC KX) mg "_law_due" (K.top 31):=K.fc KX G
  have d__law_right:L2.av (L2.eC KX) mg "_law_right" (K.top 32):=K.fc KX G
  have d_law:L2.av (L2.eC KX) mg "law" (K.top 33):=K.fc KX G
  have n_abs:mg "abs"=none:=PySem.W.mg_none_of KX G (by k_is)
  have n_bool:mg "bool"=none:=PySem.W.mg_none_of KX G (by k_is)
  have n_int:mg "int"=none:=PySem.W.mg_none_of KX G (by k_is)
  have n_isinstance:mg "isinstance"=none:=PySem.W.mg_none_of KX G (by k_is)
  have n_len:mg "len"=none:=PySem.W.mg_none_of KX G (by k_is)
  have n_list:mg "list"=none:=PySem.W.mg_none_of KX G (by k_is)
  have n_max:mg "max"=none:=PySem.W.mg_none_of KX G (by k_is)
  have n_min:mg "min"=none:=PySem.W.mg_none_of KX G (by k_is)
  have n_range:mg "range"=none:=PySem.W.mg_none_of KX G (by k_is)
  have n_sorted:mg "sorted"=none:=PySem.W.mg_none_of KX G (by k_is)
  have n_tuple:mg "tuple"=none:=PySem.W.mg_none_of KX G (by k_is)
  refine' L2.fP (PySem.W.mg_of (n := "PrimeError") KX G ?xa) (λa_PrimeError=>?g1)
  (case xa=>k_is)
  refine' L2.fP (L2.iT KX a_PrimeError ?l ?c2 ?c3 ?e1 ?e2 ?e3 ?e4 ?e5 ?e6 ?ob ?kp) (λc_PrimeError=>?g2)
  (case l=>k_is);(case c2=>rfl);(case c3=>rfl);(case e1=>k_is);(case e2=>k_is);(case e3=>k_is);(case e4=>k_is);(case e5=>k_is);(case e6=>k_is);(case ob=>exact⟨_,_,_,_,_,_,_,_,_,_,_,_,_,_,_,_,rfl,rfl,rfl,rfl⟩);(case kp=>k_is)
  refine' L2.fP (L2.qZ a_PrimeError c_PrimeError.2 c_PrimeError.1 ?i) (λx_PrimeError=>?g3)
  (case i=>k_is)
  refine' L2.fP (PySem.W.mg_of (n := "NoInverse") KX G ?xa) (λa_NoInverse=>?g4)
  (case xa=>k_is)
  refine' L2.fP (L2.iT KX a_NoInverse ?l ?c2 ?c3 ?e1 ?e2 ?e3 ?e4 ?e5 ?e6 ?ob ?kp) (λc_NoInverse=>?g5)
  (case l=>k_is);(case c2=>rfl);(case c3=>rfl);(case e1=>k_is);(case e2=>k_is);(case e3=>k_is);(case e4=>k_is);(case e5=>k_is);(case e6=>k_is);(case ob=>exact⟨_,_,_,_,_,_,_,_,_,_,_,_,_,_,_,_,rfl,rfl,rfl,rfl⟩);(case kp=>k_is)
  refine' L2.fP (L2.ly K.h9 a_NoInverse c_NoInverse.2 c_NoInverse.1 ?nf ?i ?fn ?l ?cc ?kk) (λx_NoInverse=>?g6)
  (case nf=>k_is);(case i=>k_is);(case fn=>k_is);(case l=>k_is);(case cc=>k_is);(case kk=>k_is)
  refine' L2.fP (PySem.W.mg_of (n := "TooMany") KX G ?xa) (λa_TooMany=>?g7)
  (case xa=>k_is)
  refine' L2.fP (L2.iT KX a_TooMany ?l ?c2 ?c3 ?e1 ?e2 ?e3 ?e4 ?e5 ?e6 ?ob ?kp) (λc_TooMany=>?g8)
  (case l=>k_is);(case c2=>rfl);(case c3=>rfl);(case e1=>k_is);(case e2=>k_is);(case e3=>k_is);(case e4=>k_is);(case e5=>k_is);(case e6=>k_is);(case ob=>exact⟨_,_,_,_,_,_,_,_,_,_,_,_,_,_,_,_,rfl,rfl,rfl,rfl⟩);(case kp=>k_is)
  refine' L2.fP (L2.ly K.jY a_TooMany c_TooMany.2 c_TooMany.1 ?nf ?i ?fn ?l ?cc ?kk) (λx_TooMany=>?g9)
  (case nf=>k_is);(case i=>k_is);(case fn=>k_is);(case l=>k_is);(case cc=>k_is);(case kk=>k_is)
  refine' L2.fP (PySem.W.mg_of (n := "MOST_TOLD") KX G ?xa) (λg_MOST_TOLD=>?g10)
  (case xa=>k_is)
  refine L2.qd hmg d_law (λ_ _ _ _ _ _ _=>rfl) λbase f fd kb F=>?_
  have inv:=λP w=>K.ka (P:=P) (w:=w) (base:=base) d_inverse (K.j9 d_divisor n_abs) (x_NoInverse _ _ _)
  have pw:=λP w=>K.nY (P:=P) (w:=w) (base:=base) d_power (inv P w) n_abs
  have lpt:=λP w=>K.ke (P:=P) (w:=w) (base:=base) d__law_parted
  exact K.tM F (K.lU d__law_cell_at n_len) (K.qv d__law_asked (K.qz d__law_take) n_range) (K.qg (K.fv d__law_paper (lpt _ _) (K.n6 d__law_steps) n_tuple 30)) (lpt _ _) (K.nZ d__law_state)
   (K.qu d_all_squares (K.nX d_parting_in) (K.n8 d_least_three) (K.nU d_how_many_pairs) (K.lW d_steps_of (K.tN d_two_squares (pw _ _))) (K.qr d_all_products (K.qw d_both_products (K.qy d_in_order n_min n_max n_abs)) n_sorted) ⟨_,g_MOST_TOLD⟩)
   (K.lV d__law_right (K.qx d__law_due (K.nW d__law_pairs) (lpt _ _) n_min n_len) n_isinstance n_bool n_len n_tuple n_list) n_tuple n_range
 case S=>exact λK H a ns hl hO hS=>⟨a,ns,rfl,hS,hl,λ_=>rfl⟩
 case C=>exact λ_ _ _ _ z=>z
