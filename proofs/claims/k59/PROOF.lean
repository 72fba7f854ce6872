import PyProof.Rows.All
import Wide.All
import OpenK.AllK
import Wide.FinOn
import Lean
import PyProof.EqAt
import PyProof.EqKinds
import PyProof.TupleCall
import KE.KRevSl
import PyProof.NeData
import PyProof.P3Eq
import PyProof.Rows.Range3
import PyProof.EnumMake
import PyProof.Draws
import PyProof.ZipIter
import KE.KDictList
import KE.KDictSum
import PyProof.WalkInts
import PyProof.Rows.SeqCalls
import PySem.Challenge.RW_rootprime_k59_whole_only_right_powers_ar
set_option Elab.async false
local macro_rules | `(tactic| omega) => `(tactic| lia)
set_option linter.all false
set_option maxRecDepth 100000
namespace L2
open PySem PySem.Spec PyProof.Rows
abbrev Key:=Sum Int Str
def kB:Key->Value->Bool
 | .inl k,v=>Value.isInt k v
 | .inr x,v=>Value.isStrOf x v
def AV (w:World):Key->Int
 | .inl k=>hashInt k
 | .inr x=>hashStr w x
theorem bN:∀{k:Key} {v:Value},kB k v=true->(∃ i t,k=Sum.inl i/\v=Value.int i t)∨(∃ x t,k=Sum.inr x/\v=Value.str x t)
 | .inl i,v,h=>by
  obtain⟨t,e⟩:=Value.isInt_shape (k:=i) (v:=v) h
  exact .inl ⟨i,t,rfl,e⟩
 | .inr x,v,h=>by
  obtain⟨t,e⟩:=Value.isStrOf_shape (x:=x) (v:=v) h
  exact .inr ⟨x,t,rfl,e⟩
theorem rg (i:Int) (t:Tok):kB (.inl i) (.int i t)=true:=by simp [kB,Value.isInt]
theorem rh (x:Str) (t:Tok):kB (.inr x) (.str x t)=true:=by simp [kB,Value.isStrOf]
theorem x5 (a b:Int):decide ((Sum.inl a:Key)=Sum.inl b)=(a==b):=by
 by_cases e:a=b
 ·subst e;simp
 ·have h:¬(Sum.inl a:Key)=Sum.inl b:=λq=>e (Sum.inl.inj q)
  rw [decide_eq_false h]
  exact (beq_eq_false_iff_ne.mpr e).symm
theorem ya (a b:Str):decide ((Sum.inr a:Key)=Sum.inr b)=decide (a=b):=by
 by_cases e:a=b
 ·subst e;simp
 ·have h:¬(Sum.inr a:Key)=Sum.inr b:=λq=>e (Sum.inr.inj q)
  rw [decide_eq_false h,decide_eq_false e]
theorem x6 (a:Int) (b:Str):decide ((Sum.inl a:Key)=Sum.inr b)=false:=decide_eq_false (λq=>nomatch q)
theorem x8 (a:Str) (b:Int):decide ((Sum.inr a:Key)=Sum.inl b)=false:=decide_eq_false (λq=>nomatch q)
def bX (prog:Program) (w:World):PySem.KeyKind prog w Key where
 is:=kB
 hash:=AV w
 inj:=λv a b ha hb=>by
  rcases bN ha with⟨i,t,rfl,rfl⟩|⟨x,t,rfl,rfl⟩
  ·rcases bN hb with⟨j,u,rfl,e⟩|⟨y,u,rfl,e⟩
   ·injection e with e1 _;rw [e1]
   ·exact nomatch e
  ·rcases bN hb with⟨j,u,rfl,e⟩|⟨y,u,rfl,e⟩
   ·exact nomatch e
   ·injection e with e1 _;rw [e1]
 byValue:=λk v h=>by
  rcases bN h with⟨i,t,rfl,rfl⟩|⟨x,t,rfl,rfl⟩<;>rfl
 pyHash:=λhv h=>by
  rcases bN hv with⟨i,t,rfl,rfl⟩|⟨x,t,rfl,rfl⟩
  ·exact wpAny_pyHash_int h
  ·exact wpAny_pyHash_str h
 eqBool:=λhu hv h=>by
  rcases bN hu with⟨i,t,rfl,rfl⟩|⟨x,t,rfl,rfl⟩
  ·rcases bN hv with⟨j,u,rfl,rfl⟩|⟨y,u,rfl,rfl⟩
   ·rw [x5] at h;exact wpAny_eqBool_int h
   ·rw [x6] at h;exact SeqAt.EqAt.int_str i t y u _ _ _ _ h
  ·rcases bN hv with⟨j,u,rfl,rfl⟩|⟨y,u,rfl,rfl⟩
   ·rw [x8] at h;exact SeqAt.EqAt.str_int x t j u _ _ _ _ h
   ·rw [ya] at h;exact wpAny_eqBool_str h
 «strs»:=λk x t v h=>by
  rcases bN h with⟨i,u,rfl,e⟩|⟨y,u,rfl,e⟩
  ·exact nomatch e
  ·injection e with e1 _
   subst e1
   cases v<;>rfl
theorem mV (prog:Program) (w:World) (i:Int) (t:Tok):(bX prog w).is (.inl i) (.int i t)=true:=rg i t
theorem mW (prog:Program) (w:World) (x:Str) (t:Tok):(bX prog w).is (.inr x) (.str x t)=true:=rh x t
inductive V where
 | bw | bl (b:Bool) | int (i:Int) | str (x:Str) | byt (b:Array UInt8) | flt (b:UInt64) | ref (a:Addr) | ty (n:String)
 deriving DecidableEq
def RelV:V->Value->Prop
 | .bw,u=>u=Value.none
 | .bl b,u=>u=Value.bool b
 | .int i,u=>∃ t,u=Value.int i t
 | .str x,u=>∃ t,u=Value.str x t
 | .byt b,u=>∃ t,u=Value.bytes b t
 | .flt b,u=>∃ t,u=Value.float b t
 | .ref a,u=>u=Value.ref a
 | .ty n,u=>u=Value.type n
abbrev Vals:List V->List Value->Prop:=Paired RelV
theorem Vals.length {xs:List V} {us:List Value} (r:Vals xs us):xs.length=us.length:=Paired.length r
theorem Vals.get:∀{xs:List V} {us:List Value} {i:Nat} {x:V},Vals xs us->xs[i]?=some x->∃ u,us[i]?=some u/\RelV x u
 | _,_,_,_,.nil,e=>by simp at e
 | _,_,0,_,.cons r _,e=>by simp at e;subst e;exact⟨_,rfl,r⟩
 | _,_,i+1,x,.cons _ t,e=>by
  obtain⟨u,h1,h2⟩:=Vals.get (i:=i) (x:=x) t (by simpa using e)
  exact⟨u,by simpa using h1,h2⟩
theorem Vals.set {x:V} {u:Value} (r:RelV x u):∀{xs:List V} {us:List Value} (i:Nat),Vals xs us->Vals (xs.set i x) (us.set i u)
 | _,_,_,.nil=>.nil
 | _,_,0,.cons _ t=>.cons r t
 | _,_,i+1,.cons q t=>.cons q (Vals.set r i t)
theorem Vals.append:∀{xs ys:List V} {us ws:List Value},Vals xs us->Vals ys ws->Vals (xs++ys) (us++ws)
 | _,_,_,_,.nil,s=>s
 | _,_,_,_,.cons r t,s=>.cons r (Vals.append t s)
theorem Vals.take:∀{xs:List V} {us:List Value} (n:Nat),Vals xs us->Vals (xs.take n) (us.take n)
 | _,_,0,_=>.nil
 | _,_,_+1,.nil=>.nil
 | _,_,n+1,.cons r t=>.cons r (Vals.take n t)
theorem Vals.drop:∀{xs:List V} {us:List Value} (n:Nat),Vals xs us->Vals (xs.drop n) (us.drop n)
 | _,_,0,r=>r
 | _,_,_+1,.nil=>.nil
 | _,_,n+1,.cons _ t=>Vals.drop n t
def gT:Option V->Option Value->Prop
 | some v,some u=>RelV v u
 | none,none=>True
 | _,_=>False
def KV {κ:Type}:List (κ × V)->List (κ × Value)->Prop:=Paired fun(p:κ × V) (q:κ × Value)=>p.1=q.1/\RelV p.2 q.2
def kV:Key->V
 | .inl i=>.int i
 | .inr x=>.str x
inductive HO where
  | lst (xs:List V)
  | tup (xs:List V)
  | dK (kvs:List (Key × V)) | dT (kvs:List (List Key × V))
  | set (S:Int->Bool) (n:Nat)
  | ins (C dx:Addr) (fs:List (Str × V))
  | own (x:Addr)
  | xd (fs:List (Str × V))
  | met (f x:Addr)
  | rng (lo hi:Int)
  | frz (o:Obj) (u:HO)
  | tbl (ps:Array Value)
  | ext (φ:Heap->Prop)
abbrev Hp:=Addr->Option HO
def upd (H:Hp) (a:Addr) (o:HO):Hp:=λb=>if b=a then some o else H b
theorem af {H:Hp} {a:Addr} {o:HO}:upd H a o a=some o:=by unfold upd;rw [if_pos rfl]
theorem av {H:Hp} {a b:Addr} {o:HO} (h:b≠a):upd H a o b=H b:=by unfold upd;rw [if_neg h]
theorem kD {H:Hp} {a b:Addr} {o u:HO} (h:H a=some o) (h':H b=some u) (d:o≠u):a≠b:=by
 intro e;subst e;rw [h] at h';exact d (Option.some.inj h')
theorem bA {H:Hp} {a b:Addr} {o:HO} (h:H a=some o) (h':H b=none):a≠b:=by
 intro e;subst e;rw [h] at h';cases h'
section
variable (P:Program) (w:World)
def bK (H:Hp) (h:Heap) (a:Addr):HO->Prop
 | .lst xs=>xs.length<=sizeLine/\∃(its:List Value) (n:Nat),Vals xs its/\h.get? a=some { cls:=.type "list",data:=.seq its.toArray n }
 | .tup xs=>xs.length<=sizeLine/\∃ its:List Value,Vals xs its/\IsTup h a its.toArray
 | .dK kvs=>kvs.length<=sizeLine/\(a==sysModules)=false/\∃ vs,KV kvs vs/\h.DictOf (bX P w) a vs
 | .dT kvs=>kvs.length<=sizeLine/\(a==sysModules)=false/\∃ xs:List (List Key × Addr × Value),
   Paired (fun(p:List Key × V) (q:List Key × Addr × Value)=>p.1=q.1/\H q.2.1=some (.tup (p.1.map kV))/\RelV p.2 q.2.2) kvs xs /\
   ∃ o es ep,h.get? a=some o/\o.ExactDict/\o.data=.dict es ep/\es.toList=xs.map (entryOfKey (tupleKind (bX P w)))/\(xs.map (·.1)).Nodup
 | .set S n=>h.SetOf (intKind P w) a S n
 | .ins C dx fs=>H dx=some (.own a)/\fs.length<=1000/\dx≠a/\h.get? a=some (PySem.W.instObj C dx) /\
   ∃ mA,h.Ns1 dx mA/\(∀ f,gT (fs.lookup f) (mA f))/\PySem.Within mA (fs.map (·.1))
 | .own _=>∃ o,h.get? a=some o
 | .xd fs=>∃ mA,h.Ns1 a mA/\∀ f,gT (fs.lookup f) (mA f)
 | .rng lo hi=>∃ t u v,h.get? a=some { cls:=.type "range",data:=.fields #[.int lo t,.int hi u,.int 1 v] }
 | .frz o u=>h.get? a=some o/\bK H h a u
 | .tbl ps=>h.get? a=some { cls:=.none,data:=.fields ps }
 | .met f x=>h.get? a=some (PySem.W.methodObj (.ref f) (.ref x))
 | .ext φ=>φ h/\(∃ o,h.get? a=some o)/\∀ h1 h2:Heap,φ h1->(∀ o,h1.get? a=some o->h2.get? a=some o)->φ h2
def fG (H:Hp) (h:Heap):Prop:=∀ a o,H a=some o->bK P w H h a o
end
section
variable {P:Program} {w:World} {H H':Hp} {h h':Heap} {a:Addr} {o:HO}
theorem bK.lt (x:bK P w H h a o):a<h.objs.size:=by
 cases o with
 | lst xs=>obtain⟨_,_,_,_,e⟩:=x;exact Heap.lt_size e
 | tup xs=>obtain⟨_,_,_,p⟩:=x;exact p.lt
 | dK kvs=>obtain⟨_,_,_,_,o,_,_,e,_⟩:=x;exact Heap.lt_size e
 | dT kvs=>obtain⟨_,_,_,_,o,_,_,e,_⟩:=x;exact Heap.lt_size e
 | set S n=>obtain⟨o,_,_,_,e,_⟩:=x;exact Heap.lt_size e
 | ins C dx fs=>obtain⟨_,_,_,e,_⟩:=x;exact Heap.lt_size e
 | own y=>obtain⟨_,e⟩:=x;exact Heap.lt_size e
 | xd fs=>obtain⟨_,⟨_,_,_,e,_⟩,_⟩:=x;exact Heap.lt_size e
 | rng lo hi=>obtain⟨_,_,_,e⟩:=x;exact Heap.lt_size e
 | frz ob u=>obtain⟨e,_⟩:=x;exact Heap.lt_size e
 | tbl ps=>exact Heap.lt_size (show h.get? a=some _ from x)
 | met f y=>exact Heap.lt_size (show h.get? a=some _ from x)
 | ext φ=>obtain⟨_,⟨_,e⟩,_⟩:=x;exact Heap.lt_size e
theorem Paired.yd {α β:Type} {F G:α->β->Prop}:∀{l₁:List α} {l₂:List β},Paired F l₁ l₂->(∀ a b,F a b->G a b)->Paired G l₁ l₂
 | _,_,.nil,_=>.nil
 | _,_,.cons r t,f=>.cons (f _ _ r) (Paired.yd t f)
theorem bK.jV (x:bK P w H h a o) (k:∀ b u,(b=a∨H b=some (.own a))->h.get? b=some u->h'.get? b=some u)
  (ho:∀ b,H b=some (.own a)->H' b=some (.own a)) (ht:∀ b xs,H b=some (.tup xs)->H' b=some (.tup xs)):bK P w H' h' a o:=by
 induction o with
 | lst xs=>obtain⟨z,its,n,r,e⟩:=x;exact⟨z,its,n,r,k _ _ (.inl rfl) e⟩
 | tup xs=>obtain⟨z,its,r,ob,e,c⟩:=x;exact⟨z,its,r,ob,k _ _ (.inl rfl) e,c⟩
 | dK kvs=>obtain⟨z,y,vs,r,ob,es,ep,e,c⟩:=x;exact⟨z,y,vs,r,ob,es,ep,k _ _ (.inl rfl) e,c⟩
 | dT kvs =>
  obtain⟨z,y,xs,r,ob,es,ep,e,c⟩:=x
  exact⟨z,y,xs,Paired.yd r λp q z=>⟨z.1,ht _ _ z.2.1,z.2.2⟩,ob,es,ep,k _ _ (.inl rfl) e,c⟩
 | set S n=>obtain⟨ob,es,ep,t,e,c⟩:=x;exact⟨ob,es,ep,t,k _ _ (.inl rfl) e,c⟩
 | ins C dx fs =>
  obtain⟨d,z,ne,e,mA,⟨od,es,ep,e2,c⟩,r⟩:=x
  exact⟨ho _ d,z,ne,k _ _ (.inl rfl) e,mA,⟨od,es,ep,k _ _ (.inr d) e2,c⟩,r⟩
 | own y=>obtain⟨ob,e⟩:=x;exact⟨ob,k _ _ (.inl rfl) e⟩
 | xd fs=>obtain⟨mA,⟨od,es,ep,e,c⟩,r⟩:=x;exact⟨mA,⟨od,es,ep,k _ _ (.inl rfl) e,c⟩,r⟩
 | rng lo hi=>obtain⟨t,u,v,e⟩:=x;exact⟨t,u,v,k _ _ (.inl rfl) e⟩
 | frz ob u ih=>obtain⟨e,q⟩:=x;exact⟨k _ _ (.inl rfl) e,ih q⟩
 | tbl ps =>
  have e:h.get? a=some { cls:=.none,data:=.fields ps }:=x
  show h'.get? a=some { cls:=.none,data:=.fields ps }
  exact k a _ (.inl rfl) e
 | met f y =>
  have e:h.get? a=some (PySem.W.methodObj (.ref f) (.ref y)):=x
  show h'.get? a=some (PySem.W.methodObj (.ref f) (.ref y))
  exact k a _ (.inl rfl) e
 | ext φ=>obtain⟨p,⟨o,e⟩,st⟩:=x;exact⟨st _ _ p λo q=>k _ _ (.inl rfl) q,⟨o,k _ _ (.inl rfl) e⟩,st⟩
theorem fG.lt (x:fG P w H h) (e:H a=some o):a<h.objs.size:=(x a o e).lt
theorem fG.fresh (x:fG P w H h) (e:h.objs.size<=a):H a=none:=by
 cases q:H a with
 | none=>rfl
 | some u=>exact absurd (Nat.lt_of_lt_of_le (x.lt q) e) (Nat.lt_irrefl _)
theorem fG.kept (x:fG P w H h) (k:∀ b u,h.get? b=some u->h'.get? b=some u):fG P w H h':=λa o e =>
 (x a o e).jV (λb u _ q=>k b u q) (λ_ q=>q) λ_ _ q=>q
theorem fG.laid (x:fG P w H h) (k:∀ b u,h.get? b=some u->h'.get? b=some u) (hp:h.objs.size<=a) (new:bK P w (upd H a o) h' a o):fG P w (upd H a o) h':=λb u e=>by
 have hn:=x.fresh hp
 by_cases hb:b=a
 ·subst hb;rw [af] at e;cases e;exact new
 ·rw [av hb] at e
  exact (x b u e).jV (λc v _ q=>k c v q) (λc q=>by rw [av (bA q hn)];exact q) λc xs q=>by rw [av (bA q hn)];exact q
end
def Rd (H:Hp) (a:Addr) (u:HO):Prop:=H a=some u∨∃ o,H a=some (.frz o u)
theorem Rd.ok {P:Program} {w:World} {H:Hp} {h:Heap} {a:Addr} {u:HO} (r:Rd H a u) (x:fG P w H h):bK P w H h a u:=by
 rcases r with r | ⟨o,r⟩
 ·exact x a u r
 ·obtain⟨_,q⟩:=x a _ r
  exact q
def zu:Option HO->Prop
 | some (.lst _)=>True
 | some (.dK _)=>True
 | some (.dT _)=>True
 | some (.set _ _)=>True
 | some (.ins _ _ _)=>True
 | some (.ext _)=>True
 | _=>False
section
variable {P:Program} {w:World} {H:Hp} {h h':Heap} {x e:Addr} {o':HO}
theorem fG.write (ok:fG P w H h) (mu:zu (H x)) (he:e=x∨H e=some (.own x)) (k:∀ b u,b≠e->h.get? b=some u->h'.get? b=some u) (heo:∃ u,h'.get? e=some u)
  (new:bK P w (upd H x o') h' x o'):fG P w (upd H x o') h':=λb u q=>by
 have nown:∀ c y,H c=some (.own y)->c≠x:=λc y r z=>by subst z;rw [r] at mu;exact mu
 have ntup:∀ c xs,H c=some (.tup xs)->c≠x:=λc xs r z=>by subst z;rw [r] at mu;exact mu
 by_cases hb:b=x
 ·subst hb;rw [af] at q;cases q;exact new
 ·rw [av hb] at q
  by_cases hbe:b=e
  ·have q':H b=some (.own x):=by
    rcases he with z | z
    ·exact absurd (hbe.trans z) hb
    ·rw [hbe];exact z
   rw [q] at q';cases q'
   obtain⟨v,hv⟩:=heo
   exact⟨v,by rw [hbe];exact hv⟩
  ·refine (ok b u q).jV (λc v hc r=>k c v ?_ r) (λc r=>by rw [av (nown c b r)];exact r) λc xs r=>by rw [av (ntup c xs r)];exact r
   rcases hc with rfl | hc
   ·exact hbe
   ·rintro rfl
    rcases he with z | z
    ·exact nown c b hc z
    ·rw [hc] at z;cases z;exact hb rfl
end
structure Un (fs ex:List Addr) (H H':Hp) (h h':Heap):Prop where
 keep:∀ b o,h.get? b=some o->H b=none->b∉fs->b∉ex->h'.get? b=some o
 slot:∀ b o,h.get? b=some o->H b=none->b∈fs->b∉ex->∃ sl,h'.get? b=some { o with slots:=sl }
 free:∀ b o,h.get? b=some o->H b=none->b∉ex->H' b=none
 there:∀ b o,h.get? b=some o->b∉ex->∃ o',h'.get? b=some o'
 tups:∀ b xs,H b=some (.tup xs)->H' b=some (.tup xs)
 frzs:∀ b o u,H b=some (.frz o u)->H' b=some (.frz o u)
 tbls:∀ b ps,H b=some (.tbl ps)->∃ more,H' b=some (.tbl (ps++more))
section
variable {fs fs' ex ex':List Addr} {H H1 H2:Hp} {h h1 h2 h':Heap} {a x e:Addr} {o:HO}
theorem Un.any (u:Un fs ex H H1 h h1) {b:Addr} {ob:Obj} (q:h.get? b=some ob) (n:H b=none) (hx:b∉ex):∃ sl,h1.get? b=some { ob with slots:=sl }:=by
 by_cases hb:b∈fs
 ·exact u.slot b ob q n hb hx
 ·exact⟨ob.slots,u.keep b ob q n hb hx⟩
theorem Un.trans (a:Un fs ex H H1 h h1) (b:Un fs ex H1 H2 h1 h2):Un fs ex H H2 h h2 where
 keep:=λc ob q n hc hx=>b.keep c ob (a.keep c ob q n hc hx) (a.free c ob q n hx) hc hx
 slot:=λc ob q n hc hx=>by
  obtain⟨sl,e1⟩:=a.slot c ob q n hc hx
  obtain⟨sl',e2⟩:=b.slot c _ e1 (a.free c ob q n hx) hc hx
  exact⟨sl',e2⟩
 free:=λc ob q n hx=>by
  obtain⟨o',e1⟩:=a.there c ob q hx
  exact b.free c o' e1 (a.free c ob q n hx) hx
 there:=λc ob q hx=>by
  obtain⟨o',e1⟩:=a.there c ob q hx
  exact b.there c o' e1 hx
 tups:=λc xs q=>b.tups c xs (a.tups c xs q)
 frzs:=λc ob xs q=>b.frzs c ob xs (a.frzs c ob xs q)
 tbls:=λc ps q=>by
  obtain⟨m1,e1⟩:=a.tbls c ps q
  obtain⟨m2,e2⟩:=b.tbls c _ e1
  exact⟨m1++m2,by rw [e2,Array.append_assoc]⟩
theorem Un.kept (k:∀ b u,h.get? b=some u->h'.get? b=some u):Un fs ex H H h h' :=
 ⟨λb ob q _ _ _=>k b ob q,λb ob q _ _ _=>⟨ob.slots,k b ob q⟩,λ_ _ _ n _=>n,λb ob q _=>⟨ob,k b ob q⟩,λ_ _ q=>q,λ_ _ _ q=>q,λ_ ps q=>⟨#[],by rw [q];simp⟩⟩
theorem Un.refl:Un fs ex H H h h:=Un.kept λ_ _ q=>q
theorem Un.laid (k:∀ b u,h.get? b=some u->h'.get? b=some u) (hp:h.objs.size<=a) (hn:H a=none):Un fs ex H (upd H a o) h h' where
 keep:=λb u q _ _ _=>k b u q
 slot:=λb u q _ _ _=>⟨u.slots,k b u q⟩
 free:=λb u q n _=>by rw [av (Nat.ne_of_lt (Nat.lt_of_lt_of_le (Heap.lt_size q) hp))];exact n
 there:=λb u q _=>⟨u,k b u q⟩
 tups:=λb xs q=>by rw [av (bA q hn)];exact q
 frzs:=λb u xs q=>by rw [av (bA q hn)];exact q
 tbls:=λb ps q=>⟨#[],by rw [av (bA q hn),q];simp⟩
theorem Un.write (mu:zu (H x)) (he:e=x∨H e=some (.own x)) (k:∀ b u,b≠e->h.get? b=some u->h'.get? b=some u) (heo:∃ u,h'.get? e=some u):Un fs ex H (upd H x o) h h':=by
 have hx:∀ b,H b=none->b≠x:=λb n z=>by subst z;rw [n] at mu;exact mu
 have hb:∀ b,H b=none->b≠e:=λb n z=>by
  subst z
  rcases he with r | r
  ·exact hx b n r
  ·rw [n] at r;cases r
 have hm:∀ b u,H b=some u->¬zu (some u)->b≠x:=λb u q nm z=>by subst z;rw [q] at mu;exact nm mu
 refine⟨λb u q n _ _=>k b u (hb b n) q,λb u q n _ _=>⟨u.slots,k b u (hb b n) q⟩,λb u q n _=>by rw [av (hx b n)];exact n,λb u q _=>?_,
  λb xs q=>by rw [av (hm b _ q λz=>z)];exact q,λb u xs q=>by rw [av (hm b _ q λz=>z)];exact q,λb ps q=>⟨#[],by rw [av (hm b _ q λz=>z),q];simp⟩⟩
 by_cases hbe:b=e
 ·subst hbe;exact heo
 ·exact⟨u,k b u hbe q⟩
theorem Un.mono (u:Un fs ex H H1 h h1) (hs:∀ b∈fs,b∈fs') (hx:∀ b∈ex,b∈ex'):Un fs' ex' H H1 h h1 :=
 ⟨λb ob q n hb he=>u.keep b ob q n (λz=>hb (hs b z)) λz=>he (hx b z),λ_ _ q n _ he=>u.any q n λz=>he (hx _ z),λb ob q n he=>u.free b ob q n λz=>he (hx b z),λb ob q he=>u.there b ob q λz=>he (hx b z),u.tups,u.frzs,u.tbls⟩
end
def AB (h:Heap) (H:Hp):List Addr:=(List.range h.objs.size).filter λa=>(H a).isSome
def lB (h:Heap) (H:Hp):Heap:=PySem.W.hideAll h (AB h H)
theorem qX (h:Heap) (H:Hp):(lB h H).objs.size=h.objs.size:=PySem.W.hideAll_size _ _
theorem sU {h:Heap} {H:Hp} {b:Addr} {o:Obj} (e:h.get? b=some o) (n:H b=none):(lB h H).get? b=some o :=
 PySem.W.hideAll_get _ e λhm=>by
  have q:(H b).isSome=true:=(List.mem_filter.mp hm).2
  rw [n] at q;simp at q
theorem vF {h:Heap} {H:Hp} {b:Addr} {o:Obj} (e:(lB h H).get? b=some o):h.get? b=some o/\H b=none:=by
 have e':h.get? b=some o:=PySem.W.of_hideAll (AB h H) e
 refine⟨e',?_⟩
 cases q:H b with
 | none=>rfl
 | some x =>
  have hm:b∈AB h H:=List.mem_filter.mpr ⟨List.mem_range.mpr (Heap.lt_size e'),by simp [q]⟩
  have z:(lB h H).get? b=none:=PySem.W.hideAll_none (AB h H) hm
  rw [z] at e;cases e
def uX (g h:Heap) (L:Addr):List (Addr × Obj):=(List.range h.objs.size).filterMap λa=>if a=L∨(g.get? a).isSome=true then none else (h.get? a).map λo=>(a,o)
def rest (g h:Heap) (L d:Addr):List (Addr × Obj):=(uX g h L).filter λp=>decide (p.1≠d)
structure Mod (K:PySem.W.Frag) (mg:Str->Option Value) (base:Heap):Prop where
 kin:K.In base
 glob:base.Ns mainGlobals mg
 blt:∃ mb,base.Ns builtinsNs mb/\∀ x:Str,x ≠ "__name__"->mb x=bootBuiltins x
 nolimit:base.NoLimit
structure Cx where
 prog:Program
 w:World
 K:PySem.W.Frag
 mg:Str->Option Value
 base:Heap
 A:Around
 N:List Str
 s₀:Shared
 H₀:Hp
 env:Env
 outer:List Env
 stack:List Env
 ex:List Addr
 fn:Str->Bool
 calm:Bool
 pn:List (Addr × Obj)
 xe:Value->Shared->Prop
def gA (l:List Env):List Addr:=l.filterMap (·.frame)
abbrev Cx.fs (X:Cx):List Addr:=gA X.outer
def y7 (sc:Scope) (x:Str):Prop:=sc.names.lookup x=some .local∨sc.names.lookup x=some .cell∨sc.names.lookup x=some .free
def Loc (sc:Scope) (x:Str):Prop:=sc.names.lookup x=some .local∨sc.names.lookup x=some .cell
def Look (env:Env) (h:Heap) (m:Str->Option Value) (x:Str) (u:Value):Prop :=
 (env.kindOf x=some .local/\m x=some u)∨((env.kindOf x=some .cell∨env.kindOf x=some .free)/\∃ c,env.cells.lookup x=some c/\h.IsCell c (some u))
structure Cx.Ok (X:Cx):Prop where
 mod:Mod X.K X.mg X.base
 kind:X.env.scope.kind=.function
 glob:X.env.globals=mainGlobals
 blt:X.env.builtins=builtinsNs
 above:X.s₀.heap.objs.size<=X.env.locals
 inj:∀ x y c,X.env.cells.lookup x=some c->X.env.cells.lookup y=some c->x=y
 has:∀ x,(X.env.kindOf x=some .cell∨X.env.kindOf x=some .free)->∃ c,X.env.cells.lookup x=some c
 cab:∀ x c,X.fn x=true->X.env.cells.lookup x=some c->X.s₀.heap.objs.size<=c
 hd:X.calm=true->X.A.handled=none
 frames:X.A.frames=some X.stack
 stk:X.stack=X.outer∨(X.stack=X.env::X.outer/\X.env.frame=some X.env.locals)
 exf:∀ b∈X.ex,b≠X.env.locals/\∀ x c,X.env.cells.lookup x=some c->c≠b
 bs:∀ b o,X.base.get? b=some o->X.s₀.heap.get? b=some o/\X.H₀ b=none
 bsz:X.base.objs.size<=X.s₀.heap.objs.size
 noex:∀ b o,X.base.get? b=some o->b∉X.ex
 exfs:∀ b∈X.ex,b∉X.fs
 i4:X.s₀.heap.FunFrames X.base X.outer
 frf:∀ b∈X.fs,X.H₀ b=none
structure Inv (X:Cx) (pins:List (Addr × Obj)) (σ:List (Option V)) (H:Hp) (s:Shared):Prop where
 ok:X.Ok
 os:s.os=X.s₀.os
 bare:AllBare s.gens
 base:Un X.fs X.ex X.H₀ H X.s₀.heap s.heap
 loc:∃ m,s.heap.Ns X.env.locals m/\∀(i:Nat) (x:Str) (v:V),X.N[i]?=some x->σ[i]?=some (some v)->y7 X.env.scope x->∃ u,RelV v u/\Look X.env s.heap m x u
 cell:∀ x c,X.env.cells.lookup x=some c->∃ v,s.heap.IsCell c v
 free:H X.env.locals=none
 freeC:∀ x c,X.env.cells.lookup x=some c->H c=none
 pin:∀ p∈X.pn++pins,s.heap.get? p.1=some p.2/\H p.1=none/\p.1≠X.env.locals/\p.1∉X.fs/\∀ v,p.2.data≠.cell v
 hok:fG X.prog X.w H s.heap
 len:σ.length=X.N.length
section
variable {X:Cx} {pins:List (Addr × Obj)} {σ:List (Option V)} {H H':Hp} {s:Shared} {h':Heap}
theorem Cx.Ok.AY (ok:X.Ok) {b:Addr} {o:Obj} (e:X.base.get? b=some o):b∉X.fs:=λhb=>by
 have:=(ok.i4.mem hb).1
 rw [e] at this;cases this
theorem Inv.bs (I:Inv X pins σ H s):∀ b o,X.base.get? b=some o->s.heap.get? b=some o/\H b=none:=λb o e =>
 ⟨I.base.keep b o (I.ok.bs b o e).1 (I.ok.bs b o e).2 (I.ok.AY e) (I.ok.noex b o e),I.base.free b o (I.ok.bs b o e).1 (I.ok.bs b o e).2 (I.ok.noex b o e)⟩
theorem Inv.bk (I:Inv X pins σ H s):∀ b o,X.base.get? b=some o->s.heap.get? b=some o:=λb o e=>(I.bs b o e).1
theorem Inv.mod (I:Inv X pins σ H s):Mod X.K X.mg X.base:=I.ok.mod
theorem Inv.hG (I:Inv X pins σ H s):X.K.In s.heap:=I.ok.mod.kin.keeps I.bk
theorem Inv.fr (I:Inv X pins σ H s):∃ m,Fr X.base X.env.locals s.heap m :=
 let ⟨m,hn,_⟩:=I.loc
 ⟨m,hn,I.bk,Nat.le_trans I.ok.bsz I.ok.above⟩
theorem Inv.lt (I:Inv X pins σ H s):X.env.locals<s.heap.objs.size:=let ⟨_,hn,_⟩:=I.loc;hn.lt
theorem Inv.sz (I:Inv X pins σ H s):X.s₀.heap.objs.size<=s.heap.objs.size:=Nat.le_trans I.ok.above (Nat.le_of_lt I.lt)
theorem Inv.yg (I:Inv X pins σ H s) {a:Addr} (h:s.heap.objs.size<=a):a∉X.fs:=λhb=>by
 obtain⟨_,o,ho,_⟩:=I.ok.i4.mem hb
 exact absurd (Nat.lt_of_lt_of_le (Heap.lt_size ho) (Nat.le_trans I.sz h)) (Nat.lt_irrefl _)
theorem Inv.xR (I:Inv X pins σ H s):∀ x c,X.env.cells.lookup x=some c->c≠X.env.locals:=λx c e z=>by
 obtain⟨v,o,ho,hd⟩:=I.cell x c e
 obtain⟨m,⟨o',es,ep,ho',hd',_⟩,_⟩:=I.loc
 rw [z,ho'] at ho;cases ho;rw [hd'] at hd;cases hd
theorem Inv.i4 (I:Inv X pins σ H s):s.heap.FunFrames X.base X.outer:=by
 have all:∀(l:List Env),(∀ b∈gA l,b∈X.fs)->X.s₀.heap.FunFrames X.base l->s.heap.FunFrames X.base l:=by
  intro l
  induction l with
  | nil=>intro _ _;trivial
  | cons env r ih =>
   intro hs hl
   obtain⟨hk,⟨L,o,hf,hn,ho,hd⟩,hr⟩:=hl
   have hL:L∈X.fs:=hs L (by unfold gA;rw [List.filterMap_cons,hf];exact List.mem_cons_self)
   obtain⟨sl,e⟩:=I.base.slot L o ho (I.ok.frf L hL) hL λz=>I.ok.exfs L z hL
   exact⟨hk,⟨L,_,hf,hn,e,hd⟩,ih (λb hb=>hs b (by unfold gA;rw [List.filterMap_cons,hf];exact List.mem_cons_of_mem _ hb)) hr⟩
 exact all X.outer (λ_ hb=>hb) I.ok.i4
theorem Inv.stack (I:Inv X pins σ H s):s.heap.FunFrames X.base X.stack:=by
 rcases I.ok.stk with e | ⟨e,hf⟩
 ·rw [e];exact I.i4
 ·rw [e]
  obtain⟨m,hn,_⟩:=I.loc
  refine .cons (by rw [I.ok.kind];decide) hf hn ?_ I.i4
  exact Heap.get?_none_of_le (Nat.le_trans I.ok.bsz I.ok.above)
theorem Inv.fS (I:Inv X pins σ H s):∀ b∈gA X.stack,b∈X.env.locals::X.fs:=λb hb=>by
 rcases I.ok.stk with e | ⟨e,hf⟩
 ·rw [e] at hb;exact List.mem_cons_of_mem _ hb
 ·rw [e] at hb
  unfold gA at hb
  rw [List.filterMap_cons,hf] at hb
  exact hb
theorem Inv.iB (I:Inv X pins σ H s):∀ b∈gA X.stack,H b=none:=λb hb=>by
 rcases List.mem_cons.mp (I.fS b hb) with e | hb
 ·rw [e];exact I.free
 ·obtain⟨_,o,ho,_⟩:=I.ok.i4.mem hb
  exact I.base.free b o ho (I.ok.frf b hb) λz=>I.ok.exfs b z hb
theorem Inv.step {g':Array GenState} {t':Nat} {d':Drawn} {ch:List Addr} (I:Inv X pins σ H s)
  (hch:∀ b∈ch,(b∈X.ex∨X.s₀.heap.objs.size<=b)/\b≠X.env.locals/\(∀ x c,X.env.cells.lookup x=some c->c≠b)/\∀ p∈X.pn++pins,p.1≠b)
  (keep:∀ b o,b≠X.env.locals->b∉X.fs->b∉ch->s.heap.get? b=some o->H b=none->h'.get? b=some o)
  (slot:∀ b o,b≠X.env.locals->b∈X.fs->b∉ch->s.heap.get? b=some o->H b=none->∃ sl,h'.get? b=some { o with slots:=sl }) (free:∀ b o,b∉ch->s.heap.get? b=some o->H b=none->H' b=none)
  (there:∀ b o,b∉ch->s.heap.get? b=some o->∃ o',h'.get? b=some o')
  (tups:∀ b xs,H b=some (.tup xs)->H' b=some (.tup xs)) (frzs:∀ b o u,H b=some (.frz o u)->H' b=some (.frz o u)) (tbls:∀ b ps,H b=some (.tbl ps)->∃ more,H' b=some (.tbl (ps++more)))
  (ns:∀ m,s.heap.Ns X.env.locals m->h'.Ns X.env.locals m) (hok:fG X.prog X.w H' h') (hg:AllBare g') :
  Inv X pins σ H' { s with heap:=h',gens:=g',drawn:=d',toks:=t' }:=by
 have neL:∀ b o,X.s₀.heap.get? b=some o->b≠X.env.locals:=λb o e=>Nat.ne_of_lt (Nat.lt_of_lt_of_le (Heap.lt_size e) I.ok.above)
 have neC:∀ b o,X.s₀.heap.get? b=some o->b∉X.ex->b∉ch:=λb o e hx hb=>by
  rcases (hch b hb).1 with z | z
  ·exact hx z
  ·exact absurd (Nat.lt_of_lt_of_le (Heap.lt_size e) z) (Nat.lt_irrefl _)
 have cellK:∀ x c,X.env.cells.lookup x=some c->∀ v,s.heap.IsCell c v->h'.IsCell c v:=λx c e v ⟨o,ho,hd⟩=>by
  have nch:c∉ch:=λz=>(hch c z).2.2.1 x c e rfl
  by_cases hc:c∈X.fs
  ·obtain⟨sl,q⟩:=slot c o (I.xR x c e) hc nch ho (I.freeC x c e)
   exact⟨_,q,hd⟩
  ·exact⟨o,keep c o (I.xR x c e) hc nch ho (I.freeC x c e),hd⟩
 refine⟨I.ok,I.os,hg,⟨λb o e n hb hx=>?_,λb o e n hb hx=>?_,λb o e n hx=>?_,λb o e hx=>?_,λb xs e=>tups b xs (I.base.tups b xs e),λb o xs e=>frzs b o xs (I.base.frzs b o xs e),λb ps e=>?_⟩,?_,λx c e=>?_,?_,λx c e=>?_,λp hp=>?_,hok,I.len⟩
 ·exact keep b o (neL b o e) hb (neC b o e hx) (I.base.keep b o e n hb hx) (I.base.free b o e n hx)
 ·obtain⟨sl,e1⟩:=I.base.slot b o e n hb hx
  obtain⟨sl',e2⟩:=slot b _ (neL b o e) hb (neC b o e hx) e1 (I.base.free b o e n hx)
  exact⟨sl',e2⟩
 ·obtain⟨o',e1⟩:=I.base.there b o e hx
  exact free b o' (neC b o e hx) e1 (I.base.free b o e n hx)
 ·obtain⟨o',e1⟩:=I.base.there b o e hx
  exact there b o' (neC b o e hx) e1
 ·obtain⟨m1,e1⟩:=I.base.tbls b ps e
  obtain⟨m2,e2⟩:=tbls b _ e1
  exact⟨m1++m2,by rw [e2,Array.append_assoc]⟩
 ·obtain⟨m,hn,hl⟩:=I.loc
  refine⟨m,ns m hn,λi x v e1 e2 e3=>?_⟩
  obtain⟨u,r,l⟩:=hl i x v e1 e2 e3
  refine⟨u,r,?_⟩
  rcases l with l | ⟨k,c,e,z⟩
  ·exact .inl l
  ·exact .inr ⟨k,c,e,cellK x c e _ z⟩
 ·obtain⟨v,z⟩:=I.cell x c e
  exact⟨v,cellK x c e v z⟩
 ·obtain⟨m,⟨o,_,_,ho,_⟩,_⟩:=I.loc
  exact free _ o (λz=>(hch _ z).2.1 rfl) ho I.free
 ·obtain⟨v,o,ho,hd⟩:=I.cell x c e
  exact free c o (λz=>(hch c z).2.2.1 x c e rfl) ho (I.freeC x c e)
 ·obtain⟨e,n,ne,nf,d⟩:=I.pin p hp
  have nch:p.1∉ch:=λz=>(hch p.1 z).2.2.2 p hp rfl
  exact⟨keep p.1 p.2 ne nf nch e n,free p.1 p.2 nch e n,ne,nf,d⟩
theorem Inv.un {t':Nat} (I:Inv X pins σ H s) (u:Un X.fs [] H H' s.heap h') (hok:fG X.prog X.w H' h'):Inv X pins σ H' { s with heap:=h',toks:=t' }:=by
 obtain⟨m,⟨o,es,ep,ho,r⟩,_⟩:=id I.loc
 obtain⟨sl,hL⟩:=u.any ho I.free (by simp)
 exact I.step (g':=s.gens) (d':=s.drawn) (ch:=[]) (λ_ z=>nomatch z) (λb o _ hb _ e n=>u.keep b o e n hb (by simp)) (λb o _ hb _ e n=>u.slot b o e n hb (by simp)) (λb o _ e n=>u.free b o e n (by simp)) (λb o _ e=>u.there b o e (by simp)) u.tups u.frzs u.tbls (λm' hm=>by
  obtain⟨o',es',ep',ho',r'⟩:=hm
  rw [ho] at ho';cases ho'
  exact⟨_,es',ep',hL,r'⟩) hok I.bare
theorem Inv.call {g':Array GenState} {t':Nat} {d':Drawn} {ch:List Addr} (I:Inv X pins σ H s) (u:Un (gA X.stack) ch H H' s.heap h') (hok:fG X.prog X.w H' h') (hg:AllBare g')
  (hch:∀ b∈ch,(b∈X.ex∨X.s₀.heap.objs.size<=b)/\b≠X.env.locals/\(∀ x c,X.env.cells.lookup x=some c->c≠b)/\∀ p∈X.pn++pins,p.1≠b) :
  Inv X pins σ H' { s with heap:=h',gens:=g',drawn:=d',toks:=t' }:=by
 obtain⟨m,⟨o,es,ep,ho,r⟩,_⟩:=id I.loc
 obtain⟨sl,hL⟩:=u.any ho I.free λz=>(hch _ z).2.1 rfl
 exact I.step (ch:=ch) hch (λb o hL hb hc e n=>u.keep b o e n (λz=>(List.mem_cons.mp (I.fS b z)).elim hL hb) hc) (λb o _ _ hc e n=>u.any e n hc) (λb o hc e n=>u.free b o e n hc) (λb o hc e=>u.there b o e hc) u.tups u.frzs u.tbls (λm' hm=>by
  obtain⟨o',es',ep',ho',r'⟩:=hm
  rw [ho] at ho';cases ho'
  exact⟨_,es',ep',hL,r'⟩) hok hg
theorem Inv.turned {t':Nat} {it:Addr} (I:Inv X pins σ H s) (k:∀ b o,b≠it->s.heap.get? b=some o->h'.get? b=some o) (hn:H it=none) (hL:it≠X.env.locals)
  (h1:it∈X.ex∨X.s₀.heap.objs.size<=it) (h2:∀ x c,X.env.cells.lookup x=some c->c≠it) (h3:∀ p∈X.pn++pins,p.1≠it):Inv X pins σ H { s with heap:=h',toks:=t' }:=by
 have nit:∀ b u,H b=some u->b≠it:=λb u e z=>by rw [z,hn] at e;cases e
 refine I.step (g':=s.gens) (d':=s.drawn) (ch:=[it]) (λb hb=>?_) (λb o _ _ hc e _=>k b o (λz=>hc (by simp [z])) e) (λb o _ _ hc e _=>⟨o.slots,k b o (λz=>hc (by simp [z])) e⟩) (λ_ _ _ _ n=>n)
  (λb o hc e=>⟨o,k b o (λz=>hc (by simp [z])) e⟩) (λ_ _ e=>e) (λ_ _ _ e=>e) (λb ps e=>⟨#[],by rw [e];simp⟩) (λm hm=>?_) (λb u e=>?_) I.bare
 ·have e:b=it:=by simpa using hb
  subst e
  exact⟨h1,hL,h2,h3⟩
 ·obtain⟨o,es,ep,ho,r⟩:=hm
  exact⟨o,es,ep,k _ o (Ne.symm hL) ho,r⟩
 ·refine (I.hok b u e).jV (λc v hc q=>k c v ?_ q) (λ_ q=>q) λ_ _ q=>q
  rcases hc with z | z
  ·rw [z];exact nit b u e
  ·exact nit c _ z
theorem Inv.tok (I:Inv X pins σ H s) (t:Nat):Inv X pins σ H { s with toks:=t }:=I.un (h':=s.heap) (t':=t) Un.refl I.hok
theorem Inv.kept {t':Nat} (I:Inv X pins σ H s) (k:∀ b u,s.heap.get? b=some u->h'.get? b=some u):Inv X pins σ H { s with heap:=h',toks:=t' }:=I.un (Un.kept k) (I.hok.kept k)
theorem Inv.laid {a:Addr} {o:HO} {t':Nat} (I:Inv X pins σ H s) (k:∀ b u,s.heap.get? b=some u->h'.get? b=some u) (hp:s.heap.objs.size<=a) (new:bK X.prog X.w (upd H a o) h' a o) :
  Inv X pins σ (upd H a o) { s with heap:=h',toks:=t' }:=I.un (Un.laid k hp (I.hok.fresh hp)) (I.hok.laid k hp new)
theorem Inv.write {x e:Addr} {o:HO} {t':Nat} (I:Inv X pins σ H s) (mu:zu (H x)) (he:e=x∨H e=some (.own x)) (k:∀ b u,b≠e->s.heap.get? b=some u->h'.get? b=some u) (heo:∃ u,h'.get? e=some u)
  (new:bK X.prog X.w (upd H x o) h' x o):Inv X pins σ (upd H x o) { s with heap:=h',toks:=t' }:=I.un (Un.write mu he k heo) (I.hok.write mu he k heo new)
theorem Inv.weak {σ':List (Option V)} (I:Inv X pins σ H s) (hl:σ'.length=σ.length) (w:∀(i:Nat) v,σ'[i]?=some (some v)->σ[i]?=some (some v)):Inv X pins σ' H s :=
 ⟨I.ok,I.os,I.bare,I.base,let ⟨m,hn,hl'⟩:=I.loc;⟨m,hn,λi x v e1 e2 e3=>hl' i x v e1 (w i v e2) e3⟩,I.cell,I.free,I.freeC,I.pin,I.hok,hl.trans I.len⟩
theorem Inv.ji {pins':List (Addr × Obj)} (I:Inv X pins σ H s) (h:∀ p∈pins',s.heap.get? p.1=some p.2/\H p.1=none/\p.1≠X.env.locals/\p.1∉X.fs/\∀ v,p.2.data≠.cell v):Inv X pins' σ H s :=
 ⟨I.ok,I.os,I.bare,I.base,I.loc,I.cell,I.free,I.freeC,λp hp=>(List.mem_append.mp hp).elim (λz=>I.pin p (List.mem_append_left _ z)) (h p),I.hok,I.len⟩
theorem m8 {N:List Str} (hN:N.Nodup) {i j:Nat} {x:Str} (a:N[i]?=some x) (b:N[j]?=some x):i=j:=by
 obtain⟨h1,e1⟩:=List.getElem?_eq_some_iff.mp a
 obtain⟨h2,e2⟩:=List.getElem?_eq_some_iff.mp b
 exact (List.getElem_inj hN).mp (e1.trans e2.symm)
theorem rS {M:Model} {A:Around} {E:Value->Shared->Prop} {i:Nat} {x:Str} {v:V} {u:Value} {Q:Unit->Shared->Prop} (I:Inv X pins σ H s) (hN:X.N.Nodup) (hi:X.N[i]?=some x) (hx:Loc X.env.scope x) (r:RelV v u)
  (h:∀ s',Inv X pins (σ.set i (some v)) H s'->(∃ a,Heap.SameBut a s.heap s'.heap/\(a=X.env.locals∨X.env.cells.lookup x=some a))->Q () s') (hf:X.fn x=true∨X.env.scope.names.lookup x=some .local:=by first | exact .inl rfl | exact .inr rfl | assumption):wpAny M A (storeName X.env x u) Q E s:=by
 obtain⟨m,hn,hl⟩:=id I.loc
 have hcls:(X.env.scope.kind==.class || (X.env.scope.kind==.module && X.env.locals != X.env.globals))=false:=by rw [I.ok.kind];rfl
 have hiσ:i<σ.length:=by rw [I.len];exact (List.getElem?_eq_some_iff.mp hi).1
 have xR:=I.xR
 have tracked:∀{a:Addr} {h':Heap},(∃ o,s.heap.get? a=some o/\H a=none)->Heap.SameBut a s.heap h'->fG X.prog X.w H h':=λ{a h'} ha hs b ob e=>by
  obtain⟨_,_,hfree⟩:=ha
  refine (I.hok b ob e).jV (λc w' hc q=>(hs.2 c ?_).trans q) (λ_ q=>q) λ_ _ q=>q
  rintro rfl
  rcases hc with rfl | hc
  ·rw [hfree] at e;cases e
  ·rw [hfree] at hc;cases hc
 rcases hx with hk | hk
 ·refine wpAny_storeName_local hk hn (λh' hn' hs=>?_) hcls
  obtain⟨oL,_,_,hoL,_⟩:=id hn
  refine h _ ⟨I.ok,I.os,I.bare,⟨λb o e n hb hx=>?_,λb o e n hb hx=>?_,I.base.free,λb o e hx=>?_,I.base.tups,I.base.frzs,I.base.tbls⟩,⟨_,hn',λj y v' e1 e2 e3=>?_⟩,λy c e=>?_,I.free,I.freeC,λp hp=>?_,tracked ⟨oL,hoL,I.free⟩ hs,by simpa using I.len⟩ ⟨_,hs,.inl rfl⟩
  ·exact (hs.2 b (Nat.ne_of_lt (Nat.lt_of_lt_of_le (Heap.lt_size e) I.ok.above))).trans (I.base.keep b o e n hb hx)
  ·obtain⟨sl,e1⟩:=I.base.slot b o e n hb hx
   exact⟨sl,(hs.2 b (Nat.ne_of_lt (Nat.lt_of_lt_of_le (Heap.lt_size e) I.ok.above))).trans e1⟩
  ·obtain⟨o',e1⟩:=I.base.there b o e hx
   exact⟨o',(hs.2 b (Nat.ne_of_lt (Nat.lt_of_lt_of_le (Heap.lt_size e) I.ok.above))).trans e1⟩
  ·by_cases hj:j=i
   ·subst hj
    rw [hi] at e1;cases e1
    rw [List.getElem?_set_self hiσ] at e2
    cases e2
    exact⟨u,r,.inl ⟨hk,by simp⟩⟩
   ·rw [List.getElem?_set_ne (Ne.symm hj)] at e2
    obtain⟨u',r',q⟩:=hl j y v' e1 e2 e3
    refine⟨u',r',?_⟩
    rcases q with⟨k,e⟩|⟨k,c,e,z⟩
    ·refine .inl ⟨k,?_⟩
     have:y≠x:=λe=>hj (m8 hN e1 (e▸hi))
     simp [this,e]
    ·exact .inr ⟨k,c,e,z.sameBut hs (xR y c e)⟩
  ·obtain⟨w',z⟩:=I.cell y c e
   exact⟨w',z.sameBut hs (xR y c e)⟩
  ·obtain⟨e,n,ne,nf,d⟩:=I.pin p hp
   exact⟨(hs.2 p.1 ne).trans e,n,ne,nf,d⟩
 ·have hfn:X.fn x=true:=by
   rcases hf with z | z
   ·exact z
   ·rw [z] at hk;cases hk
  obtain⟨c,hc⟩:=I.ok.has x (.inl hk)
  obtain⟨w',z⟩:=I.cell x c hc
  refine wpAny_storeName_cell I.ok.kind hk hc z (λh' hc' hs=>?_)
  obtain⟨oc,hoc,hocd⟩:=id z
  refine h { s with heap:=h' } ⟨I.ok,I.os,I.bare,⟨λb o e n hb hx=>?_,λb o e n hb hx=>?_,I.base.free,λb o e hx=>?_,I.base.tups,I.base.frzs,I.base.tbls⟩,⟨m,hn.sameBut hs (Ne.symm (xR x c hc)),λj y v' e1 e2 e3=>?_⟩,λy c' e=>?_,I.free,I.freeC,λp hp=>?_,tracked ⟨oc,hoc,I.freeC x c hc⟩ hs,by simpa using I.len⟩ ⟨c,hs,.inr hc⟩
  ·exact (hs.2 b (Nat.ne_of_lt (Nat.lt_of_lt_of_le (Heap.lt_size e) (I.ok.cab x c hfn hc)))).trans (I.base.keep b o e n hb hx)
  ·obtain⟨sl,e1⟩:=I.base.slot b o e n hb hx
   exact⟨sl,(hs.2 b (Nat.ne_of_lt (Nat.lt_of_lt_of_le (Heap.lt_size e) (I.ok.cab x c hfn hc)))).trans e1⟩
  ·obtain⟨o',e1⟩:=I.base.there b o e hx
   exact⟨o',(hs.2 b (Nat.ne_of_lt (Nat.lt_of_lt_of_le (Heap.lt_size e) (I.ok.cab x c hfn hc)))).trans e1⟩
  ·by_cases hj:j=i
   ·subst hj
    rw [hi] at e1;cases e1
    rw [List.getElem?_set_self hiσ] at e2
    cases e2
    exact⟨u,r,.inr ⟨.inl hk,c,hc,hc'⟩⟩
   ·rw [List.getElem?_set_ne (Ne.symm hj)] at e2
    obtain⟨u',r',q⟩:=hl j y v' e1 e2 e3
    refine⟨u',r',?_⟩
    rcases q with q | ⟨k,c',e,z'⟩
    ·exact .inl q
    ·refine .inr ⟨k,c',e,z'.sameBut hs ?_⟩
     rintro rfl
     exact hj (m8 hN e1 (I.ok.inj _ _ _ e hc▸hi))
  ·by_cases hcc:c'=c
   ·subst hcc;exact⟨_,hc'⟩
   ·obtain⟨w2,z2⟩:=I.cell y c' e
    exact⟨w2,z2.sameBut hs hcc⟩
  ·obtain⟨e,n,ne,nf,d⟩:=I.pin p hp
   refine⟨(hs.2 p.1 ?_).trans e,n,ne,nf,d⟩
   intro q
   rw [q,hoc] at e
   have q':oc=p.2:=Option.some.inj e
   exact d w' (by rw [<- q'];exact hocd)
theorem dG {M:Model} {A:Around} {E:Value->Shared->Prop} {i:Nat} {x:Str} {v:V} {u:Value} {Q:Unit->Shared->Prop} (I:Inv X pins σ H s) (hN:X.N.Nodup) (hi:X.N[i]?=some x) (hx:Loc X.env.scope x) (r:RelV v u)
  (h:∀ s',Inv X pins (σ.set i (some v)) H s'->Q () s') (hf:X.fn x=true∨X.env.scope.names.lookup x=some .local:=by first | exact .inl rfl | exact .inr rfl | assumption):wpAny M A (storeName X.env x u) Q E s :=
 rS I hN hi hx r (λs' I' _=>h s' I') hf
theorem Inv.zz {s':Shared} {ch:List Addr} (I:Inv X pins σ H s) (ho:s'.os=s.os) (u:Un (gA X.stack) ch H H' s.heap s'.heap) (hok:fG X.prog X.w H' s'.heap) (hg:AllBare s'.gens)
  (hch:∀ b∈ch,(b∈X.ex∨X.s₀.heap.objs.size<=b)/\b≠X.env.locals/\(∀ x c,X.env.cells.lookup x=some c->c≠b)/\∀ p∈X.pn++pins,p.1≠b):Inv X pins σ H' s':=by
 obtain⟨h',g',d',t',o'⟩:=s'
 have e:o'=s.os:=ho
 subst e
 exact I.call (g':=g') (t':=t') (d':=d') u hok hg hch
end
abbrev XK:=Value->Option Addr->Hp->Prop
abbrev St:=List (Option V)
abbrev VK:=V->Hp->Prop
abbrev TE:=St->Hp->VK->Prop
abbrev TT:=St->Hp->(Bool->Hp->Prop)->Prop
abbrev TA:=St->Hp->(List V->Hp->Prop)->Prop
structure Ends where
 nx:St->Hp->Prop
 rt:VK
 bk:St->Hp->Prop:=λ_ _=>False
 ct:St->Hp->Prop:=λ_ _=>False
abbrev TS:=Ends->St->Hp->Prop
def EP (X:Cx) (pins:List (Addr × Obj)) (σ:St) (Q:VK) (u:Value) (s':Shared):Prop:=∃ v H',Inv X pins σ H' s'/\RelV v u/\Q v H'
def TP (X:Cx) (pins:List (Addr × Obj)) (σ:St) (Q:Bool->Hp->Prop) (b:Bool) (s':Shared):Prop:=∃ H',Inv X pins σ H' s'/\Q b H'
def AP (X:Cx) (pins:List (Addr × Obj)) (σ:St) (Q:List V->Hp->Prop) (us:List Value) (s':Shared):Prop:=∃ vs H',Inv X pins σ H' s'/\Vals vs us/\Q vs H'
def SP (X:Cx) (pins:List (Addr × Obj)) (D:Ends) (f:Flow) (s':Shared):Prop :=
 match f with
 | .next=>∃ σ' H',Inv X pins σ' H' s'/\D.nx σ' H'
 | .brk=>∃ σ' H',Inv X pins σ' H' s'/\D.bk σ' H'
 | .cont=>∃ σ' H',Inv X pins σ' H' s'/\D.ct σ' H'
 | .ret u=>∃ v σ' H',Inv X pins σ' H' s'/\RelV v u/\D.rt v H'
def PE (X:Cx) (e:Expr) (t:TE):Prop :=
 ∀(pins:List (Addr × Obj)) (s:Shared) (σ:St) (H:Hp) (Q:VK),Inv X pins σ H s->t σ H Q->wpAny (model X.prog X.w) X.A (eval e X.env) (EP X pins σ Q) X.xe s
def PT (X:Cx) (e:Expr) (t:TT):Prop :=
 ∀(pins:List (Addr × Obj)) (s:Shared) (σ:St) (H:Hp) (Q:Bool->Hp->Prop),Inv X pins σ H s->t σ H Q->wpAny (model X.prog X.w) X.A (isTrue e X.env (eval e X.env)) (TP X pins σ Q) X.xe s
def PW (X:Cx) (e:Expr) (t:TT):Prop :=
 ∀(whole:Sem Value) (pins:List (Addr × Obj)) (s:Shared) (σ:St) (H:Hp) (Q:Bool->Hp->Prop),Inv X pins σ H s->t σ H Q->wpAny (model X.prog X.w) X.A (isTrue e X.env whole) (TP X pins σ Q) X.xe s
theorem PW.pt {X:Cx} {e:Expr} {t:TT} (h:PW X e t):PT X e t:=h _
def PA (X:Cx) (es:List Expr) (t:TA):Prop :=
 ∀(pos:Pos) (pins:List (Addr × Obj)) (s:Shared) (σ:St) (H:Hp) (Q:List V->Hp->Prop),Inv X pins σ H s->t σ H Q->wpAny (model X.prog X.w) X.A (spliced (backTo pos (starEach es X.env))) (AP X pins σ Q) X.xe s
def PS (X:Cx) (st:Stmt) (t:TS):Prop :=
 ∀(pins:List (Addr × Obj)) (s:Shared) (σ:St) (H:Hp) (D:Ends),Inv X pins σ H s->t D σ H->wpAny (model X.prog X.w) X.A (exec st X.env) (SP X pins D) X.xe s
def ja (X:Cx) (st:List Stmt) (t:TS):Prop :=
 ∀(pins:List (Addr × Obj)) (s:Shared) (σ:St) (H:Hp) (D:Ends),Inv X pins σ H s->t D σ H->wpAny (model X.prog X.w) X.A (execs st X.env) (SP X pins D) X.xe s
theorem bZ {α:Type} {t:Sem α} {Q Q':α->Shared->Prop} {M:Model} {A:Around} {E:Value->Shared->Prop} {s:Shared} (h:wpAny M A t Q E s) (hQ:∀ a s,Q a s->Q' a s):wpAny M A t Q' E s:=wpAny_mono h hQ λ_ _ x=>x
section
variable {X:Cx}
def j8 (i:Nat):TE:=λσ H Q=>∃ v,σ[i]?=some (some v)/\Q v H
def tC (v:V):TE:=λ_ H Q=>Q v H
theorem oW {i:Nat} {x:Str} {pos:Pos} (hN:X.N[i]?=some x) (hv:y7 X.env.scope x) (hd:(x==("__debug__":Str))=false:=by decide) (hcd:(x==("__classdict__":Str))=false:=by decide):PE X (.Name x pos) (j8 i):=by
 intro pins s σ H Q I h
 obtain⟨v,e,h⟩:=h
 obtain⟨m,hn,hl⟩:=I.loc
 obtain⟨u,r,l⟩:=hl i x v hN e hv
 have fin:EP X pins σ Q u s:=⟨v,H,I,r,h⟩
 rcases l with⟨hk,hm⟩|⟨hk,c,hc,hcell⟩
 ·exact wpAny_Name (wpAny_loadName_local I.ok.kind hk hn hm fin) hd
 ·rcases hk with hk | hk
  ·exact wpAny_Name (wpAny_loadName_cell I.ok.kind hk hc hcell fin) hd
  ·exact wpAny_Name (wpAny_loadName_free I.ok.kind hk hc hcell fin hcd) hd
theorem ah {i j pos}:PE X (.Constant (.int i) j pos) (tC (.int i)):=λ_ _ _ H _ I h=>wpAny_Constant_int ⟨.int i,H,I.tok _,⟨_,rfl⟩,h⟩
theorem cP {b j pos}:PE X (.Constant (.bool b) j pos) (tC (.bl b)):=λ_ _ _ H _ I h=>Constant_bool ⟨.bl b,H,I,rfl,h⟩
theorem dc {j pos}:PE X (.Constant .none j pos) (tC .bw):=λ_ _ _ H _ I h=>Constant_none ⟨.bw,H,I,rfl,h⟩
theorem ba {x j pos}:PE X (.Constant (.str x) j pos) (tC (.str x)):=λ_ _ _ H _ I h=>Calls.Constant_str ⟨.str x,H,I.tok _,⟨_,rfl⟩,h⟩
def Gl (X:Cx) (x:Str):Prop:=X.env.kindOf x=some .globalImplicit
theorem jf {E:Value->Shared->Prop} {pins:List (Addr × Obj)} {s:Shared} {σ:St} {H:Hp} {x:Str} {u:Value} {pos:Pos} {Q:Value->Shared->Prop} (I:Inv X pins σ H s) (hg:Gl X x) (hm:X.mg x=some u) (h:Q u s)
  (hd:(x==("__debug__":Str))=false:=by decide):wpAny (model X.prog X.w) X.A (eval (.Name x pos) X.env) Q E s :=
 Calls.Name_function_global I.ok.kind hg (Calls.loadGlobal_global (by rw [I.ok.glob];exact I.mod.glob.keeps I.bk) hm h) hd
theorem jA {E:Value->Shared->Prop} {pins:List (Addr × Obj)} {s:Shared} {σ:St} {H:Hp} {x:Str} {u:Value} {pos:Pos} {Q:Value->Shared->Prop} (I:Inv X pins σ H s) (hg:Gl X x) (hm:X.mg x=none) (hv:bootBuiltins x=some u) (h:Q u s)
  (hn:x ≠ "__name__":=by decide) (hd:(x==("__debug__":Str))=false:=by decide):wpAny (model X.prog X.w) X.A (eval (.Name x pos) X.env) Q E s:=by
 obtain⟨mb,h1,h2⟩:=I.mod.blt
 exact Calls.Name_function_global I.ok.kind hg (Calls.loadGlobal_builtin (by rw [I.ok.glob];exact I.mod.glob.keeps I.bk) hm (by rw [I.ok.blt];exact h1.keeps I.bk) ((h2 x hn).trans hv) h) hd
theorem qu {x:Str} {v:V} {u:Value} {pos:Pos} (hg:Gl X x) (hm:X.mg x=some u) (r:RelV v u) (hd:(x==("__debug__":Str))=false:=by decide):PE X (.Name x pos) (tC v) :=
 λ_ _ _ H _ I h=>jf I hg hm ⟨v,H,I,r,h⟩ hd
theorem bO {x:Str} {v:V} {u:Value} {pos:Pos} (hg:Gl X x) (hm:X.mg x=none) (hv:bootBuiltins x=some u) (r:RelV v u) (hn:x ≠ "__name__":=by decide) (hd:(x==("__debug__":Str))=false:=by decide):PE X (.Name x pos) (tC v) :=
 λ_ _ _ H _ I h=>jA I hg hm hv ⟨v,H,I,r,h⟩ hn hd
variable {a b:Expr} {ta tb:TE} {pos:Pos}
def tB (t:TE):TT:=λσ H Q=>t σ H λx H1=>∃ c,x=.bl c/\Q c H1
variable {tA tB':TT} {rest:List Expr}
def Ab (t u:TT):TT:=λσ H Q=>t σ H λc H1=>if c=true then u σ H1 Q else Q false H1
def BD (t u:TT):TT:=λσ H Q=>t σ H λc H1=>if c=true then Q true H1 else u σ H1 Q
def Aj (t:TT):TT:=λσ H Q=>t σ H λc H1=>Q (!c) H1
theorem dB (ha:PT X a tA):PW X (.BoolOp .And [a] pos) tA:=by
 intro wh pins s σ H Q I h
 refine isTrue_and (bZ (ha pins s σ H Q I h) λc s1 e=>?_)
 cases c with
 | true=>exact isTrue_and_nil e
 | false=>exact e
theorem iL (ha:PT X a tA):PW X (.BoolOp .Or [a] pos) tA:=by
 intro wh pins s σ H Q I h
 refine isTrue_or (bZ (ha pins s σ H Q I h) λc s1 e=>?_)
 cases c with
 | false=>exact isTrue_or_nil e
 | true=>exact e
theorem df (ha:PT X a tA) (hb:PW X (.BoolOp .And (b::rest) pos) tB'):PW X (.BoolOp .And (a::b::rest) pos) (Ab tA tB'):=by
 intro wh pins s σ H Q I h
 refine isTrue_and (bZ (ha pins s σ H _ I h) λc s1 ⟨H1,I1,q1⟩=>?_)
 cases c with
 | true=>exact hb wh pins s1 σ H1 Q I1 q1
 | false=>exact⟨H1,I1,q1⟩
theorem jK (ha:PT X a tA) (hb:PW X (.BoolOp .Or (b::rest) pos) tB'):PW X (.BoolOp .Or (a::b::rest) pos) (BD tA tB'):=by
 intro wh pins s σ H Q I h
 refine isTrue_or (bZ (ha pins s σ H _ I h) λc s1 ⟨H1,I1,q1⟩=>?_)
 cases c with
 | true=>exact⟨H1,I1,q1⟩
 | false=>exact hb wh pins s1 σ H1 Q I1 q1
theorem dO (ha:PT X a tA):PT X (.UnaryOp .Not a pos) (Aj tA):=by
 intro pins s σ H Q I h
 exact isTrue_not (ha pins s σ H (λc H1=>Q (!c) H1) I h)
def uA (ta tb:TE):TE:=λσ H Q=>ta σ H λx H1=>∃ c,x=.bl c/\if c=true then tb σ H1 Q else Q (.bl false) H1
def Bl (ta tb:TE):TE:=λσ H Q=>ta σ H λx H1=>∃ c,x=.bl c/\if c=true then Q (.bl true) H1 else tb σ H1 Q
def xA (ta:TE):TE:=λσ H Q=>ta σ H λx H1=>∃ c,x=.bl c/\Q (.bl (!c)) H1
theorem cj {op} {t:TE} (h:PE X a t):PE X (.BoolOp op [a] pos) t:=λpins s σ H Q I hw=>BoolOp_one (h pins s σ H Q I hw)
theorem bG (ha:PE X a ta) (hb:PE X (.BoolOp .And (b::rest) pos) tb):PE X (.BoolOp .And (a::b::rest) pos) (uA ta tb):=by
 intro pins s σ H Q I h
 refine BoolOp_and (bZ (ha pins s σ H _ I h) λv s1 ⟨x,H1,I1,r1,q1⟩=>?_)
 obtain⟨c,rfl,q1⟩:=q1
 cases r1
 refine wpAny_truthy_bool ?_
 cases c with
 | true=>exact hb pins s1 σ H1 Q I1 q1
 | false=>exact⟨.bl false,H1,I1,rfl,q1⟩
theorem yz (ha:PE X a ta):PE X (.UnaryOp .Not a pos) (xA ta):=by
 intro pins s σ H Q I h
 refine UnaryOp_ (bZ (ha pins s σ H _ I h) λv s1 ⟨x,H1,I1,r1,q1⟩=>?_)
 obtain⟨c,rfl,q1⟩:=q1
 cases r1
 exact not_of (wpAny_truthy_bool ⟨.bl (!c),H1,I1,rfl,q1⟩)
def BB (t:TT) (ta tb:TE):TE:=λσ H Q=>t σ H λc H1=>if c=true then ta σ H1 Q else tb σ H1 Q
theorem ig {c:Expr} (hc:PT X c tA) (ha:PE X a ta) (hb:PE X b tb):PE X (.IfExp c a b pos) (BB tA ta tb):=by
 intro pins s σ H Q I h
 refine wpAny_IfExp (bZ (hc pins s σ H _ I h) λd s1 ⟨H1,I1,q1⟩=>?_)
 cases d with
 | true=>exact ha pins s1 σ H1 Q I1 q1
 | false=>exact hb pins s1 σ H1 Q I1 q1
end
def aV (K:PySem.W.Frag) (H:Hp) (a:Addr) (xs:List V):Prop :=
 Rd H a (.lst xs) ∨
  ∃(o:Obj) (its:Array Value) (n:Nat),K.lookup a=some o/\o.cls=.type "list"/\o.dict=none/\o.data=.seq its n/\its.size<=sizeLine/\Vals xs its.toList
def aJ (K:PySem.W.Frag) (H:Hp) (a:Addr) (xs:List V):Prop :=
 Rd H a (.tup xs) ∨
  ∃(o:Obj) (its:Array Value) (n:Nat),K.lookup a=some o/\o.cls=.type "tuple"/\o.data=.seq its n/\its.size<=sizeLine/\Vals xs its.toList
def AQ:Value->Option V
 | .none=>some .bw
 | .bool b=>some (.bl b)
 | .int i _=>some (.int i)
 | .str x _=>some (.str x)
 | .bytes b _=>some (.byt b)
 | .float b _=>some (.flt b)
 | .ref a=>some (.ref a)
 | .type n=>some (.ty n)
 | _=>none
theorem RelV.abs {x:V} {u:Value} (r:RelV x u):AQ u=some x:=by
 cases x with
 | bw=>cases r;rfl
 | bl _=>cases r;rfl
 | int _=>obtain⟨t,rfl⟩:=r;rfl
 | str _=>obtain⟨t,rfl⟩:=r;rfl
 | byt _=>obtain⟨t,rfl⟩:=r;rfl
 | flt _=>obtain⟨t,rfl⟩:=r;rfl
 | ref _=>cases r;rfl
 | ty _=>cases r;rfl
theorem RelV.inj {x y:V} {u:Value} (r:RelV x u) (q:RelV y u):x=y:=Option.some.inj (r.abs.symm.trans q.abs)
theorem Vals.inj:∀{xs ys:List V} {us:List Value},Vals xs us->Vals ys us->xs=ys
 | _,_,_,.nil,.nil=>rfl
 | _,_,_,.cons r t,.cons r' t'=>by rw [r.inj r',Vals.inj t t']
section
variable {X:Cx} {pins:List (Addr × Obj)} {σ:St} {H:Hp} {s:Shared} {a:Addr} {xs ys:List V}
theorem aV.of {K:PySem.W.Frag} (h:H a=some (.lst xs)):aV K H a xs:=.inl (.inl h)
theorem aJ.of {K:PySem.W.Frag} (h:H a=some (.tup xs)):aJ K H a xs:=.inl (.inl h)
theorem Inv.list (I:Inv X pins σ H s) (h:aV X.K H a xs):∃ its:List Value,Vals xs its/\PlainL s.heap a its.toArray/\xs.length<=sizeLine:=by
 rcases h with h | ⟨o,its,n,hk,hc,hd,hs,hz,r⟩
 ·obtain⟨z,its,n,r,e⟩:=h.ok I.hok
  exact⟨its,r,⟨_,n,e,rfl,rfl,rfl⟩,z⟩
 ·refine⟨its.toList,r,⟨o,n,I.hG a o hk,hc,hd,by simpa using hs⟩,?_⟩
  have e:=r.length
  simp only [Array.length_toList] at e
  omega
theorem Inv.tuple (I:Inv X pins σ H s) (h:aJ X.K H a xs):∃ its:List Value,Vals xs its/\IsTup s.heap a its.toArray/\xs.length<=sizeLine:=by
 rcases h with h | ⟨o,its,n,hk,hc,hs,hz,r⟩
 ·obtain⟨z,its,r,p⟩:=h.ok I.hok
  exact⟨its,r,p,z⟩
 ·refine⟨its.toList,r,⟨o,I.hG a o hk,hc,n,by simpa using hs⟩,?_⟩
  have e:=r.length
  simp only [Array.length_toList] at e
  omega
theorem Inv.mU (I:Inv X pins σ H s) (h:aV X.K H a xs) (h':aV X.K H a ys):xs=ys:=by
 obtain⟨its,r,⟨o,n,e,_,_,d⟩,_⟩:=I.list h
 obtain⟨its',r',⟨o',n',e',_,_,d'⟩,_⟩:=I.list h'
 rw [e] at e';cases e'
 rw [d] at d'
 injection d' with d1 _
 have:its=its':=by simpa using congrArg Array.toList d1
 subst this
 exact r.inj r'
theorem Inv.kT (I:Inv X pins σ H s) (h:aJ X.K H a xs) (h':aJ X.K H a ys):xs=ys:=by
 obtain⟨its,r,⟨o,e,_,n,d⟩,_⟩:=I.tuple h
 obtain⟨its',r',⟨o',e',_,n',d'⟩,_⟩:=I.tuple h'
 rw [e] at e';cases e'
 rw [d] at d'
 injection d' with d1 _
 have:its=its':=by simpa using congrArg Array.toList d1
 subst this
 exact r.inj r'
end
abbrev Cx.i9 (X:Cx) (E:Value->Shared->Prop):Cx:={ X with xe:=E }
abbrev Cx.nY (X:Cx):Cx:=X.i9 λ_ _=>False
theorem Cx.Ok.i9 {X:Cx} (ok:X.Ok) (E:Value->Shared->Prop):(X.i9 E).Ok :=
 ⟨ok.mod,ok.kind,ok.glob,ok.blt,ok.above,ok.inj,ok.has,ok.cab,ok.hd,ok.frames,ok.stk,ok.exf,ok.bs,ok.bsz,ok.noex,ok.exfs,ok.i4,ok.frf⟩
theorem Cx.Ok.eK {X:Cx} {E:Value->Shared->Prop} (ok:(X.i9 E).Ok):X.Ok :=
 ⟨ok.mod,ok.kind,ok.glob,ok.blt,ok.above,ok.inj,ok.has,ok.cab,ok.hd,ok.frames,ok.stk,ok.exf,ok.bs,ok.bsz,ok.noex,ok.exfs,ok.i4,ok.frf⟩
section
variable {X:Cx} {pins:List (Addr × Obj)} {σ:St} {H:Hp} {s:Shared} {E:Value->Shared->Prop}
theorem Inv.i9 (I:Inv X pins σ H s) (E:Value->Shared->Prop):Inv (X.i9 E) pins σ H s:=⟨I.ok.i9 E,I.os,I.bare,I.base,I.loc,I.cell,I.free,I.freeC,I.pin,I.hok,I.len⟩
theorem Inv.eK (I:Inv (X.i9 E) pins σ H s):Inv X pins σ H s:=⟨I.ok.eK,I.os,I.bare,I.base,I.loc,I.cell,I.free,I.freeC,I.pin,I.hok,I.len⟩
theorem SP.eK {D:Ends} {f:Flow} {s':Shared} (h:SP (X.i9 E) pins D f s'):SP X pins D f s':=by
 cases f with
 | next=>obtain⟨σ',H',I,q⟩:=h;exact⟨σ',H',I.eK,q⟩
 | brk=>obtain⟨σ',H',I,q⟩:=h;exact⟨σ',H',I.eK,q⟩
 | cont=>obtain⟨σ',H',I,q⟩:=h;exact⟨σ',H',I.eK,q⟩
 | ret u=>obtain⟨v,σ',H',I,r,q⟩:=h;exact⟨v,σ',H',I.eK,r,q⟩
theorem PE.nY {e:Expr} {t:TE} (h:PE X.nY e t):PE X e t:=λpins s σ H Q I hw =>
 wpAny_mono (h pins s σ H Q (I.i9 _) hw) (λ_ _ ⟨v,H',I',r,q⟩=>⟨v,H',I'.eK,r,q⟩) λ_ _ z=>False.elim z
theorem PT.nY {e:Expr} {t:TT} (h:PT X.nY e t):PT X e t:=λpins s σ H Q I hw =>
 wpAny_mono (h pins s σ H Q (I.i9 _) hw) (λ_ _ ⟨H',I',q⟩=>⟨H',I'.eK,q⟩) λ_ _ z=>False.elim z
theorem ja.nY {st:List Stmt} {t:TS} (h:ja X.nY st t):ja X st t:=λpins s σ H D I hw =>
 wpAny_mono (h pins s σ H D (I.i9 _) hw) (λ_ _ q=>q.eK) λ_ _ z=>False.elim z
end
section
variable {X:Cx} {st:Stmt} {rest:List Stmt} {t u:TS} {e:Expr} {te:TE} {pos:Pos}
def xy:TS:=λD σ H=>D.nx σ H
def cf (t u:TS):TS:=λD σ H=>t { D with nx:=u D } σ H
theorem aD:ja X [] xy:=λ_ _ σ H _ I h=>wpAny_execs_nil ⟨σ,H,I,h⟩
theorem ag (h1:PS X st t) (h2:ja X rest u):ja X (st::rest) (cf t u):=by
 intro pins s σ H D I h
 refine wpAny_execs_cons (bZ (h1 pins s σ H { D with nx:=u D } I h) λf s1 q=>?_)
 cases f with
 | next =>
  obtain⟨σ',H',I',q⟩:=q
  exact h2 pins s1 σ' H' D I' q
 | ret v=>exact q
 | brk=>exact q
 | cont=>exact q
theorem aj (h1:PS X st t):ja X [st] t:=by
 intro pins s σ H D I h
 refine wpAny_execs_cons (bZ (h1 pins s σ H D I h) λf s1 q=>?_)
 cases f with
 | next=>exact wpAny_execs_nil q
 | ret v=>exact q
 | brk=>exact q
 | cont=>exact q
theorem Inv.quiet {pins:List (Addr × Obj)} {σ:St} {H:Hp} {s:Shared} (I:Inv X pins σ H s):interactive X.env=false:=by simp [interactive,I.ok.kind]
def xw (te:TE):TS:=λD σ H=>te σ H λ_ H1=>D.nx σ H1
theorem gi (he:PE X e te) (hs:swapsWith e none pos.line X.env=pure false:=by rfl):PS X (.Expr e pos) (xw te):=by
 intro pins s σ H D I h
 exact wpAny_Expr_any (bZ (he pins s σ H _ I h) λv s1 ⟨x,H1,I1,r1,q1⟩=>⟨σ,H1,I1,q1⟩) I.quiet hs
def iC (te:TE):TS:=λD σ H=>te σ H D.rt
theorem aB (he:PE X e te):PS X (.Return (some e) pos) (iC te):=by
 intro pins s σ H D I h
 exact wpAny_Return_some (bZ (he pins s σ H _ I h) λv s1 ⟨x,H1,I1,r1,q1⟩=>⟨x,σ,H1,I1,r1,q1⟩)
def Am:TS:=λD _ H=>D.rt .bw H
def Af (c:TT) (t u:TS):TS:=λD σ H=>c σ H λb H1=>if b=true then t D σ H1 else u D σ H1
theorem aP {c:Expr} {a b:List Stmt} {tc:TT} (hc:PT X c tc) (ha:ja X a t) (hb:ja X b u):PS X (.If c a b pos) (Af tc t u):=by
 intro pins s σ H D I h
 refine wpAny_If (bZ (hc pins s σ H _ I h) λd s1 ⟨H1,I1,q1⟩=>?_)
 cases d with
 | true=>exact ha pins s1 σ H1 D I1 q1
 | false=>exact hb pins s1 σ H1 D I1 q1
end
abbrev TG:=V->St->Hp->(St->Hp->Prop)->Prop
abbrev wF:=List V->St->Hp->(St->Hp->Prop)->Prop
def PG (X:Cx) (target:Expr) (t:TG):Prop :=
 ∀(pins:List (Addr × Obj)) (s:Shared) (σ:St) (H:Hp) (v:V) (u:Value) (Q:St->Hp->Prop),Inv X pins σ H s->RelV v u->t v σ H Q ->
  wpAny (model X.prog X.w) X.A (assign target X.env u) (λ_ s'=>∃ σ' H',Inv X pins σ' H' s'/\Q σ' H') X.xe s
def zx (X:Cx) (ts:List Expr) (t:wF):Prop :=
 ∀(pins:List (Addr × Obj)) (s:Shared) (σ:St) (H:Hp) (vs:List V) (us:List Value) (Q:St->Hp->Prop),Inv X pins σ H s->Vals vs us->t vs σ H Q ->
  wpAny (model X.prog X.w) X.A (assignInOrder ((assignEach ts X.env).map (·.2)) us) (λ_ s'=>∃ σ' H',Inv X pins σ' H' s'/\Q σ' H') X.xe s
abbrev AM:=V->V->V->Hp->(Hp->Prop)->Prop
abbrev AL:=V->V->Hp->VK->Prop
def Bt (X:Cx) (op:Operator) (t:AL):Prop :=
 ∀(pins:List (Addr × Obj)) (s:Shared) (σ:St) (H:Hp) (x y:V) (v u:Value) (Q:VK),Inv X pins σ H s->RelV x v->RelV y u->t x y H Q ->
  wpAny (model X.prog X.w) X.A (inplaceOp op v u) (EP X pins σ Q) X.xe s
section
variable {X:Cx} {pos:Pos}
def eT (i:Nat):TG:=λv σ H Q=>Q (σ.set i (some v)) H
theorem aH {i:Nat} {x:Str} (hN:X.N.Nodup) (hi:X.N[i]?=some x) (hx:Loc X.env.scope x) (hf:X.fn x=true∨X.env.scope.names.lookup x=some .local:=by first | exact .inl rfl | exact .inr rfl | assumption):PG X (.Name x pos) (eT i):=by
 intro pins s σ H v u Q I r h
 exact wpAny_assign_Name (dG I hN hi hx r (λs' I'=>⟨_,H,I',h⟩) hf)
def xX:wF:=λvs σ H Q=>vs=[]/\Q σ H
def pY (t:TG) (u:wF):wF:=λvs σ H Q=>∃ v r,vs=v::r/\t v σ H λσ' H'=>u r σ' H' Q
theorem cG:zx X [] xX:=by
 intro pins s σ H vs us Q I r h
 obtain⟨e,h⟩:=h
 subst e
 cases r
 exact assignInOrder_nil ⟨σ,H,I,h⟩
theorem aI {e:Expr} {es:List Expr} {t:TG} {u:wF} (h1:PG X e t) (h2:zx X es u)
  (hs:(assignEach (e::es) X.env).map (·.2)=assign e X.env::(assignEach es X.env).map (·.2):=by rfl):zx X (e::es) (pY t u):=by
 intro pins s σ H vs us Q I r h
 obtain⟨v,vr,e1,h⟩:=h
 subst e1
 cases r with
 | cons r rr =>
  rw [hs]
  refine assignInOrder_cons (bZ (h1 pins s σ H _ _ _ I r h) λ_ s1 ⟨σ1,H1,I1,q1⟩=>?_)
  exact h2 pins s1 σ1 H1 _ _ Q I1 rr q1
def qW (K:PySem.W.Frag) (n:Nat) (t:wF):TG:=λv σ H Q=>∃ a xs,v=.ref a/\aJ K H a xs/\xs.length=n/\t xs σ H Q
theorem dN {es:List Expr} {k:Nat} {t:wF} {n:Nat} (hc:X.calm=true) (h:zx X es t)
  (hn:(assignEach es X.env).length=n:=by rfl) (hst:(assignEach es X.env).findIdx? (·.1)=none:=by rfl):PG X (.Tuple es k pos) (qW X.K n t):=by
 intro pins s σ H v u Q I r hw
 obtain⟨a,xs,e1,hq,hl,hw⟩:=hw
 subst e1
 cases r
 obtain⟨its,rv,ht,hz⟩:=I.tuple hq
 refine assign_Tuple_tuple (I.ok.hd hc) ht (by simp [hn,<- hl,rv.length]) hst λh' hx=>?_
 have I1:Inv X pins σ H { s with heap:=h' }:=I.kept (t':=s.toks) λb o e=>hx b o (Nat.ne_of_lt (Heap.lt_size e)) e
 exact h pins _ σ H xs _ Q I1 (by simpa using rv) hw
def AS (to ti:TE) (t:AM):TG:=λv σ H Q=>to σ H λo H1=>ti σ H1 λi H2=>t o i v H2 λH3=>Q σ H3
def wq (te:TE) (g:TG):TS:=λD σ H=>te σ H λx H1=>g x σ H1 D.nx
theorem dZ {tg e:Expr} {te:TE} {g:TG} (he:PE X e te) (hg:PG X tg g) (hs:swapsWithSole [tg] e pos.line X.env=pure false:=by rfl) (hw:swappedStores [tg] e X.env=pure none:=by rfl)
  (h1:(assignEach [tg] X.env).map (·.2)=[assign tg X.env]:=by rfl):PS X (.Assign [tg] e pos) (wq te g):=by
 intro pins s σ H D I h
 refine wpAny_Assign_stores (bZ (he pins s σ H _ I h) λv s1 ⟨x,H1,I1,r1,q1⟩=>?_) hs hw
 rw [h1]
 exact bZ (hg pins s1 σ H1 x v _ I1 r1 q1) λ_ s2 q=>q
theorem bT {i:Nat} {x:Str} {e:Expr} {te:TE} {pos':Pos} (hN:X.N.Nodup) (hi:X.N[i]?=some x) (hx:Loc X.env.scope x) (he:PE X e te) (hs:swapsWith e (some (.Name x pos')) pos.line X.env=pure false:=by rfl) (hf:X.fn x=true∨X.env.scope.names.lookup x=some .local:=by first | exact .inl rfl | exact .inr rfl | assumption) :
  PS X (.Assign [.Name x pos'] e pos) (wq te (eT i)):=by
 intro pins s σ H D I h
 refine wpAny_Assign_Name (bZ (he pins s σ H _ I h) λv s1 ⟨y,H1,I1,r1,q1⟩=>?_) hs
 exact dG I1 hN hi hx r1 (λs2 I2=>⟨_,H1,I2,q1⟩) hf
def Ak (i j:Nat) (ta:TA):TS:=λD σ H=>ta σ H λvs H1=>∃ v w,vs=[v,w]/\D.nx ((σ.set i (some v)).set j (some w)) H1
theorem ph {i j:Nat} {x y:Str} {a b:Expr} {ta:TA} {px py pt:Pos} {kt k2 pt2} (hc:X.calm=true) (hN:X.N.Nodup) (hi:X.N[i]?=some x) (hj:X.N[j]?=some y) (hij:i≠j)
  (hx:X.env.scope.names.lookup x=some .local) (hy:X.env.scope.names.lookup y=some .local) (ha:PA X [a,b] ta)
  (hw:swappedStores [.Tuple [.Name x px,.Name y py] kt pt] (.Tuple [a,b] k2 pt2) X.env=pure (some [x,y]))
  (hs:swapsWithSole [.Tuple [.Name x px,.Name y py] kt pt] (.Tuple [a,b] k2 pt2) pos.line X.env=pure false:=by rfl) :
  PS X (.Assign [.Tuple [.Name x px,.Name y py] kt pt] (.Tuple [a,b] k2 pt2) pos) (Ak i j ta):=by
 intro pins s σ H D I h
 rw [exec_Assign_arm]
 refine wpAny_bind (wpAny_standAt ?_)
 rw [hs]
 refine wpAny_bind (wpAny_pure ?_)
 rw [if_neg (by decide)]
 refine wpAny_bind (Tuple_ (bZ (ha _ pins s σ H _ I h) λus s1 ⟨vs,H1,I1,r1,q1⟩=>?_))
 obtain⟨v,w,e1,q1⟩:=q1
 subst e1
 obtain⟨u1,u2,rfl,rv,rw'⟩:∃ u1 u2,us=[u1,u2]/\RelV v u1/\RelV w u2:=by
  cases r1 with
  | cons p q =>
   cases q with
   | cons p' q' =>
    cases q'
    exact⟨_,_,rfl,p,p'⟩
 refine wpAny_newObj_type ?_ (by show 2<=sizeLine;decide)
 have I2:Inv X pins σ H1 { s1 with heap:=s1.heap.push { cls:=.type "tuple",data:=.seq [u1,u2].toArray } }:=I1.kept (t':=s1.toks) λb o e=>Heap.get?_push_of_some _ e
 rw [hw]
 refine wpAny_bind (wpAny_pure ?_)
 show wpAny (model X.prog X.w) X.A (do rule "assign.swapped-stores";let items <- unpackItems (.ref s1.heap.objs.size) 2 none;assignInOrder [λv=>bindName X.env y v,λv=>bindName X.env x v] items.reverse;pure Flow.next) _ _ _
 refine wpAny_bind (wpAny_rule (wpAny_bind (unpackItems_tuple (items:=#[u1,u2]) (I.ok.hd hc) (IsTup.new s1.heap _) λh' hx'=>?_)))
 have I3:=I2.kept (h':=h') (t':=s1.toks) λb o e=>hx' b o (Nat.ne_of_lt (Heap.lt_size e)) e
 show wpAny _ _ (assignInOrder [λv=>bindName X.env y v,λv=>bindName X.env x v] [u2,u1] >>= λ_=>pure Flow.next) _ _ _
 refine wpAny_bind (assignInOrder_cons (wpAny_bindName (dG I3 hN hj (.inl hy) rw' (λs2 I4=>?_) (.inr hy))))
 refine assignInOrder_cons (wpAny_bindName (dG I4 hN hi (.inl hx) rv (λs3 I5=>assignInOrder_nil (wpAny_pure ?_)) (.inr hx)))
 rw [List.set_comm _ _ (Ne.symm hij)] at I5
 exact⟨_,H1,I5,q1⟩
def Ac (i:Nat) (te:TE) (ti:AL):TS:=λD σ H=>∃ x,σ[i]?=some (some x)/\te σ H λy H1=>ti x y H1 λz H2=>D.nx (σ.set i (some z)) H2
theorem fw {i:Nat} {x:Str} {e:Expr} {te:TE} {op:Operator} {ti:AL} {pos':Pos} (hN:X.N.Nodup) (hi:X.N[i]?=some x) (hx:Loc X.env.scope x) (he:PE X e te) (ho:Bt X op ti) (hf:X.fn x=true∨X.env.scope.names.lookup x=some .local:=by first | exact .inl rfl | exact .inr rfl | assumption) :
  PS X (.AugAssign (.Name x pos') op e pos) (Ac i te ti):=by
 intro pins s σ H D I h
 obtain⟨v,e1,h⟩:=h
 obtain⟨m,hn,hl⟩:=I.loc
 have vis:y7 X.env.scope x:=by rcases hx with k | k;exact .inl k;exact .inr (.inl k)
 obtain⟨u,r,l⟩:=hl i x v hi e1 vis
 refine wpAny_AugAssign_Name ?_
 have go:wpAny (model X.prog X.w) X.A (eval e X.env) (λw s₂=>wpAny (model X.prog X.w) X.A (inplaceOp op u w) (λr s₃=>wpAny (model X.prog X.w) X.A (storeName X.env x r) (λ_=>SP X pins D .next) X.xe s₃) X.xe s₂) X.xe s:=by
  refine bZ (he pins s σ H _ I h) λw s1 ⟨y,H1,I1,r1,q1⟩=>?_
  refine bZ (ho pins s1 σ H1 v y u w _ I1 r r1 q1) λz s2 ⟨zv,H2,I2,r2,q2⟩=>?_
  exact dG I2 hN hi hx r2 (λs3 I3=>⟨_,H2,I3,q2⟩) hf
 rcases l with⟨hk,hm⟩|⟨hk,c,hc,hcell⟩
 ·exact wpAny_loadName_local I.ok.kind hk hn hm go
 ·rcases hk with hk | hk
  ·exact wpAny_loadName_cell I.ok.kind hk hc hcell go
  ·rcases hx with k | k
   ·have:X.env.scope.names.lookup x=some .free:=hk
    rw [k] at this;cases this
   ·have:X.env.scope.names.lookup x=some .free:=hk
    rw [k] at this;cases this
end
section
variable {X:Cx} {pos:Pos}
def uD (c:TT) (tb:TS):TS:=λD σ H=>∃ W:Nat->St->Hp->Prop,(∃ m,W m σ H)/\∀ m σ H,W m σ H ->
 c σ H λb H1=>if b=true then ∃ N:St->Hp->Prop,(∀ σ' H',N σ' H'->∃ m',m'<m/\W m' σ' H')/\tb { D with nx:=N,ct:=N,bk:=D.nx } σ H1 else D.nx σ H1
theorem bE {c:Expr} {body:List Stmt} {tc:TT} {tb:TS} (hp:PassesOwn (model X.prog X.w) X.A X.env X.xe) (hc:PT X c tc) (hb:ja X body tb):PS X (.While c body [] pos) (uD tc tb):=by
 intro pins s σ H D I h
 obtain⟨W,⟨m0,w0⟩,turn⟩:=h
 refine wpAny_While (codeAny_whileLoop (λn s'=>∃ σ' H',Inv X pins σ' H' s'/\W n σ' H') ?_ m0 ⟨σ,H,I,w0⟩)
 rintro n s1 ⟨σ1,H1,I1,w1⟩
 refine wpAny_passesOwn hp (bZ (hc pins s1 σ1 H1 _ I1 (turn n σ1 H1 w1)) λb s2 ⟨H2,I2,q2⟩=>?_)
 cases b with
 | true =>
  obtain⟨N,hN,q2⟩:=q2
  rw [if_pos rfl]
  refine wpAny_passesOwn hp (bZ (hb pins s2 σ1 H2 _ I2 q2) λf s3 q3=>?_)
  cases f with
  | next =>
   obtain⟨σ3,H3,I3,n3⟩:=q3
   obtain⟨m',hm,w3⟩:=hN σ3 H3 n3
   exact⟨m',hm,σ3,H3,I3,w3⟩
  | cont =>
   obtain⟨σ3,H3,I3,n3⟩:=q3
   obtain⟨m',hm,w3⟩:=hN σ3 H3 n3
   exact⟨m',hm,σ3,H3,I3,w3⟩
  | brk=>exact q3
  | ret v=>exact q3
 | false =>
  rw [if_neg Bool.false_ne_true]
  exact wpAny_execs_nil ⟨σ1,H2,I2,q2⟩
end
structure It where
 go:Nat->Hp->Prop
 yld:Nat->Hp->V->Hp->Prop
 stop:Nat->Hp->Prop
def kW (X:Cx) (pins:List (Addr × Obj)) (H:Hp) (b:Addr):Prop :=
 H b=none/\b≠X.env.locals/\b∉X.fs/\(b∈X.ex∨X.s₀.heap.objs.size<=b)/\(∀ x c,X.env.cells.lookup x=some c->c≠b)/\∀ p∈X.pn++pins,p.1≠b
theorem Inv.sQ {X:Cx} {pins:List (Addr × Obj)} {σ:St} {H H':Hp} {s:Shared} {b:Addr} (I:Inv X pins σ H s) (hb:s.heap.objs.size<=b) (hn:H' b=none):kW X pins H' b:=by
 refine⟨hn,Nat.ne_of_gt (Nat.lt_of_lt_of_le I.lt hb),I.yg hb,.inr (Nat.le_trans I.sz hb),λx c e z=>?_,λp hp z=>?_⟩
 ·obtain⟨v,q⟩:=I.cell x c e
  exact absurd (Nat.lt_of_lt_of_le q.lt (by rw [z];exact hb)) (Nat.lt_irrefl _)
 ·exact absurd (Nat.lt_of_lt_of_le (Heap.lt_size (I.pin p hp).1) (by rw [z];exact hb)) (Nat.lt_irrefl _)
structure Turn (P:Program) (w:World) (K:PySem.W.Frag) (tg:Expr) (J:It) (fp:List Addr) (it:Addr) (tn:Nat->Heap->Prop):Prop where
 mem:it∈fp
 obj:∀ i h,tn i h->∀ b∈fp,∃ o,h.get? b=some o/\∀ v,o.data≠.cell v
 keep:∀ i h h',tn i h->(∀ b∈fp,∀ o,h.get? b=some o->h'.get? b=some o)->tn i h'
 item:∀(X:Cx),X.prog=P->X.w=w->X.K=K->X.calm=true->∀(i:Nat) (pins:List (Addr × Obj)) (s:Shared) (σ:St) (H:Hp) (E:Value->Shared->Prop),Inv X pins σ H s->(∀ b∈fp,kW X pins H b)->tn i s.heap->J.go i H ->
  wpAny (model P w) X.A (pyNext (.ref it)) (λr s1=>∃ u,r=some u /\
   wpAny (model P w) X.A (letOwnedTupleGo tg (.ref it) u) (λ_ s2=>∃ x H',Inv X pins σ H' s2/\RelV x u/\J.yld i H x H'/\tn (i+1) s2.heap/\∀ b∈fp,H' b=none) E s1) E s
 done:∀(X:Cx),X.prog=P->X.w=w->X.K=K->X.calm=true->∀(i:Nat) (pins:List (Addr × Obj)) (s:Shared) (σ:St) (H:Hp) (E:Value->Shared->Prop),Inv X pins σ H s->(∀ b∈fp,kW X pins H b)->tn i s.heap->J.stop i H ->
  wpAny (model P w) X.A (pyNext (.ref it)) (λr s1=>r=none/\Inv X pins σ H s1) E s
 self:∀(A:Around) (i:Nat) (s:Shared) (Q:Value->Shared->Prop) (E:Value->Shared->Prop),tn i s.heap->Q (.ref it) s->wpAny (model P w) A (pyIter (.ref it)) Q E s
abbrev TI:=St->Hp->(It->Hp->Prop)->Prop
def Av (X:Cx) (pins:List (Addr × Obj)) (σ:St) (tg:Expr) (R:It->Hp->Prop) (itv:Value) (s2:Shared):Prop :=
 ∃(it:Addr) (fp:List Addr) (tn:Nat->Heap->Prop) (J:It) (H':Hp),itv=.ref it/\Inv X pins σ H' s2/\Turn X.prog X.w X.K tg J fp it tn/\tn 0 s2.heap/\(∀ b∈fp,kW X pins H' b)/\R J H'
def PI (X:Cx) (tg iter:Expr) (wi:TI):Prop :=
 ∀(pins:List (Addr × Obj)) (s:Shared) (σ:St) (H:Hp) (R:It->Hp->Prop),Inv X pins σ H s->wi σ H R ->
  wpAny (model X.prog X.w) X.A (eval iter X.env) (λv s1=>wpAny (model X.prog X.w) X.A (pyIter v) (Av X pins σ tg R) X.xe s1) X.xe s
theorem sS {M:Model} {A:Around} {E:Value->Shared->Prop} {s:Shared} {tg:Expr} {it:Addr} {u:Value} {o:Obj} {n:String} {vs:Array Value} {Q:Unit->Shared->Prop} (ho:s.heap.get? it=some o) (hc:o.cls=.type n) (hd:o.data=.fields vs)
    (hn:["enumerate","zip","dict_itemiterator","dict_reverseitemiterator","odict_iterator","itertools.zip_longest","itertools.pairwise"].contains n=false) (hQ:Q () s):wpAny M A (letOwnedTupleGo tg (.ref it) u) Q E s:=by
  unfold letOwnedTupleGo
  cases tg<;>first
    | exact wpAny_pure hQ
    | (cases u<;>first
        | exact wpAny_pure hQ
        | (refine wpAny_bind (wpAny_load ho ?_)
           rw [hc,hd]
           show wpAny M A (if (["enumerate","zip","dict_itemiterator","dict_reverseitemiterator","odict_iterator","itertools.zip_longest","itertools.pairwise"].contains n && vs[0]?==some (rawInt _))=true then _ else _) Q E s
           rw [if_neg (by intro h;rw [hn,Bool.false_and] at h;cases h)]
           exact wpAny_pure hQ))
def AH (K:PySem.W.Frag) (a:Addr):It :=
 ⟨λi H=>∃ xs x,aV K H a xs/\xs[i]?=some x,λi H x H'=>H'=H/\∀ xs,aV K H a xs->xs[i]?=some x,λi H=>∃ xs,aV K H a xs/\xs.length<=i⟩
def xH (K:PySem.W.Frag) (a:Addr):It :=
 ⟨λi H=>∃ xs x,aJ K H a xs/\xs[i]?=some x,λi H x H'=>H'=H/\∀ xs,aJ K H a xs->xs[i]?=some x,λi H=>∃ xs,aJ K H a xs/\xs.length<=i⟩
def wC (lo:Int) (n:Nat):It:=⟨λi _=>i<n,λi H x H'=>H'=H/\x=.int (lo+i),λi _=>n<=i⟩
theorem rV {P:Program} {w:World} {K:PySem.W.Frag} {tg:Expr} (a it:Addr):Turn P w K tg (AH K a) [it] it (λi h=>h.IsListIter it a i) where
 mem:=by simp
 obj:=λi h st b hb=>by
  have e:b=it:=by simpa using hb
  subst e
  obtain⟨o,e,c,d⟩:=st
  exact⟨o,e,λv z=>by rw [d] at z;cases z⟩
 keep:=λi h h' st k=>st.at λo e=>k it (by simp) o e
 item:=by
  intro X hP hw hK hc i pins s σ H E I hf st hg
  subst hP hw hK
  obtain⟨xs,x,hq,hx⟩:=hg
  obtain⟨its,rv,p,hz⟩:=I.list hq
  obtain⟨u,hu,ru⟩:=rv.get hx
  obtain⟨f0,f1,f2,f3,f4,f5⟩:=hf it (by simp)
  refine wpAny_pyNext_list_item st p.isList (x:=u) (by simpa using hu) λh' st' sb=>?_
  have I1:Inv X pins σ H { s with heap:=h' }:=I.turned (t':=s.toks) (λb o hb e=>(sb.2 b hb).trans e) f0 f1 f3 f4 f5
  obtain⟨o,e,c,d⟩:=id st'
  exact⟨u,rfl,sS (s:={ s with heap:=h' }) e c d (by decide) ⟨x,H,I1,ru,⟨rfl,λys hy=>by rw [I.mU hy hq];exact hx⟩,st',λb hb=>(hf b hb).1⟩⟩
 done:=by
  intro X hP hw hK hc i pins s σ H E I hf st hg
  subst hP hw hK
  obtain⟨xs,hq,hx⟩:=hg
  obtain⟨its,rv,p,hz⟩:=I.list hq
  obtain⟨f0,f1,f2,f3,f4,f5⟩:=hf it (by simp)
  have hl:=rv.length
  exact wpAny_pyNext_list_end (I.ok.hd hc) st p.isList (by simp;omega) λh' eb=>⟨rfl,I.turned (t':=s.toks) (λb o hb e=>eb b o hb e) f0 f1 f3 f4 f5⟩
 self:=λ_ _ _ _ _ st h=>wpAny_pyIter_listiter st h
theorem pK {P:Program} {w:World} {K:PySem.W.Frag} {tg:Expr} (a it:Addr):Turn P w K tg (xH K a) [it] it (λi h=>h.IsTupleIter it a i) where
 mem:=by simp
 obj:=λi h st b hb=>by
  have e:b=it:=by simpa using hb
  subst e
  obtain⟨o,e,c,d⟩:=st
  exact⟨o,e,λv z=>by rw [d] at z;cases z⟩
 keep:=λi h h' st k=>st.at λo e=>k it (by simp) o e
 item:=by
  intro X hP hw hK hc i pins s σ H E I hf st hg
  subst hP hw hK
  obtain⟨xs,x,hq,hx⟩:=hg
  obtain⟨its,rv,p,hz⟩:=I.tuple hq
  obtain⟨u,hu,ru⟩:=rv.get hx
  obtain⟨f0,f1,f2,f3,f4,f5⟩:=hf it (by simp)
  refine wpAny_pyNext_tuple_item st (show s.heap.IsTuple a its.toArray from p) (x:=u) (by simpa using hu) λh' st' sb=>?_
  have I1:Inv X pins σ H { s with heap:=h' }:=I.turned (t':=s.toks) (λb o hb e=>(sb.2 b hb).trans e) f0 f1 f3 f4 f5
  obtain⟨o,e,c,d⟩:=id st'
  exact⟨u,rfl,sS (s:={ s with heap:=h' }) e c d (by decide) ⟨x,H,I1,ru,⟨rfl,λys hy=>by rw [I.kT hy hq];exact hx⟩,st',λb hb=>(hf b hb).1⟩⟩
 done:=by
  intro X hP hw hK hc i pins s σ H E I hf st hg
  subst hP hw hK
  obtain⟨xs,hq,hx⟩:=hg
  obtain⟨its,rv,p,hz⟩:=I.tuple hq
  obtain⟨f0,f1,f2,f3,f4,f5⟩:=hf it (by simp)
  have hl:=rv.length
  exact wpAny_pyNext_tuple_end (I.ok.hd hc) st (show s.heap.IsTuple a its.toArray from p) (by simp;omega) λh' eb=>⟨rfl,I.turned (t':=s.toks) (λb o hb e=>eb b o hb e) f0 f1 f3 f4 f5⟩
 self:=λ_ _ _ _ _ st h=>wpAny_pyIter_tupleiter st h
theorem pJ {P:Program} {w:World} {K:PySem.W.Frag} {tg:Expr} (it:Addr) (lo:Int) (n:Nat):Turn P w K tg (wC lo n) [it] it (λi h=>IsRangeIter h it (lo+(i:Nat)*1) ((n:Int)-(i:Nat)) 1) where
 mem:=by simp
 obj:=λi h st b hb=>by
  have e:b=it:=by simpa using hb
  subst e
  exact⟨_,st,λv z=>by
   have z':Data.fields _=Data.cell v:=z
   cases z'⟩
 keep:=λi h h' st k=>k it (by simp) _ st
 item:=by
  intro X hP hw hK hc i pins s σ H E I hf st hg
  subst hP hw hK
  obtain⟨f0,f1,f2,f3,f4,f5⟩:=hf it (by simp)
  have W:=Walks.range (prog:=X.prog) (w:=X.w) (I.ok.hd hc) it lo 1 n
  refine W.item i s _ _ hg st λv h' tk hv st' kk=>?_
  obtain⟨t,rfl⟩:=hv
  have I1:Inv X pins σ H { s with heap:=h',toks:=tk }:=I.turned (λb o hb e=>kk b o (by simpa using hb) e) f0 f1 f3 f4 f5
  refine⟨_,rfl,sS (s:={ s with heap:=h',toks:=tk }) (n := "range_iterator") st' rfl rfl (by decide) ⟨.int (lo+i),H,I1,⟨t,?_⟩,⟨rfl,rfl⟩,st',λb hb=>(hf b hb).1⟩⟩
  rw [Int.mul_one]
 done:=by
  intro X hP hw hK hc i pins s σ H E I hf st hg
  subst hP hw hK
  obtain⟨f0,f1,f2,f3,f4,f5⟩:=hf it (by simp)
  exact wpAny_pyNext_range_end (I.ok.hd hc) st (by have:n<=i:=hg;omega) λh' eb=>⟨rfl,I.turned (t':=s.toks) (λb o hb e=>eb b o hb e) f0 f1 f3 f4 f5⟩
 self:=λ_ _ _ _ _ st h=>wpAny_pyIter_rangeiter st h
section
variable {X:Cx} {tg:Expr}
def wR (K:PySem.W.Frag) (tl:TE):TI:=λσ H R=>tl σ H λx H1=>∃ a,x=.ref a/\(∃ xs,aV K H1 a xs)/\R (AH K a) H1
def zI (K:PySem.W.Frag) (tl:TE):TI:=λσ H R=>tl σ H λx H1=>∃ a,x=.ref a/\(∃ xs,aJ K H1 a xs)/\R (xH K a) H1
theorem gh {l:Expr} {tl:TE} (hl:PE X l tl):PI X tg l (wR X.K tl):=by
 intro pins s σ H R I h
 refine bZ (hl pins s σ H _ I h) λv s1 ⟨x,H1,I1,r1,q1⟩=>?_
 obtain⟨a,e,⟨xs,hq⟩,q⟩:=q1
 subst e
 cases r1
 obtain⟨its,rv,p,hz⟩:=I1.list hq
 refine wpAny_pyIter_list p.isList ?_
 refine⟨s1.heap.objs.size,[s1.heap.objs.size],_,_,H1,rfl,I1.kept (t':=s1.toks) λb o e=>Heap.get?_push_of_some _ e,rV a _,⟨_,Heap.get?_push_size _ rfl,rfl,rfl⟩,λb hb=>?_,q⟩
 have e:b=s1.heap.objs.size:=by simpa using hb
 subst e
 exact I1.sQ (Nat.le_refl _) (I1.hok.fresh (Nat.le_refl _))
theorem oX {l:Expr} {tl:TE} (hl:PE X l tl):PI X tg l (zI X.K tl):=by
 intro pins s σ H R I h
 refine bZ (hl pins s σ H _ I h) λv s1 ⟨x,H1,I1,r1,q1⟩=>?_
 obtain⟨a,e,⟨xs,hq⟩,q⟩:=q1
 subst e
 cases r1
 obtain⟨its,rv,p,hz⟩:=I1.tuple hq
 refine wpAny_pyIter_tuple (show s1.heap.IsTuple a its.toArray from p) ?_
 refine⟨s1.heap.objs.size,[s1.heap.objs.size],_,_,H1,rfl,I1.kept (t':=s1.toks) λb o e=>Heap.get?_push_of_some _ e,pK a _,⟨_,Heap.get?_push_size _ rfl,rfl,rfl⟩,λb hb=>?_,q⟩
 have e:b=s1.heap.objs.size:=by simpa using hb
 subst e
 exact I1.sQ (Nat.le_refl _) (I1.hok.fresh (Nat.le_refl _))
theorem ug {pins:List (Addr × Obj)} {σ:St} {H:Hp} {s:Shared} {R:It->Hp->Prop} {E:Value->Shared->Prop} {lo hi:Int} {t u v:Tok} {tk:Nat} (I:Inv X pins σ H s) (h1:-(2^62)<=lo) (h2:lo<2^62) (h3:-(2^62)<=hi) (h4:hi<2^62)
  (q:R (wC lo (hi-lo).toNat) H):wpAny (model X.prog X.w) X.A (pyIter (.ref s.heap.objs.size)) (Av X pins σ tg R) E { s with heap:=s.heap.push { cls:=.type "range",data:=.fields #[.int lo t,.int hi u,.int 1 v] },toks:=tk }:=by
 refine wpAny_pyIter_range (IsRange.new ..) (small_one h1 h2 h3 h4) ?_
 have I1:Inv X pins σ H { s with heap:=s.heap.push { cls:=.type "range",data:=.fields #[.int lo t,.int hi u,.int 1 v] },toks:=tk }:=I.kept λb o e=>Heap.get?_push_of_some _ e
 refine⟨(s.heap.push { cls:=.type "range",data:=.fields #[.int lo t,.int hi u,.int 1 v] }).objs.size,[(s.heap.push { cls:=.type "range",data:=.fields #[.int lo t,.int hi u,.int 1 v] }).objs.size],_,_,H,rfl,
  I1.kept (t':=tk) λb o e=>Heap.get?_push_of_some _ e,pJ _ lo (hi-lo).toNat,?_,λb hb=>?_,q⟩
 ·have e1:lo+((0:Nat):Int)*1=lo:=by simp
  have e2:(((hi-lo).toNat:Nat):Int)-((0:Nat):Int)=Builtin.Range.rangeSize lo hi 1:=by rw [rangeSize_one];split<;>omega
  show IsRangeIter _ _ (lo+((0:Nat):Int)*1) ((((hi-lo).toNat:Nat):Int)-((0:Nat):Int)) 1
  rw [e1,e2]
  exact Heap.get?_push_size _ rfl
 ·have e:b=(s.heap.push { cls:=.type "range",data:=.fields #[.int lo t,.int hi u,.int 1 v] }).objs.size:=by simpa using hb
  subst e
  exact I1.sQ (Nat.le_refl _) (I1.hok.fresh (Nat.le_refl _))
def wU (ta:TA):TI:=λσ H R=>ta σ H λvs H1=>∃ j:Int,vs=[.int j] /\ -(2^62)<=j/\j<2^62/\R (wC 0 j.toNat) H1
def zG (ta:TA):TI:=λσ H R=>ta σ H λvs H1=>∃ i j:Int,vs=[.int i,.int j]/\(-(2^62)<=i/\i<2^62 /\ -(2^62)<=j/\j<2^62)/\R (wC i (j-i).toNat) H1
theorem rL {a:Expr} {ta:TA} {p pos:Pos} (hg:Gl X "range") (hm:X.mg "range"=none) (ha:PA X [a] ta) (hs:starEach [a] X.env=[(false,eval a X.env)]:=by rfl):PI X tg (.Call (.Name "range" p) [a] [] pos) (wU ta):=by
 intro pins s σ H R I h
 refine Call_ (jA I hg hm boot_range (PyProof.Rows.callWith_type1 (bZ (ha pos pins s σ H _ I h) λus s1 ⟨vs,H1,I1,r1,q1⟩=>?_) hs rfl))
 obtain⟨j,e,q1,q2,q⟩:=q1
 subst e
 cases r1 with
 | cons r rr =>
  cases rr
  obtain⟨t,rfl⟩:=r
  exact call_range_1 (ug I1 (by omega) (by omega) q1 q2 (by simpa using q))
def Ae (wi:TI) (g:TG) (tb:TS):TS:=λD σ H=>wi σ H λJ H1=>∃ W:Nat->Nat->St->Hp->Prop,(∃ m,W 0 m σ H1)/\∀ i m σ H,W i m σ H ->
 (J.stop i H/\D.nx σ H)∨(J.go i H/\∃ N:St->Hp->Prop,(∀ σ' H',N σ' H'->∃ m',m'<m/\W (i+1) m' σ' H')/\∀ x H',J.yld i H x H'->g x σ H' λσ2 H2=>tb { D with nx:=N,ct:=N,bk:=D.nx } σ2 H2)
def iK (fp:List Addr) (h:Heap):List (Addr × Obj):=fp.filterMap λb=>(h.get? b).map λo=>(b,o)
theorem fv {fp:List Addr} {h:Heap} {b:Addr} {o:Obj} (hb:b∈fp) (e:h.get? b=some o):(b,o)∈iK fp h:=List.mem_filterMap.mpr ⟨b,hb,by rw [e];rfl⟩
theorem kF {fp:List Addr} {h:Heap} {p:Addr × Obj} (hp:p∈iK fp h):p.1∈fp/\h.get? p.1=some p.2:=by
 obtain⟨b,hb,e⟩:=List.mem_filterMap.mp hp
 cases q:h.get? b with
 | none=>rw [q] at e;cases e
 | some o =>
  rw [q] at e
  have e':(b,o)=p:=Option.some.inj e
  subst e'
  exact⟨hb,q⟩
theorem Inv.pinned {pins:List (Addr × Obj)} {σ:St} {H:Hp} {s:Shared} {fp:List Addr} (I:Inv X pins σ H s) (hf:∀ b∈fp,kW X pins H b) (ho:∀ b∈fp,∃ o,s.heap.get? b=some o/\∀ v,o.data≠.cell v):Inv X (pins++iK fp s.heap) σ H s :=
 I.ji λp hp=>(List.mem_append.mp hp).elim (λz=>I.pin p (List.mem_append_right _ z)) λz=>by
  obtain⟨hb,e⟩:=kF z
  obtain⟨f0,f1,f2,_⟩:=hf p.1 hb
  obtain⟨o,e',d⟩:=ho p.1 hb
  rw [e] at e';cases e'
  exact⟨e,f0,f1,f2,d⟩
theorem Inv.iD {pins pl:List (Addr × Obj)} {σ:St} {H:Hp} {s:Shared} (I:Inv X (pins++pl) σ H s):Inv X pins σ H s:=I.ji λp hp=>I.pin p (List.mem_append_right _ (List.mem_append_left _ hp))
theorem ub {iter:Expr} {body:List Stmt} {wi:TI} {g:TG} {tb:TS} {pos:Pos} (hp:PassesOwn (model X.prog X.w) X.A X.env X.xe) (hc:X.calm=true) (hi:PI X tg iter wi) (hg:PG X tg g) (hb:ja X body tb)
  (hs:∀ x,foldedSetIterable iter X.env x=pure x:=by intro _;rfl):PS X (.For tg iter body [] pos) (Ae wi g tb):=by
 intro pins s σ H D I h
 refine wpAny_For (bZ (hi pins s σ H _ I h) λv s1 h1=>bZ h1 λitv s2 h2=>?_) hs
 obtain⟨it,fp,tn,J,H2,e,I2,T,st2,f2,W,⟨m0,w0⟩,turn⟩:=h2
 subst e
 -- what stays true of the iterator's objects through the loop
 have stat:∀{H':Hp},(∀ b∈fp,H' b=none)->∀ b∈fp,kW X pins H' b:=λhn b hb=>⟨hn b hb,(f2 b hb).2⟩
 refine codeAny_forLoop_any (λn s'=>∃ i σ' H',Inv X pins σ' H' s'/\tn i s'.heap/\(∀ b∈fp,H' b=none)/\W i n σ' H') ?_ m0 ⟨0,σ,H2,I2,st2,λb hb=>(f2 b hb).1,w0⟩
 rintro n s3 ⟨i,σ3,H3,I3,st3,fr3,w3⟩
 rcases turn i n σ3 H3 w3 with⟨stop,qn⟩|⟨go,N,hN,step⟩
 ·refine wpAny_passesOwn hp (bZ (T.done X rfl rfl rfl hc i pins s3 σ3 H3 X.xe I3 (stat fr3) st3 stop) λr s4 ⟨hr,I4⟩=>?_)
  subst hr
  exact wpAny_execs_nil ⟨σ3,H3,I4,qn⟩
 ·refine wpAny_passesOwn hp (bZ (T.item X rfl rfl rfl hc i pins s3 σ3 H3 X.xe I3 (stat fr3) st3 go) λr s4 ⟨u,hr,h4⟩=>?_)
  subst hr
  refine wpAny_passesOwn hp (bZ h4 λ_ s5 ⟨x,H5,I5,r5,y5,st5,fr5⟩=>?_)
  have I5':=I5.pinned (stat fr5) (T.obj _ _ st5)
  refine wpAny_passesOwn hp (bZ (hg _ s5 σ3 H5 x u _ I5' r5 (step x H5 y5)) λ_ s6 ⟨σ6,H6,I6,q6⟩=>?_)
  refine wpAny_passesOwn hp (bZ (hb _ s6 σ6 H6 _ I6 q6) λf s7 q7=>?_)
  have again:∀{σ7:St} {H7:Hp},Inv X (pins++iK fp s5.heap) σ7 H7 s7->N σ7 H7->∃ m,m<n/\∃ i σ' H',Inv X pins σ' H' s7/\tn i s7.heap/\(∀ b∈fp,H' b=none)/\W i m σ' H':=λ{σ7 H7} I7 n7=>by
   obtain⟨m',hm,w7⟩:=hN σ7 H7 n7
   refine⟨m',hm,i+1,σ7,H7,I7.iD,T.keep _ _ _ st5 λb hb o e=>(I7.pin (b,o) (List.mem_append_right _ (List.mem_append_right _ (fv hb e)))).1,λb hb=>?_,w7⟩
   obtain⟨o,e,d⟩:=T.obj _ _ st5 b hb
   exact (I7.pin (b,o) (List.mem_append_right _ (List.mem_append_right _ (fv hb e)))).2.1
  cases f with
  | next=>obtain⟨σ7,H7,I7,n7⟩:=q7;exact again I7 n7
  | cont=>obtain⟨σ7,H7,I7,n7⟩:=q7;exact again I7 n7
  | brk=>obtain⟨σ7,H7,I7,q7⟩:=q7;exact⟨σ7,H7,I7.iD,q7⟩
  | ret v=>obtain⟨x7,σ7,H7,I7,r7,q7⟩:=q7;exact⟨x7,σ7,H7,I7.iD,r7,q7⟩
end
theorem vb {K:PySem.W.Frag} {a:Addr} {xs:List V} {g:TG} {tb:TS} {D:Ends} {σ:St} {H:Hp} (Pv:Nat->St->Hp->Prop) (h0:Pv 0 σ H) (hl:∀ i σ H,i<=xs.length->Pv i σ H->aJ K H a xs)
  (hs:∀ i x σ H,xs[i]?=some x->Pv i σ H->g x σ H λσ2 H2=>tb { D with nx:=Pv (i+1),ct:=Pv (i+1),bk:=D.nx } σ2 H2) (hd:∀ σ H,Pv xs.length σ H->D.nx σ H) :
  ∃ W:Nat->Nat->St->Hp->Prop,(∃ m,W 0 m σ H)/\∀ i m σ H,W i m σ H ->
   ((xH K a).stop i H/\D.nx σ H)∨((xH K a).go i H/\∃ N:St->Hp->Prop,(∀ σ' H',N σ' H'->∃ m',m'<m/\W (i+1) m' σ' H')/\∀ x H',(xH K a).yld i H x H'->g x σ H' λσ2 H2=>tb { D with nx:=N,ct:=N,bk:=D.nx } σ2 H2):=by
 refine⟨λi m σ H=>m=xs.length-i/\i<=xs.length/\Pv i σ H,⟨xs.length,by simp,Nat.zero_le _,h0⟩,?_⟩
 rintro i m σ H ⟨rfl,hi,p⟩
 have q:=hl i σ H hi p
 by_cases hlt:i<xs.length
 ·refine .inr ⟨⟨xs,xs[i],q,by simp [hlt]⟩,Pv (i+1),λσ' H' p'=>⟨xs.length-(i+1),by omega,rfl,hlt,p'⟩,λx H' y=>?_⟩
  obtain⟨e,y⟩:=y
  subst e
  exact hs i x σ _ (y xs q) p
 ·have e:i=xs.length:=by omega
  subst e
  exact .inl ⟨⟨xs,q,Nat.le_refl _⟩,hd σ H p⟩
theorem qV {lo:Int} {n:Nat} {g:TG} {tb:TS} {D:Ends} {σ:St} {H:Hp} (Pv:Nat->St->Hp->Prop) (h0:Pv 0 σ H)
  (hs:∀ i σ H,i<n->Pv i σ H->g (.int (lo+i)) σ H λσ2 H2=>tb { D with nx:=Pv (i+1),ct:=Pv (i+1),bk:=D.nx } σ2 H2) (hd:∀ σ H,Pv n σ H->D.nx σ H) :
  ∃ W:Nat->Nat->St->Hp->Prop,(∃ m,W 0 m σ H)/\∀ i m σ H,W i m σ H ->
   ((wC lo n).stop i H/\D.nx σ H)∨((wC lo n).go i H/\∃ N:St->Hp->Prop,(∀ σ' H',N σ' H'->∃ m',m'<m/\W (i+1) m' σ' H')/\∀ x H',(wC lo n).yld i H x H'->g x σ H' λσ2 H2=>tb { D with nx:=N,ct:=N,bk:=D.nx } σ2 H2):=by
 refine⟨λi m σ H=>m=n-i/\i<=n/\Pv i σ H,⟨n,by simp,Nat.zero_le _,h0⟩,?_⟩
 rintro i m σ H ⟨rfl,hi,p⟩
 by_cases hlt:i<n
 ·refine .inr ⟨hlt,Pv (i+1),λσ' H' p'=>⟨n-(i+1),by omega,rfl,hlt,p'⟩,λx H' y=>?_⟩
  obtain⟨e,y⟩:=y
  subst e y
  exact hs i σ _ hlt p
 ·have e:i=n:=by omega
  subst e
  exact .inl ⟨Nat.le_refl _,hd σ H p⟩
abbrev R2:=V->V->Hp->VK->Prop
def gv (X:Cx) (f:Value->Value->Sem Value) (r:R2):Prop :=
 ∀(pins:List (Addr × Obj)) (s:Shared) (σ:St) (H:Hp) (x y:V) (v u:Value) (Q:VK),Inv X pins σ H s->RelV x v->RelV y u->r x y H Q ->
  wpAny (model X.prog X.w) X.A (f v u) (EP X pins σ Q) X.xe s
def AO (X:Cx) (f:Value->Sem Value) (r:V->Hp->VK->Prop):Prop :=
 ∀(pins:List (Addr × Obj)) (s:Shared) (σ:St) (H:Hp) (x:V) (v:Value) (Q:VK),Inv X pins σ H s->RelV x v->r x H Q ->
  wpAny (model X.prog X.w) X.A (f v) (EP X pins σ Q) X.xe s
def fF (X:Cx) (f:Value) (r:List V->Hp->VK->Prop):Prop :=
 ∀(pins:List (Addr × Obj)) (s:Shared) (σ:St) (H:Hp) (xs:List V) (us:List Value) (Q:VK),Inv X pins σ H s->Vals xs us->r xs H Q ->
  wpAny (model X.prog X.w) X.A (call f us) (EP X pins σ Q) X.xe s
def AN (X:Cx) (r:V->Hp->(Bool->Hp->Prop)->Prop):Prop :=
 ∀(pins:List (Addr × Obj)) (s:Shared) (σ:St) (H:Hp) (x:V) (v:Value) (Q:Bool->Hp->Prop),Inv X pins σ H s->RelV x v->r x H Q ->
  wpAny (model X.prog X.w) X.A (truthy v) (TP X pins σ Q) X.xe s
def wx (r:R2) (ta tb:TE):TE:=λσ H Q=>ta σ H λx H1=>tb σ H1 λy H2=>r x y H2 Q
def BF (r:V->Hp->VK->Prop) (ta:TE):TE:=λσ H Q=>ta σ H λx H1=>r x H1 Q
def rI (C:Int->Int->Prop) (g:Int->Int->V):R2:=λx y H Q=>∃ i j,x=.int i/\y=.int j/\C i j/\Q (g i j) H
def qA (g:Int->Int->V):R2:=λx y H Q=>∃ i j,x=.int i/\y=.int j/\Q (g i j) H
def rU (g:Int->V):V->Hp->VK->Prop:=λx H Q=>∃ i,x=.int i/\Q (g i) H
section
variable {X:Cx} {a b c:Expr} {ta tb tc:TE} {pos:Pos}
theorem xP (ha:PE X a ta) (hb:PE X b tb) {pins:List (Addr × Obj)} {s:Shared} {σ:St} {H:Hp} {R:V->V->Hp->Prop} (I:Inv X pins σ H s)
  (h:ta σ H λx H1=>tb σ H1 λy H2=>R x y H2) {Q:Value->Shared->Prop} {f:Value->Value->Sem Value}
  (hf:∀ v u s2 x y H2,Inv X pins σ H2 s2->RelV x v->RelV y u->R x y H2->wpAny (model X.prog X.w) X.A (f v u) Q X.xe s2) :
  wpAny (model X.prog X.w) X.A (eval a X.env) (λv s₁=>wpAny (model X.prog X.w) X.A (eval b X.env) (λu s₂=>wpAny (model X.prog X.w) X.A (f v u) Q X.xe s₂) X.xe s₁) X.xe s:=by
 refine bZ (ha pins s σ H _ I h) λv s1 ⟨x,H1,I1,r1,q1⟩=>?_
 refine bZ (hb pins s1 σ H1 _ I1 q1) λu s2 ⟨y,H2,I2,r2,q2⟩=>?_
 exact hf v u s2 x y H2 I2 r1 r2 q2
theorem aq {op:Operator} {r:R2} (ho:gv X (binaryOp op) r) (ha:PE X a ta) (hb:PE X b tb):PE X (.BinOp a op b pos) (wx r ta tb):=by
 intro pins s σ H Q I h
 exact wpAny_BinOp (xP ha hb I h λv u s2 x y H2 I2 rx ry q=>ho pins s2 σ H2 x y v u Q I2 rx ry q)
theorem ik {op:UnaryOp} {r:V->Hp->VK->Prop} (ho:AO X (unaryOp op) r) (ha:PE X a ta):PE X (.UnaryOp op a pos) (BF r ta):=by
 intro pins s σ H Q I h
 exact UnaryOp_ (bZ (ha pins s σ H _ I h) λv s1 ⟨x,H1,I1,r1,q1⟩=>ho pins s1 σ H1 x v Q I1 r1 q1)
theorem zV {f:Value->Value->Sem Value} {C:Int->Int->Prop} {g:Int->Int->Int}
  (rule:∀(i j:Int) (t u:Tok) (s:Shared) (Q:Value->Shared->Prop) (E:Value->Shared->Prop),C i j->Q (.int (g i j) s.toks) { s with toks:=s.toks+1 }->wpAny (model X.prog X.w) X.A (f (.int i t) (.int j u)) Q E s) :
  gv X f (rI C λi j=>.int (g i j)):=by
 intro pins s σ H x y v u Q I rx ry h
 obtain⟨i,j,rfl,rfl,hc,q⟩:=h
 obtain⟨t,rfl⟩:=rx
 obtain⟨t',rfl⟩:=ry
 exact rule i j t t' s _ _ hc ⟨.int (g i j),H,I.tok _,⟨_,rfl⟩,q⟩
theorem vN {f:Value->Value->Sem Value} {g:Int->Int->Int}
  (rule:∀(i j:Int) (t u:Tok) (s:Shared) (Q:Value->Shared->Prop) (E:Value->Shared->Prop),Q (.int (g i j) s.toks) { s with toks:=s.toks+1 }->wpAny (model X.prog X.w) X.A (f (.int i t) (.int j u)) Q E s) :
  gv X f (qA λi j=>.int (g i j)):=by
 intro pins s σ H x y v u Q I rx ry h
 obtain⟨i,j,rfl,rfl,q⟩:=h
 obtain⟨t,rfl⟩:=rx
 obtain⟨t',rfl⟩:=ry
 exact rule i j t t' s _ _ ⟨.int (g i j),H,I.tok _,⟨_,rfl⟩,q⟩
theorem vM {f:Value->Value->Sem Value} {g:Int->Int->Bool}
  (rule:∀(i j:Int) (t u:Tok) (s:Shared) (Q:Value->Shared->Prop) (E:Value->Shared->Prop),Q (.bool (g i j)) s->wpAny (model X.prog X.w) X.A (f (.int i t) (.int j u)) Q E s) :
  gv X f (qA λi j=>.bl (g i j)):=by
 intro pins s σ H x y v u Q I rx ry h
 obtain⟨i,j,rfl,rfl,q⟩:=h
 obtain⟨t,rfl⟩:=rx
 obtain⟨t',rfl⟩:=ry
 exact rule i j t t' s _ _ ⟨.bl (g i j),H,I,rfl,q⟩
def y9 (i j:Int):Prop:=0<=j/\j<=1000000/\i.natAbs<2^64
def y8 (i j:Int):Prop:=(-(2^64)<i/\i<2^64)∨(-(2^64)<j/\j<2^64)
theorem y8.ok {i j:Int} (h:y8 i j):IntMulOk i j:=by
 rcases h with⟨h1,h2⟩|⟨h1,h2⟩
 ·exact .of_left (intBits_le_64 h1 h2)
 ·exact .of_right (intBits_le_64 h1 h2)
theorem bB:gv X (binaryOp .Add) (qA λi j=>.int (i+j)):=vN λ_ _ _ _ _ _ _ q=>add_int q
theorem cZ:gv X (binaryOp .Sub) (qA λi j=>.int (i-j)):=vN λ_ _ _ _ _ _ _ q=>sub_int q
theorem aM:gv X (binaryOp .Mod) (rI (λ_ j=>0<j) λi j=>.int (i%j)):=zV λi j _ _ _ _ _ hc q=>by
 have h1:(0:Int)<j:=hc
 exact mod_int' (by omega) (by rw [Int.fmod_eq_emod_of_nonneg i (by omega)];exact q)
theorem lR:gv X (binaryOp .Pow) (rI y9 λi j=>.int (i^j.toNat)):=zV λ_ _ _ _ _ _ _ hc q=>pow_int_small hc.1 hc.2.1 hc.2.2 q
theorem lD:gv X (inplaceOp .Add) (qA λi j=>.int (i+j)):=vN λ_ _ _ _ _ _ _ q=>iadd_int q
theorem vj:gv X (inplaceOp .Sub) (qA λi j=>.int (i-j)):=vN λ_ _ _ _ _ _ _ q=>isub_int q
theorem B9 {f:Value->Sem Value} {g:Int->Int}
  (rule:∀(i:Int) (t:Tok) (s:Shared) (Q:Value->Shared->Prop) (E:Value->Shared->Prop),Q (.int (g i) s.toks) { s with toks:=s.toks+1 }->wpAny (model X.prog X.w) X.A (f (.int i t)) Q E s) :
  AO X f (rU λi=>.int (g i)):=by
 intro pins s σ H x v Q I rx h
 obtain⟨i,rfl,q⟩:=h
 obtain⟨t,rfl⟩:=rx
 exact rule i t s _ _ ⟨.int (g i),H,I.tok _,⟨_,rfl⟩,q⟩
theorem fC:AO X (unaryOp .USub) (rU λi=>.int (-i)):=B9 λ_ _ _ _ _ q=>neg_int q
end
def i7:V->V->Bool
 | .bw,.bw=>true | .bw,.int _=>true | .int _,.bw=>true | .bw,.bl _=>true | .bl _,.bw=>true | .bw,.str _=>true | .str _,.bw=>true
 | .int _,.int _=>true | .bl _,.bl _=>true | .str _,.str _=>true | .byt _,.byt _=>true
 | .int _,.str _=>true | .str _,.int _=>true | .bl _,.str _=>true | .str _,.bl _=>true
 | _,_=>false
def Bx:R2:=λx y H Q=>i7 x y=true/\Q (.bl (decide (x=y))) H
def By:R2:=λx y H Q=>i7 x y=true/\Q (.bl (!decide (x=y))) H
theorem pT {i j:Int}:decide (V.int i=V.int j)=(i==j):=by
 rw [Bool.eq_iff_iff]
 simp
theorem sH {i j:Bool}:decide (V.bl i=V.bl j)=(i==j):=by
 rw [Bool.eq_iff_iff]
 simp
theorem pU {i j:Str}:decide (V.str i=V.str j)=(i==j):=by
 rw [Bool.eq_iff_iff]
 simp
theorem pS {i j:Array UInt8}:decide (V.byt i=V.byt j)=(i.toList==j.toList):=by
 rw [Bool.eq_iff_iff]
 cases i
 cases j
 simp
section
variable {X:Cx} {a b c:Expr} {ta tb tc:TE} {pos:Pos}
theorem aU {pins:List (Addr × Obj)} {σ:St} {H:Hp} {s:Shared} {Q:VK} {k k':Bool} (I:Inv X pins σ H s) (q:Q (.bl k) H) (e:k=k'):EP X pins σ Q (.bool k') s:=by
 subst e
 exact⟨.bl k,H,I,rfl,q⟩
theorem bj:gv X (compareOp .Eq) Bx:=by
 intro pins s σ H x y v u Q I rx ry h
 obtain⟨hs,q⟩:=h
 cases x with
 | bw =>
  cases rx
  cases y with
  | bw=>cases ry;exact PySem.EqNone.eq_none_none (aU I q (by simp))
  | bl j=>cases ry;exact PySem.EqNone.eq_none_bool (aU I q (by simp))
  | int j=>obtain⟨t',rfl⟩:=ry;exact PySem.EqNone.eq_none_int (aU I q (by simp))
  | str j=>obtain⟨t',rfl⟩:=ry;exact PySem.EqNone.eq_none_str (aU I q (by simp))
  | _=>exact absurd (show false=true from hs) Bool.false_ne_true
 | bl i =>
  cases rx
  cases y with
  | bw=>cases ry;exact PySem.EqNone.eq_bool_none (aU I q (by simp))
  | bl j=>cases ry;exact eq_bool (aU I q sH)
  | str j=>obtain⟨t',rfl⟩:=ry;exact PySem.EqMixed.eq_bool_str (aU I q (by simp))
  | _=>exact absurd (show false=true from hs) Bool.false_ne_true
 | int i =>
  obtain⟨t,rfl⟩:=rx
  cases y with
  | bw=>cases ry;exact PySem.EqNone.eq_int_none (aU I q (by simp))
  | int j=>obtain⟨t',rfl⟩:=ry;exact eq_int (aU I q pT)
  | str j=>obtain⟨t',rfl⟩:=ry;exact PySem.EqMixed.eq_int_str (aU I q (by simp))
  | _=>exact absurd (show false=true from hs) Bool.false_ne_true
 | str i =>
  obtain⟨t,rfl⟩:=rx
  cases y with
  | bw=>cases ry;exact PySem.EqNone.eq_str_none (aU I q (by simp))
  | bl j=>cases ry;exact PySem.EqMixed.eq_str_bool (aU I q (by simp))
  | int j=>obtain⟨t',rfl⟩:=ry;exact PySem.EqMixed.eq_str_int (aU I q (by simp))
  | str j=>obtain⟨t',rfl⟩:=ry;exact eq_str (aU I q pU)
  | _=>exact absurd (show false=true from hs) Bool.false_ne_true
 | byt i =>
  obtain⟨t,rfl⟩:=rx
  cases y with
  | byt j=>obtain⟨t',rfl⟩:=ry;exact PySem.W.eq_bytes (aU I q pS)
  | _=>exact absurd (show false=true from hs) Bool.false_ne_true
 | _=>cases y<;>exact absurd (show false=true from hs) Bool.false_ne_true
theorem kI:gv X (compareOp .NotEq) By:=by
 intro pins s σ H x y v u Q I rx ry h
 obtain⟨hs,q⟩:=h
 cases x with
 | bw =>
  cases rx
  cases y with
  | bw=>cases ry;exact PySem.EqNone.ne_none_none (aU I q (by simp))
  | bl j=>cases ry;exact PySem.EqNone.ne_none_bool (aU I q (by simp))
  | int j=>obtain⟨t',rfl⟩:=ry;exact PySem.EqNone.ne_none_int (aU I q (by simp))
  | str j=>obtain⟨t',rfl⟩:=ry;exact PySem.EqNone.ne_none_str (aU I q (by simp))
  | _=>exact absurd (show false=true from hs) Bool.false_ne_true
 | bl i =>
  cases rx
  cases y with
  | bw=>cases ry;exact PySem.EqNone.ne_bool_none (aU I q (by simp))
  | bl j=>cases ry;exact ne_bool (aU I q (congrArg not sH))
  | str j=>obtain⟨t',rfl⟩:=ry;exact PySem.EqMixed.ne_bool_str (aU I q (by simp))
  | _=>exact absurd (show false=true from hs) Bool.false_ne_true
 | int i =>
  obtain⟨t,rfl⟩:=rx
  cases y with
  | bw=>cases ry;exact PySem.EqNone.ne_int_none (aU I q (by simp))
  | int j=>obtain⟨t',rfl⟩:=ry;exact ne_int (aU I q (congrArg not pT))
  | str j=>obtain⟨t',rfl⟩:=ry;exact PySem.EqMixed.ne_int_str (aU I q (by simp))
  | _=>exact absurd (show false=true from hs) Bool.false_ne_true
 | str i =>
  obtain⟨t,rfl⟩:=rx
  cases y with
  | bw=>cases ry;exact PySem.EqNone.ne_str_none (aU I q (by simp))
  | bl j=>cases ry;exact PySem.EqMixed.ne_str_bool (aU I q (by simp))
  | int j=>obtain⟨t',rfl⟩:=ry;exact PySem.EqMixed.ne_str_int (aU I q (by simp))
  | str j=>obtain⟨t',rfl⟩:=ry;exact ne_str (aU I q (congrArg not pU))
  | _=>exact absurd (show false=true from hs) Bool.false_ne_true
 | byt i =>
  obtain⟨t,rfl⟩:=rx
  cases y with
  | byt j=>obtain⟨t',rfl⟩:=ry;exact PySem.W.ne_bytes (aU I q (congrArg not pS))
  | _=>exact absurd (show false=true from hs) Bool.false_ne_true
 | _=>cases y<;>exact absurd (show false=true from hs) Bool.false_ne_true
theorem fE:gv X (compareOp .Lt) (qA λi j=>.bl (decide (i<j))):=vM λ_ _ _ _ _ _ _ q=>lt_int q
theorem nk:gv X (compareOp .LtE) (qA λi j=>.bl (decide (i<=j))):=vM λ_ _ _ _ _ _ _ q=>le_int q
theorem cM:gv X (compareOp .Gt) (qA λi j=>.bl (decide (j<i))):=vM λ_ _ _ _ _ _ _ q=>gt_int q
theorem xf:gv X (compareOp .GtE) (qA λi j=>.bl (decide (j<=i))):=vM λ_ _ _ _ _ _ _ q=>ge_int q
theorem tN:gv X (compareOp .Is) (λx y H Q=>y=.bw/\Q (.bl (decide (x=.bw))) H):=by
 intro pins s σ H x y v u Q I rx ry h
 obtain⟨rfl,q⟩:=h
 cases ry
 refine is_none_gen (aU I q ?_)
 cases x<;>first
  | (cases rx;rfl)
  | (obtain⟨t,rfl⟩:=rx;rfl)
theorem lQ:gv X (compareOp .IsNot) (λx y H Q=>y=.bw/\Q (.bl (!decide (x=.bw))) H):=by
 intro pins s σ H x y v u Q I rx ry h
 obtain⟨rfl,q⟩:=h
 cases ry
 refine isnot_none_gen (aU I q ?_)
 cases x<;>first
  | (cases rx;rfl)
  | (obtain⟨t,rfl⟩:=rx;rfl)
theorem ar (b:Expr) {op:CmpOp} (h:op≠.In:=by decide) (h2:op≠.NotIn:=by decide):behindInMarks op b=false:=by
 have e1:(op==CmpOp.In)=false:=by cases op<;>first | rfl | exact absurd rfl h
 have e2:(op==CmpOp.NotIn)=false:=by cases op<;>first | rfl | exact absurd rfl h2
 cases b<;>simp [behindInMarks,e1,e2]
theorem bC {op:CmpOp} {r:R2} (ho:gv X (compareOp op) r) (ha:PE X a ta) (hb:PE X b tb) (hm:behindInMarks op b=false):PE X (.Compare a [op] [b] pos) (wx r ta tb):=by
 intro pins s σ H Q I h
 exact wpAny_Compare1 (xP ha hb I h λv u s2 x y H2 I2 rx ry q=>ho pins s2 σ H2 x y v u Q I2 rx ry q) hm
def xE (t:TE):TT:=λσ H Q=>t σ H λx H'=>∃ k,x=.bl k/\Q k H'
theorem aw {op:CmpOp} {r:R2} (ho:gv X (compareOp op) r) (ha:PE X a ta) (hb:PE X b tb) (hm:behindInMarks op b=false):PT X (.Compare a [op] [b] pos) (xE (wx r ta tb)):=by
 intro pins s σ H Q I h
 refine wpAny_isTrue_Compare1 (bZ (ha pins s σ H _ I h) λv s1 ⟨x,H1,I1,r1,q1⟩=>bZ (hb pins s1 σ H1 _ I1 q1) λu s2 ⟨y,H2,I2,r2,q2⟩ =>
  bZ (ho pins s2 σ H2 x y v u _ I2 r1 r2 q2) λc s3 ⟨z,H3,I3,r3,k,e,q3⟩=>?_) hm
 subst e
 cases r3
 exact wpAny_truthy_bool ⟨H3,I3,q3⟩
def pH (r r':R2) (ta tb tc:TE):TE:=λσ H Q=>ta σ H λx H1=>tb σ H1 λy H2=>r x y H2 λz H3=>∃ k,z=.bl k /\
 (if k=true then tc σ H3 λw' H4=>r' y w' H4 Q else Q (.bl false) H3)
theorem nA {op op':CmpOp} {r r':R2} (ho:gv X (compareOp op) r) (ho':gv X (compareOp op') r') (ha:PE X a ta) (hb:PE X b tb) (hc:PE X c tc)
  (hm:lastMarks [op,op'] [b,c]=false:=by with_unfolding_all rfl):PE X (.Compare a [op,op'] [b,c] pos) (pH r r' ta tb tc):=by
 intro pins s σ H Q I h
 refine Compare_chain (bZ (ha pins s σ H _ I h) λv s1 ⟨x,H1,I1,r1,q1⟩=>chain_link (bZ (hb pins s1 σ H1 _ I1 q1) λu s2 ⟨y,H2,I2,r2,q2⟩ =>
  bZ (ho pins s2 σ H2 x y v u _ I2 r1 r2 q2) λd s3 ⟨z,H3,I3,r3,k,e,q3⟩=>?_)) hm
 subst e
 cases r3
 refine wpAny_truthy_bool ?_
 cases k with
 | false=>exact ite_ff ⟨.bl false,H3,I3,rfl,q3⟩
 | true=>exact ite_tt (chain_last (bZ (hc pins s3 σ H3 _ I3 q3) λw' s4 ⟨z',H4,I4,r4,q4⟩=>ho' pins s4 σ H4 y z' u w' Q I4 r2 r4 q4))
def sf (K:PySem.W.Frag) (x:V) (H:Hp) (k:Bool):Prop :=
 match x with
 | .bw=>k=false
 | .bl b=>k=b
 | .int i=>k=(i != 0)
 | .str y=>y.length<=sizeLine/\k=((y.length:Int) != 0)
 | .byt y=>y.size<=sizeLine/\k=((y.size:Int) != 0)
 | .ref p=>(∃ xs,aV K H p xs/\k=!xs.isEmpty)∨(∃ xs,aJ K H p xs/\k=!xs.isEmpty)∨∃ kvs,H p=some (.dK kvs)/\k=!kvs.isEmpty
 | _=>False
theorem oE {κ:Type} {kvs:List (κ × V)} {vs:List (κ × Value)} (r:KV kvs vs):(!vs.isEmpty)=!kvs.isEmpty:=by
 cases r<;>rfl
theorem jy {xs:List V} {its:List Value} (r:Vals xs its):(!its.toArray.isEmpty)=!xs.isEmpty:=by
 cases r<;>simp
theorem lF:(sizeLine:Nat)<2^63:=by rw [sizeLine_eq];decide
theorem yY:AN X (λx H Q=>∃ k,sf X.K x H k/\Q k H):=by
 intro pins s σ H x v Q I rx h
 obtain⟨k,e,q⟩:=h
 have hl:=lF
 have hs:sizeLine=16777216:=sizeLine_eq
 cases x with
 | bw =>
  cases rx
  have e':k=false:=e
  subst e'
  exact truthy_none ⟨H,I,q⟩
 | bl b =>
  cases rx
  have e':k=b:=e
  subst e'
  exact wpAny_truthy_bool ⟨H,I,q⟩
 | int i =>
  obtain⟨t,rfl⟩:=rx
  have e':k=(i != 0):=e
  subst e'
  exact PySem.P.truthy_int ⟨H,I,q⟩
 | str y =>
  obtain⟨t,rfl⟩:=rx
  obtain⟨hy,e'⟩:y.length<=sizeLine/\k=((y.length:Int) != 0):=e
  subst e'
  exact PySem.P.truthy_str (by omega) ⟨H,I.tok _,q⟩
 | byt y =>
  obtain⟨t,rfl⟩:=rx
  obtain⟨hy,e'⟩:y.size<=sizeLine/\k=((y.size:Int) != 0):=e
  subst e'
  exact PySem.W.truthy_bytes (by omega) ⟨H,I.tok _,q⟩
 | ref p =>
  cases rx
  have e':(∃ xs,aV X.K H p xs/\k=!xs.isEmpty)∨(∃ xs,aJ X.K H p xs/\k=!xs.isEmpty)∨∃ kvs,H p=some (.dK kvs)/\k=!kvs.isEmpty:=e
  rcases e' with⟨xs,hx,e'⟩|⟨xs,hx,e'⟩|⟨kvs,hx,e'⟩
  ·subst e'
   obtain⟨its,r,pl,hz⟩:=I.list hx
   have hlen:=r.length
   exact wpAny_truthy_list pl.isList (by simp only [List.size_toArray];omega) ⟨H,I.tok _,by rw [jy r];exact q⟩
  ·subst e'
   obtain⟨its,r,pl,hz⟩:=I.tuple hx
   have hlen:=r.length
   exact truthy_tuple pl (by simp only [List.size_toArray];omega) ⟨H,I.tok _,by rw [jy r];exact q⟩
  ·subst e'
   obtain⟨hz,hS,vs,r,m⟩:kvs.length<=sizeLine/\(p==sysModules)=false/\∃ vs,KV kvs vs/\s.heap.DictOf (bX X.prog X.w) p vs:=I.hok p _ hx
   have hlen:kvs.length=vs.length:=Paired.length r
   exact wpAny_truthy_dict hS m (by omega) ⟨H,I.tok _,by rw [oE r];exact q⟩
 | _=>exact (show False from e).elim
theorem aR (ha:PE X a ta) (he:∀ whole,isTrue a X.env whole=(do let v <- whole;standAt a.pos;holding [v] (truthy v))) :
  PT X a (λσ H Q=>ta σ H λx H'=>∃ k,sf X.K x H' k/\Q k H'):=by
 intro pins s σ H Q I h
 exact isTrue_plain (bZ (ha pins s σ H _ I h) λv s1 ⟨x,H1,I1,r1,q1⟩=>yY pins s1 σ H1 x v Q I1 r1 q1) (he _)
theorem vals1 {x:V} {us:List Value} (r:Vals [x] us):∃ u,us=[u]/\RelV x u:=by
 cases r with
 | cons r1 r2=>cases r2;exact⟨_,rfl,r1⟩
theorem vals2 {x y:V} {us:List Value} (r:Vals [x,y] us):∃ u w',us=[u,w']/\RelV x u/\RelV y w':=by
 cases r with
 | cons r1 r2 =>
  cases r2 with
  | cons r3 r4=>cases r4;exact⟨_,_,rfl,r1,r3⟩
theorem ju:fF X (.builtin "abs") (λxs H Q=>∃ i,xs=[.int i]/\Q (.int (if i<0 then -i else i)) H):=by
 intro pins s σ H xs us Q I r h
 obtain⟨i,rfl,q⟩:=h
 obtain⟨u,rfl,t,rfl⟩:=vals1 r
 exact call_abs_int λu tk=>⟨.int (if i<0 then -i else i),H,I.tok _,⟨_,rfl⟩,q⟩
theorem kn:fF X (.type "int") (λxs H Q=>(∃ i,xs=[.int i]/\Q (.int i) H)∨∃ k,xs=[.bl k]/\Q (.int (if k then 1 else 0)) H):=by
 intro pins s σ H xs us Q I r h
 rcases h with⟨i,rfl,q⟩|⟨k,rfl,q⟩
 ·obtain⟨u,rfl,t,rfl⟩:=vals1 r
  exact call_int_int ⟨.int i,H,I,⟨_,rfl⟩,q⟩
 ·obtain⟨u,rfl,r1⟩:=vals1 r
  cases r1
  exact call_int_bool ⟨.int (if k then 1 else 0),H,I.tok _,⟨_,rfl⟩,q⟩
end
structure xJ (h:Heap) (x dx C:Addr) (mA:Str->Option Value):Prop where
 obj:h.get? x=some (PySem.W.instObj C dx)
 ns:h.Ns1 dx mA
 ne:dx≠x
theorem ri {h:Heap} {dx:Addr} {mA:Str->Option Value} (n:h.Ns1 dx mA):∃ od,h.get? dx=some od/\∀ name,PySem.W.lookIn name od=some (mA name):=by
 obtain⟨o,es,ep,ho,hd,hk,_,hm⟩:=n
 refine⟨o,ho,λname=>?_⟩
 have e:=hm name
 unfold nsFind findBy at e
 rw [<- Array.find?_toList] at e
 unfold PySem.W.lookIn
 rw [hd]
 dsimp only
 split
 ·rename_i y q
  rw [q] at e
  exact congrArg some e
 ·rename_i q
  rw [q] at e
  have a:es.toList.any (·.refKey)=false:=by
   rw [List.any_eq_false]
   intro y hy
   obtain⟨z,t,hkey⟩:=hk y (Array.mem_toList_iff.mp hy)
   simp [DictEntry.refKey,hkey]
  have a':¬es.toList.any (·.refKey)=true:=by rw [a];exact Bool.false_ne_true
  rw [if_neg a']
  exact congrArg some e
theorem xJ.look {h:Heap} {x dx C:Addr} {mA:Str->Option Value} (I:xJ h x dx C mA):∃ od,PySem.W.InstAt h x (PySem.W.instObj C dx) C (some od)/\∀ name,PySem.W.lookIn name od=some (mA name) :=
 let ⟨od,ho,hl⟩:=ri I.ns
 ⟨od,⟨I.obj,rfl,rfl,ho⟩,hl⟩
section
variable {prog:Program} {w:World} {A:Around} {E:Value->Shared->Prop} {s:Shared} {K:PySem.W.Frag} {x dx C f:Addr} {mA:Str->Option Value} {name:Str} {v:Value}
end
def yB (f:Str) (v:V):List (Str × V)->List (Str × V)
 | []=>[(f,v)]
 | (g,x)::r=>if g=f then (g,v)::r else (g,x)::yB f v r
theorem gT.some_of {v:V} {o:Option Value} (r:gT (some v) o):∃ u,o=some u/\RelV v u:=by
 cases o with
 | none=>exact (show False from r).elim
 | some u=>exact⟨u,rfl,r⟩
section
variable {P:Program} {w:World} {H H':Hp} {h h':Heap} {a C dx:Addr} {fs fs':List (Str × V)}
theorem vh (hok:fG P w H h) (e:H a=some (.ins C dx fs)):∃ mA,xJ h a dx C mA/\(∀ f,gT (fs.lookup f) (mA f))/\PySem.Within mA (fs.map (·.1))/\fs.length<=1000/\H dx=some (.own a):=by
 obtain⟨d,z,ne,ob,mA,n,r,q⟩:=(show bK P w H h a (.ins C dx fs) from hok a _ e)
 exact⟨mA,⟨ob,n,ne⟩,r,q,z,d⟩
end
structure y4 (K:PySem.W.Frag) (C:Addr):Prop where
 pg:PySem.W.plainGet K C Str.empty=true
 hd:PySem.W.hasDictIn K C=true
 po:PySem.W.plainOver K C=true
 sa:PySem.W.findIn K (.ref C) "__setattr__"=some (some (.builtin "object.__setattr__"))
theorem y4.get {K:PySem.W.Frag} {C:Addr} (c:y4 K C) (f:Str):PySem.W.plainGet K C f=true:=c.pg
def n8 (K:PySem.W.Frag) (C:Addr) (f:Str):Prop:=PySem.W.findIn K (.ref C) f=some none
structure Meth (K:PySem.W.Frag) (C:Addr) (m:Str) (f:Addr):Prop where
 at_:PySem.W.findIn K (.ref C) m=some (some (.ref f))
 fn:PySem.W.isFn K (.ref f)=true
 kp:PySem.W.keepIn K (.ref f)=true
section
variable {X:Cx} {pins:List (Addr × Obj)} {σ:St} {H:Hp} {s:Shared} {a C dx:Addr} {fs:List (Str × V)} {f:Str} {v:V} {A:Around} {E:Value->Shared->Prop}
end
def Bk (K:PySem.W.Frag) (ta:TE) (f:Str):TE:=λσ H Q=>ta σ H λx H1=>∃ a C dx fs v,x=.ref a/\H1 a=some (.ins C dx fs)/\y4 K C/\n8 K C f/\fs.lookup f=some v/\Q v H1
def Bg (K:PySem.W.Frag) (ta tv:TE) (f:Str):TS:=λD σ H=>tv σ H λy H1=>ta σ H1 λx H2=>∃ a C dx fs,x=.ref a/\H2 a=some (.ins C dx fs)/\y4 K C/\n8 K C f/\fs.length<1000 /\
 D.nx σ (upd H2 a (.ins C dx (yB f y fs)))
def wb (K:PySem.W.Frag) (ta tv:TE) (rd:V->V->Hp->VK->Prop) (f:Str):TS:=λD σ H=>ta σ H λx H1=>∃ a C dx fs v,x=.ref a/\H1 a=some (.ins C dx fs)/\y4 K C/\n8 K C f/\fs.lookup f=some v /\
 tv σ H1 λy H2=>rd v y H2 λz H3=>∃ dx' fs',H3 a=some (.ins C dx' fs')/\fs'.length<1000/\D.nx σ (upd H3 a (.ins C dx' (yB f z fs')))
section
variable {X:Cx} {o e value:Expr} {f:Str} {pos pos' tpos:Pos} {ta tv:TE}
end
section
variable {X:Cx} {pins:List (Addr × Obj)} {σ:St} {H:Hp} {s:Shared} {A:Around} {E:Value->Shared->Prop} {Q:Value->Shared->Prop} {c:Value} {b:Bool}
inductive gw (K:PySem.W.Frag) (H:Hp):V->Value->Prop where
 | bw:gw K H .bw (.type "NoneType")
 | bl (x:Bool):gw K H (.bl x) (.type "bool")
 | int (i:Int):gw K H (.int i) (.type "int")
 | str (x:Str):gw K H (.str x) (.type "str")
 | flt (x:UInt64):gw K H (.flt x) (.type "float")
 | lst {a:Addr} {xs:List V} (e:H a=some (.lst xs)):gw K H (.ref a) (.type "list")
 | frz {a:Addr} {o:Obj} {xs:List V} (e:H a=some (.frz o (.lst xs))):gw K H (.ref a) (.type "list")
 | tup {a:Addr} {xs:List V} (e:H a=some (.tup xs)):gw K H (.ref a) (.type "tuple")
 | dK {a:Addr} {kvs:List (Key × V)} (e:H a=some (.dK kvs)):gw K H (.ref a) (.type "dict")
 | dT {a:Addr} {kvs:List (List Key × V)} (e:H a=some (.dT kvs)):gw K H (.ref a) (.type "dict")
 | ins {a C dx:Addr} {fs:List (Str × V)} (e:H a=some (.ins C dx fs)) (cl:y4 K C) (ha:PySem.W.findIn K (.ref C) "__class__"=some (some (.builtin "object.__class__")))
   (hn:PySem.W.specialIn K (.builtin "object.__class__") "__get__"=some (some (.builtin "getset_descriptor.__get__"))) (htk:PySem.W.takesIn K (.builtin "object.__class__")=some true)
   (hm:PySem.W.mroIn K C (.type "object")=some true):gw K H (.ref a) (.ref C)
theorem fZ {x:V} {u t:Value} (I:Inv X pins σ H s) (rx:RelV x u) (ty:gw X.K H x t) (e:PySem.W.kitOne X.K t c=some b) (h:∀ tk,Q (.bool b) { s with toks:=tk }) :
  wpAny (model X.prog X.w) A (call (.builtin "isinstance") [u,c]) Q E s:=by
 cases ty with
 | bw=>cases (show u=Value.none from rx);exact PySem.W.kia_one PySem.W.kitx_none I.hG True.intro e (λz=>nomatch z) h
 | bl y=>cases (show u=Value.bool y from rx);exact PySem.W.kia_one PySem.W.kitx_bool I.hG True.intro e (λz=>nomatch z) h
 | int i=>obtain⟨t,q⟩:=(show ∃ t,u=Value.int i t from rx);cases q;exact PySem.W.kia_one PySem.W.kitx_int I.hG True.intro e (λz=>nomatch z) h
 | str y=>obtain⟨t,q⟩:=(show ∃ t,u=Value.str y t from rx);cases q;exact PySem.W.kia_one PySem.W.kitx_str I.hG True.intro e (λz=>nomatch z) h
 | flt y=>obtain⟨t,q⟩:=(show ∃ t,u=Value.float y t from rx);cases q;exact PySem.W.kia_one PySem.W.kitx_float I.hG True.intro e (λz=>nomatch z) h
 | @lst a xs ea =>
  cases (show u=Value.ref a from rx)
  obtain⟨_,_,n,_,h1⟩:=(show bK X.prog X.w H s.heap a (.lst xs) from I.hok a _ ea)
  exact PySem.W.kia_one PySem.W.kitx_list I.hG ⟨_,h1,rfl⟩ e (λz=>nomatch z) h
 | @frz a ob xs ea =>
  cases (show u=Value.ref a from rx)
  obtain⟨_,_,_,n,_,h1⟩:=(show bK X.prog X.w H s.heap a (.frz ob (.lst xs)) from I.hok a _ ea)
  exact PySem.W.kia_one PySem.W.kitx_list I.hG ⟨_,h1,rfl⟩ e (λz=>nomatch z) h
 | @tup a xs ea =>
  cases (show u=Value.ref a from rx)
  obtain⟨_,_,_,p⟩:=(show bK X.prog X.w H s.heap a (.tup xs) from I.hok a _ ea)
  obtain⟨o,h1,h2,_⟩:=p
  exact PySem.W.kia_one PySem.W.kitx_tuple I.hG ⟨o,h1,h2⟩ e (λz=>nomatch z) h
 | @dK a kvs ea =>
  cases (show u=Value.ref a from rx)
  obtain⟨_,_,vs,_,p⟩:=(show bK X.prog X.w H s.heap a (.dK kvs) from I.hok a _ ea)
  obtain⟨o,es,ep,h1,h2,_⟩:=p
  exact PySem.W.kia_one PySem.W.kitx_dict I.hG ⟨o,h1,h2.1⟩ e (λz=>nomatch z) h
 | @dT a kvs ea =>
  cases (show u=Value.ref a from rx)
  obtain⟨_,_,xs,_,o,es,ep,h1,h2,_⟩:=(show bK X.prog X.w H s.heap a (.dT kvs) from I.hok a _ ea)
  exact PySem.W.kia_one PySem.W.kitx_dict I.hG ⟨o,h1,h2.1⟩ e (λz=>nomatch z) h
 | @ins a C dx fs ea cl ha hn htk hm =>
  cases (show u=Value.ref a from rx)
  obtain⟨mA,O,_⟩:=vh I.hok ea
  obtain⟨od,J,_⟩:=O.look
  exact PySem.W.kia_one (PySem.W.kitx_own (cl.get _) cl.hd ha hn htk hm) I.hG J e (λz=>nomatch z) h
end
structure cW (k:Nat) (A:Around):Prop where
 hd:A.handled=none
 dp:A.depth+3*k+5<recursionLimit
 un:A.units+16*k+200<cLine
theorem cW.mono {j k:Nat} {A:Around} (r:cW k A) (h:j<=k):cW j A:=⟨r.hd,by have:=r.dp;omega,by have:=r.un;omega⟩
theorem cW.deeper {k:Nat} {A:Around} (r:cW (k+1) A) (env:Env):cW k (A.deeper env) :=
 ⟨r.hd,by have:=r.dp;show A.depth+1+3*k+5<_;omega,by have:=r.un;show A.units+3+16*k+200<_;omega⟩
theorem oJ {A:Around} {C:Addr} {us:List Value} {kw:List (Str × Value)}:(A.under (.builtin "type.__call__" ⟨.ref C::us,kw⟩)).depth=A.depth+1:=by
 first | rfl | simp [Around.under,Code.weight,Code.isCreation,Code.isGuard,Code.isCaller,Code.frames,Code.isFrame,guardIds]
theorem oK {A:Around} {C:Addr} {us:List Value} {kw:List (Str × Value)}:(A.under (.builtin "type.__call__" ⟨.ref C::us,kw⟩)).units=A.units+1:=by
 first | rfl | simp [Around.under,Code.cUnits,Code.frames,Code.isFrame]
theorem cW.make {k:Nat} {A:Around} (r:cW (k+1) A) (C:Addr) (us:List Value) (kw:List (Str × Value)):cW k (A.under (.builtin "type.__call__" ⟨.ref C::us,kw⟩)) :=
 ⟨r.hd,by have:=r.dp;rw [oJ];omega,by have:=r.un;rw [oK];omega⟩
theorem cW.depth {k:Nat} {A:Around} (r:cW k A):A.depth<recursionLimit:=by have:=r.dp;omega
theorem cW.units {k:Nat} {A:Around} (r:cW k A):A.units+64<cLine:=by have:=r.un;omega
def yV:TA:=λ_ H Q=>Q [] H
def qI (ta:TE) (tr:TA):TA:=λσ H Q=>ta σ H λx H1=>tr σ H1 λxs H2=>Q (x::xs) H2
section
variable {X:Cx} {e:Expr} {es:List Expr} {te:TE} {t:TA} {pos:Pos}
theorem ae:PA X [] yV:=λ_ _ _ _ H Q I h=>Calls.spliced_nil ⟨[],H,I,.nil,h⟩
theorem aa (ha:PE X e te) (hr:PA X es t) (hs:starEach (e::es) X.env=(false,eval e X.env)::starEach es X.env:=by rfl):PA X (e::es) (qI te t):=by
 intro pos pins s σ H Q I h
 rw [hs]
 show wpAny _ _ (spliced ((false,eval e X.env)::backTo pos (starEach es X.env))) _ _ s
 refine Calls.spliced_cons (bZ (ha pins s σ H _ I h) λu s1 ⟨x,H1,I1,r1,q1⟩=>?_)
 exact bZ (hr pos pins s1 σ H1 _ I1 q1) λus s2 ⟨xs,H2,I2,r2,q2⟩=>⟨x::xs,H2,I2,.cons r1 r2,q2⟩
def Ao (t:TA):TE:=λσ H Q=>t σ H λxs H1=>xs.length<=sizeLine/\∀ p,H1 p=none->Q (.ref p) (upd H1 p (.tup xs))
def Ag (t:TA):TE:=λσ H Q=>t σ H λxs H1=>xs.length<=sizeLine/\∀ p,H1 p=none->Q (.ref p) (upd H1 p (.lst xs))
theorem ax {x1} (h:PA X es t):PE X (.Tuple es x1 pos) (Ao t):=by
 intro pins s σ H Q I hq
 refine wpAny_Tuple_spliced (bZ (h pos pins s σ H _ I hq) λus s1 ⟨xs,H1,I1,r,z,q⟩=>⟨by rw [<- r.length];exact z,?_⟩)
 have hf:H1 s1.heap.objs.size=none:=I1.hok.fresh (Nat.le_refl _)
 refine⟨.ref s1.heap.objs.size,upd H1 s1.heap.objs.size (.tup xs),I1.laid (t':=s1.toks) (λb u e=>Heap.get?_push_of_some _ e) (Nat.le_refl _) ?_,rfl,q _ hf⟩
 exact⟨z,us,r,⟨_,Heap.get?_push_size _ rfl,rfl,_,rfl⟩⟩
theorem bo (h:PA X es t):PE X (.List es pos) (Ag t):=by
 intro pins s σ H Q I hq
 refine wpAny_List_spliced (bZ (h pos pins s σ H _ I hq) λus s1 ⟨xs,H1,I1,r,z,q⟩=>⟨by rw [<- r.length];exact z,?_⟩)
 have hf:H1 s1.heap.objs.size=none:=I1.hok.fresh (Nat.le_refl _)
 refine⟨.ref s1.heap.objs.size,upd H1 s1.heap.objs.size (.lst xs),I1.laid (t':=s1.toks) (λb u e=>Heap.get?_push_of_some _ e) (Nat.le_refl _) ?_,rfl,q _ hf⟩
 exact⟨z,us,0,r,Heap.get?_push_size _ rfl⟩
end
abbrev Sp:=List V->Hp->VK->XK->Prop
abbrev jo:=List Env->Hp->Shared->XK->Value->Shared->Prop
structure nZ (P:Program) (w:World) (K:PySem.W.Frag) (mg:Str->Option Value) (base:Heap) (A:Around) (outer:List Env) (s:Shared) (H:Hp):Prop where
 frames:A.frames=some outer
 mod:Mod K mg base
 bs:∀ b o,base.get? b=some o->s.heap.get? b=some o/\H b=none
 bsz:base.objs.size<=s.heap.objs.size
 i4:s.heap.FunFrames base outer
 frf:∀ b∈gA outer,H b=none
 hok:fG P w H s.heap
 bare:AllBare s.gens
def CE (outer:List Env) (P:Program) (w:World) (H:Hp) (s:Shared) (Q:VK) (u:Value) (s':Shared):Prop :=
 ∃ v H',s'.os=s.os/\AllBare s'.gens/\Un (gA outer) [] H H' s.heap s'.heap/\fG P w H' s'.heap/\RelV v u/\Q v H'
def CR (CX:jo) (outer:List Env) (P:Program) (w:World) (H:Hp) (s:Shared) (Q:VK) (E:XK) (r:Result) (s':Shared):Prop :=
 match r with
 | .ok (.ret u)=>CE outer P w H s Q u s'
 | .ok _=>False
 | .error e=>CX outer H s E e s'
structure dH (P:Program) (w:World) (K:PySem.W.Frag) (mg:Str->Option Value) (base:Heap) (CX:jo) (k:Nat) (f:Addr) (fd:FuncData) (ps:List Str) (sp:Sp):Prop where
 len:∀ vs H Q E,sp vs H Q E->vs.length=ps.length
 run:∀(A:Around) (outer:List Env) (s:Shared) (H:Hp) (args:Args) (us:List Value) (vs:List V) (Q:VK) (E:XK),cW k A->nZ P w K mg base A outer s H->BindsTo s fd args (ps.zip us)->Vals vs us->sp vs H Q E ->
  codeAny (model P w) A (.call (.ref f) args) (CR CX outer P w H s Q E) s
theorem dH.mono {P:Program} {w:World} {K:PySem.W.Frag} {mg:Str->Option Value} {base:Heap} {CX:jo} {j k:Nat} {f:Addr} {fd:FuncData} {ps:List Str} {sp:Sp} (F:dH P w K mg base CX j f fd ps sp) (h:j<=k) :
  dH P w K mg base CX k f fd ps sp:=⟨F.len,λA outer s H args us vs Q E hr=>F.run A outer s H args us vs Q E (hr.mono h)⟩
theorem dH.imp {P:Program} {w:World} {K:PySem.W.Frag} {mg:Str->Option Value} {base:Heap} {CX:jo} {k:Nat} {f:Addr} {fd:FuncData} {ps:List Str} {sp sp':Sp} (F:dH P w K mg base CX k f fd ps sp)
  (h:∀ vs H Q E,sp' vs H Q E->sp vs H Q E):dH P w K mg base CX k f fd ps sp' :=
 ⟨λvs H Q E q=>F.len vs H Q E (h _ _ _ _ q),λA outer s H args us vs Q E hr he hb hv hs=>F.run A outer s H args us vs Q E hr he hb hv (h _ _ _ _ hs)⟩
theorem nZ.make {P:Program} {w:World} {K:PySem.W.Frag} {mg:Str->Option Value} {base:Heap} {A:Around} {outer:List Env} {s:Shared} {H:Hp} (e:nZ P w K mg base A outer s H) (C:Addr) (us:List Value) (kw:List (Str × Value)) :
  nZ P w K mg base (A.under (.builtin "type.__call__" ⟨.ref C::us,kw⟩)) outer s H:=⟨by first | exact e.frames | (simpa [Around.under,Code.envs,Code.isFrame,pushEnvs] using e.frames),e.mod,e.bs,e.bsz,e.i4,e.frf,e.hok,e.bare⟩
section
variable {X:Cx} {pins:List (Addr × Obj)} {σ:St} {H:Hp} {s s':Shared}
theorem Inv.zD (I:Inv X pins σ H s):nZ X.prog X.w X.K X.mg X.base X.A X.stack s H :=
 ⟨I.ok.frames,I.ok.mod,I.bs,Nat.le_trans I.ok.bsz I.sz,I.stack,I.iB,I.hok,I.bare⟩
theorem Inv.after {Q:VK} {u:Value} (I:Inv X pins σ H s) (h:CE X.stack X.prog X.w H s Q u s'):EP X pins σ Q u s':=by
 obtain⟨v,H',os,bare,un,hok,r,q⟩:=h
 obtain⟨hh,g,d,t,os'⟩:=s'
 obtain rfl:os'=s.os:=os
 exact⟨v,H',I.call (h':=hh) (g':=g) (d':=d) (t':=t) (ch:=[]) un hok bare (λb z=>absurd z (by simp)),r,q⟩
end
def nQ (sp:Sp) (bh:List V) (E:XK) (t:TA):TE:=λσ H Q=>t σ H λvs H1=>sp (vs++bh) H1 Q E
def Ai (C:Addr) (m:Str) (sp:Sp) (bh:List V) (E:XK) (ta:TE) (t:TA):TE:=λσ H Q=>ta σ H λx H1=>∃ a dx fs,x=.ref a/\H1 a=some (.ins C dx fs)/\fs.lookup m=none /\
 t σ H1 λvs H2=>sp (x::(vs++bh)) H2 Q E
def Ah (C:Addr) (sp:Sp) (bh:List V) (E:XK) (t:TA):TE:=λσ H Q=>t σ H λvs H1=>∀ x dx,H1 x=none->H1 dx=none->dx≠x ->
 sp (.ref x::(vs++bh)) (upd (upd H1 dx (.own x)) x (.ins C dx [])) (λv H2=>v=.bw/\Q (.ref x) H2) E
def Binds (K:PySem.W.Frag) (fd:FuncData) (ps:List Str) (ds:List Value):Prop :=
 ∀(s:Shared) (us:List Value),K.In s.heap->(us++ds).length=ps.length->BindsTo s fd ⟨us,[]⟩ (ps.zip (us++ds))
theorem Binds.all {K:PySem.W.Frag} {fd:FuncData} {ps:List Str} (h:∀ us:List Value,us.length=ps.length->bindArgs fd ⟨us,[]⟩=pure (ps.zip us)):Binds K fd ps []:=λs us _ hl=>by
 rw [List.append_nil] at hl ⊢
 exact .of_eq (h us hl)
def Passes (CX:jo) (X:Cx) (E:XK):Prop:=∀(pins:List (Addr × Obj)) (σ:St) (H:Hp) (s:Shared) (e:Value) (s':Shared),Inv X pins σ H s->CX X.stack H s E e s'->X.xe e s'
section
variable {X:Cx} {CX:jo} {k:Nat} {f C:Addr} {fd:FuncData} {ps:List Str} {sp:Sp} {bh:List V} {ds:List Value} {E:XK} {x m:Str} {p pos apos:Pos} {e o:Expr} {es:List Expr} {ta:TE} {t:TA}
theorem yI {pins:List (Addr × Obj)} {σ:St} {H:Hp} {s:Shared} {Q:VK} {us:List Value} {vs:List V} (F:dH X.prog X.w X.K X.mg X.base CX k f fd ps sp) (hr:cW k X.A) (hb:Binds X.K fd ps ds) (hd:Vals bh ds) (hx:Passes CX X E)
  (I:Inv X pins σ H s) (r:Vals vs us) (h:sp (vs++bh) H Q E):wpAny (model X.prog X.w) X.A (call (.ref f) us) (EP X pins σ Q) X.xe s:=by
 have r2:Vals (vs++bh) (us++ds):=r.append hd
 have hl:(us++ds).length=ps.length:=by rw [<- r2.length];exact F.len _ _ _ _ h
 refine wpAny_call (codeAny_mono (F.run X.A X.stack s H ⟨us,[]⟩ (us++ds) (vs++bh) Q E hr I.zD (hb s us I.hG hl) r2 h) λr s' hq=>?_)
 cases r with
 | error e=>exact hx pins σ H s e s' I hq
 | ok fl =>
  cases fl with
  | ret u=>exact I.after hq
  | next=>exact False.elim hq
  | brk=>exact False.elim hq
  | cont=>exact False.elim hq
theorem vT (F:dH X.prog X.w X.K X.mg X.base CX k f fd ps sp) (hr:cW k X.A) (hg:Gl X x) (hm:X.mg x=some (.ref f)) (hk:PySem.W.keepIn X.K (.ref f)=true) (hb:Binds X.K fd ps ds) (hd:Vals bh ds) (hx:Passes CX X E)
  (ha:PA X (e::es) t) (hdb:(x==("__debug__":Str))=false:=by decide) (he:starEach (e::es) X.env=(false,eval e X.env)::starEach es X.env:=by rfl) (hpl:(backTo pos (starEach es X.env)).any (·.1)=false:=by rfl) :
  PE X (.Call (.Name x p) (e::es) [] pos) (nQ sp bh E t):=by
 intro pins s σ H Q I h
 refine wpAny_Call_Name_kw (jf I hg hm ?_ hdb)
 refine PySem.W.callWith_K (h₀:=X.base) I.ok.mod.kin hk (bZ (ha pos pins s σ H _ I h) λus s1 ⟨vs,H1,I1,r,q⟩=>⟨I1.hG,?_⟩) he hpl
 exact yI F hr hb hd hx I1 r q
end
section
variable {X:Cx} {CX:jo} {k:Nat} {f C:Addr} {fd:FuncData} {ps ks:List Str} {sp:Sp} {E:XK} {x m:Str} {p pos apos kpos:Pos} {e o:Expr} {es:List Expr} {kws:List Keyword} {te ta:TE} {t tk:TA} {nm:Option Str}
variable {g:List Value->List Value->List Value} {gV:List V->List V->List V}
end
structure aC (N P:List Str) (sc:Scope):Prop where
 kind:sc.kind=.function
 co:sc.isCoroutine=false
 gen:sc.isGenerator=false
 nd:N.Nodup
 pre:N.take P.length=P
 par:∀ x∈P,sc.names.lookup x=some .local∨sc.names.lookup x=some .cell
 nofree:∀ y∈sc.names,y.2≠.free
theorem km {kindOf:Str->Option NameKind} {x:Str}:∀{binds:List (Str × Value)} {m:Str->Option Value},(∀ v,(x,v)∉binds)->bindL kindOf binds m x=m x
 | [],_,_=>rfl
 | (n,v)::r,m,h=>by
  unfold bindL
  rw [km λw hw=>h w (List.mem_cons_of_mem _ hw)]
  split
  ·have:x≠n:=by rintro rfl;exact h v List.mem_cons_self
   simp [this]
  ·rfl
theorem ki {kindOf:Str->Option NameKind} {x:Str}:∀{binds:List (Str × Value)} {m:Str->Option Value},(∀ v,(x,v)∉binds)->bindC kindOf binds m x=m x
 | [],_,_=>rfl
 | (n,v)::r,m,h=>by
  unfold bindC
  rw [ki λw hw=>h w (List.mem_cons_of_mem _ hw)]
  split
  ·rfl
  ·have:x≠n:=by rintro rfl;exact h v List.mem_cons_self
   simp [this]
theorem kj {kindOf:Str->Option NameKind} {x:Str} {v:Value}:∀{P:List Str} {vs:List Value} {i:Nat} {m:Str->Option Value},P.Nodup->P[i]?=some x->vs[i]?=some v->kindOf x=some .local ->
  bindL kindOf (P.zip vs) m x=some v
 | [],_,_,_,_,h,_,_=>by simp at h
 | _::_,[],_,_,_,_,h,_=>by simp at h
 | p::P,w::vs,0,m,nd,h1,h2,hk=>by
  simp at h1 h2;subst h1;subst h2
  show bindL kindOf ((p,w)::P.zip vs) m p=_
  unfold bindL
  rw [km λv hv=>(List.nodup_cons.mp nd).1 (List.of_mem_zip hv).1,if_pos hk]
  simp
 | p::P,w::vs,i+1,m,nd,h1,h2,hk=>by
  show bindL kindOf ((p,w)::P.zip vs) m x=_
  unfold bindL
  exact kj (i:=i) (List.nodup_cons.mp nd).2 (by simpa using h1) (by simpa using h2) hk
theorem kh {kindOf:Str->Option NameKind} {x:Str} {v:Value}:∀{P:List Str} {vs:List Value} {i:Nat} {m:Str->Option Value},P.Nodup->P[i]?=some x->vs[i]?=some v->kindOf x≠some .local ->
  bindC kindOf (P.zip vs) m x=some v
 | [],_,_,_,_,h,_,_=>by simp at h
 | _::_,[],_,_,_,_,h,_=>by simp at h
 | p::P,w::vs,0,m,nd,h1,h2,hk=>by
  simp at h1 h2;subst h1;subst h2
  show bindC kindOf ((p,w)::P.zip vs) m p=_
  unfold bindC
  rw [ki λv hv=>(List.nodup_cons.mp nd).1 (List.of_mem_zip hv).1,if_neg hk]
  simp
 | p::P,w::vs,i+1,m,nd,h1,h2,hk=>by
  show bindC kindOf ((p,w)::P.zip vs) m x=_
  unfold bindC
  exact kh (i:=i) (List.nodup_cons.mp nd).2 (by simpa using h1) (by simpa using h2) hk
def start (N:List Str) (vs:List V):St:=vs.map some++List.replicate (N.length-vs.length) none
def ft (CX:jo) (P:Program) (w:World) (K:PySem.W.Frag) (mg:Str->Option Value) (base:Heap) (N:List Str) (qual:Str) (scope:Scope) (f:Addr) (cd:Value) (A:Around) (outer:List Env) (s:Shared) (H:Hp) (E:XK):Cx where
 prog:=P
 w:=w
 K:=K
 mg:=mg
 base:=base
 A:=A.deeper (envOfC qual scope s.heap.objs.size f cd)
 N:=N
 s₀:=s
 H₀:=H
 env:=envOfC qual scope s.heap.objs.size f cd
 outer:=outer
 stack:=envOfC qual scope s.heap.objs.size f cd::outer
 ex:=[]
 calm:=true
 fn:=λ_=>true
 pn:=[]
 xe:=λe s'=>wpAny (model P w) (A.deeper (envOfC qual scope s.heap.objs.size f cd)) (leaving (envOfC qual scope s.heap.objs.size f cd) e) (λ_ s''=>CX outer H s E e s'') (λe' s''=>CX outer H s E e' s'') s'
theorem mE {sc:Scope} {n:Nat} {x:Str} (h:sc.names.lookup x=some .cell):∃ c,(cellsFrom n sc.names []).lookup x=some c:=by
 have q:=PySem.W.cellsFrom_some sc.names n [] (.inl h)
 exact Option.isSome_iff_exists.mp q
theorem qZ {CX:jo} {P:Program} {w:World} {K:PySem.W.Frag} {mg:Str->Option Value} {base:Heap} {N ps:List Str} {qual:Str} {scope:Scope} {f:Addr} {cd:Value} {A:Around} {outer:List Env} {s s1:Shared} {H:Hp} {E:XK} {us:List Value} {vs:List V}
  (S:aC N ps scope) (hd:A.handled=none) (e0:nZ P w K mg base A outer s H) (hl:vs.length=ps.length) (r:Vals vs us)
  (x:InCallC s s.heap.objs.size (bindL (envOfC qual scope s.heap.objs.size f cd).kindOf (ps.zip us) λ_=>none) (cellsFrom (s.heap.objs.size+1) scope.names []) (bindC (envOfC qual scope s.heap.objs.size f cd).kindOf (ps.zip us) λ_=>none) s1) :
  Inv (ft CX P w K mg base N qual scope f cd A outer s H E) [] (start N vs) H s1:=by
 have hpl:ps.length<=N.length:=by have:=congrArg List.length S.pre;rw [List.length_take] at this;omega
 obtain⟨h1,tk,rfl,hk⟩:=x.done
 have noA:∀ b:Addr,b∉(ft CX P w K mg base N qual scope f cd A outer s H E).ex:=λb z=>absurd (show b∈([]:List Addr) from z) (by simp)
 refine⟨⟨e0.mod,S.kind,rfl,rfl,Nat.le_refl _,λy z c h1 h2=>?_,λy hy=>?_,λy c _ h=>?_,λ_=>hd,Around.frames_deeper e0.frames,.inr ⟨rfl,rfl⟩,λb z=>absurd z (noA b),e0.bs,e0.bsz,λb _ _=>noA b,λb z=>absurd z (noA b),e0.i4,e0.frf⟩,
  rfl,e0.bare,Un.kept hk,⟨_,x.toInCall.ns,λi y v h1 h2 h3=>?_⟩,λy c h=>⟨_,x.cell y c h⟩,e0.hok.fresh (Nat.le_refl _),λy c h=>?_,λp hp=>absurd (show p∈([]:List (Addr × Obj)) from hp) (by simp),e0.hok.kept hk,?_⟩
 ·exact name_of_addr x.apart (PySem.mem_of_lookup h1) (PySem.mem_of_lookup h2)
 ·have hy:scope.names.lookup y=some .cell∨scope.names.lookup y=some .free:=hy
  rcases hy with hy | hy
  ·exact mE hy
  ·exact absurd rfl (S.nofree _ (PySem.mem_of_lookup hy))
 ·exact Nat.le_of_lt (x.above y c (PySem.mem_of_lookup h))
 ·have hi:i<vs.length:=by
   unfold start at h2
   by_cases hi:i<vs.length
   ·exact hi
   ·rw [List.getElem?_append_right (by simpa using hi)] at h2
    rw [List.getElem?_replicate] at h2
    split at h2<;>cases h2
  have ha:vs[i]?=some v:=by
   unfold start at h2
   rw [List.getElem?_append_left (by simpa using hi),List.getElem?_map] at h2
   cases e:vs[i]? with
   | none=>rw [e] at h2;cases h2
   | some a=>rw [e] at h2;cases h2;rfl
  obtain⟨u,hu,rv⟩:=r.get ha
  have hp:ps[i]?=some y:=by
   rw [<- S.pre,List.getElem?_take_of_lt (by omega)];exact h1
  have ndP:ps.Nodup:=by rw [<- S.pre];exact S.nd.sublist (List.take_sublist _ _)
  refine⟨u,rv,?_⟩
  rcases S.par y (List.mem_of_getElem? hp) with k | k
  ·exact .inl ⟨k,kj ndP hp hu k⟩
  ·obtain⟨c,e⟩:=mE (n:=s.heap.objs.size+1) k
   refine .inr ⟨.inl k,c,e,?_⟩
   have q:=x.cell y c e
   rw [kh ndP hp hu (by show scope.names.lookup y≠_;rw [k];decide)] at q
   exact q
 ·exact e0.hok.fresh (Nat.le_of_lt (x.above y c (PySem.mem_of_lookup h)))
 ·unfold start
  show _=N.length
  rw [List.length_append,List.length_map,List.length_replicate]
  omega
theorem wN {CX:jo} {P:Program} {w:World} {K:PySem.W.Frag} {mg:Str->Option Value} {base:Heap} {k:Nat} {f:Addr} {name qual:Str} {params:Arguments} {body:List Stmt} {scope:Scope} {dV kV doc pm cdv ct oc:Value} {an od:Option Addr}
  {osl:Array (Option Value)} {N ps:List Str} {sp:Sp} (lk:K.lookup f=some ⟨oc,od,.func (PySem.W.fnOf name qual params body scope dV kV doc pm an cdv ct),osl⟩) (hcd:PySem.W.codeIn K cdv qual=true) (S:aC N ps scope)
  (len:∀ vs H Q E,sp vs H Q E->vs.length=ps.length)
  (hbody:∀(A:Around) (outer:List Env) (s:Shared) (H:Hp) (vs:List V) (Q:VK) (E:XK),cW k (A.deeper (envOfC qual scope s.heap.objs.size f cdv))->sp vs H Q E ->
   ∃ t,ja (ft CX P w K mg base N qual scope f cdv A outer s H E) body t/\t { nx:=λ_ H'=>Q .bw H',rt:=Q } (start N vs) H) :
  dH P w K mg base CX (k+1) f (PySem.W.fnOf name qual params body scope dV kV doc pm an cdv ct) ps sp:=by
 refine⟨len,λA outer s H args us vs Q E hr e0 hb r hsp=>?_⟩
 have hl:=len _ _ _ _ hsp
 have KX:K.In s.heap:=e0.mod.kin.keeps λb o e=>(e0.bs b o e).1
 have lim:s.heap.NoLimit:=e0.mod.nolimit.keeps λb o e=>(e0.bs b o e).1
 have hkind:∀ y∈ps.zip us,scope.names.lookup y.1=some .local∨(scope.names.lookup y.1=some .cell/\((cellsFrom (s.heap.objs.size+1) scope.names []).lookup y.1).isSome=true):=fun⟨n,v⟩ hy=>by
  rcases S.par n (List.of_mem_zip hy).1 with q | q
  ·exact .inl q
  ·exact .inr ⟨q,PySem.W.cellsFrom_some _ _ _ (.inl q)⟩
 refine codeAny_call_function hr.depth (KX _ _ lk) rfl S.co S.gen rfl (PySem.W.codeRec_of KX hcd) (hb _ _ _ _ ?_)
 refine wpAny_newFunctionEnv_cells S.kind hkind λenv he s1 x=>?_
 subst he
 refine⟨lim.keeps x.toInCall.keep,codeAny_func ?_⟩
 obtain⟨t,ht,hq⟩:=hbody A outer s H vs Q E (hr.deeper _) hsp
 have I:Inv (ft CX P w K mg base N qual scope f cdv A outer s H E) [] (start N vs) H s1:=qZ S hr.hd e0 hl r x
 refine wpAny_mono (ht [] s1 (start N vs) H _ I hq) (λfl s' hs=>?_) λe s' hs=>hs
 have fin:∀{σ':St} {H':Hp} {v:V} {u:Value},Inv (ft CX P w K mg base N qual scope f cdv A outer s H E) [] σ' H' s'->RelV v u->Q v H'->CE outer P w H s Q u s' :=
  λ{σ' H' v u} J rv q=>⟨v,H',J.os,J.bare,J.base,J.hok,rv,q⟩
 cases fl with
 | ret u =>
  obtain⟨v,σ',H',J,rv,q⟩:=hs
  exact fin J rv q
 | next =>
  obtain⟨σ',H',J,q⟩:=hs
  exact fin (v:=V.bw) (u:=Value.none) J rfl q
 | brk =>
  obtain⟨_,_,_,q⟩:=hs
  exact False.elim q
 | cont =>
  obtain⟨_,_,_,q⟩:=hs
  exact False.elim q
section
variable {X:Cx} {x:Str} {p pos:Pos} {e:Expr} {es:List Expr} {t:TA} {id T:String} {r:List V->Hp->VK->Prop}
def Bh (r:List V->Hp->VK->Prop) (t:TA):TE:=λσ H Q=>t σ H λvs H1=>r vs H1 Q
theorem aG (hc:fF X (.builtin id) r) (hg:Gl X x) (hm:X.mg x=none) (hv:bootBuiltins x=some (.builtin id)) (ha:PA X (e::es) t) (hn:x ≠ "__name__":=by decide) (hdb:(x==("__debug__":Str))=false:=by decide)
  (he:starEach (e::es) X.env=(false,eval e X.env)::starEach es X.env:=by rfl) (hpl:(backTo pos (starEach es X.env)).any (·.1)=false:=by rfl):PE X (.Call (.Name x p) (e::es) [] pos) (Bh r t):=by
 intro pins s σ H Q I h
 refine wpAny_Call_Name_kw (jA I hg hm hv ?_ hn hdb)
 exact PyProof.Rows.callWith_builtin1 (bZ (ha pos pins s σ H _ I h) λus s1 ⟨vs,H1,I1,r1,q1⟩=>hc pins s1 σ H1 vs us Q I1 r1 q1) he hpl
theorem cq (hc:fF X (.type T) r) (hg:Gl X x) (hm:X.mg x=none) (hv:bootBuiltins x=some (.type T)) (ha:PA X (e::es) t) (hn:x ≠ "__name__":=by decide) (hdb:(x==("__debug__":Str))=false:=by decide)
  (he:starEach (e::es) X.env=(false,eval e X.env)::starEach es X.env:=by rfl) (hpl:(backTo pos (starEach es X.env)).any (·.1)=false:=by rfl):PE X (.Call (.Name x p) (e::es) [] pos) (Bh r t):=by
 intro pins s σ H Q I h
 refine wpAny_Call_Name_kw (jA I hg hm hv ?_ hn hdb)
 exact PyProof.Rows.callWith_type1 (bZ (ha pos pins s σ H _ I h) λus s1 ⟨vs,H1,I1,r1,q1⟩=>hc pins s1 σ H1 vs us Q I1 r1 q1) he hpl
end
end L2
namespace HT
open PySem PyProof.Rows
section
open PySem.SeqAt
open PySem.AutoSeq1 (wpAny_loadPart')
open PySem.MeetsSeq PySem.MeetsSeq2 PySem.MeetsSeq3
end
section
variable {prog:Program} {w:World} {A:Around} {E:Value->Shared->Prop} {s:Shared}
theorem u4 {t b:Addr} {vs ws:List Value} {Q:Value->Shared->Prop} (ht:IsTup s.heap t vs.toArray) (hb:IsTup s.heap b ws.toArray) (hv:vs≠[])
  (h1:ws=[]->Q (.ref t) s) (h2:ws≠[]->Q (.ref s.heap.objs.size) { s with heap:=s.heap.push { cls:=.type "tuple",data:=.seq (vs++ws).toArray } })
  (hsz:vs.length+ws.length<=sizeLine):wpAny (model prog w) A (binaryOp .Add (.ref t) (.ref b)) Q E s:=by
 obtain⟨⟨cls,dd,data,sl⟩,ho,hc,n,hd⟩:=id ht
 obtain⟨⟨cls2,dd2,data2,sl2⟩,ho2,hc2,n2,hd2⟩:=id hb
 simp only at hc hd hc2 hd2
 subst hc hd hc2 hd2
 have e:vs.toArray++ws.toArray=(vs++ws).toArray:=by simp
 by_cases hw:ws=[]
 ·exact concat_meets ⟨_,ho,rfl⟩ ⟨_,ho2,rfl⟩ noFill_tuple_add seq_tuple_add PySem.F.slot_tuple_add PySem.F.entry_tuple_add (PySem.F.args_tuple_add_2 _ _)
   (tuple_addW1 t b vs.toArray ws.toArray n n2 dd dd2 sl sl2 (by simpa using hv) (by simp [hw])) ⟨ho,ho2,h1 hw⟩
 ·refine concat_meets ⟨_,ho,rfl⟩ ⟨_,ho2,rfl⟩ noFill_tuple_add seq_tuple_add PySem.F.slot_tuple_add PySem.F.entry_tuple_add (PySem.F.args_tuple_add_2 _ _)
   (tuple_addW2 t b vs.toArray ws.toArray n n2 dd dd2 sl sl2 (by simpa using hv) (by simpa using hw) (by rw [List.size_toArray,List.size_toArray];exact hsz)) ⟨ho,ho2,?_⟩
  rw [e]
  exact h2 hw
def c6 (n d:Nat):Option Int->Nat
 | none=>d
 | some v=>if v<0 then (v+(n:Int)).toNat else min v.toNat n
theorem yJ (n d:Nat) (hd:d<=n) (o:Option Int):c6 n d o<=n:=by
 cases o with
 | none=>exact hd
 | some v =>
  show (if v<0 then (v+(n:Int)).toNat else min v.toNat n)<=n
  by_cases hv:v<0
  ·rw [if_pos hv];omega
  ·rw [if_neg hv];exact Nat.min_le_right _ _
theorem pP (v:Int) (n d:Nat):(if v<0 then max (v+(n:Int)) 0 else min v (n:Int))=((c6 n d (some v):Nat):Int):=by
 show (if v<0 then max (v+(n:Int)) 0 else min v (n:Int))=(((if v<0 then (v+(n:Int)).toNat else min v.toNat n):Nat):Int)
 by_cases hv:v<0
 ·simp only [if_pos hv];omega
 ·simp only [if_neg hv];omega
theorem oh (lo hi:Option Int) (n:Nat):Builtin.Slice.sliceAdjust lo hi 1 (n:Int)=(((c6 n 0 lo:Nat):Int),((c6 n n hi:Nat):Int)):=by
 have h1:¬((1:Int)<0):=by omega
 unfold Builtin.Slice.sliceAdjust
 simp only [h1,if_false]
 refine Prod.ext ?_ ?_
 ·cases lo with
  | none=>rfl
  | some v=>exact pP v n 0
 ·cases hi with
  | none=>rfl
  | some v=>exact pP v n n
theorem oY (i j:Nat):Builtin.Slice.slicePlaces (i:Int) (j:Int) 1=j-i:=by
 unfold Builtin.Slice.slicePlaces
 have h1:(1:Int) > 0:=by omega
 simp only [h1,if_true,Int.ediv_one]
 split<;>omega
theorem gM {v:Value} {o:Option Int} {Q:Option Int->Shared->Prop} (p:IsPart v o) (h:Q o s):wpAny (model prog w) A (Builtin.Slice.slicePartIndex v) Q E s:=by
 cases p with
 | none=>exact slicePart_none h
 | int i t=>exact slicePart_int h
theorem ff {sl:Addr} {vl vu:Value} {lo hi:Option Int} {n:Nat} {Q:Int × Int × Nat->Shared->Prop} (hs:s.heap.IsSliceOf sl vl vu .none) (pl:IsPart vl lo) (pu:IsPart vu hi)
  (h:Q (((c6 n 0 lo:Nat):Int),1,c6 n n hi-c6 n 0 lo) s):wpAny (model prog w) A (Builtin.Slice.sliceApplied (.ref sl) (pure (n:Int))) Q E s:=by
 obtain⟨os,hos,hcs,hds⟩:=id hs
 unfold Builtin.Slice.sliceApplied Builtin.Slice.sliceFields
 refine wpAny_bind (wpAny_bind (wpAny_field hos hds (x:=vl) rfl (wpAny_bind (wpAny_field hos hds (x:=vu) rfl (wpAny_bind (wpAny_field hos hds (x:=.none) rfl (wpAny_pure ?_)))))))
 refine wpAny_bind (slicePart_none ?_)
 show wpAny _ _ (if ((1:Int)==0)=true then _ else _) _ _ s
 rw [if_neg (by decide)]
 refine wpAny_bind (gM pl (wpAny_bind (gM pu (wpAny_bind (wpAny_pure ?_)))))
 show wpAny _ _ (match Builtin.Slice.sliceAdjust lo hi 1 (n:Int) with | (lo,hi)=>pure (lo,(1:Int),Builtin.Slice.slicePlaces lo hi 1)) _ _ s
 rw [oh lo hi n]
 show wpAny _ _ (pure (((c6 n 0 lo:Nat):Int),(1:Int),Builtin.Slice.slicePlaces ((c6 n 0 lo:Nat):Int) ((c6 n n hi:Nat):Int) 1)) _ _ s
 rw [oY]
 exact wpAny_pure h
theorem tX (xs:Array Value) (i k:Nat):((List.range k).filterMap fun(m:Nat)=>xs[((i:Int)+(m:Int)*1).toNat]?).toArray=((xs.toList.drop i).take k).toArray:=by
 have e:(fun(m:Nat)=>xs[((i:Int)+(m:Int)*1).toNat]?)=λm=>xs[i+m]?:=by
  funext m
  have:((i:Int)+(m:Int)*1).toNat=i+m:=by omega
  rw [this]
 rw [e]
 have:=pick_run xs i k
 rw [List.filterMap_map] at this
 have e2:((λx=>xs[x]?)∘λx=>i+x)=λm=>xs[i+m]?:=rfl
 rw [e2] at this
 rw [this]
theorem gX {t sl:Addr} {items:Array Value} {vl vu:Value} {lo hi:Option Int} {Q:Value->Shared->Prop} (ht:IsTup s.heap t items) (hs:s.heap.IsSliceOf sl vl vu .none) (pl:IsPart vl lo) (pu:IsPart vu hi)
  (hw:¬(c6 items.size 0 lo=0/\c6 items.size items.size hi=items.size))
  (h:Q (.ref s.heap.objs.size) { s with heap:=s.heap.push { cls:=.type "tuple",data:=.seq ((items.toList.drop (c6 items.size 0 lo)).take (c6 items.size items.size hi-c6 items.size 0 lo)).toArray } })
  (hsz:items.size<=sizeLine):wpAny (model prog w) A (getItem (.ref t) (.ref sl)) Q E s:=by
 have htake:sizeOk (.seq ((items.toList.drop (c6 items.size 0 lo)).take (c6 items.size items.size hi-c6 items.size 0 lo)).toArray):=by
  show ((items.toList.drop (c6 items.size 0 lo)).take (c6 items.size items.size hi-c6 items.size 0 lo)).toArray.size<=sizeLine
  rw [List.size_toArray,List.length_take,List.length_drop,Array.length_toList]
  omega
 have hj:c6 items.size items.size hi<=items.size:=yJ _ _ (Nat.le_refl _) hi
 obtain⟨os,hos,hcs,hds⟩:=id hs
 have hTs:s.TypeIs (.ref sl) "slice":=⟨os,hos,hcs⟩
 unfold getItem
 try with_reducible refine wpAny_holding ?_
 first | refine wpAny_bind (wpAny_pure ?_) | skip
 refine wpAny_bind (wpAny_sequenceKey ht.typeIs (by decide) ?_)
 refine wpAny_bind (wpAny_callSpecial?_slot (name:=Str.ofString "__getitem__") ht.typeIs PyProof.Rows.slot_tuple_getitem
  (wpAny_call_entry PyProof.Rows.slot_tuple_getitem ht.typeIs entry_tuple_getitem ?_ (args_tuple_getitem _ _)))
 show wpAny _ _ (Builtin.Tuple.tupleItemsOf (.ref t) >>= _) _ _ s
 refine wpAny_bind (tupleItemsOf_ ht ?_)
 refine wpAny_bind (wpAny_typeOf hTs ?_)
 rw [if_pos (by decide)]
 refine wpAny_bind (ff hs pl pu ?_)
 have hno:¬((((c6 items.size 0 lo:Nat):Int)==0 && (1:Int)==1 && (c6 items.size items.size hi-c6 items.size 0 lo)==items.size)=true):=by
  intro q
  rw [Bool.and_eq_true,Bool.and_eq_true] at q
  have q1:((c6 items.size 0 lo:Nat):Int)=0:=eq_of_beq q.1.1
  have q2:c6 items.size items.size hi-c6 items.size 0 lo=items.size:=eq_of_beq q.2
  exact hw ⟨by omega,by omega⟩
 show wpAny _ _ (if (((c6 items.size 0 lo:Nat):Int)==0 && (1:Int)==1 && (c6 items.size items.size hi-c6 items.size 0 lo)==items.size)=true then _ else _) _ _ s
 rw [if_neg hno,tX]
 first
  | exact wpAny_bind (m:=Builtin.Tuple.tupleExact _) (wpAny_newObj_type (wpAny_pure ⟨_,rfl,wpAny_pure h⟩) htake)
  | exact wpAny_bind (m:=Builtin.Tuple.tupleExact _) (wpAny_newObj_type (wpAny_bind (wpAny_pure (wpAny_pure ⟨_,rfl,wpAny_pure h⟩))) htake)
  | exact wpAny_bind (wpAny_bind (m:=Builtin.Tuple.tupleExact _) (wpAny_newObj_type (wpAny_pure (wpAny_pure ⟨_,rfl,wpAny_pure h⟩)) htake))
  | exact wpAny_bind (wpAny_bind (m:=Builtin.Tuple.tupleExact _) (wpAny_newObj_type (wpAny_pure ⟨_,rfl,wpAny_pure h⟩) htake))
end
end HT
namespace L2
open PySem PySem.Spec PyProof.Rows
abbrev TO:=St->Hp->(Option Int->Hp->Prop)->Prop
def PO (X:Cx) (e:Option Expr) (t:TO):Prop :=
 ∀(pins:List (Addr × Obj)) (s:Shared) (σ:St) (H:Hp) (Q:Option Int->Hp->Prop),Inv X pins σ H s->t σ H Q ->
  wpAny (model X.prog X.w) X.A (evalPart e X.env) (λu s'=>∃ o H',Inv X pins σ H' s'/\IsPart u o/\Q o H') X.xe s
def qJ:TO:=λ_ H Q=>Q none H
def xC (t:TE):TO:=λσ H Q=>t σ H λx H1=>∃ i,x=.int i/\Q (some i) H1
section
variable {X:Cx} {e:Expr} {te:TE} {lo hi:Option Expr} {tl th:TO} {pos p2:Pos}
theorem cH:PO X none qJ:=by
 intro pins s σ H Q I h
 rw [evalPart_none]
 exact wpAny_pure ⟨none,H,I,.none,h⟩
theorem cn (h:PE X e te):PO X (some e) (xC te):=by
 intro pins s σ H Q I hw
 rw [evalPart_some]
 refine bZ (h pins s σ H _ I hw) λu s1 ⟨x,H1,I1,r1,q1⟩=>?_
 obtain⟨i,rfl,q⟩:=q1
 obtain⟨t,rfl⟩:=r1
 exact⟨some i,H1,I1,.int i t,q⟩
def Ax (X:Cx) (r:V->Option Int->Option Int->Hp->VK->Prop):Prop :=
 ∀(pins:List (Addr × Obj)) (s:Shared) (σ:St) (H:Hp) (x:V) (v vl vu:Value) (lo hi:Option Int) (sl:Addr) (Q:VK),Inv X pins σ H s->RelV x v->s.heap.IsSliceOf sl vl vu .none->IsPart vl lo->IsPart vu hi->r x lo hi H Q ->
  ∃ T id,typeLookup (.type T) "__getitem__"=pure (some (.builtin id))/\s.TypeIs v T/\wpAny (model X.prog X.w) X.A (getItem v (.ref sl)) (EP X pins σ Q) X.xe s
def BE (r:V->Option Int->Option Int->Hp->VK->Prop) (te:TE) (tl th:TO):TE:=λσ H Q=>te σ H λx H1=>tl σ H1 λl H2=>th σ H2 λu H3=>r x l u H3 Q
theorem bP {r:V->Option Int->Option Int->Hp->VK->Prop} (hr:Ax X r) (he:PE X e te) (hl:PO X lo tl) (hu:PO X hi th):PE X (.Subscript e (.Slice lo hi none p2) pos) (BE r te tl th):=by
 intro pins s σ H Q I h
 refine Subscript_ (bZ (he pins s σ H _ I h) λv s1 ⟨x,H1,I1,r1,q1⟩=>?_)
 refine wpAny_Slice (bZ (hl pins s1 σ H1 _ I1 q1) λvl s2 ⟨l,H2,I2,pl,q2⟩=>bZ (hu pins s2 σ H2 _ I2 q2) λvu s3 ⟨u,H3,I3,pu,q3⟩=>?_)
 rw [evalPart_none]
 refine wpAny_pure ?_
 have I4:Inv X pins σ H3 { s3 with heap:=s3.heap.push { cls:=.type "slice",data:=.fields #[vl,vu,.none] } }:=I3.kept (t':=s3.toks) λb ob q=>Heap.get?_push_of_some _ q
 obtain⟨T,id,hT,ht,hg⟩:=hr pins { s3 with heap:=s3.heap.push { cls:=.type "slice",data:=.fields #[vl,vu,.none] } } σ H3 x v vl vu l u s3.heap.objs.size Q I4 r1 (Heap.IsSliceOf.new ..) pl pu q3
 show wpAny (model X.prog X.w) X.A (subscriptTail e (.Slice lo hi none p2) v (.ref s3.heap.objs.size)) (EP X pins σ Q) X.xe { s3 with heap:=s3.heap.push { cls:=.type "slice",data:=.fields #[vl,vu,.none] } }
 exact tail_any (ops:=[.ref s3.heap.objs.size,v]) ht hT hg (by with_unfolding_all rfl)
def eQ (xs:List V) (lo hi:Option Int):List V:=(xs.drop (HT.c6 xs.length 0 lo)).take (HT.c6 xs.length xs.length hi-HT.c6 xs.length 0 lo)
theorem dD (xs:List V) (lo hi:Option Int):(eQ xs lo hi).length<=xs.length:=by
 unfold eQ
 rw [List.length_take,List.length_drop]
 omega
def Bf (K:PySem.W.Frag):V->Option Int->Option Int->Hp->VK->Prop:=λx lo hi H Q=>∃ a xs,x=.ref a/\aJ K H a xs /\
 ¬(HT.c6 xs.length 0 lo=0/\HT.c6 xs.length xs.length hi=xs.length)/\∀ p,H p=none->Q (.ref p) (upd H p (.tup (eQ xs lo hi)))
theorem yM:Ax X (Bf X.K):=by
 intro pins s σ H x v vl vu lo hi sl Q I rx hs pl pu h
 obtain⟨a,xs,rfl,hx,hw,q⟩:=h
 cases rx
 obtain⟨its,r,ht,hz⟩:=I.tuple hx
 have hlen:its.toArray.size=xs.length:=by rw [List.size_toArray];exact r.length.symm
 refine⟨"tuple",_,PyProof.Rows.slot_tuple_getitem.lookup,ht.typeIs,?_⟩
 refine HT.gX ht hs pl pu (by rw [hlen];exact hw) ?_ (by rw [hlen];exact hz)
 rw [hlen]
 refine⟨.ref s.heap.objs.size,_,I.laid (t':=s.toks) (o:=.tup (eQ xs lo hi)) (λb ob q=>Heap.get?_push_of_some _ q) (Nat.le_refl _) ?_,rfl,q _ (I.hok.fresh (Nat.le_refl _))⟩
 exact⟨Nat.le_trans (dD xs lo hi) hz,_,(r.drop (HT.c6 xs.length 0 lo)).take (HT.c6 xs.length xs.length hi-HT.c6 xs.length 0 lo),IsTup.new _ _⟩
def zX (K:PySem.W.Frag):R2:=λx y H Q=>∃ a b xs ys,x=.ref a/\y=.ref b/\aJ K H a xs/\aJ K H b ys/\xs≠[]/\xs.length+ys.length<=sizeLine /\
 (ys=[]->Q (.ref a) H)/\(ys≠[]->∀ p,H p=none->Q (.ref p) (upd H p (.tup (xs++ys))))
theorem Vals.jg {xs:List V} {us:List Value} (r:Vals xs us):us=[]↔xs=[]:=by
 cases r with
 | nil=>simp
 | cons _ _=>simp
theorem vO:gv X (binaryOp .Add) (zX X.K):=by
 intro pins s σ H x y v u Q I rx ry h
 obtain⟨a,b,xs,ys,rfl,rfl,ha,hb,hx,hz,q1,q2⟩:=h
 cases rx
 cases ry
 obtain⟨its,r1,p1,_⟩:=I.tuple ha
 obtain⟨its2,r2,p2,_⟩:=I.tuple hb
 refine HT.u4 p1 p2 (λz=>hx (r1.jg.mp z)) (λz=>⟨.ref a,H,I,rfl,q1 (r2.jg.mp z)⟩) (λz=>?_) (by rw [<- r1.length,<- r2.length];exact hz)
 refine⟨.ref s.heap.objs.size,_,I.laid (t':=s.toks) (o:=.tup (xs++ys)) (λb ob q=>Heap.get?_push_of_some _ q) (Nat.le_refl _) ?_,rfl,q2 (λw=>z (r2.jg.mpr w)) _ (I.hok.fresh (Nat.le_refl _))⟩
 exact⟨by rw [List.length_append];exact hz,_,r1.append r2,IsTup.new _ _⟩
end
def uR (n:Nat) (i:Int):Option Nat:=if 0<=i then (if i<n then some i.toNat else none) else if -(n:Int)<=i then some (i+n).toNat else none
def pM {α:Type} (xs:List α) (i:Int):Option α:=(uR xs.length i).bind λj=>xs[j]?
theorem vq {n:Nat} {i:Int} {j:Nat} (h:uR n i=some j):seqIndex? i n=some j/\j<n /\ -(n:Int)<=i/\i<n:=by
 unfold uR at h
 by_cases h0:0<=i
 ·rw [if_pos h0] at h
  by_cases h1:i<n
  ·rw [if_pos h1] at h
   have e:i.toNat=j:=Option.some.inj h
   exact⟨by rw [seqIndex_of h0 h1,e],by omega,by omega,h1⟩
  ·rw [if_neg h1] at h;cases h
 ·rw [if_neg h0] at h
  by_cases h1:-(n:Int)<=i
  ·rw [if_pos h1] at h
   have e:(i+n).toNat=j:=Option.some.inj h
   exact⟨by rw [seqIndex_neg (by omega) h1,e],by omega,h1,by omega⟩
  ·rw [if_neg h1] at h;cases h
theorem pN {α:Type} {xs:List α} {i:Int} {v:α} (h:pM xs i=some v):∃ j,seqIndex? i xs.length=some j/\xs[j]?=some v/\j<xs.length /\ -(xs.length:Int)<=i/\i<xs.length:=by
 unfold pM at h
 cases e:uR xs.length i with
 | none=>rw [e] at h;cases h
 | some j =>
  rw [e] at h
  obtain⟨h1,h2,h3,h4⟩:=vq e
  exact⟨j,h1,h,h2,h3,h4⟩
theorem fk {α:Type} {xs:List α} {j:Nat} {v:α} (h:xs[j]?=some v):pM xs (j:Int)=some v:=by
 have hj:j<xs.length:=(List.getElem?_eq_some_iff.mp h).1
 have e:uR xs.length (j:Int)=some j:=by
  unfold uR
  rw [if_pos (by omega),if_pos (by omega)];simp
 unfold pM;rw [e];exact h
theorem sg {α:Type} (xs:List α) (v:α):pM (xs++[v]) (-1)=some v:=by
 have hl:(xs++[v]).length=xs.length+1:=by simp
 have e:uR (xs++[v]).length (-1)=some xs.length:=by
  unfold uR
  rw [hl,if_neg (by decide),if_pos (by omega)]
  congr 1
  omega
 unfold pM
 rw [e]
 show (xs++[v])[xs.length]?=some v
 simp
def uV (b:Expr):Prop:=∀ o i,subscripted b false o i=operate [o,i] (getItem o i)
def Ar (X:Cx) (r:R2):Prop :=
 ∀(value slice:Expr) (pins:List (Addr × Obj)) (s:Shared) (σ:St) (H:Hp) (x y:V) (v u:Value) (Q:VK),Inv X pins σ H s->RelV x v->RelV y u->r x y H Q ->
  subscripted slice false v u=operate [v,u] (getItem v u)->wpAny (model X.prog X.w) X.A (subscriptTail value slice v u) (EP X pins σ Q) X.xe s
def AK (X:Cx) (id:String) (r:V->List V->Hp->VK->Prop):Prop :=
 ∀(pins:List (Addr × Obj)) (s:Shared) (σ:St) (H:Hp) (x:V) (xs:List V) (v:Value) (us:List Value) (Q:VK),Inv X pins σ H s->RelV x v->Vals xs us->r x xs H Q ->
  wpAny (model X.prog X.w) X.A (call (.builtin id) (v::us)) (EP X pins σ Q) X.xe s
section
variable {X:Cx} {a b:Expr} {ta tb:TE} {pos:Pos}
theorem aO {r:R2} (hr:Ar X r) (ha:PE X a ta) (hb:PE X b tb) (hs:uV b):PE X (.Subscript a b pos) (wx r ta tb):=by
 intro pins s σ H Q I h
 exact Subscript_ (xP ha hb I h λv u s2 x y H2 I2 rx ry q=>hr a b pins s2 σ H2 x y v u Q I2 rx ry q (hs _ _))
def v5 (K:PySem.W.Frag):R2:=λx y H Q=>∃ p xs i v,x=.ref p/\y=.int i/\aV K H p xs/\pM xs i=some v/\Q v H
def yG (K:PySem.W.Frag):R2:=λx y H Q=>∃ p xs i v,x=.ref p/\y=.int i/\aJ K H p xs/\pM xs i=some v/\Q v H
theorem bW:Ar X (v5 X.K):=by
 intro value slice pins s σ H x y v u Q I rx ry h hs
 obtain⟨p,xs,i,z,rfl,rfl,hq,he,q⟩:=h
 cases rx
 obtain⟨t,rfl⟩:=ry
 obtain⟨its,r,pl,hz⟩:=I.list hq
 obtain⟨j,h1,h2,h3,h4,h5⟩:=pN he
 obtain⟨w,ew,rw'⟩:=r.get h2
 have hl:=r.length
 have hn:=lF
 have fin:EP X pins σ Q w s:=⟨z,H,I,rw',q⟩
 by_cases h0:0<=i
 ·have hj:i.toNat=j:=by
   rw [seqIndex_of h0 h5] at h1
   exact Option.some.inj h1
  exact item_listR pl.isList h0 (by omega) (by rw [hj];simpa using ew) fin hs
 ·have hj:(i+(its.toArray.size:Int)).toNat=j:=by
   rw [seqIndex_neg (by omega) h4] at h1
   rw [List.size_toArray,<- hl]
   exact Option.some.inj h1
  exact subscriptTail_builtinR (x:=w) pl.isList.typeIs slot_list_getitem.lookup
   (wpAny_getItem_list_neg (Q:=λr s'=>r=w/\EP X pins σ Q r s') pl.isList (by omega) (by rw [List.size_toArray]<;>omega) (by omega) (by rw [hj];simpa using ew) ⟨rfl,fin⟩) hs
theorem aS:Ar X (yG X.K):=by
 intro value slice pins s σ H x y v u Q I rx ry h hs
 obtain⟨p,xs,i,z,rfl,rfl,hq,he,q⟩:=h
 cases rx
 obtain⟨t,rfl⟩:=ry
 obtain⟨its,r,pl,hz⟩:=I.tuple hq
 obtain⟨j,h1,h2,h3,h4,h5⟩:=pN he
 obtain⟨w,ew,rw'⟩:=r.get h2
 have hl:=r.length
 have hn:=lF
 have fin:EP X pins σ Q w s:=⟨z,H,I,rw',q⟩
 exact subscriptTail_builtinR (x:=w) pl.typeIs slot_tuple_getitem.lookup
  (getItem_tuple (j:=j) (Q:=λr s'=>r=w/\EP X pins σ Q r s') pl (by omega) (by omega) (by rw [List.size_toArray,<- hl];exact h1) (by simpa using ew) ⟨rfl,fin⟩) hs
theorem Inv.lst {pins:List (Addr × Obj)} {σ:St} {H:Hp} {s:Shared} {p:Addr} {xs:List V} (I:Inv X pins σ H s) (h:H p=some (.lst xs)) :
  ∃(its:List Value) (n:Nat),Vals xs its/\s.heap.get? p=some { cls:=.type "list",data:=.seq its.toArray n }/\xs.length<=sizeLine:=by
 obtain⟨z,its,n,r,e⟩:=I.hok p _ h
 exact⟨its,n,r,e,z⟩
theorem l7 (lo hi:Option Int) (n:Nat):(sliceBounds lo hi none n).1=((HT.c6 n 0 lo:Nat):Int)/\(sliceBounds lo hi none n).2.1=((HT.c6 n n hi:Nat):Int)/\(sliceBounds lo hi none n).2.2=1:=by
 refine⟨?_,?_,rfl⟩
 ·cases lo with
  | none=>simp [sliceBounds,HT.c6]
  | some i =>
   simp only [sliceBounds,HT.c6,Option.getD_none,show (1:Int) > 0 by decide,if_true]
   by_cases h:i<0
   ·simp only [h,if_true]<;>omega
   ·simp only [h,if_false]<;>omega
 ·cases hi with
  | none=>simp [sliceBounds,HT.c6]
  | some i =>
   simp only [sliceBounds,HT.c6,Option.getD_none,show (1:Int) > 0 by decide,if_true]
   by_cases h:i<0
   ·simp only [h,if_true]<;>omega
   ·simp only [h,if_false]<;>omega
theorem j7 (its:List Value) (lo hi:Option Int):slicePick its.toArray lo hi none=((its.drop (HT.c6 its.length 0 lo)).take (HT.c6 its.length its.length hi-HT.c6 its.length 0 lo)).toArray:=by
 obtain⟨h1,h2,h3⟩:=l7 lo hi its.toArray.size
 unfold slicePick
 rw [h1,h2,h3]
 simp only [sliceRange_one,pick_run,List.size_toArray]<;>rfl
def Be (K:PySem.W.Frag):V->Option Int->Option Int->Hp->VK->Prop:=λx lo hi H Q=>∃ a xs,x=.ref a/\aV K H a xs/\∀ p,H p=none->Q (.ref p) (upd H p (.lst (eQ xs lo hi)))
theorem wm:Ax X (Be X.K):=by
 intro pins s σ H x v vl vu lo hi sl Q I rx hs pl pu h
 obtain⟨a,xs,rfl,hx,q⟩:=h
 cases rx
 obtain⟨its,r,ht,hz⟩:=I.list hx
 have hlen:=r.length
 refine⟨"list",_,slot_list_getitem.lookup,ht.isList.typeIs,?_⟩
 refine wpAny_getItem_list_slice ht.isList hs pl pu .none (by simp) ?_ (by rw [List.size_toArray]<;>omega)
 rw [j7,<- hlen]
 refine⟨.ref s.heap.objs.size,_,I.laid (t':=s.toks) (o:=.lst (eQ xs lo hi)) (λb ob q=>Heap.get?_push_of_some _ q) (Nat.le_refl _) ?_,rfl,q _ (I.hok.fresh (Nat.le_refl _))⟩
 exact⟨Nat.le_trans (dD xs lo hi) hz,_,0,(r.drop (HT.c6 xs.length 0 lo)).take (HT.c6 xs.length xs.length hi-HT.c6 xs.length 0 lo),Heap.get?_push_size _ rfl⟩
def dY:V->Bool
 | .bw=>true
 | .bl _=>true
 | .int _=>true
 | .str _=>true
 | _=>false
def mM:V->V->Bool
 | .bw,.bw=>true
 | .bl a,.bl b=>a==b
 | .bl a,.int b=>(if a then 1 else 0)==b
 | .int a,.bl b=>a==(if b then 1 else 0)
 | .int a,.int b=>a==b
 | .str a,.str b=>a==b
 | _,_=>false
theorem xW {A:Around} {s:Shared} {y x:V} {u v:Value} (ry:RelV y u) (rx:RelV x v) (fy:dY y=true) (fx:dY x=true):SeqAt.EqAt A s u v (mM y x):=by
 cases y with
 | bw =>
  cases ry
  cases x with
  | bw=>cases rx;exact SeqAt.EqAt.same _
  | bl b=>cases rx;exact SeqAt.EqAt.none_bool b
  | int b=>obtain⟨t,rfl⟩:=rx;exact SeqAt.EqAt.none_int b t
  | str b=>obtain⟨t,rfl⟩:=rx;exact SeqAt.EqAt.none_str b t
  | _=>exact absurd (show false=true from fx) Bool.false_ne_true
 | bl a =>
  cases ry
  cases x with
  | bw=>cases rx;exact SeqAt.EqAt.bool_none a
  | bl b=>cases rx;exact SeqAt.EqAt.bool_bool a b
  | int b=>obtain⟨t,rfl⟩:=rx;exact SeqAt.EqAt.bool_int a b t
  | str b=>obtain⟨t,rfl⟩:=rx;exact SeqAt.EqAt.bool_str a b t
  | _=>exact absurd (show false=true from fx) Bool.false_ne_true
 | int a =>
  obtain⟨t',rfl⟩:=ry
  cases x with
  | bw=>cases rx;exact SeqAt.EqAt.int_none a t'
  | bl b=>cases rx;exact SeqAt.EqAt.int_bool a t' b
  | int b=>obtain⟨t,rfl⟩:=rx;exact SeqAt.EqAt.int_int a t' b t
  | str b=>obtain⟨t,rfl⟩:=rx;exact SeqAt.EqAt.int_str a t' b t
  | _=>exact absurd (show false=true from fx) Bool.false_ne_true
 | str a =>
  obtain⟨t',rfl⟩:=ry
  cases x with
  | bw=>cases rx;exact SeqAt.EqAt.str_none a t'
  | bl b=>cases rx;exact SeqAt.EqAt.str_bool a t' b
  | int b=>obtain⟨t,rfl⟩:=rx;exact SeqAt.EqAt.str_int a t' b t
  | str b=>obtain⟨t,rfl⟩:=rx;exact SeqAt.EqAt.str_str a t' b t
  | _=>exact absurd (show false=true from fx) Bool.false_ne_true
 | _=>exact absurd (show false=true from fy) Bool.false_ne_true
def qT (x:V) (u:Value):Bool:=match u with
 | .none=>mM .bw x
 | .bool b=>mM (.bl b) x
 | .int i _=>mM (.int i) x
 | .str z _=>mM (.str z) x
 | _=>false
theorem oz {x y:V} {u:Value} (r:RelV y u) (f:dY y=true):qT x u=mM y x:=by
 cases y with
 | bw=>cases r;rfl
 | bl b=>cases r;rfl
 | int i=>obtain⟨t,rfl⟩:=r;rfl
 | str z=>obtain⟨t,rfl⟩:=r;rfl
 | _=>exact absurd (show false=true from f) Bool.false_ne_true
theorem kY {x:V}:∀{xs:List V} {us:List Value},Vals xs us->xs.all dY=true->us.any (qT x)=xs.any λy=>mM y x
 | _,_,.nil,_=>rfl
 | y::xs,u::us,.cons r t,f=>by
  rw [List.all_cons,Bool.and_eq_true] at f
  rw [List.any_cons,List.any_cons,oz r f.1,kY t f.2]
theorem hJ {A:Around} {s:Shared} {x:V} {v:Value} (rx:RelV x v) (fx:dY x=true):∀{xs:List V} {us:List Value},Vals xs us->xs.all dY=true->∀ u∈us,SeqAt.EqAt A s u v (qT x u)
 | _,_,.nil,_=>λu hu=>by cases hu
 | y::xs,u::us,.cons r t,f=>λu' hu=>by
  rw [List.all_cons,Bool.and_eq_true] at f
  rcases List.mem_cons.mp hu with rfl | hu
  ·rw [oz r f.1];exact xW r rx f.1 fx
  ·exact hJ rx fx t f.2 u' hu
def zJ (x:V) (xs:List V):Bool:=xs.any λy=>mM y x
def BY (K:PySem.W.Frag) (neg:Bool):R2:=λx y H Q=>∃ p xs,y=.ref p/\(aV K H p xs∨aJ K H p xs)/\dY x=true/\xs.all dY=true/\Q (.bl (if neg then !zJ x xs else zJ x xs)) H
theorem lP:gv X (compareOp .NotIn) (BY X.K true):=by
 intro pins s σ H x y v u Q I rx ry h
 obtain⟨p,xs,rfl,hq,fx,fs,q⟩:=h
 cases ry
 rcases hq with hq | hq
 ·obtain⟨its,r,pl,hz⟩:=I.list hq
  refine SeqAt.notIn_listAt (qT x) pl.isList (λw hw=>hJ rx fx r fs w (by simpa using hw)) ⟨.bl _,H,I,rfl,?_⟩
  rw [show its.toArray.any (qT x)=its.any (qT x) by simp,kY r fs]
  exact q
 ·obtain⟨its,r,pl,hz⟩:=I.tuple hq
  refine SeqAt.notIn_tupleAt (qT x) pl (λw hw=>hJ rx fx r fs w (by simpa using hw)) ⟨.bl _,H,I,rfl,?_⟩
  rw [show its.toArray.any (qT x)=its.any (qT x) by simp,kY r fs]
  exact q
theorem kZ:fF X (.builtin "len") (λxs H Q=>∃ p ys,xs=[.ref p]/\(aV X.K H p ys∨aJ X.K H p ys)/\Q (.int ys.length) H):=by
 intro pins s σ H xs us Q I r h
 obtain⟨p,ys,rfl,hq,q⟩:=h
 obtain⟨u,rfl,rx⟩:=vals1 r
 cases rx
 have hn:=lF
 rcases hq with hq | hq
 ·obtain⟨its,r',pl,hz⟩:=I.list hq
  have hlen:=r'.length
  exact Calls.call_len_list pl.isList (by simp only [List.size_toArray]<;>omega) ⟨.int ys.length,H,I.tok _,⟨s.toks+1,by rw [List.size_toArray,hlen]⟩,q⟩
 ·obtain⟨its,r',pl,hz⟩:=I.tuple hq
  have hlen:=r'.length
  exact len_tuple pl (by simp only [List.size_toArray]<;>omega) ⟨.int ys.length,H,I.tok _,⟨s.toks+1,by rw [List.size_toArray,hlen]⟩,q⟩
theorem fo:fF X (.type "list") (λxs H Q=>∃ p ys,xs=[.ref p]/\(aV X.K H p ys∨aJ X.K H p ys)/\∀ l,H l=none->Q (.ref l) (upd H l (.lst ys))):=by
 intro pins s σ H xs us Q I r h
 obtain⟨p,ys,rfl,hq,q⟩:=h
 obtain⟨u,rfl,rx⟩:=vals1 r
 cases rx
 have fin:∀(its:List Value),Vals ys its->ys.length<=sizeLine->∀(h':Heap) (c':Nat),(∀ b o',s.heap.get? b=some o'->h'.get? b=some o') ->
   h'.get? s.heap.objs.size=some { cls:=.type "list",dict:=none,data:=.seq its.toArray c',slots:=#[] }->EP X pins σ Q (.ref s.heap.objs.size) { s with heap:=h' }:=λits r' hz h' c' kp e =>
  ⟨.ref s.heap.objs.size,_,I.laid (t':=s.toks) kp (Nat.le_refl _) (show bK X.prog X.w _ h' _ (.lst ys) from ⟨hz,its,c',r',e⟩),rfl,q _ (I.hok.fresh (Nat.le_refl _))⟩
 rcases hq with hq | hq
 ·obtain⟨its,r',pl,hz⟩:=I.list hq
  have hlen:=r'.length
  obtain⟨o,ho,hc,n,hd⟩:=pl.isList
  exact call_list_seq p (.inl rfl) ho hc hd (λh' c' kp e=>fin its r' hz h' c' kp e) (by simp only [List.size_toArray]<;>omega)
 ·obtain⟨its,r',pl,hz⟩:=I.tuple hq
  have hlen:=r'.length
  obtain⟨o,ho,hc,n,hd⟩:=pl
  exact call_list_seq p (.inr rfl) ho hc hd (λh' c' kp e=>fin its r' hz h' c' kp e) (by simp only [List.size_toArray]<;>omega)
theorem cR:fF X (.type "tuple") (λxs H Q=>∃ p ys,xs=[.ref p]/\((aV X.K H p ys/\∀ l,H l=none->Q (.ref l) (upd H l (.tup ys)))∨(aJ X.K H p ys/\Q (.ref p) H))):=by
 intro pins s σ H xs us Q I r h
 obtain⟨p,ys,rfl,h⟩:=h
 obtain⟨u,rfl,rx⟩:=vals1 r
 cases rx
 rcases h with⟨hq,q⟩|⟨hq,q⟩
 ·obtain⟨its,r',pl,hz⟩:=I.list hq
  have hlen:=r'.length
  refine call_tuple_list pl.isList (λh' kp=>?_) (by simp only [List.size_toArray]<;>omega)
  have I1:Inv X pins σ H { s with heap:=h' }:=I.kept (t':=s.toks) kp
  have I2:Inv X pins σ (upd H h'.objs.size (.tup ys)) { s with heap:=h'.push { cls:=.type "tuple",data:=.seq its.toArray } } :=
   I1.laid (t':=s.toks) (λb o e=>Heap.get?_push_of_some _ e) (Nat.le_refl _) (show bK X.prog X.w _ _ _ (.tup ys) from ⟨hz,its,r',IsTup.new _ _⟩)
  exact⟨.ref h'.objs.size,_,I2,rfl,q _ (I1.hok.fresh (Nat.le_refl _))⟩
 ·obtain⟨its,r',pl,hz⟩:=I.tuple hq
  exact call_tuple_same pl ⟨.ref p,H,I,rfl,q⟩
def Br (K:PySem.W.Frag) (T:String) (x:V) (H:Hp):Prop:=match x with
 | .str _=>T = "str"
 | .int _=>T = "int"
 | .ref p=>(T = "list"/\∃ xs,aV K H p xs)∨(T = "tuple"/\∃ o,K.lookup p=some o/\o.cls=.type "tuple"/\o.dict=none) ∨
   (T = "dict"/\((∃ kvs,H p=some (.dK kvs))∨∃ kvs,H p=some (.dT kvs)))∨(T = "set"/\∃ S n,H p=some (.set S n))
 | _=>False
theorem uK {pins:List (Addr × Obj)} {σ:St} {H:Hp} {s:Shared} {T:String} {x:V} {v:Value} (I:Inv X pins σ H s) (r:RelV x v) (ty:Br X.K T x H) :
  s.TypeIs v T/\∀ a,v=.ref a->∃ ob,s.heap.get? a=some ob/\ob.dict=none:=by
 cases x with
 | str z =>
  obtain⟨t,rfl⟩:=r
  cases (show T = "str" from ty)
  exact⟨typeIs_str s z t,λ_ e=>nomatch e⟩
 | int i =>
  obtain⟨t,rfl⟩:=r
  cases (show T = "int" from ty)
  exact⟨typeIs_int s i t,λ_ e=>nomatch e⟩
 | ref p =>
  cases r
  rcases ty with⟨rfl,xs,hq⟩|⟨rfl,o,hk,hc,hd⟩|⟨rfl,hk⟩|⟨rfl,S,n,hk⟩
  ·obtain⟨its,_,pl,_⟩:=I.list hq
   refine⟨pl.isList.typeIs,λa e=>?_⟩
   cases e
   obtain⟨o,n,e,c,hd,_⟩:=pl
   exact⟨o,e,hd⟩
  ·refine⟨⟨o,I.hG p o hk,hc⟩,λa e=>?_⟩
   cases e
   exact⟨o,I.hG _ o hk,hd⟩
  ·have z:∃ o,s.heap.get? p=some o/\o.ExactDict:=by
    rcases hk with⟨kvs,hk⟩|⟨kvs,hk⟩
    ·obtain⟨_,_,_,_,o,_,_,e,ex,_⟩:=I.hok p _ hk
     exact⟨o,e,ex⟩
    ·obtain⟨_,_,_,_,o,_,_,e,ex,_⟩:=I.hok p _ hk
     exact⟨o,e,ex⟩
   obtain⟨o,e,ex⟩:=z
   refine⟨⟨o,e,ex.1⟩,λa e2=>?_⟩
   cases e2
   exact⟨o,e,ex.2.1⟩
  ·obtain⟨o,_,_,_,e,ex,_⟩:=I.hok p _ hk
   refine⟨⟨o,e,ex.1⟩,λa e2=>?_⟩
   cases e2
   exact⟨o,e,ex.2.1⟩
 | _=>exact False.elim ty
def Ad (K:PySem.W.Frag) (T:String) (r:V->List V->Hp->VK->Prop) (to:TE):TE:=λσ H Q=>to σ H λx H1=>Br K T x H1/\r x [] H1 Q
def BA (K:PySem.W.Frag) (T:String) (r:V->List V->Hp->VK->Prop) (to:TE) (t:TA):TE:=λσ H Q=>to σ H λx H1=>Br K T x H1/\t σ H1 λxs H2=>r x xs H2 Q
variable {o e:Expr} {es:List Expr} {to:TE} {t:TA} {name:Str} {apos cpos:Pos} {T id:String} {r:V->List V->Hp->VK->Prop}
theorem yy (pa:PlainAttrs T) (slot:Slot T name id) (hty:typeOf (.builtin id)=pure (.type "method_descriptor")) (hm:AK X id r) (ho:PE X o to)
  (hbase:attributeBase o name X.env (eval o X.env)=eval o X.env:=by rfl) (hline:(apos.endLine==cpos.line)=true:=by rfl):PE X (.Call (.Attribute o name apos) [] [] cpos) (Ad X.K T r to):=by
 intro pins s σ H Q I h
 refine wpAny_Call_method0_late hbase hline (bZ (ho pins s σ H _ I h) λv s1 ⟨x,H1,I1,r1,ty,q1⟩=>?_)
 obtain⟨h1,h2⟩:=uK I1 r1 ty
 exact⟨T,id,pa,slot,hty,h1,h2,Calls.callWith_builtin rfl (PySem.evalArgs_none (hm pins s1 σ H1 x [] v [] Q I1 r1 .nil q1))⟩
theorem jF (pa:PlainAttrs T) (slot:Slot T name id) (hty:typeOf (.builtin id)=pure (.type "method_descriptor")) (hm:AK X id r) (ho:PE X o to) (ha:PA X (e::es) t)
  (hbase:attributeBase o name X.env (eval o X.env)=eval o X.env:=by rfl)
  (hfew:((backTo cpos (starEach (e::es) X.env)).all (λx=>!x.1) && (backToKw cpos (keywordEach [] X.env)).all (λx=>x.1.isSome)
   && decide ((e::es).length+([]:List Keyword).length+(if ([]:List Keyword).isEmpty then 0 else 1)<30))=true:=by rfl)
  (hline:(apos.endLine==cpos.line)=true:=by rfl) (hs:starEach (e::es) X.env=(false,eval e X.env)::starEach es X.env:=by rfl) (hplain:(backTo cpos (starEach es X.env)).any (·.1)=false:=by rfl) :
  PE X (.Call (.Attribute o name apos) (e::es) [] cpos) (BA X.K T r to t):=by
 intro pins s σ H Q I h
 refine wpAny_Call_method_late hbase hfew hline rfl (bZ (ho pins s σ H _ I h) λv s1 ⟨x,H1,I1,r1,ty,q1⟩=>?_)
 obtain⟨h1,h2⟩:=uK I1 r1 ty
 refine⟨T,id,pa,slot,hty,h1,h2,?_⟩
 have hA:=ha cpos pins s1 σ H1 _ I1 q1
 rw [hs] at hA ⊢
 refine Calls.callWith_builtin (by show (false || (backTo cpos (starEach es X.env)).any (·.1))=false;rw [hplain]<;>rfl) (Calls.evalArgs_plain ?_)
 exact bZ hA λus s2 ⟨vs,H2,I2,r2,q2⟩=>hm pins s2 σ H2 x vs v us Q I2 r1 r2 q2
/- xs.append(e),list.index on a module's tuple .. are AK facts of 06m -/
end
def Au (X:Cx) (id:String) (r:V->List V->Hp->VK->Prop):Prop :=
 ∀(pins:List (Addr × Obj)) (s:Shared) (σ:St) (H:Hp) (x:V) (xs:List V) (v:Value) (us:List Value) (Q:VK),Inv X pins σ H s->RelV x v->Vals xs us->r x xs H Q ->
  wpAny (model X.prog X.w) X.A (call (.builtin id) (v::us)) (EP X pins σ Q) X.xe s
theorem Vals.one:∀{x:V} {us:List Value},Vals [x] us->∃ u,us=[u]/\RelV x u
 | _,_,.cons r .nil=>⟨_,rfl,r⟩
theorem Vals.two:∀{x y:V} {us:List Value},Vals [x,y] us->∃ u v,us=[u,v]/\RelV x u/\RelV y v
 | _,_,_,.cons r (.cons q .nil)=>⟨_,_,rfl,r,q⟩
theorem Vals.zero:∀{us:List Value},Vals [] us->us=[]
 | _,.nil=>rfl
theorem Vals.dropLast {xs:List V} {us:List Value} (h:Vals xs us):Vals xs.dropLast us.dropLast:=by
 induction h with
 | nil=>exact .nil
 | cons r t ih =>
  cases t with
  | nil=>exact .nil
  | cons q t'=>exact .cons r ih
theorem Vals.reverse {xs:List V} {us:List Value} (h:Vals xs us):Vals xs.reverse us.reverse:=by
 induction h with
 | nil=>exact .nil
 | cons r t ih=>rw [List.reverse_cons,List.reverse_cons];exact Vals.append ih (.cons r .nil)
theorem oA {α:Type} (l:List α):l.eraseIdx (l.length-1)=l.dropLast:=by
 induction l with
 | nil=>rfl
 | cons a r ih =>
  cases r with
  | nil=>rfl
  | cons b r =>
   have e:(a::b::r).length-1=((b::r).length-1)+1:=by
    have h1:(a::b::r).length=r.length+2:=rfl
    have h2:(b::r).length=r.length+1:=rfl
    omega
   rw [e,List.eraseIdx_cons_succ,ih]
   all_goals rfl
section
variable {X:Cx} {pins:List (Addr × Obj)} {σ:St} {H:Hp} {s:Shared} {l b:Addr} {xs ys zs:List V}
theorem Inv.yc {its its':List Value} {n:Nat} {f:Array Value->Array Value} {t':Nat} (I:Inv X pins σ H s) (hH:H l=some (.lst xs))
  (e:s.heap.get? l=some { cls:=.type "list",data:=.seq its.toArray n }) (hf:f its.toArray=its'.toArray) (hv:Vals ys its') (hz:ys.length<=sizeLine) :
  Inv X pins σ (upd H l (.lst ys)) { s with heap:=s.heap.update l (Obj.mapSeq f),toks:=t' }:=by
 have q:=PySem.IsL.update e f
 rw [hf] at q
 refine I.write (x:=l) (e:=l) (by rw [hH];exact trivial) (.inl rfl) (λb' u hb hu=>(Heap.get?_update_other s.heap (Obj.mapSeq f) (Ne.symm hb)).trans hu) ⟨_,q⟩ ?_
 exact⟨hz,its',_,hv,q⟩
theorem Inv.AX {its:List Value} {t':Nat} (I:Inv X pins σ H s) (hv:Vals ys its) (hz:ys.length<=sizeLine) :
  Inv X pins σ (upd H s.heap.objs.size (.lst ys)) { s with heap:=s.heap.push { cls:=.type "list",data:=.seq its.toArray },toks:=t' } :=
 I.laid (λ_ _ q=>Heap.get?_push_of_some _ q) (Nat.le_refl _) ⟨hz,its,0,hv,Heap.get?_push_size _ rfl⟩
theorem Inv.fresh (I:Inv X pins σ H s):H s.heap.objs.size=none:=I.hok.fresh (Nat.le_refl _)
theorem Inv.oI (I:Inv X pins σ H s) (hH:H l=some (.lst xs)):xs.length<=sizeLine/\∃(its:List Value) (n:Nat),Vals xs its/\xs.length=its.length/\s.heap.get? l=some { cls:=.type "list",data:=.seq its.toArray n }:=by
 obtain⟨z,its,n,r,e⟩:=I.hok l _ hH
 exact⟨z,its,n,r,r.length,e⟩
theorem tw {n:Nat} (h:n<=sizeLine):Builtin.List.listTooLong n=false:=by
 unfold Builtin.List.listTooLong
 exact decide_eq_false (by omega)
end
section
variable {X:Cx}
def vZ:V->List V->Hp->VK->Prop:=λx vs H Q=>∃ l xs y,x=.ref l/\vs=[y]/\H l=some (.lst xs)/\xs.length<sizeLine/\Q .bw (upd H l (.lst (xs++[y])))
theorem eV:Au X "list.append" vZ:=by
 intro pins s σ H x vs v us Q I rx rv h
 obtain⟨l,xs,y,rfl,rfl,hH,hz,q⟩:=h
 cases rx
 obtain⟨u,rfl,ru⟩:=rv.one
 obtain⟨z,its,n,r,hl,e⟩:=I.oI hH
 refine call_meets F.slot_list_append ⟨_,e,rfl⟩ F.entry_list_append (F.args_list_append_2 _ _) (PySem.list_append l its.toArray n u (by rw [List.size_toArray];omega)) ⟨e,?_⟩
 refine⟨.bw,_,I.yc (its':=its++[u]) hH e (by simp) (r.append (.cons ru .nil)) ?_,rfl,q⟩
 rw [List.length_append,List.length_singleton]
 omega
def v3:V->List V->Hp->VK->Prop:=λx vs H Q=>∃ l b xs zs,x=.ref l/\vs=[.ref b]/\H l=some (.lst xs)/\H b=some (.lst zs)/\xs.length+zs.length<=sizeLine/\Q .bw (upd H l (.lst (xs++zs)))
theorem rj:Au X "list.extend" v3:=by
 intro pins s σ H x vs v us Q I rx rv h
 obtain⟨l,b,xs,zs,rfl,rfl,hH,hB,hz,q⟩:=h
 cases rx
 obtain⟨u,rfl,ru⟩:=rv.one
 cases ru
 obtain⟨z,its,n,r,hl,e⟩:=I.oI hH
 obtain⟨z2,its2,n2,r2,hl2,e2⟩:=I.oI hB
 have hsz:its.toArray.size+its2.toArray.size<=sizeLine:=by rw [List.size_toArray,List.size_toArray];omega
 have hlong:¬(!its.toArray.isEmpty && Builtin.List.listTooLong (its.toArray.size+its2.toArray.size))=true:=by
  rw [tw hsz,Bool.and_false]
  exact Bool.false_ne_true
 refine call_meets F.slot_list_extend ⟨_,e,rfl⟩ F.entry_list_extend (F.args_list_extend_2 _ _)
  (AutoSeq1.list_extend_list_list_0 l its.toArray n b its2.toArray n2 hlong (by rw [List.size_toArray];omega) (by omega)) ⟨e,e2,?_⟩
 refine⟨.bw,_,I.yc (its':=its++its2) hH e (by simp) (r.append r2) ?_,rfl,q⟩
 rw [List.length_append]
 omega
def Bc:V->List V->Hp->VK->Prop:=λx vs H Q=>∃ l xs y,x=.ref l/\vs=[]/\H l=some (.lst xs)/\xs[xs.length-1]?=some y/\Q y (upd H l (.lst xs.dropLast))
theorem ye:Au X "list.pop" Bc:=by
 intro pins s σ H x vs v us Q I rx rv h
 obtain⟨l,xs,y,rfl,rfl,hH,hy,q⟩:=h
 cases rx
 have hus:=rv.zero
 subst hus
 obtain⟨z,its,n,r,hl,e⟩:=I.oI hH
 obtain⟨u,hu,ru⟩:=r.get hy
 have hy':its.toArray[its.toArray.size-1]?=some u:=by
  show its.toArray[its.length-1]?=some u
  rw [<- Array.getElem?_toList,<- hl]
  exact hu
 refine call_meets F.slot_list_pop ⟨_,e,rfl⟩ F.entry_list_pop (F.args_list_pop_1 _) (MeetsSeq.list_pop_last l its.toArray n u hy' (by rw [List.size_toArray];omega)) ⟨e,?_⟩
 refine⟨y,_,I.yc (its':=its.dropLast) hH e ?_ r.dropLast ?_,ru,q⟩
 ·show its.toArray.eraseIdxIfInBounds (its.toArray.size-1)=its.dropLast.toArray
  rw [List.size_toArray,List.eraseIdxIfInBounds_toArray,oA]
 ·rw [List.length_dropLast]
  omega
def Bb:R2:=λx y H Q=>∃ l b xs zs,x=.ref l/\y=.ref b/\H l=some (.lst xs)/\H b=some (.lst zs)/\xs.length+zs.length<=sizeLine/\∀ p,H p=none->Q (.ref p) (upd H p (.lst (xs++zs)))
theorem lN:gv X (binaryOp .Add) Bb:=by
 intro pins s σ H x y v u Q I rx ry h
 obtain⟨l,b,xs,zs,rfl,rfl,hH,hB,hz,q⟩:=h
 cases rx
 cases ry
 obtain⟨z,its,n,r,hl,e⟩:=I.oI hH
 obtain⟨z2,its2,n2,r2,hl2,e2⟩:=I.oI hB
 refine PySem.P.add_list e e2 ?_ (by rw [List.size_toArray,List.size_toArray];omega)
 have ea:its.toArray++its2.toArray=(its++its2).toArray:=by simp
 rw [ea]
 exact⟨.ref _,_,I.AX (t':=s.toks) (r.append r2) (by rw [List.length_append];omega),rfl,q _ I.fresh⟩
end
section
variable {prog:Program} {w:World} {A:Around} {E:Value->Shared->Prop} {s:Shared}
end
section
variable {X:Cx}
end
end L2
namespace Att
open PySem PySem.W PySem.Calls PyProof.Rows
theorem i5 {P:Params} {h:Heap}:∀(ns:List Int) (vs:List Value),WellAll P h vs (ns.map WData.int)->IntsAre vs ns:=by
 intro ns
 induction ns with
 | nil =>
  intro vs w
  rw [List.map_nil] at w
  cases w
  exact .nil
 | cons n ns ih =>
  intro vs w
  rw [List.map_cons] at w
  cases w with
  | cons a b =>
   cases a
   exact .cons _ _ (ih _ b)
theorem rQ {l:OpenLaw} {n:Nat} (hn:l.most=some n) {P:Params} {h:Heap} {args:List WData} {vals:List Value}
  (hpre:l.row.toRowW.claim.pre args=true) (hwl:WellAll P h vals args) :
  ∃ a vs ns,vals=[Value.ref a]/\args=[WData.list (ns.map WData.int)]/\h.get? a=some { cls:=.type "list",data:=.seq vs.toArray }/\IntsAre vs ns/\ns.length<=n:=by
 have hsh:WShape.hasAll [] args [.list .int]=true:=(pre_splitW hpre).1
 have hc:l.pre.holds [] { args:=args }=true:=(pre_splitW hpre).2
 obtain⟨d,r,rfl,h1,h2⟩:=hasAllW_cons hsh
 obtain rfl:=hasAllW_nil h2
 obtain⟨xs,rfl,h3⟩:=hasW_list h1
 obtain⟨ns,rfl⟩:=items_int h3
 have hlen:ns.length<=n:=by
  unfold OpenLaw.pre at hc
  have h4:(WTm.not (.lt (.lit (.int (n:Int))) (.len (.arg 0)))).holds [] { args:=[.list (ns.map .int)] }=true:=by
   have h4:=(holds_andW hc).1
   rw [hn] at h4
   exact h4
  have h5:=condW_of h4 (w_not (w_lt w_lit (w_len_list (w_arg rfl))))
  rw [List.length_map] at h5
  refine Nat.le_of_not_lt λq=>?_
  have q':(n:Int)<((ns.length:Nat):Int):=by omega
  first
   | (rw [decide_eq_true q'] at h5;exact absurd h5 (by decide))
   | (simp at h5;omega)
 cases hwl with
 | cons w1 w2 =>
  cases w2
  cases w1 with
  | list ho hall=>exact⟨_,_,ns,rfl,rfl,ho,i5 ns _ hall,hlen⟩
theorem rM (l:OpenLaw) (args:List WData):l.row.toRowW.claim.post args (.bool true) args=true :=
 postW_of (r:=l.row.toRowW) (X:=(true==true))
  (show WShape.has [] (.bool true) .bool=true by first | rfl | decide | simp [WShape.has,WShape.arms,WShape.armsAll])
  (show (WTm.eq .res (.lit (.bool true))).value [] { args:=args,res:=some (.bool true),after:=args }=some (.bool (true==true)) from w_eq_bool (w_res rfl) w_lit) rfl
theorem mB {l:OpenLaw} {n:Nat} {q:Program} {loose:List Str} {XP:(Str->Option Value)->Heap->Prop} {YP:World->Heap->Prop} {d:DefRec}
  (hn:l.most=some n) (hdf:d.params.defaults=[])
  (call:∀(w:World) (s₀ s₁:Shared) (mg mb:Str->Option Value) (fa:Addr) (o:Obj) (pm cd doc:Value) (a:Addr) (vs:List Value) (ns:List Int),
   Ground q loose [] XP w s₀ mg mb s₁.heap->YP w s₁.heap ->
   s₁.heap.get? fa=some o->o.data=.func (docDef d.name d.params d.body d.scope pm cd doc)->s₁.heap.CodeRec cd d.name->mg d.name=some (.ref fa) ->
   s₁.heap.get? a=some { cls:=.type "list",data:=.seq vs.toArray }->IntsAre vs ns->ns.length<=n->s₁.gens=#[] ->
   codeAny (model l.prog w) callerA (.call (.ref fa) ⟨[.ref a],[]⟩) (λr s'=>r=.ok (.ret (.bool true))/\OldK s₁.heap s'.heap/\s'.os=s₁.os/\AllBare s'.gens) s₁) :
  WalkO q loose XP YP l.row.toRowW d [] (λf vs=>PySem.call f vs):=by
 intro w s₀ s₁ mg mb G Y fa o pm cd doc dV kV ho hd hcd hD hmg hg args vals as hpre hlay hrd hwl hlo
 obtain rfl:dV=.none:=Dflts.none hD hdf
 obtain rfl:kV=.none:=Dflts.noKw hD
 obtain⟨a,vs,ns,rfl,rfl,hobj,hints,hlen⟩:=rQ hn hpre hwl
 refine enter_call (codeAny_mono (call w s₀ s₁ mg mb fa o pm cd doc a vs ns G Y ho (fd_plain hd) hcd hmg hobj hints hlen hg) λr s' hq=>?_)
 obtain⟨rfl,h2,h3,h4⟩:=hq
 exact⟨.inl ⟨.bool true,.bool true,[],rfl,λ_=>rfl,.bool true,rM l _,λ_=>⟨List.Pairwise.nil,λ_ hm=>(nomatch hm)⟩⟩,h2,h3,h4⟩
section
variable {prog:Program} {w:World} {A:Around} {E:Value->Shared->Prop} {s:Shared} {K:Frag}
end
end Att
namespace L2
open PySem PySem.Spec PyProof.Rows
theorem kU:∀{vs:List Value} {ns:List Int},IntsAre vs ns->Vals (ns.map V.int) vs
 | _,_,.nil=>.nil
 | _,_,.cons n t h=>.cons ⟨t,rfl⟩ (kU h)
def uT (H:Hp):Prop:=∀ b,H b=none∨∃ o xs,H b=some (.frz o (.lst xs))
theorem sW {P:Program} {w:World} {K:PySem.W.Frag} {mg mb:Str->Option Value} {CX:jo} {k:Nat} {fa a:Addr} {fd:FuncData} {x:Str} {sp:Sp} {s₁:Shared} {vs:List Value} {ns:List Int}
  (KX:K.In s₁.heap) (hns:s₁.heap.Ns mainGlobals mg) (hb:s₁.heap.Ns builtinsNs mb) (hbb:∀ x:Str,x ≠ "__name__"->mb x=bootBuiltins x) (hlim:s₁.heap.NoLimit) (hg:s₁.gens=#[])
  (ha:s₁.heap.get? a=some { cls:=.type "list",data:=.seq vs.toArray }) (hi:IntsAre vs ns) (hl:ns.length<=sizeLine) (hr:cW k callerA)
  (F:∀ base:Heap,K.In base->base.Ns mainGlobals mg->dH P w K mg base CX k fa fd [x] sp) (hbind:∀(s:Shared) (u:Value),BindsTo s fd ⟨[u],[]⟩ [(x,u)])
  (hsp:∀ H:Hp,uT H->aV K H a (ns.map V.int)->sp [.ref a] H (λv _=>v=.bl true) λ_ _ _=>False)
  (hCX:∀ H e s',CX [] H s₁ (λ_ _ _=>False) e s'->False) :
  codeAny (model P w) callerA (.call (.ref fa) ⟨[.ref a],[]⟩) (λr s'=>r=.ok (.ret (.bool true))/\OldK s₁.heap s'.heap/\s'.os=s₁.os/\AllBare s'.gens) s₁:=by
 have rv:=kU hi
 have lenV:=hi.length
 -- from an abstract heap in which nothing but the script may be tracked
 have core:∀ H:Hp,uT H->aV K H a (ns.map V.int)->fG P w H s₁.heap->(∀ b,H b≠none->b=a)->(H a≠none->K.lookup a=none) ->
   codeAny (model P w) callerA (.call (.ref fa) ⟨[.ref a],[]⟩) (λr s'=>r=.ok (.ret (.bool true))/\OldK s₁.heap s'.heap/\s'.os=s₁.os/\AllBare s'.gens) s₁:=by
  intro H hO hS hok hA hK
  have base_of:∀{b:Addr} {o:Obj},s₁.heap.get? b=some o->H b=none->(lB s₁.heap H).get? b=some o:=λe n=>sU e n
  have noA:∀{b:Addr} {o:Obj} {es:Array DictEntry} {ep:Nat},s₁.heap.get? b=some o->o.data=.dict es ep->H b=none:=λ{b o es ep} e d=>by
   cases q:H b with
   | none=>rfl
   | some u =>
    have e':b=a:=hA b (by rw [q];simp)
    subst e'
    rw [ha] at e;cases e
    have d':Data.seq vs.toArray _=Data.dict es ep:=d
    cases d'
  have nsK:∀{b:Addr} {m:Str->Option Value},s₁.heap.Ns b m->(lB s₁.heap H).Ns b m:=λ{b m} ⟨o,es,ep,e,d,r⟩=>⟨o,es,ep,base_of e (noA e d),d,r⟩
  have hKb:K.In (lB s₁.heap H):=λb o e=>base_of (KX b o e) (by
   cases q:H b with
   | none=>rfl
   | some u =>
    have e':b=a:=hA b (by rw [q];simp)
    subst e'
    rw [hK (by rw [q];simp)] at e;cases e)
  have hM:Mod K mg (lB s₁.heap H):=⟨hKb,nsK hns,⟨mb,nsK hb,hbb⟩,let ⟨mc,h1,h2⟩:=hlim;⟨mc,nsK h1,h2⟩⟩
  have e0:nZ P w K mg (lB s₁.heap H) callerA [] s₁ H:=⟨rfl,hM,λb o e=>vF e,Nat.le_of_eq (qX _ _),trivial,λb hb=>absurd (show b∈([]:List Addr) from hb) (by simp),hok,.of_eq hg⟩
  refine codeAny_mono ((F _ hKb (nsK hns)).run callerA [] s₁ H ⟨[.ref a],[]⟩ [.ref a] [.ref a] _ _ hr e0 (hbind s₁ (.ref a)) (.cons rfl .nil) (hsp H hO hS)) λr s' h=>?_
  cases r with
  | error e=>exact (hCX H e s' h).elim
  | ok fl =>
   cases fl with
   | next=>exact False.elim h
   | brk=>exact False.elim h
   | cont=>exact False.elim h
   | ret u =>
    obtain⟨v,H',os,bare,un,hok',r',q⟩:=h
    have q':v=.bl true:=q
    subst q'
    obtain rfl:u=Value.bool true:=r'
    refine⟨rfl,OldK.of_keep λb o e=>?_,os,bare⟩
    cases q:H b with
    | none=>exact un.keep b o e q (by intro z;exact absurd (show b∈([]:List Addr) from z) (by simp)) (by simp)
    | some u =>
     rcases hO b with z | ⟨ob,xs,z⟩
     ·rw [q] at z;cases z
     ·have z2:=un.frzs b ob _ z
      obtain⟨e1,_⟩:=hok b _ z
      obtain⟨e2,_⟩:=hok' b _ z2
      rw [e] at e1;cases e1
      exact e2
 cases hk:K.lookup a with
 | some o =>
  -- the script is one of the module's own objects
  have e:=KX a o hk
  rw [ha] at e
  cases e
  refine core (λ_=>none) (λ_=>.inl rfl) (.inr ⟨_,vs.toArray,_,hk,rfl,rfl,rfl,by rw [List.size_toArray,lenV];exact hl,by simpa using rv⟩) (λb u z=>by have z':(none:Option HO)=some u:=z;cases z') (λb z=>absurd rfl z) λz=>absurd rfl z
 | none =>
  refine core (λb=>if b=a then some (.frz { cls:=.type "list",data:=.seq vs.toArray } (.lst (ns.map V.int))) else none) (λb=>?_) (.inl (.inr ⟨{ cls:=.type "list",data:=.seq vs.toArray },if_pos rfl⟩)) (λb u z=>?_) (λb z=>?_) λ_=>hk
  ·by_cases hb:b=a
   ·exact .inr ⟨_,_,if_pos hb⟩
   ·exact .inl (if_neg hb)
  ·by_cases hb:b=a
   ·have z':=(if_pos hb).symm.trans z
    cases z'
    subst hb
    exact⟨ha,by rw [List.length_map];exact hl,vs,_,rv,ha⟩
   ·have z':=(if_neg hb).symm.trans z
    cases z'
  ·by_cases hb:b=a
   ·exact hb
   ·exact absurd (if_neg hb) z
abbrev dI {K:PySem.W.Frag} {h:Heap} (_:K.In h):PySem.W.Frag:=K
theorem qL {l:PySem.W.OpenLaw} {n k:Nat} {q:Program} {loose:List Str} {XP:(Str->Option Value)->Heap->Prop} {YP:World->Heap->Prop} {d:DefRec} {K:Params->PySem.W.Frag} {CX:World->jo} {sp:World->Sp} {x:Str}
  (hn:l.most=some n) (hn2:n<=sizeLine) (hdf:d.params.defaults=[]) (hr:cW k callerA)
  (hY:∀(w:World) (h:Heap),YP w h->(K w.params).In h)
  (F:∀(w:World) (mg:Str->Option Value) (fa:Addr) (h:Heap),(K w.params).In h->h.Ns mainGlobals mg->mg d.name=some (.ref fa) ->
   ∃ fd:FuncData,(∀(s:Shared) (u:Value),BindsTo s fd ⟨[u],[]⟩ [(x,u)]) /\
    ∀ base:Heap,(K w.params).In base->base.Ns mainGlobals mg->dH l.prog w (K w.params) mg base (CX w) k fa fd [x] (sp w))
  (hsp:∀(w:World) (H:Hp) (a:Addr) (ns:List Int),ns.length<=n->uT H->aV (K w.params) H a (ns.map V.int)->sp w [.ref a] H (λv _=>v=.bl true) λ_ _ _=>False)
  (hCX:∀(w:World) (H:Hp) (s:Shared) (e:Value) (s':Shared),CX w [] H s (λ_ _ _=>False) e s'->False) :
  PySem.W.WalkO q loose XP YP l.row.toRowW d [] (λf vs=>PySem.call f vs):=by
 refine Att.mB hn hdf λw s₀ s₁ mg mb fa o pm cd doc a vs ns G Y ho hd hcd hmg hobj hints hlen hg=>?_
 have KX:=hY w _ Y
 obtain⟨fd,hb,hF⟩:=F w mg fa _ KX G.T.g hmg
 exact sW KX G.T.g G.T.b G.T.builtins G.T.nolimit hg hobj hints (Nat.le_trans hlen hn2) hr hF hb (λH hO hS=>hsp w H a ns hlen hO hS) λH e s'=>hCX w H s₁ e s'
theorem uL {l:PySem.W.OpenLaw} {n k:Nat} {q:Program} {loose:List Str} {XP:(Str->Option Value)->Heap->Prop} {YP:World->Heap->Prop} {d:DefRec} {K:Params->PySem.W.Frag} {CX:jo} {sp:PySem.W.Frag->Sp} {x:Str}
  (hn:l.most=some n) (hn2:n<=sizeLine) (hdf:d.params.defaults=[]) (hr:cW k callerA)
  (hY:∀(w:World) (h:Heap),YP w h->(K w.params).In h)
  (F:∀(w:World) (mg:Str->Option Value) (fa:Addr) (h:Heap),(K w.params).In h->h.Ns mainGlobals mg->mg d.name=some (.ref fa) ->
   ∃ fd:FuncData,(∀(s:Shared) (u:Value),BindsTo s fd ⟨[u],[]⟩ [(x,u)]) /\
    ∀ base:Heap,(K w.params).In base->base.Ns mainGlobals mg->dH l.prog w (K w.params) mg base CX k fa fd [x] (sp (K w.params)))
  (hsp:∀(K:PySem.W.Frag) (H:Hp) (a:Addr) (ns:List Int),ns.length<=n->uT H->aV K H a (ns.map V.int)->sp K [.ref a] H (λv _=>v=.bl true) λ_ _ _=>False)
  (hCX:∀(H:Hp) (s:Shared) (e:Value) (s':Shared),CX [] H s (λ_ _ _=>False) e s'->False) :
  PySem.W.WalkO q loose XP YP l.row.toRowW d [] (λf vs=>PySem.call f vs) :=
 qL (K:=K) (CX:=λ_=>CX) (sp:=λw=>sp (K w.params)) hn hn2 hdf hr hY F (λw H a ns h1 h2 h3=>hsp (K w.params) H a ns h1 h2 h3) λ_ H s e s'=>hCX H s e s'
end L2
/- THE LAST THEOREM (shape;LID,My.* are yours):
   My.Adr: a structure of the addresses that your layer names (classes,functions);My.Txt K t: a structure (Prop) of the equations over K;
   My.txt_mk:{K} {implicit addresses ..} (e1:nsIn K mainGlobals "law"=some (some (.ref f))) (e2:K.lookup f=some ⟨oc,od,.func (fnOf "law" "law" params body scope dV kV doc pm an cdv ct),sl⟩) (e3:codeIn K cdv "law"=true) ..:∃ t,My.Txt K t
set_option maxRecDepth 100000 in
set_option maxHeartbeats 0 in
theorem PySem.Challenge.cw_LID_holds : PySem.Challenge.rw_LID.Holds := by
 w_on;o_law;k_head;(case hw=>w_witness2)
 k_fill
 refine L2.qL (l:=PySem.Challenge.rw_LID) (n:=63) (k:=40) (x := "script") (CX:=λw=>..) (sp:=λ_=>My.sp_law) rfl (by decide) rfl ⟨rfl,by decide,by decide⟩ (λw h Y=>PySem.W.kIn_of Y) ?F ?S ?C
 case F =>
  intro w mg fa h KX G hmg
  have T:∃ t,My.Txt (L2.dI KX) t:=by
   dsimp only [L2.dI]                          -- K must stand as «<heap const> w.params» for k_is
   refine' My.txt_mk ?e1 ?e2 ?e3 ..
   (case e1=>PySem.W.k_is)                    -- in the order: a name -> its address -> its object -> its parts
   (case e2=>PySem.W.k_is)
   ..
  obtain⟨t,T⟩:=T
  have e0:=hmg.symm.trans (PySem.W.mg_of KX G T.law)
  cases e0                                       -- fa is the law's own address
  exact⟨_,λs u=>.of_eq rfl,λbase kb nb=>My.law_fn T kb nb⟩     -- if «.of_eq rfl» comes too early: refine' ⟨_,?b,λbase kb nb=>My.law_fn T kb nb⟩;exact λs u=>.of_eq rfl
 case S=>exact λw H a ns hl hO hS=>..
 case C=>exact ..
(the tactic k_is has no namespace: write k_is) -/
namespace L2
open PySem PySem.Spec PyProof.Rows
def inClass (s:Stmt) (j:Nat):Stmt:=match s with
 | .ClassDef _ _ _ body _ _ _ _ _ _ _=>body.getD j (.Pass ⟨0,0,0,0⟩)
 | _=>.Pass ⟨0,0,0,0⟩
def cw (s:Stmt):Arguments:=match s with
 | .FunctionDef _ a _ _ _ _ _ _ _ _=>a
 | _=>{ posonlyargs:=[],args:=[],vararg:=none,kwonlyargs:=[],kw_defaults:=[],kwarg:=none,defaults:=[] }
def bp (s:Stmt):List Stmt:=match s with
 | .FunctionDef _ _ b _ _ _ _ _ _ _=>b
 | _=>[]
def ao (s:Stmt):Scope:=match s with
 | .FunctionDef _ _ _ _ _ _ sc _ _ _=>sc
 | _=>{ kind:=.function,names:=[],isGenerator:=false,isCoroutine:=false }
abbrev aQ:jo:=λ_ _ _ _ _ _=>False
abbrev E0:XK:=λ_ _ _=>False
theorem ay {X:Cx}:Passes aQ X E0:=λ_ _ _ _ _ _ _ h=>h.elim
structure uO (K:PySem.W.Frag) (x qual:Str) (st:Stmt) (f:Addr) (fd:FuncData):Prop where
 ex:∃(oc:Value) (od:Option Addr) (kV doc pm:Value) (an:Option Addr) (cdv ct:Value) (osl:Array (Option Value)),
  fd=PySem.W.fnOf x qual (cw st) (bp st) (ao st) .none kV doc pm an cdv ct/\K.lookup f=some ⟨oc,od,.func fd,osl⟩/\PySem.W.codeIn K cdv qual=true
 kp:PySem.W.keepIn K (.ref f)=true
section
variable {P:Program} {w:World} {K:PySem.W.Frag} {mg:Str->Option Value} {base:Heap}
theorem uO.ok {x qual:Str} {st:Stmt} {f:Addr} {fd:FuncData} {N ps:List Str} {k:Nat} {sp:Sp} (F:uO K x qual st f fd) (S:aC N ps (ao st)) (len:∀ vs H Q E,sp vs H Q E->vs.length=ps.length)
  (hbody:∀(cdv:Value) (A:Around) (outer:List Env) (s:Shared) (H:Hp) (vs:List V) (Q:VK) (E:XK),cW k (A.deeper (envOfC qual (ao st) s.heap.objs.size f cdv))->sp vs H Q E ->
   ∃ t,ja (ft aQ P w K mg base N qual (ao st) f cdv A outer s H E).nY (bp st) t/\t { nx:=λ_ H'=>Q .bw H',rt:=Q } (start N vs) H):dH P w K mg base aQ (k+1) f fd ps sp:=by
 obtain⟨oc,od,kV,doc,pm,an,cdv,ct,osl,rfl,lk,hcd⟩:=F.ex
 refine wN lk hcd S len λA outer s H vs Q E hr hsp=>?_
 obtain⟨t,h,q⟩:=hbody cdv A outer s H vs Q E hr hsp
 exact⟨t,h.nY,q⟩
theorem uO.binds {x qual:Str} {st:Stmt} {f:Addr} {fd:FuncData} {ps:List Str} (F:uO K x qual st f fd)
  (h:∀(kV doc pm:Value) (an:Option Addr) (cdv ct:Value) (us:List Value),us.length=ps.length->bindArgs (PySem.W.fnOf x qual (cw st) (bp st) (ao st) .none kV doc pm an cdv ct) ⟨us,[]⟩=pure (ps.zip us)):Binds K fd ps []:=by
 obtain⟨oc,od,kV,doc,pm,an,cdv,ct,osl,rfl,lk,hcd⟩:=F.ex
 exact .all (h kV doc pm an cdv ct)
theorem sR {x qual:Str} {st:Stmt} {f:Addr} {oc:Value} {od an:Option Addr} {osl:Array (Option Value)} {kV doc pm cdv ct:Value} (l:K.lookup f=some ⟨oc,od,.func (PySem.W.fnOf x qual (cw st) (bp st) (ao st) .none kV doc pm an cdv ct),osl⟩)
  (c:PySem.W.codeIn K cdv qual=true) (k:PySem.W.keepIn K (.ref f)=true):uO K x qual st f (PySem.W.fnOf x qual (cw st) (bp st) (ao st) .none kV doc pm an cdv ct):=⟨⟨oc,od,kV,doc,pm,an,cdv,ct,osl,rfl,l,c⟩,k⟩
end
theorem iP {A:Around} {k:Nat} (hr:cW k A):A.units+1<cLine:=Nat.lt_of_le_of_lt (Nat.add_le_add_left (by decide:1<=64) _) hr.units
theorem rR {n:Nat} (h:n<=1000):n<sizeLine:=Nat.lt_of_le_of_lt h (by decide)
section
variable {X:Cx}
theorem pv (i:Nat) {x:Str} {pos:Pos} (hN:X.N[i]?=some x:=by rfl) (hv:y7 X.env.scope x:=by first | exact Or.inl rfl | exact Or.inr (Or.inl rfl) | exact Or.inr (Or.inr rfl)) (hd:(x==("__debug__":Str))=false:=by decide)
  (hcd:(x==("__classdict__":Str))=false:=by decide):PE X (.Name x pos) (j8 i):=oW hN hv hd hcd
end
theorem aL {c A B:Prop} [Decidable c] (h1:c->A) (h2:¬c->B):if c then A else B:=by
 by_cases h:c
 ·rw [if_pos h]
  exact h1 h
 ·rw [if_neg h]
  exact h2 h
def aE (H H':Hp):Prop:=∀ b o,H b=some o->H' b=some o
theorem aE.refl (H:Hp):aE H H:=λ_ _ h=>h
theorem aE.trans {H H1 H2:Hp} (a:aE H H1) (b:aE H1 H2):aE H H2:=λc o h=>b c o (a c o h)
theorem aE.free {H H':Hp} (e:aE H H') {l:Addr} (h:H' l=Option.none):H l=Option.none:=by
 cases q:H l with
 | none=>rfl
 | some o =>
  rw [e l o q] at h
  cases h
theorem aE.seq {K:PySem.W.Frag} {H H':Hp} {a:Addr} {xs:List V} (e:aE H H') (h:aV K H a xs):aV K H' a xs:=by
 rcases h with (h | ⟨o,h⟩) | h
 ·exact .inl (.inl (e _ _ h))
 ·exact .inl (.inr ⟨o,e _ _ h⟩)
 ·exact .inr h
end L2
set_option maxHeartbeats 1000000
namespace L2
open PySem PySem.Spec PyProof.Rows
theorem lb {Ex:Value->Shared->Prop} {prog:Program} {w:World} {A:Around} {R:Result->Shared->Prop} {s:Shared} {elt target:Expr} {gens:List Comprehension} {scope:Scope} {pos ps:Pos} {ifs:List Expr} {d:Nat} {B:Sem Unit} {it acc:Value} {env:Env} (I:Nat->Shared->Prop)
  (ht:compTurn (.ListComp elt gens scope pos) d it acc env=(do
   standAt ps
   match <- pyNext it with
   | none=>pure (.done .next)
   | some v =>
    letOwnedTupleGo target it v
    assign target env v
    let mut ok:=true
    for c in ifs do
     if ok then ok <- isTrue c env (eval c env)
    if ok then B
    again (.compLoop (.ListComp elt gens scope pos) d it acc env)))
  (turn:∀ n s,I n s->wpAny (model prog w) A (pyNext it) (λr s₁=>match r with
   | none=>R (.ok .next) s₁
   | some v=>wpAny (model prog w) A (letOwnedTupleGo target it v) (λ_ s₁'=>wpAny (model prog w) A (assign target env v) (λ_ s₂ =>
     wpAny (model prog w) A (forIn ifs true λc r=>if r=true then do let ok <- isTrue c env (eval c env);pure (ForInStep.yield ok) else pure (ForInStep.yield r)) (λok s₃ =>
      if ok=true then wpAny (model prog w) A B (λ_ s₅=>∃ m,m<n/\I m s₅) Ex s₃
      else ∃ m,m<n/\I m s₃) Ex s₂) Ex s₁') Ex s₁) Ex s)
  (n:Nat) (h:I n s) (hE:∀ e s',Ex e s'->notedBy (model prog w) A env (λe s''=>R (.error e) s'') e s') :
  codeAny (model prog w) A (.compLoop (.ListComp elt gens scope pos) d it acc env) R s:=by
 refine codeAny_loop rfl I (λn s hI=>?_) n h
 show wpAny _ A ((compTurn (.ListComp elt gens scope pos) d it acc env).onRaise (λx=>do noteFrame x env;theTreesLotGoes x)) _ _ s
 refine wpAny_noted ?_
 rw [ht]
 refine wpAny_bind (wpAny_standAt (wpAny_bind (wpAny_mono (turn n s hI) (λr s₁ h₁=>?_) λ_ _ h'=>hE _ _ h')))
 cases r with
 | none=>exact wpAny_pure h₁
 | some v =>
  refine wpAny_bind (wpAny_mono h₁ (λ_ s₁' h₁'=>?_) λ_ _ h'=>hE _ _ h')
  refine wpAny_bind (wpAny_mono h₁' (λ_ s₂ h₂=>wpAny_bind (wpAny_mono h₂ (λok s₃ h₃=>?_) λ_ _ h'=>hE _ _ h')) λ_ _ h'=>hE _ _ h')
  cases ok with
  | false=>exact wpAny_pure ⟨rfl,h₃⟩
  | true=>exact wpAny_bind (wpAny_mono h₃ (λ_ s₅ h₅=>wpAny_pure ⟨rfl,h₅⟩) λ_ _ h'=>hE _ _ h')
def pO (elt:Expr) (acc:Value) (env:Env):Sem Unit:=do let _ <- call (.builtin "list.append") [acc,<- eval elt env]
theorem uI (elt target iter:Expr) (ifs:List Expr) (scope:Scope) (pos:Pos) (it acc:Value) (env:Env) :
  compTurn (.ListComp elt [⟨target,iter,ifs,0⟩] scope pos) 0 it acc env=(do
   standAt iter.pos
   match <- pyNext it with
   | none=>pure (.done .next)
   | some v =>
    letOwnedTupleGo target it v
    assign target env v
    let mut ok:=true
    for c in ifs do
     if ok then ok <- isTrue c env (eval c env)
    if ok then pO elt acc env
    again (.compLoop (.ListComp elt [⟨target,iter,ifs,0⟩] scope pos) 0 it acc env)):=by rfl
def c7 (X:Cx) (Ex:Value->Shared->Prop) (N':List Str) (scope:Scope) (cl:List (Str × Addr)) (C:Addr) (s₂:Shared) (H₂:Hp) (fp:List Addr):Cx :=
 { X with N:=N',s₀:=s₂,H₀:=H₂,env:=compEnvC scope (cellsFrom (C+1) scope.names cl) C X.env,outer:=X.stack,stack:=X.stack,ex:=fp,fn:=λx=>scope.names.lookup x==some .cell,pn:=[],xe:=Ex }
abbrev la (X:Cx):=c7 X λ_ _=>False
def AllIn (env:Env):List (Str × Addr)->Prop
 | []=>True
 | p::r=>env.cells.lookup p.1=some p.2/\AllIn env r
theorem AllIn.get {env:Env}:∀{l:List (Str × Addr)},AllIn env l->∀ y c,l.lookup y=some c->env.cells.lookup y=some c
 | [],_,_,_,h=>by simp at h
 | (z,d)::r,a,y,c,h=>by
  rw [List.lookup_cons] at h
  cases e:y==z with
  | true =>
   rw [e] at h
   have q:y=z:=by simpa using e
   subst q
   cases h
   exact a.1
  | false =>
   rw [e] at h
   exact AllIn.get a.2 y c h
def eJ (js:List (Option Nat)) (σ:St):St:=js.map λo=>match o with | none=>none | some j=>(σ[j]?).join
structure jq (X:Cx) (N':List Str) (js:List (Option Nat)) (scope:Scope) (cl:List (Str × Addr)):Prop where
 clos:closureFor scope X.env=pure cl
 kind:scope.kind=.function
 nocell:∀ y∈scope.names,y.2=.cell->scope.names.lookup y.1=some .cell/\∀ p∈js.zip N',p.1.isSome=true->p.2≠y.1
 names:∀ y∈scope.names,y.2=.local->scope.names.lookup y.1=some .local
 sub:AllIn X.env cl
 has:∀ y∈scope.names,y.2=.free->(cl.lookup y.1).isSome=true
 jlen:js.length=N'.length
 jok:∀(i j:Nat) x,js[i]?=some (some j)->N'[i]?=some x->X.N[j]?=some x/\(cl.lookup x).isSome=true/\y7 X.env.scope x/\X.env.kindOf x≠some .local/\((relabel scope X.env).names.lookup x=some .cell∨(relabel scope X.env).names.lookup x=some .free)
theorem iQ {scope:Scope} {env:Env} {x:Str} {k:NameKind} (h:(relabel scope env).names.lookup x=some k) (hk:k=.cell∨k=.free):∃ y∈scope.names,y.1=x/\(y.2=.free∨y.2=.cell):=by
 have hm:=PySem.mem_of_lookup h
 obtain⟨⟨n,q⟩,hm',e⟩:=List.mem_map.mp hm
 dsimp only at e
 split at e
 ·rename_i hc
  have e1:n=x:=congrArg Prod.fst e
  refine⟨(n,q),hm',e1,.inl ?_⟩
  have:(q==NameKind.free)=true:=by
   simp only [Bool.and_eq_true] at hc
   exact hc.1.1
  simpa using this
 ·have e1:n=x:=congrArg Prod.fst e
  have e2:q=k:=congrArg Prod.snd e
  refine⟨(n,q),hm',e1,?_⟩
  rcases hk with hk | hk
  ·exact .inr (e2.trans hk)
  ·exact .inl (e2.trans hk)
theorem gU {x:Str} {c:Addr}:∀(ns:List (Str × NameKind)) (n:Nat) (acc:List (Str × Addr)),(cellsFrom n ns acc).lookup x=some c->acc.lookup x=some c∨n<=c
 | [],_,_,h=>.inl h
 | (y,k)::r,n,acc,h=>by
  unfold cellsFrom at h
  split at h
  ·rcases gU r _ _ h with z | z
   ·rw [List.lookup_cons] at z
    split at z
    ·cases z;exact .inr (Nat.le_refl _)
    ·exact .inl z
   ·exact .inr (Nat.le_of_succ_le z)
  ·exact gU r _ _ h
theorem oq {x:Str} {c:Addr}:∀(ns:List (Str × NameKind)) (n:Nat) (acc:List (Str × Addr)),ns.lookup x=some .cell->(cellsFrom n ns acc).lookup x=some c->n<=c
 | [],_,_,h,_=>by cases h
 | (y,k)::r,n,acc,h,e=>by
  rw [List.lookup_cons] at h
  unfold cellsFrom at e
  split at h
  ·rename_i hy
   cases h
   rcases gU r _ _ e with z | z
   ·rw [List.lookup_cons,hy] at z
    cases z;exact Nat.le_refl _
   ·exact Nat.le_of_succ_le z
  ·split at e
   ·exact Nat.le_of_succ_le (oq r _ _ h e)
   ·exact oq r _ _ h e
theorem k8 {x:Str}:∀(ns:List (Str × NameKind)) (n:Nat) (acc:List (Str × Addr)),(∀ y∈ns,y.2=.cell->x≠y.1)->(cellsFrom n ns acc).lookup x=acc.lookup x
 | [],_,_,_=>rfl
 | (y,k)::r,n,acc,h=>by
  unfold cellsFrom
  split
  ·rename_i hk
   rw [k8 r _ _ λz hz=>h z (List.mem_cons_of_mem _ hz),List.lookup_cons]
   have:(x==y)=false:=by simpa using h (y,k) List.mem_cons_self (by simpa using hk)
   rw [this]
  ·exact k8 r _ _ λz hz=>h z (List.mem_cons_of_mem _ hz)
theorem oo:∀(ns:List (Str × NameKind)) (n:Nat) (acc:List (Str × Addr)),(∀ x c,acc.lookup x=some c->c<n)->(∀ x y c,acc.lookup x=some c->acc.lookup y=some c->x=y) ->
  ∀ x y c,(cellsFrom n ns acc).lookup x=some c->(cellsFrom n ns acc).lookup y=some c->x=y
 | [],_,_,_,h=>h
 | (z,k)::r,n,acc,hl,hi=>by
  unfold cellsFrom
  split
  ·refine oo r _ _ (λx c e=>?_) λx y c e1 e2=>?_
   ·rw [List.lookup_cons] at e
    split at e
    ·cases e;exact Nat.lt_succ_self _
    ·exact Nat.lt_succ_of_lt (hl x c e)
   ·rw [List.lookup_cons] at e1 e2
    split at e1<;>split at e2
    ·rename_i a _ b
     rw [eq_of_beq a,eq_of_beq b]
    ·cases e1;exact absurd (hl y _ e2) (Nat.lt_irrefl _)
    ·cases e2;exact absurd (hl x _ e1) (Nat.lt_irrefl _)
    ·exact hi x y c e1 e2
  ·exact oo r _ _ hl hi
theorem k6:∀(ns:List (Str × NameKind)) (h:Heap) (acc:List (Str × Addr)),(∀ x c,acc.lookup x=some c->∃ v,h.IsCell c v)->∀ x c,(cellsFrom h.objs.size ns acc).lookup x=some c->∃ v,(pushCells h ns).IsCell c v
 | [],_,_,h=>h
 | (z,k)::r,h,acc,hl=>by
  unfold cellsFrom pushCells
  split
  ·have:=k6 r (h.push { cls:=.type "cell",data:=.cell none }) ((z,h.objs.size)::acc) λx c e=>by
    rw [List.lookup_cons] at e
    split at e
    ·cases e;exact⟨none,_,Heap.get?_push_size _ rfl,rfl⟩
    ·obtain⟨v,q⟩:=hl x c e
     exact⟨v,q.keeps λb o e=>Heap.get?_push_of_some _ e⟩
   rwa [Heap.size_push] at this
  ·exact k6 r h acc hl
theorem kd {M:Model} {A:Around} {E:Value->Shared->Prop} {s:Shared} {scope:Scope} {g:Addr} {cl:List (Str × Addr)} {qual:Str} {env:Env} {Q:Env->Shared->Prop}
  (h:Q (newEnv scope s.heap.objs.size g (cellsFrom (s.heap.objs.size+1) scope.names cl) qual none .none (some env) builtinsNs) { s with heap:=pushCells (s.heap.push { cls:=.type "dict",data:=.dict #[] }) scope.names }) :
  wpAny M A (newFunctionEnv scope g cl [] qual none .none (some env)) Q E s:=by
 simp only [newFunctionEnv,Option.isSome_some,if_true]
 refine wpAny_bind (wpAny_alloc ?_)
 refine wpAny_bind (wpAny_layCells _ (λname kind cells=>by cases hkc:kind==NameKind.cell<;>simp [hkc]) _ _ _ _ ?_)
 rw [show ({ s with heap:=s.heap.push { cls:=.type "dict",data:=.dict #[] } }:Shared).heap.objs.size=s.heap.objs.size+1 from Heap.size_push ..]
 exact wpAny_bind (wpAny_pure (wpAny_pure h))
def lobj (ys:List Value):Obj:={ cls:=.type "list",data:=.seq ys.toArray ys.length }
def rZ (X:Cx) (ifs:List Expr) (t:TT):Prop :=
 ∀(pins:List (Addr × Obj)) (s:Shared) (σ:St) (H:Hp) (Q:Bool->Hp->Prop),Inv X pins σ H s->t σ H Q ->
  wpAny (model X.prog X.w) X.A (forIn ifs true λc r=>if r=true then do let ok <- isTrue c X.env (eval c X.env);pure (ForInStep.yield ok) else pure (ForInStep.yield r)) (TP X pins σ Q) X.xe s
def uB:TT:=λ_ H Q=>Q true H
theorem dF {X:Cx}:rZ X [] uB:=λpins s σ H Q I h=>wpAny_tests_nil ⟨H,I,h⟩
theorem nB {X:Cx} {c:Expr} {t:TT} (h:PT X c t):rZ X [c] t:=λpins s σ H Q I q=>wpAny_tests_one (h pins s σ H Q I q)
def cI:List (Option V)->List (Option V)->Prop
 | [],[]=>True
 | none::r,_::r'=>cI r r'
 | some v::r,some u::r'=>u=v/\cI r r'
 | _,_=>False
theorem cI.len:∀{a b:List (Option V)},cI a b->a.length=b.length
 | [],[],_=>rfl
 | none::r,_::r',h=>by simp [cI.len (a:=r) (b:=r') h]
 | some v::r,some u::r',h=>by simp [cI.len (a:=r) (b:=r') h.2]
 | some v::r,none::r',h=>h.elim
 | some v::r,[],h=>h.elim
 | none::r,[],h=>h.elim
 | [],_::_,h=>h.elim
theorem cI.get:∀{a b:List (Option V)},cI a b->∀(i:Nat) v,a[i]?=some (some v)->b[i]?=some (some v)
 | [],[],_,i,v,h=>by simp at h
 | none::r,_::r',h,0,v,e=>by simp at e
 | none::r,_::r',h,i+1,v,e=>by
  have:=cI.get (a:=r) (b:=r') h i v (by simpa using e)
  simpa using this
 | some v::r,some u::r',h,0,v',e=>by
  have q:v=v':=by simpa using e
  have:=h.1
  simp [this,q]
 | some v::r,some u::r',h,i+1,v',e=>by
  have:=cI.get (a:=r) (b:=r') h.2 i v' (by simpa using e)
  simpa using this
 | some v::r,none::r',h,_,_,_=>h.elim
 | some v::r,[],h,_,_,_=>h.elim
 | none::r,[],h,_,_,_=>h.elim
 | [],_::_,h,_,_,_=>h.elim
def BC (js:List (Option Nat)) (wi:TI) (g:TG) (tt:TT) (te:TE):TE:=λσ H Q=>wi σ H λJ H1=>∃ W:Nat->Nat->List V->Hp->Prop,(∃ m,W 0 m [] H1)/\∀ i m ys H,W i m ys H ->
 (J.stop i H/\ys.length<=sizeLine/\∀ p,H p=none->Q (.ref p) (upd H p (.lst ys))) ∨
 (J.go i H/\ys.length<sizeLine/\∃ N:List V->Hp->Prop,(∀ ys' H',N ys' H'->∃ m',m'<m/\W (i+1) m' ys' H') /\
  ∀ x H',J.yld i H x H'->g x (eJ js σ) H' λσ2 H2=>cI (eJ js σ) σ2/\tt σ2 H2 λb H3=>if b=true then te σ2 H3 λv H4=>N (ys++[v]) H4 else N ys H3)
structure n6 (X:Cx) (C:Addr) (s₂:Shared) (H₂:Hp) (fp:List Addr):Prop where
 inv:∃ pins σ,Inv X pins σ H₂ s₂
 new:∀ b∈fp,X.s₀.heap.objs.size<=b∨b∈X.ex
 nof:∀ b∈gA X.stack,b∉fp
 le:s₂.heap.objs.size<=C
def xI (X:Cx) (elt target:Expr) (gens:List Comprehension) (ifs:List Expr) (scope:Scope) (pos:Pos) (Bd:(Value->Shared->Prop)->Value->Env->(Shared->Prop)->Shared->Prop):Prop :=
 ∀(Ex:Value->Shared->Prop) (R:Result->Shared->Prop) (s:Shared) (it acc:Value) (env:Env) (I:Nat->Shared->Prop),
  (∀ n s,I n s->wpAny (model X.prog X.w) X.A (pyNext it) (λr s₁=>match r with
   | none=>R (.ok .next) s₁
   | some v=>wpAny (model X.prog X.w) X.A (letOwnedTupleGo target it v) (λ_ s₁'=>wpAny (model X.prog X.w) X.A (assign target env v) (λ_ s₂ =>
     wpAny (model X.prog X.w) X.A (forIn ifs true λc r=>if r=true then do let ok <- isTrue c env (eval c env);pure (ForInStep.yield ok) else pure (ForInStep.yield r)) (λok s₃ =>
      if ok=true then Bd Ex acc env (λs₅=>∃ m,m<n/\I m s₅) s₃ else ∃ m,m<n/\I m s₃) Ex s₂) Ex s₁') Ex s₁) Ex s) ->
  ∀ n,I n s->(∀ e s',Ex e s'->notedBy (model X.prog X.w) X.A env (λe s''=>R (.error e) s'') e s')->codeAny (model X.prog X.w) X.A (.compLoop (.ListComp elt gens scope pos) 0 it acc env) R s
structure pL (Y:Cx) (D:Addr) (P:List (Addr × Obj)):Prop where
 ne:∀ p∈P,p.1≠D
 new:Y.s₀.heap.objs.size<=D
 cell:∀ x c,Y.env.cells.lookup x=some c->c≠D
theorem yb {X:Cx} {Ex:Addr->Shared->Hp->List Addr->Value->Shared->Prop} {elt target iter:Expr} {rest:List Comprehension} {ifs:List Expr} {scope:Scope} {pos:Pos} {N':List Str} {js:List (Option Nat)} {cl:List (Str × Addr)} {g:TG} {tt:TT} {Cc:List V->Prop} {tb:List V->St->Hp->(List V->Hp->Prop)->Prop} {Bd:(Value->Shared->Prop)->Value->Env->(Shared->Prop)->Shared->Prop} (hcalm:X.calm=true) (hloop:xI X elt target (⟨target,iter,ifs,0⟩::rest) ifs scope pos Bd)
  (K:jq X N' js scope cl)
  (hg:∀ C s₂ H₂ fp,n6 X C s₂ H₂ fp->PG (c7 X (Ex C s₂ H₂ fp) N' scope cl C s₂ H₂ fp) target g) (ht:∀ C s₂ H₂ fp,n6 X C s₂ H₂ fp->rZ (c7 X (Ex C s₂ H₂ fp) N' scope cl C s₂ H₂ fp) ifs tt) (hB:∀ C s₂ H₂ fp,n6 X C s₂ H₂ fp->∀(D:Addr) ys vys P σ H s N Ps,Inv (c7 X (Ex C s₂ H₂ fp) N' scope cl C s₂ H₂ fp) ([(D,lobj ys)]++P) σ H s->Vals vys ys->pL (c7 X (Ex C s₂ H₂ fp) N' scope cl C s₂ H₂ fp) D P->Cc vys->tb vys σ H N ->
   (∀ ys' vys' H' s',Inv (c7 X (Ex C s₂ H₂ fp) N' scope cl C s₂ H₂ fp) ([(D,lobj ys')]++P) σ H' s'->Vals vys' ys'->N vys' H'->Ps s')->Bd (Ex C s₂ H₂ fp) (.ref D) (c7 X (Ex C s₂ H₂ fp) N' scope cl C s₂ H₂ fp).env Ps s)
  (herr:∀ C s₂ H₂ fp use Q' acc e s',Ex C s₂ H₂ fp e s'->notedBy (model X.prog X.w) X.A (compEnvC scope (cellsFrom (C+1) scope.names cl) C X.env) (λe s''=>compPost (model X.prog X.w) X.A X.xe use Q' acc C (.error e) s'') e s')
  {pins:List (Addr × Obj)} {σ:St} {Q:VK} {use:Option (Value->Sem Unit)} {Q':Value->Shared->Prop} {itv:Value} {s2:Shared}
  (h2:Av X pins σ target (λJ H1=>∃ W:Nat->Nat->List V->Hp->Prop,(∃ m,W 0 m [] H1)/\∀ i m ys H,W i m ys H ->
 (J.stop i H/\ys.length<=sizeLine/\∀ p,H p=none->Q (.ref p) (upd H p (.lst ys))) ∨
 (J.go i H/\Cc ys/\∃ N:List V->Hp->Prop,(∀ ys' H',N ys' H'->∃ m',m'<m/\W (i+1) m' ys' H') /\
  ∀ x H',J.yld i H x H'->g x (eJ js σ) H' λσ2 H2=>cI (eJ js σ) σ2/\tt σ2 H2 λb H3=>if b=true then tb ys σ2 H3 N else N ys H3)) itv s2)
  (hok:∀ C D vys H4 s5,(∃ m,s5.heap.Ns C m)->s2.heap.objs.size<=D->D<=C->D≠C->H4 D=none->H4 C=none->(∀ h',Heap.SameBut C s5.heap h'->Inv X pins σ (upd H4 D (.lst vys)) { s5 with heap:=h' })->Q (.ref D) (upd H4 D (.lst vys))->compPost (model X.prog X.w) X.A X.xe use Q' (.ref D) C (.ok .next) s5) :
  wpAny (model X.prog X.w) X.A (newList []) (λacc s₃=>wpAny (model X.prog X.w) X.A (newFunctionEnv scope X.env.globals cl [] X.env.qual none .none (some X.env)) (λcenv s₄ =>
   codeAny (model X.prog X.w) X.A (.compStart (.ListComp elt (⟨target,iter,ifs,0⟩::rest) scope pos) 0 itv acc { cenv with scope:=relabel scope X.env }) (compPost (model X.prog X.w) X.A X.xe use Q' acc cenv.locals) s₄) X.xe s₃) X.xe s2:=by
 obtain⟨it,fp,tn,J,H2,e,I2,T,st2,f2,W,⟨m0,w0⟩,turn⟩:=h2
 subst e
 refine wpAny_newObj_type (kd ?_)
 dsimp only
 generalize hP2:s2.heap.push { cls:=.type "list",dict:=none,data:=.seq ([]:List Value).toArray }=P2
 generalize hh₁:pushCells (P2.push { cls:=.type "dict",data:=.dict #[] }) scope.names=h₁
 have hns₁:h₁.Ns P2.objs.size λ_=>none:=hh₁▸(Heap.Ns.new P2 (.type "dict")).keeps (pushCells_keeps _ _)
 have upP:∀ b o,P2.get? b=some o->h₁.get? b=some o:=λb o e=>hh₁▸pushCells_keeps _ _ b o (Heap.get?_push_of_some _ e)
 have hcel:∀ x c,(cellsFrom (P2.objs.size+1) scope.names cl).lookup x=some c->∃ v,h₁.IsCell c v:=by
  have:=k6 scope.names (P2.push { cls:=.type "dict",data:=.dict #[] }) cl λx c e=>by
   obtain⟨v,q⟩:=I2.cell x c (K.sub.get x c e)
   exact⟨v,q.keeps λb o e=>Heap.get?_push_of_some _ (hP2▸Heap.get?_push_of_some _ e)⟩
  rw [Heap.size_push,hh₁] at this
  exact this
 have hC:P2.objs.size=s2.heap.objs.size+1:=by rw [<- hP2,Heap.size_push]
 have hDC:s2.heap.objs.size≠P2.objs.size:=by rw [hC];exact Nat.ne_of_lt (Nat.lt_succ_self _)
 have below:∀ b,b<s2.heap.objs.size->b≠P2.objs.size/\b≠s2.heap.objs.size:=λb hb=>⟨by rw [hC];exact Nat.ne_of_lt (Nat.lt_succ_of_lt hb),Nat.ne_of_lt hb⟩
 have old:∀ b o,s2.heap.get? b=some o->h₁.get? b=some o:=λb o e=>upP b o (hP2▸Heap.get?_push_of_some _ e)
 have hacc:h₁.get? s2.heap.objs.size=some (lobj []):=upP _ _ (hP2▸Heap.get?_push_size _ rfl)
 generalize hCe:P2.objs.size=C at *
 generalize hDe:s2.heap.objs.size=D at *
 let Y:Cx:=c7 X (Ex C s2 H2 fp) N' scope cl C s2 H2 fp
 have clLt:∀ y c,cl.lookup y=some c->c<D:=λy c e=>by
  obtain⟨v,q⟩:=I2.cell y c (K.sub.get y c e)
  rw [<- hDe]
  exact q.lt
 have cellsX:∀ y c,Y.env.cells.lookup y=some c->cl.lookup y=some c∨C+1<=c:=λy c e=>gU _ _ _ e
 have cellNe:∀ y c,Y.env.cells.lookup y=some c->c≠D:=λy c e=>by
  rcases cellsX y c e with z | z
  ·exact Nat.ne_of_lt (clLt y c z)
  ·exact Nat.ne_of_gt (by omega)
 have freshH:∀ a,D<=a->H2 a=none:=λa ha=>I2.hok.fresh (by rw [hDe];exact ha)
 have hDleC:D<=C:=by rw [hC];exact Nat.le_succ _
 have lc:n6 X C s2 H2 fp:=⟨⟨pins,σ,I2⟩,λb hb=>((f2 b hb).2.2.2.1).symm,λb hf hb=>by
   rcases List.mem_cons.mp (I2.fS b hf) with z | z
   ·exact (f2 b hb).2.1 z
   ·exact (f2 b hb).2.2.1 z,by rw [hDe];exact hDleC⟩
 have hbelowfp:∀ b∈fp,b<D:=λb hb=>by
  obtain⟨o,e,_⟩:=T.obj _ _ st2 b hb
  rw [<- hDe]
  exact Heap.lt_size e
 have okY:Y.Ok:=by
  refine⟨I2.ok.mod,K.kind,I2.ok.glob,I2.ok.blt,?_,oo _ _ _ (λx c e=>Nat.lt_succ_of_lt (Nat.lt_of_lt_of_le (clLt x c e) hDleC)) (λx y c e1 e2=>I2.ok.inj x y c (K.sub.get x c e1) (K.sub.get y c e2)),λx hx=>?_,λx c hf hc=>?_,I2.ok.hd,I2.ok.frames,.inl rfl,λb hb=>?_,I2.bs,Nat.le_trans I2.ok.bsz I2.sz,λb o e hb=>?_,λb hb hf=>?_,I2.stack,I2.iB⟩
  ·show s2.heap.objs.size<=C
   rw [hDe];exact hDleC
  ·have hx':(relabel scope X.env).names.lookup x=some .cell∨(relabel scope X.env).names.lookup x=some .free:=hx
   have:∃ y∈scope.names,y.1=x/\(y.2=.free∨y.2=.cell):=by
    rcases hx' with q | q
    ·exact iQ q (.inl rfl)
    ·exact iQ q (.inr rfl)
   obtain⟨y,hm,e1,e2⟩:=this
   refine Option.isSome_iff_exists.mp (PySem.W.cellsFrom_some _ _ _ ?_)
   rcases e2 with e2 | e2
   ·have q:=K.has y hm e2
    rw [e1] at q
    exact .inr q
   ·exact .inl (e1▸(K.nocell y hm e2).1)
  ·have hf':scope.names.lookup x=some .cell:=by simpa using (show (scope.names.lookup x==some .cell)=true from hf)
   have:=oq _ _ _ hf' hc
   show s2.heap.objs.size<=c
   rw [hDe];exact Nat.le_trans hDleC (Nat.le_of_succ_le this)
  ·refine⟨Nat.ne_of_lt (Nat.lt_of_lt_of_le (hbelowfp b hb) hDleC),λx c e=>?_⟩
   rcases cellsX x c e with z | z
   ·exact (f2 b hb).2.2.2.2.1 x c (K.sub.get x c z)
   ·exact Nat.ne_of_gt (Nat.lt_of_lt_of_le (Nat.lt_of_lt_of_le (hbelowfp b hb) hDleC) (Nat.le_of_succ_le z))
  ·rcases (f2 b hb).2.2.2.1 with z | z
   ·exact I2.ok.noex b o e z
   ·exact absurd (Nat.lt_of_lt_of_le (Heap.lt_size e) (Nat.le_trans I2.ok.bsz z)) (Nat.lt_irrefl _)
  ·rcases List.mem_cons.mp (I2.fS b hf) with z | z
   ·exact (f2 b hb).2.1 z
   ·exact (f2 b hb).2.2.1 z
 -- the block's names
 have locY:∀{s':Shared} {H':Hp} {σ':St},True:=λ{_ _ _}=>trivial
 have invY0:Inv Y [(D,lobj [])] (eJ js σ) H2 { s2 with heap:=h₁ }:=by
  refine⟨okY,rfl,I2.bare,Un.kept old,⟨_,hns₁,λi x v e1 e2 vis=>?_⟩,hcel,freshH C hDleC,λy c e=>?_,λp hp=>?_,I2.hok.kept old,?_⟩
  ·-- a name of the block that has a value stands outside in a cell
   have e2':(eJ js σ)[i]?=some (some v):=e2
   unfold eJ at e2'
   rw [List.getElem?_map] at e2'
   cases ej:js[i]? with
   | none=>rw [ej] at e2';cases e2'
   | some o =>
    rw [ej] at e2'
    cases o with
    | none=>cases e2'
    | some j =>
     obtain⟨n1,n2,n3,n4,n5⟩:=K.jok i j x ej e1
     have e3:(σ[j]?).join=some v:=by simpa using e2'
     have e4:σ[j]?=some (some v):=by
      cases q:σ[j]? with
      | none=>rw [q] at e3;cases e3
      | some z=>rw [q] at e3;simpa using e3
     obtain⟨m,hn,hl⟩:=I2.loc
     obtain⟨u,r,l⟩:=hl j x v n1 e4 n3
     refine⟨u,r,.inr ⟨n5,?_⟩⟩
     rcases l with⟨k,_⟩|⟨k,c,ec,z⟩
     ·exact absurd k n4
     ·obtain⟨c',ec'⟩:=Option.isSome_iff_exists.mp n2
      have ee:=K.sub.get x c' ec'
      rw [ec] at ee
      cases ee
      refine⟨c,(k8 _ _ _ λy hy hk=>(K.nocell y hy hk).2 (some j,x) ?_ rfl).trans ec',?_⟩
      ·exact List.mem_of_getElem? (i:=i) (by rw [List.getElem?_zip_eq_some];exact⟨ej,e1⟩)
      obtain⟨o,ho,hd⟩:=z
      exact⟨o,old c o ho,hd⟩
  ·rcases cellsX y c e with z | z
   ·exact I2.freeC y c (K.sub.get y c z)
   ·exact freshH c (by omega)
  ·have hp':p∈[(D,lobj [])]:=hp
   have e:p=(D,lobj []):=by simpa using hp'
   subst e
   refine⟨hacc,freshH D (Nat.le_refl _),hDC,λz=>?_,λv z=>by cases z⟩
   rcases List.mem_cons.mp (I2.fS D z) with q | q
   ·exact absurd (q▸I2.lt) (by rw [hDe];exact Nat.lt_irrefl _)
   ·exact I2.yg (by rw [hDe];exact Nat.le_refl _) q
  ·show (eJ js σ).length=N'.length
   unfold eJ
   rw [List.length_map]
   exact K.jlen
 have hDfs:D∉Y.fs:=λz=>by
  rcases List.mem_cons.mp (I2.fS D z) with q | q
  ·exact absurd (q▸I2.lt) (by rw [hDe];exact Nat.lt_irrefl _)
  ·exact I2.yg (by rw [hDe];exact Nat.le_refl _) q
 have stat:∀{H':Hp} {ys:List Value},(∀ b∈fp,H' b=none)->∀ b∈fp,kW Y [(D,lobj ys)] H' b:=λ{H' ys} hn b hb=>by
  refine⟨hn b hb,Nat.ne_of_lt (Nat.lt_of_lt_of_le (hbelowfp b hb) hDleC),okY.exfs b hb,.inl hb,okY.exf b hb |>.2,λp hp=>?_⟩
  have hp':p∈[(D,lobj ys)]:=hp
  have e:p=(D,lobj ys):=by simpa using hp'
  subst e
  exact Nat.ne_of_gt (hbelowfp b hb)
 have loop:∀ s3:Shared,s3={ s2 with heap:=h₁ } ->
   codeAny (model X.prog X.w) X.A (.compLoop (.ListComp elt (⟨target,iter,ifs,0⟩::rest) scope pos) 0 (.ref it) (.ref D) (compEnvC scope (cellsFrom (C+1) scope.names cl) C X.env)) (compPost (model X.prog X.w) X.A X.xe use Q' (.ref D) C) s3:=by
  rintro s3 rfl
  refine hloop _ _ _ _ _ _ (λn s'=>∃ i ys vys H',Inv Y [(D,lobj ys)] (eJ js σ) H' s'/\tn i s'.heap/\(∀ b∈fp,H' b=none)/\Vals vys ys/\W i n vys H') ?_ m0
   ⟨0,[],[],H2,invY0,T.keep _ _ _ st2 λb _ o e=>old b o e,λb hb=>(f2 b hb).1,.nil,w0⟩ λe s' z=>herr C s2 H2 fp use Q' (.ref D) e s' z
  rintro n s4 ⟨i,ys,vys,H4,I4,st4,fr4,rv,w4⟩
  rcases turn i n vys H4 w4 with⟨stop,hz,qn⟩|⟨go,hz,Nn,hN,step⟩
  ·refine bZ (T.done Y rfl rfl rfl hcalm i _ s4 _ H4 (Ex C s2 H2 fp) I4 (stat fr4) st4 stop) λr s5 ⟨hr,I5⟩=>?_
   subst hr
   obtain⟨m5,hn5,_⟩:=I5.loc
   obtain⟨pD,nD,_,_,_⟩:=I5.pin (D,lobj ys) (by show _∈[(D,lobj ys)];simp)
   have nC:H4 C=none:=I5.free
   refine hok C D vys H4 s5 ⟨m5,hn5⟩ (Nat.le_refl _) hDleC hDC nD nC (λh' hsb=>?_) (qn D nD)
   have pD':h'.get? D=some (lobj ys):=hsb.extBut _ _ hDC pD
   refine I2.zz (s':={ s5 with heap:=h' }) (ch:=fp) I5.os ?_ ?_ I5.bare (λb hb=>?_)
   ·-- kept
    have u:=I5.base
    have neC:∀ b o,s2.heap.get? b=some o->b≠C/\b≠D:=λb o e=>by
     have:=Heap.lt_size e
     rw [hDe] at this
     exact⟨Nat.ne_of_lt (Nat.lt_of_lt_of_le this hDleC),Nat.ne_of_lt this⟩
    refine⟨λb o e nn hb hx=>hsb.extBut b o (neC b o e).1 (u.keep b o e nn hb hx),λb o e nn hb hx=>?_,λb o e nn hx=>?_,λb o e hx=>?_,λb xs e=>?_,λb o xs e=>?_,λb ps e=>?_⟩
    ·obtain⟨sl,q⟩:=u.slot b o e nn hb hx
     exact⟨sl,hsb.extBut b _ (neC b o e).1 q⟩
    ·rw [av (neC b o e).2]
     exact u.free b o e nn hx
    ·obtain⟨o',q⟩:=u.there b o e hx
     exact⟨o',hsb.extBut b _ (neC b o e).1 q⟩
    ·rw [av (bA (u.tups b xs e) nD)]
     exact u.tups b xs e
    ·rw [av (bA (u.frzs b o xs e) nD)]
     exact u.frzs b o xs e
    ·obtain⟨more,q⟩:=u.tbls b ps e
     exact⟨more,by rw [av (bA q nD)];exact q⟩
   ·intro b o e
    by_cases hb:b=D
    ·subst hb
     rw [af] at e
     cases e
     exact⟨hz,ys,_,rv,pD'⟩
    ·rw [av hb] at e
     refine (I5.hok b o e).jV (λc w' hc q=>hsb.extBut c w' ?_ q) (λc q=>by rw [av (bA q nD)];exact q) λc xs q=>by rw [av (bA q nD)];exact q
     rintro rfl
     rcases hc with rfl | hc
     ·rw [nC] at e;cases e
     ·rw [nC] at hc;cases hc
   ·exact⟨(f2 b hb).2.2.2.1,(f2 b hb).2.1,(f2 b hb).2.2.2.2.1,(f2 b hb).2.2.2.2.2⟩
  ·refine bZ (T.item Y rfl rfl rfl hcalm i _ s4 _ H4 (Ex C s2 H2 fp) I4 (stat fr4) st4 go) λr s5 ⟨u,hr,h5⟩=>?_
   subst hr
   refine bZ h5 λ_ s6 ⟨x,H6,I6,r6,y6,st6,fr6⟩=>?_
   have I6':=I6.pinned (stat fr6) (T.obj _ _ st6)
   refine bZ (hg C s2 H2 fp lc _ s6 _ H6 x u _ I6' r6 (step x H6 y6)) λ_ s7 ⟨σ7,H7,I7,k7,q7⟩=>?_
   refine bZ (ht C s2 H2 fp lc _ s7 σ7 H7 _ I7 q7) λb s8 ⟨H8,I8,q8⟩=>?_
   -- behind the tests and the element: the state goes back to what the next turn wants
   have again:∀{ys':List Value} {s9:Shared} {H9:Hp},Inv Y ([(D,lobj ys')]++iK fp s6.heap) σ7 H9 s9->Inv Y [(D,lobj ys')] (eJ js σ) H9 s9/\tn (i+1) s9.heap/\∀ b∈fp,H9 b=none:=λ{ys' s9 H9} I9=>by
    refine⟨(I9.iD).weak k7.len k7.get,T.keep _ _ _ st6 λb hb o e=>(I9.pin (b,o) (List.mem_append_right _ (List.mem_append_right _ (fv hb e)))).1,λb hb=>?_⟩
    obtain⟨o,e,d⟩:=T.obj _ _ st6 b hb
    exact (I9.pin (b,o) (List.mem_append_right _ (List.mem_append_right _ (fv hb e)))).2.1
   cases b with
   | false =>
    rw [if_neg Bool.false_ne_true] at q8 ⊢
    obtain⟨m',hm,w8⟩:=hN _ _ q8
    obtain⟨J8,t8,f8⟩:=again I8
    exact⟨m',hm,i+1,ys,vys,H8,J8,t8,f8,rv,w8⟩
   | true =>
    rw [if_pos rfl] at q8 ⊢
    have aok:pL Y D (iK fp s6.heap):=⟨λp hp z=>absurd (hbelowfp p.1 (kF hp).1) (by rw [z];exact Nat.lt_irrefl _),by show s2.heap.objs.size<=D;rw [hDe];exact Nat.le_refl _,λx c e=>cellNe x c e⟩
    refine hB C s2 H2 fp lc D ys vys _ σ7 H8 s8 Nn _ I8 rv aok hz q8 λys' vys' H9 s9 I9 rv' q9=>?_
    obtain⟨J9,t9,f9⟩:=again I9
    obtain⟨m',hm,w9⟩:=hN _ _ q9
    exact⟨m',hm,i+1,ys',vys',H9,J9,t9,f9,rv',w9⟩
 exact codeAny_compStart_list (loop _ rfl) (T.self _ 0 _ _ _ (T.keep _ _ _ st2 λb _ o e=>old b o e) (loop _ rfl))
theorem uZ {Y:Cx} {D:Addr} {ys:List Value} {P:List (Addr × Obj)} {σ:St} {H:Hp} {s:Shared} {y:Value} {Q:Value->Shared->Prop} {E:Value->Shared->Prop} (hpn:Y.pn=[]) (I:Inv Y ([(D,lobj ys)]++P) σ H s) (ok:pL Y D P) (z:ys.length<sizeLine)
  (q:∀ s',Inv Y ([(D,lobj (ys++[y]))]++P) σ H s'->Q .none s'):wpAny (model Y.prog Y.w) Y.A (call (.builtin "list.append") [.ref D,y]) Q E s:=by
 obtain⟨pD,nD,neD,nfD,_⟩:=I.pin (D,lobj ys) (by rw [hpn];simp)
 refine append_at (hsz:=by show ys.toArray.size<=sizeLine;rw [List.size_toArray];exact Nat.le_of_lt z) (show s.heap.get? D=some { cls:=.type "list",data:=.seq ys.toArray ys.length } from pD) λh' hsb hD'=>q _ ?_
 have eD:h'.get? D=some (lobj (ys++[y])):=by
  rw [hD']
  unfold lobj
  rw [List.length_append,List.length_singleton,List.push_toArray]
 have J1:Inv Y P σ H s:=I.ji λp hp=>I.pin p (List.mem_append_right _ (List.mem_append_right _ hp))
 have J2:Inv Y P σ H { s with heap:=h' }:=J1.turned (t':=s.toks) (it:=D) (λb o hb e=>hsb.extBut b o hb e) nD neD (.inr ok.new) ok.cell λp hp=>ok.ne p (by rw [hpn] at hp;simpa using hp)
 refine J2.ji λp hp=>?_
 rcases List.mem_append.mp hp with hp | hp
 ·have e:p=(D,lobj (ys++[y])):=by simpa using hp
  subst e
  exact⟨eD,nD,neD,nfD,λv z=>by cases z⟩
 ·exact J2.pin p (List.mem_append_right _ hp)
theorem sj {Y:Cx} {D:Addr} {ys:List Value} {vys:List V} {P:List (Addr × Obj)} {σ:St} {H:Hp} {s:Shared} {elt:Expr} {te:TE} {N:List V->Hp->Prop} {Ps:Shared->Prop} (hpn:Y.pn=[]) (he:PE Y elt te) (I:Inv Y ([(D,lobj ys)]++P) σ H s) (rv:Vals vys ys) (ok:pL Y D P) (z:vys.length<sizeLine) (q:te σ H λv H4=>N (vys++[v]) H4)
  (k:∀ ys' vys' H' s',Inv Y ([(D,lobj ys')]++P) σ H' s'->Vals vys' ys'->N vys' H'->Ps s'):wpAny (model Y.prog Y.w) Y.A (pO elt (.ref D) Y.env) (λ_ s'=>Ps s') Y.xe s:=by
 unfold pO
 refine wpAny_bind (bZ (he _ s σ H _ I q) λy s9 ⟨vy,H9,I9,r9,q9⟩=>?_)
 exact wpAny_bind (uZ hpn I9 ok (by rw [<- rv.length];exact z) λs' I'=>wpAny_pure (k _ _ _ _ I' (rv.append (.cons r9 .nil)) q9))
theorem vA {X:Cx} {Ex:Addr->Shared->Hp->List Addr->Value->Shared->Prop} {elt target iter:Expr} {ifs:List Expr} {scope:Scope} {pos:Pos} {N':List Str} {js:List (Option Nat)} {cl:List (Str × Addr)} {g:TG} {tt:TT} {te:TE} (hcalm:X.calm=true)
  (K:jq X N' js scope cl)
  (hg:∀ C s₂ H₂ fp,n6 X C s₂ H₂ fp->PG (c7 X (Ex C s₂ H₂ fp) N' scope cl C s₂ H₂ fp) target g) (ht:∀ C s₂ H₂ fp,n6 X C s₂ H₂ fp->rZ (c7 X (Ex C s₂ H₂ fp) N' scope cl C s₂ H₂ fp) ifs tt) (he:∀ C s₂ H₂ fp,n6 X C s₂ H₂ fp->PE (c7 X (Ex C s₂ H₂ fp) N' scope cl C s₂ H₂ fp) elt te)
  (herr:∀ C s₂ H₂ fp use Q' acc e s',Ex C s₂ H₂ fp e s'->notedBy (model X.prog X.w) X.A (compEnvC scope (cellsFrom (C+1) scope.names cl) C X.env) (λe s''=>compPost (model X.prog X.w) X.A X.xe use Q' acc C (.error e) s'') e s')
  {pins:List (Addr × Obj)} {σ:St} {Q:VK} {use:Option (Value->Sem Unit)} {Q':Value->Shared->Prop} {itv:Value} {s2:Shared}
  (h2:Av X pins σ target (λJ H1=>∃ W:Nat->Nat->List V->Hp->Prop,(∃ m,W 0 m [] H1)/\∀ i m ys H,W i m ys H ->
 (J.stop i H/\ys.length<=sizeLine/\∀ p,H p=none->Q (.ref p) (upd H p (.lst ys))) ∨
 (J.go i H/\ys.length<sizeLine/\∃ N:List V->Hp->Prop,(∀ ys' H',N ys' H'->∃ m',m'<m/\W (i+1) m' ys' H') /\
  ∀ x H',J.yld i H x H'->g x (eJ js σ) H' λσ2 H2=>cI (eJ js σ) σ2/\tt σ2 H2 λb H3=>if b=true then te σ2 H3 λv H4=>N (ys++[v]) H4 else N ys H3)) itv s2)
  (hok:∀ C D vys H4 s5,(∃ m,s5.heap.Ns C m)->s2.heap.objs.size<=D->D<=C->D≠C->H4 D=none->H4 C=none->(∀ h',Heap.SameBut C s5.heap h'->Inv X pins σ (upd H4 D (.lst vys)) { s5 with heap:=h' })->Q (.ref D) (upd H4 D (.lst vys))->compPost (model X.prog X.w) X.A X.xe use Q' (.ref D) C (.ok .next) s5) :
  wpAny (model X.prog X.w) X.A (newList []) (λacc s₃=>wpAny (model X.prog X.w) X.A (newFunctionEnv scope X.env.globals cl [] X.env.qual none .none (some X.env)) (λcenv s₄ =>
   codeAny (model X.prog X.w) X.A (.compStart (.ListComp elt [⟨target,iter,ifs,0⟩] scope pos) 0 itv acc { cenv with scope:=relabel scope X.env }) (compPost (model X.prog X.w) X.A X.xe use Q' acc cenv.locals) s₄) X.xe s₃) X.xe s2 :=
 yb (Bd:=λEx acc env Ps s=>wpAny (model X.prog X.w) X.A (pO elt acc env) (λ_ s'=>Ps s') Ex s) (Cc:=λys=>ys.length<sizeLine) (tb:=λys σ2 H3 N=>te σ2 H3 λv H4=>N (ys++[v]) H4) hcalm
  (λ_ _ _ it acc env I turn n h hE=>lb I (uI elt target iter ifs scope pos it acc env) turn n h hE) K hg ht
  (λC s₂ H₂ fp lc D ys vys P σ H s N Ps I rv ok z q k=>sj rfl (he C s₂ H₂ fp lc) I rv ok z q k) herr h2 hok
theorem gE {X:Cx} {elt target iter:Expr} {ifs:List Expr} {scope:Scope} {pos:Pos} {N':List Str} {js:List (Option Nat)} {cl:List (Str × Addr)} {wi:TI} {g:TG} {tt:TT} {te:TE} (hcalm:X.calm=true)
  (K:jq X N' js scope cl) (hi:PI X target iter wi)
  (hg:∀ C s₂ H₂ fp,PG (la X N' scope cl C s₂ H₂ fp) target g) (ht:∀ C s₂ H₂ fp,rZ (la X N' scope cl C s₂ H₂ fp) ifs tt) (he:∀ C s₂ H₂ fp,PE (la X N' scope cl C s₂ H₂ fp) elt te)
  (hs:∀ x,foldedSetIterable iter X.env x=pure x:=by intro _;rfl):PE X (.ListComp elt [⟨target,iter,ifs,0⟩] scope pos) (BC js wi g tt te):=by
 intro pins s σ H Q I h
 rw [eval_ListComp]
 refine wpAny_comprehension_free (use:=none) rfl hs K.clos K.kind K.names (bZ (hi pins s σ H _ I h) λv s1 h1=>bZ h1 λitv s2 h2=>?_)
 exact vA (Ex:=λ_ _ _ _ _ _=>False) hcalm K (λC s H f _=>hg C s H f) (λC s H f _=>ht C s H f) (λC s H f _=>he C s H f) (λ_ _ _ _ _ _ _ _ _ z=>z.elim) h2 λC D vys H4 s5 ⟨m,hn⟩ _ _ _ _ _ hI q=>⟨m,hn,λh' hsb=>⟨.ref D,_,hI h' hsb,rfl,q⟩⟩
def Bd (i:Int):Prop:=i.natAbs<2^4000
theorem si:(10:Nat)^250<=2^4000:=by decide +kernel
theorem Bd.of {i:Int} (h1:-(10^250)<i) (h2:i<10^250):Bd i:=by
 refine Nat.lt_of_lt_of_le ?_ si
 have:((10:Nat)^250:Nat)=((10:Int)^250).toNat:=by decide +kernel
 rw [this]
 omega
theorem Bd.mono {i j:Int} (h:Bd j) (h':i.natAbs<=j.natAbs):Bd i:=Nat.lt_of_le_of_lt h' h
theorem Bd.bits {i:Int} (h:Bd i):Builtin.Int.intBits i<=2^20 :=
 Nat.le_trans (intBits_le h) (by decide)
theorem Bd.Bw {i j:Int} (h:Bd j):Builtin.divisionGoesByPylong i j=false:=by
 refine PyProof.noPylong_of_log2 ?_
 by_cases z:j.natAbs=0
 ·rw [z];decide
 ·exact Nat.lt_of_lt_of_le ((Nat.log2_lt z).mpr h) (by decide)
section
variable {X:Cx}
theorem aX:gv X (binaryOp .Mult) (rI (λi j=>Bd i/\Bd j) λi j=>.int (i*j)):=zV λ_ _ _ _ _ _ _ hc q=>mul_int q (IntMulOk.of_bits hc.1.bits hc.2.bits)
theorem cV:gv X (binaryOp .FloorDiv) (rI (λ_ j=>0<j/\Bd j) λi j=>.int (i/j)):=zV λi j _ _ _ _ _ hc q=>by
 have h1:(0:Int)<j:=hc.1
 exact floordiv_int (by omega) (by rw [Int.fdiv_eq_ediv_of_nonneg i (by omega)];exact q) (.inl hc.2.Bw)
theorem fH:gv X (inplaceOp .FloorDiv) (rI (λ_ j=>0<j/\Bd j) λi j=>.int (i/j)):=zV λi j _ _ _ _ _ hc q=>by
 have h1:(0:Int)<j:=hc.1
 exact ifloordiv_int (by omega) (by rw [Int.fdiv_eq_ediv_of_nonneg i (by omega)];exact q) (.inl hc.2.Bw)
theorem gZ {op:Operator} {r:R2} (ho:gv X (inplaceOp op) r):Bt X op r:=λpins s σ H x y v u Q I r1 r2 h=>ho pins s σ H x y v u Q I r1 r2 h
def xB (i j k:Nat) (ta:TA):TS:=λD σ H=>ta σ H λvs H1=>∃ v w u,vs=[v,w,u]/\D.nx (((σ.set i (some v)).set j (some w)).set k (some u)) H1
theorem qx {i j k:Nat} {x y z:Str} {a b c:Expr} {ta:TA} {px py pz pt pos:Pos} {kt k2 pt2} (hc:X.calm=true) (hN:X.N.Nodup) (hi:X.N[i]?=some x) (hj:X.N[j]?=some y) (hk:X.N[k]?=some z) (hij:i≠j) (hik:i≠k) (hjk:j≠k)
  (hx:X.env.scope.names.lookup x=some .local) (hy:X.env.scope.names.lookup y=some .local) (hz:X.env.scope.names.lookup z=some .local) (ha:PA X [a,b,c] ta)
  (hw:swappedStores [.Tuple [.Name x px,.Name y py,.Name z pz] kt pt] (.Tuple [a,b,c] k2 pt2) X.env=pure (some [x,y,z]))
  (hs:swapsWithSole [.Tuple [.Name x px,.Name y py,.Name z pz] kt pt] (.Tuple [a,b,c] k2 pt2) pos.line X.env=pure false:=by rfl) :
  PS X (.Assign [.Tuple [.Name x px,.Name y py,.Name z pz] kt pt] (.Tuple [a,b,c] k2 pt2) pos) (xB i j k ta):=by
 intro pins s σ H D I h
 rw [exec_Assign_arm]
 refine wpAny_bind (wpAny_standAt ?_)
 rw [hs]
 refine wpAny_bind (wpAny_pure ?_)
 rw [if_neg (by decide)]
 refine wpAny_bind (Tuple_ (bZ (ha _ pins s σ H _ I h) λus s1 ⟨vs,H1,I1,r1,q1⟩=>?_))
 obtain⟨v,w,u,e1,q1⟩:=q1
 subst e1
 obtain⟨u1,u2,u3,rfl,rv,rw',ru⟩:∃ u1 u2 u3,us=[u1,u2,u3]/\RelV v u1/\RelV w u2/\RelV u u3:=by
  cases r1 with
  | cons p q =>
   cases q with
   | cons p' q' =>
    cases q' with
    | cons p'' q'' =>
     cases q''
     exact⟨_,_,_,rfl,p,p',p''⟩
 refine wpAny_newObj_type ?_ (by show 3<=sizeLine;decide)
 have I2:Inv X pins σ H1 { s1 with heap:=s1.heap.push { cls:=.type "tuple",data:=.seq [u1,u2,u3].toArray } }:=I1.kept (t':=s1.toks) λb o e=>Heap.get?_push_of_some _ e
 rw [hw]
 refine wpAny_bind (wpAny_pure ?_)
 show wpAny (model X.prog X.w) X.A (do rule "assign.swapped-stores";let items <- unpackItems (.ref s1.heap.objs.size) 3 none;assignInOrder [λv=>bindName X.env z v,λv=>bindName X.env y v,λv=>bindName X.env x v] items.reverse;pure Flow.next) _ _ _
 refine wpAny_bind (wpAny_rule (wpAny_bind (unpackItems_tuple (items:=#[u1,u2,u3]) (I.ok.hd hc) (IsTup.new s1.heap _) λh' hx'=>?_)))
 have I3:=I2.kept (h':=h') (t':=s1.toks) λb o e=>hx' b o (Nat.ne_of_lt (Heap.lt_size e)) e
 show wpAny _ _ (assignInOrder [λv=>bindName X.env z v,λv=>bindName X.env y v,λv=>bindName X.env x v] [u3,u2,u1] >>= λ_=>pure Flow.next) _ _ _
 refine wpAny_bind (assignInOrder_cons (wpAny_bindName (dG I3 hN hk (.inl hz) ru (λs2 I4=>?_) (.inr hz))))
 refine assignInOrder_cons (wpAny_bindName (dG I4 hN hj (.inl hy) rw' (λs3 I5=>?_) (.inr hy)))
 refine assignInOrder_cons (wpAny_bindName (dG I5 hN hi (.inl hx) rv (λs4 I6=>assignInOrder_nil (wpAny_pure ?_)) (.inr hx)))
 have e:((σ.set k (some u)).set j (some w)).set i (some v)=((σ.set i (some v)).set j (some w)).set k (some u):=by
  rw [List.set_comm _ _ (Ne.symm hij),List.set_comm _ _ (Ne.symm hik),List.set_comm _ _ (Ne.symm hjk)]
 rw [e] at I6
 exact⟨_,H1,I6,q1⟩
def yD (K:PySem.W.Frag):List V->Hp->VK->Prop:=λxs H Q=>∃(a:Addr) (bs:List Bool),xs=[.ref a]/\aV K H a (bs.map V.bl)/\Q (.bl (bs.all id)) H
theorem jv (hc:X.calm=true):fF X (.builtin "all") (yD X.K):=by
 intro pins s σ H xs us Q I r h
 obtain⟨a,bs,rfl,hq,q⟩:=h
 obtain⟨u,rfl,ru⟩:=vals1 r
 cases ru
 obtain⟨its,rv,p,hz⟩:=I.list hq
 have hl:=p.isList
 have hlt:a<s.heap.objs.size:=by obtain⟨_,e,_⟩:=hl;exact Heap.lt_size e
 have hb:∀(i:Nat) v,its[i]?=some v->∃ b,bs[i]?=some b/\v=.bool b:=λi v e=>by
  have hi:i<its.length:=(List.getElem?_eq_some_iff.mp e).1
  have hi2:i<bs.length:=by have:=rv.length;rw [List.length_map] at this;omega
  obtain⟨u,e1,e2⟩:=rv.get (i:=i) (x:=V.bl bs[i]) (by rw [List.getElem?_map,List.getElem?_eq_getElem hi2];rfl)
  rw [e] at e1
  cases e1
  exact⟨bs[i],List.getElem?_eq_getElem hi2,e2⟩
 have hln:its.length=bs.length:=by have:=rv.length;rw [List.length_map] at this;omega
 refine call_all_walk (wpAny_pyIter_list hl ?_)
 refine⟨s.heap.objs.size,[s.heap.objs.size,a],[s.heap.objs.size],its.toArray.size,_,_,λi=>(bs[i]?).getD true,rfl,Walks.list (A:=X.A.in1) (I.ok.hd hc) _ a (Nat.ne_of_lt hlt) its.toArray,
  ⟨⟨_,Heap.get?_push_size _ rfl,rfl,rfl⟩,hl.push _⟩,λi v s' Q' E' hP hQ=>?_,λh' tk hk=>?_⟩
 ·obtain⟨b,e,rfl⟩:=hb i v (by simpa using hP)
  simp only [e,Option.getD_some] at hQ
  exact wpAny_truthy_bool hQ
 ·have e:((List.range its.toArray.size).all λi=>(bs[i]?).getD true)=bs.all id:=by
   rw [List.size_toArray,hln,Bool.eq_iff_iff]
   simp only [List.all_eq_true,List.mem_range,id]
   constructor
   ·intro z b hb'
    obtain⟨i,hi,rfl⟩:=List.mem_iff_getElem.mp hb'
    have:=z i hi
    rwa [List.getElem?_eq_getElem hi,Option.getD_some] at this
   ·intro z i hi
    rw [List.getElem?_eq_getElem hi,Option.getD_some]
    exact z _ (List.getElem_mem hi)
  rw [e]
  exact⟨.bl _,H,I.kept λb o eb=>hk b o (λhm=>by rw [List.mem_singleton.mp hm] at eb;exact Nat.lt_irrefl _ (Heap.lt_size eb)) (Heap.get?_push_of_some _ eb),rfl,q⟩
end
def aA (K:PySem.W.Frag) (mg:Str->Option Value) (x:Str) (st:Stmt):Prop:=∃ f fd,uO K x x st f fd/\mg x=some (.ref f)
structure Callee (P:Program) (w:World) (K:PySem.W.Frag) (mg:Str->Option Value) (base:Heap) (CX:jo) (k:Nat) (x:Str) (ps:List Str) (sp:Sp):Prop where
 ex:∃ f fd,dH P w K mg base CX k f fd ps sp/\mg x=some (.ref f)/\PySem.W.keepIn K (.ref f)=true/\Binds K fd ps []
section
variable {P:Program} {w:World} {K:PySem.W.Frag} {mg:Str->Option Value} {base:Heap} {CX:jo} {k:Nat} {x:Str} {ps:List Str} {sp:Sp}
theorem Callee.imp {sp':Sp} (C:Callee P w K mg base CX k x ps sp) (h:∀ vs H Q E,sp' vs H Q E->sp vs H Q E):Callee P w K mg base CX k x ps sp':=by
 obtain⟨f,fd,F,a,b,c⟩:=C.ex
 exact⟨f,fd,F.imp h,a,b,c⟩
theorem Callee.mono {j:Nat} (C:Callee P w K mg base CX k x ps sp) (h:k<=j):Callee P w K mg base CX j x ps sp:=by
 obtain⟨f,fd,F,a,b,c⟩:=C.ex
 exact⟨f,fd,F.mono h,a,b,c⟩
theorem aF {X:Cx} {E:XK} {e:Expr} {es:List Expr} {t:TA} {p pos:Pos} (C:Callee X.prog X.w X.K X.mg X.base CX k x ps sp) (hr:cW k X.A) (hg:Gl X x) (hx:Passes CX X E)
  (ha:PA X (e::es) t) (hdb:(x==("__debug__":Str))=false:=by decide) (he:starEach (e::es) X.env=(false,eval e X.env)::starEach es X.env:=by rfl) (hpl:(backTo pos (starEach es X.env)).any (·.1)=false:=by rfl) :
  PE X (.Call (.Name x p) (e::es) [] pos) (nQ sp [] E t):=by
 obtain⟨f,fd,F,hm,hk,hb⟩:=C.ex
 exact vT F hr hg hm hk hb .nil hx ha hdb he hpl
theorem qQ {st:Stmt} {N:List Str} (D:aA K mg x st)
  (hb:∀(kV doc pm:Value) (an:Option Addr) (cdv ct:Value) (us:List Value),us.length=ps.length->bindArgs (PySem.W.fnOf x x (cw st) (bp st) (ao st) .none kV doc pm an cdv ct) ⟨us,[]⟩=pure (ps.zip us))
  (S:aC N ps (ao st)) (len:∀ vs H Q E,sp vs H Q E->vs.length=ps.length)
  (hbody:∀(f:Addr) (cdv:Value) (A:Around) (outer:List Env) (s:Shared) (H:Hp) (vs:List V) (Q:VK) (E:XK),cW k (A.deeper (envOfC x (ao st) s.heap.objs.size f cdv))->sp vs H Q E ->
   ∃ t,ja (ft aQ P w K mg base N x (ao st) f cdv A outer s H E).nY (bp st) t/\t { nx:=λ_ H'=>Q .bw H',rt:=Q } (start N vs) H):Callee P w K mg base aQ (k+1) x ps sp:=by
 obtain⟨f,fd,F,hm⟩:=D
 exact⟨f,fd,F.ok S len λcdv A outer s H vs Q E hr h=>hbody f cdv A outer s H vs Q E hr h,hm,F.kp,F.binds hb⟩
theorem sI {h:Heap} {f:Addr} {st:Stmt} {oc:Value} {od an:Option Addr} {osl:Array (Option Value)} {kV doc pm cdv ct:Value} (X:K.In h) (G:h.Ns mainGlobals mg)
  (a:PySem.W.nsIn K mainGlobals x=some (some (.ref f))) (l:K.lookup f=some ⟨oc,od,.func (PySem.W.fnOf x x (cw st) (bp st) (ao st) .none kV doc pm an cdv ct),osl⟩)
  (c:PySem.W.codeIn K cdv x=true) (kk:PySem.W.keepIn K (.ref f)=true):aA K mg x st:=⟨f,_,sR l c kk,PySem.W.mg_of X G a⟩
end
def iG (cl:List (Str × Addr)):List (Str × NameKind)->Prop
 | []=>True
 | y::r=>(match y.2 with | .free=>(cl.lookup y.1).isSome=true | _=>True)/\iG cl r
theorem iG.get {cl:List (Str × Addr)}:∀{l:List (Str × NameKind)},iG cl l->∀ y∈l,y.2=.free->(cl.lookup y.1).isSome=true
 | [],_,_,h,_=>nomatch h
 | z::r,a,y,h,e=>by
  rcases List.mem_cons.mp h with q | q
  ·subst q
   have:=a.1
   rw [e] at this
   exact this
  ·exact iG.get a.2 y q e
def gQ (X:Cx) (scope:Scope) (cl:List (Str × Addr)):List (Option Nat)->List Str->Prop
 | none::r,_::n=>gQ X scope cl r n
 | some j::r,x::n=>(X.N[j]?=some x/\(cl.lookup x).isSome=true/\(X.env.scope.names.lookup x=some .cell∨X.env.scope.names.lookup x=some .free)/\((relabel scope X.env).names.lookup x=some .cell∨(relabel scope X.env).names.lookup x=some .free))/\gQ X scope cl r n
 | [],[]=>True
 | _,_=>False
theorem gQ.len {X:Cx} {scope:Scope} {cl:List (Str × Addr)}:∀{js:List (Option Nat)} {N:List Str},gQ X scope cl js N->js.length=N.length
 | [],[],_=>rfl
 | none::r,_::n,h=>by
  have h':gQ X scope cl r n:=h
  simp [gQ.len h']
 | some j::r,x::n,h=>by
  have h':gQ X scope cl r n:=h.2
  simp [gQ.len h']
 | [],_::_,h=>h.elim
 | none::_,[],h=>h.elim
 | some _::_,[],h=>h.elim
theorem gQ.get {X:Cx} {scope:Scope} {cl:List (Str × Addr)}:∀{js:List (Option Nat)} {N:List Str},gQ X scope cl js N->∀(i j:Nat) x,js[i]?=some (some j)->N[i]?=some x ->
  X.N[j]?=some x/\(cl.lookup x).isSome=true/\y7 X.env.scope x/\X.env.kindOf x≠some .local/\((relabel scope X.env).names.lookup x=some .cell∨(relabel scope X.env).names.lookup x=some .free)
 | [],[],_,i,j,x,e,_=>by simp at e
 | none::r,y::n,h,0,j,x,e,_=>by simp at e
 | none::r,y::n,h,i+1,j,x,e,e2=>gQ.get (js:=r) (N:=n) h i j x (by simpa using e) (by simpa using e2)
 | some k::r,y::n,h,0,j,x,e,e2=>by
  have q:k=j:=by simpa using e
  have q2:y=x:=by simpa using e2
  subst q;subst q2
  obtain⟨a,b,c,d⟩:=h.1
  refine⟨a,b,?_,?_,d⟩
  ·rcases c with c | c
   ·exact .inr (.inl c)
   ·exact .inr (.inr c)
  ·intro z
   have z':X.env.scope.names.lookup y=some .local:=z
   rcases c with c | c
   ·rw [c] at z';cases z'
   ·rw [c] at z';cases z'
 | some k::r,y::n,h,i+1,j,x,e,e2=>gQ.get (js:=r) (N:=n) h.2 i j x (by simpa using e) (by simpa using e2)
 | [],_::_,h,_,_,_,_,_=>h.elim
 | none::_,[],h,_,_,_,_,_=>h.elim
 | some _::_,[],h,_,_,_,_,_=>h.elim
theorem xS {X:Cx} {N':List Str} {js:List (Option Nat)} {scope:Scope} {cl:List (Str × Addr)} (clos:closureFor scope X.env=pure cl) (kind:scope.kind=.function) (nocell:∀ y∈scope.names,y.2=.cell->scope.names.lookup y.1=some .cell/\∀ p∈js.zip N',p.1.isSome=true->p.2≠y.1)
  (names:∀ y∈scope.names,y.2=.local->scope.names.lookup y.1=some .local) (sub:AllIn X.env cl) (has:iG cl scope.names) (j:gQ X scope cl js N'):jq X N' js scope cl :=
 ⟨clos,kind,nocell,names,sub,has.get,j.len,j.get⟩
theorem boot_int:bootBuiltins "int"=some (.type "int"):=by decide +kernel
theorem boot_bool:bootBuiltins "bool"=some (.type "bool"):=by decide +kernel
theorem boot_tuple:bootBuiltins "tuple"=some (.type "tuple"):=by decide +kernel
theorem boot_list:bootBuiltins "list"=some (.type "list"):=by decide +kernel
theorem boot_abs:bootBuiltins "abs"=some (.builtin "abs"):=by decide +kernel
theorem boot_all:bootBuiltins "all"=some (.builtin "all"):=by decide +kernel
theorem ai {H:Hp} {p:Addr} {o:HO} (h:H p=none):aE H (upd H p o):=λb u q=>by rw [av (bA q h)];exact q
theorem bF {α:Type} {c:TT} {tb:TS} {D:Ends} {σ:St} {H:Hp} (S:α->St) (Pv:α->Hp->Prop) (μ:α->Nat) (x₀:α) (hσ:σ=S x₀) (h0:Pv x₀ H)
  (hs:∀ x H,Pv x H->c (S x) H λb H1=>if b=true then (∃ N:St->Hp->Prop,(∀ σ' H',N σ' H'->∃ y,σ'=S y/\Pv y H'/\μ y<μ x)/\tb { D with nx:=N,ct:=N,bk:=D.nx } (S x) H1) else D.nx (S x) H1):uD c tb D σ H:=by
 subst hσ
 refine⟨λm σ H=>∃ x,σ=S x/\Pv x H/\m=μ x,⟨_,x₀,rfl,h0,rfl⟩,?_⟩
 rintro m σ H ⟨x,rfl,p,rfl⟩
 have q:=hs x H p
 have e:(λb H1=>if b=true then (∃ N:St->Hp->Prop,(∀ σ' H',N σ' H'->∃ y,σ'=S y/\Pv y H'/\μ y<μ x)/\tb { D with nx:=N,ct:=N,bk:=D.nx } (S x) H1) else D.nx (S x) H1) =
   (λb H1=>if b=true then (∃ N:St->Hp->Prop,(∀ σ' H',N σ' H'->∃ m',m'<μ x/\∃ y,σ'=S y/\Pv y H'/\m'=μ y)/\tb { D with nx:=N,ct:=N,bk:=D.nx } (S x) H1) else D.nx (S x) H1):=by
  funext b H1
  cases b with
  | false=>rfl
  | true =>
   simp only [if_true]
   refine propext ⟨fun⟨N,hN,z⟩=>⟨N,λσ' H' n=>?_,z⟩,fun⟨N,hN,z⟩=>⟨N,λσ' H' n=>?_,z⟩⟩
   ·obtain⟨y,e1,e2,e3⟩:=hN σ' H' n
    exact⟨_,e3,y,e1,e2,rfl⟩
   ·obtain⟨m',l,y,e1,e2,e3⟩:=hN σ' H' n
    exact⟨y,e1,e2,e3▸l⟩
 rw [e] at q
 exact q
end L2
namespace Gcd
structure J (A B g u v ng nu nv:Int):Prop where
 g0:0<=g
 n0:0<=ng
 e1:u*A+v*B=g
 e2:nu*A+nv*B=ng
 ex:∃ s U NU V NV:Int,(s=1∨s = -1)/\0<=U/\0<=NU/\0<=V/\0<=NV/\u=s*U/\nu = -s*NU/\v = -s*V/\nv=s*NV/\g*NU+ng*U=B/\g*NV+ng*V=A /\
  (U<=1∨U<=B)/\(NU<=1∨NU<=B)/\(V<=1∨V<=A)/\(NV<=1∨NV<=A)
theorem J.start {A B:Int} (ha:0<=A) (hb:0<=B):J A B A 1 0 B 0 1 :=
 ⟨ha,hb,by grind,by grind,1,1,0,0,1,.inl rfl,by decide,by decide,by decide,by decide,by grind,by grind,by grind,by grind,by grind,by grind,.inl (by decide),.inl (by decide),.inl (by decide),.inl (by decide)⟩
theorem kC {n x B:Int} (hn:0<n) (hx:0<=x) (h:n*x<=B):x<=B:=by
 have:1*x<=n*x:=Int.mul_le_mul_of_nonneg_right hn hx
 omega
theorem J.turn {A B g u v ng nu nv:Int} (j:J A B g u v ng nu nv) (hn:0<ng) :
  J A B ng nu nv (g-g/ng*ng) (u-g/ng*nu) (v-g/ng*nv)/\(g-g/ng*ng)<ng/\0<=g/ng/\g/ng<=g:=by
 have q0:0<=g/ng:=Int.ediv_nonneg j.g0 j.n0
 have r:=Int.emod_def g ng
 have r0:=Int.emod_nonneg g (show ng≠0 by omega)
 have r1:=Int.emod_lt_of_pos g hn
 have ql:g/ng<=g:=Int.ediv_le_self ng j.g0
 have e1:=j.e1
 have e2:=j.e2
 have hc:g/ng*ng=ng*(g/ng):=Int.mul_comm _ _
 generalize g/ng=q at *
 obtain⟨s,U,NU,V,NV,hs,hU,hNU,hV,hNV,eu,enu,ev,env,b1,b2,l1,l2,l3,l4⟩:=j.ex
 have hqNU:0<=q*NU:=Int.mul_nonneg q0 hNU
 have hqNV:0<=q*NV:=Int.mul_nonneg q0 hNV
 have rr:0<=g-q*ng:=by omega
 have i1:ng*(U+q*NU)+(g-q*ng)*NU=B:=by grind
 have i2:ng*(V+q*NV)+(g-q*ng)*NV=A:=by grind
 have n1:0<=(g-q*ng)*NU:=Int.mul_nonneg rr hNU
 have n2:0<=(g-q*ng)*NV:=Int.mul_nonneg rr hNV
 refine⟨⟨j.n0,rr,e2,by grind,-s,NU,U+q*NU,NV,V+q*NV,by omega,hNU,by omega,hNV,by omega,by grind,by grind,by grind,by grind,i1,i2,l2,.inr (kC hn (by omega) (by omega)),l4,.inr (kC hn (by omega) (by omega))⟩,by omega,q0,ql⟩
structure Ap (a b g u v:Int):Prop where
 g0:0<=g
 lin:u*a+v*b=g
 da:g∣a
 db:g∣b
 bu:u.natAbs<=max 1 b.natAbs
 bv:v.natAbs<=max 1 a.natAbs
theorem J.done {a b g u v nu nv:Int} (j:J (if a<0 then -a else a) (if b<0 then -b else b) g u v 0 nu nv):Ap a b g (if a<0 then -u else u) (if b<0 then -v else v):=by
 have e1:=j.e1
 obtain⟨s,U,NU,V,NV,hs,hU,hNU,hV,hNV,eu,enu,ev,env,b1,b2,l1,l2,l3,l4⟩:=j.ex
 have hu:u.natAbs=U.toNat:=by
  rcases hs with rfl | rfl
  ·omega
  ·omega
 have hv:v.natAbs=V.toNat:=by
  rcases hs with rfl | rfl
  ·omega
  ·omega
 refine⟨j.g0,?_,?_,?_,?_,?_⟩
 ·split<;>split<;>rename_i h1 h2<;>simp only [h1,h2,if_true,if_false] at e1<;>grind
 ·have:g∣(if a<0 then -a else a):=⟨NV,by omega⟩
  by_cases h:a<0
  ·rw [if_pos h] at this
   exact Int.dvd_neg.mp this
  ·rw [if_neg h] at this
   exact this
 ·have:g∣(if b<0 then -b else b):=⟨NU,by omega⟩
  by_cases h:b<0
  ·rw [if_pos h] at this
   exact Int.dvd_neg.mp this
  ·rw [if_neg h] at this
   exact this
 ·have:(if a<0 then -u else u).natAbs=u.natAbs:=by split<;>omega
  rw [this,hu]
  split at l1<;>omega
 ·have:(if b<0 then -v else v).natAbs=v.natAbs:=by split<;>omega
  rw [this,hv]
  split at l3<;>omega
theorem J.small {A B g u v ng nu nv M:Int} (j:J A B g u v ng nu nv) (hA:0<=A) (hB:0<=B) (hAM:A<=M) (hBM:B<=M) (hM:1<=M):(-M<=u/\u<=M)/\(-M<=v/\v<=M)/\(-M<=nu/\nu<=M)/\(-M<=nv/\nv<=M):=by
 obtain⟨s,U,NU,V,NV,hs,hU,hNU,hV,hNV,eu,enu,ev,env,b1,b2,l1,l2,l3,l4⟩:=j.ex
 rcases hs with rfl | rfl
 ·refine⟨⟨?_,?_⟩,⟨?_,?_⟩,⟨?_,?_⟩,⟨?_,?_⟩⟩<;>omega
 ·refine⟨⟨?_,?_⟩,⟨?_,?_⟩,⟨?_,?_⟩,⟨?_,?_⟩⟩<;>omega
end Gcd
namespace L2
open PySem PySem.Spec PyProof.Rows
theorem aE.upd {H H1:Hp} {p:Addr} {o:HO} (h:aE H H1) (hp:H p=none):aE H (upd H1 p o):=λb u q=>by rw [av (bA q hp)];exact h b u q
theorem xO {α:Type} {xs:List α} {k:Int} (h0:0<=k) (h1:k<xs.length):∃ v,pM xs k=some v/\xs[k.toNat]?=some v:=by
 have hk:k.toNat<xs.length:=by omega
 refine⟨xs[k.toNat],?_,List.getElem?_eq_getElem hk⟩
 have:=fk (xs:=xs) (j:=k.toNat) (List.getElem?_eq_getElem hk)
 rwa [Int.toNat_of_nonneg h0] at this
theorem cE {K:PySem.W.Frag} {H:Hp} {p:Addr} {xs:List V} {k:Int} {Q:VK} (h:aV K H p xs) (h0:0<=k) (h1:k<xs.length) (q:∀ v∈xs,Q v H):v5 K (.ref p) (.int k) H Q:=by
 obtain⟨v,e,e2⟩:=xO h0 h1
 exact⟨p,xs,k,v,rfl,rfl,h,e,q v (List.mem_of_getElem? e2)⟩
theorem vt {K:PySem.W.Frag} {H:Hp} {p:Addr} {xs:List Int} {k:Int} {Q:VK} (h:H p=some (.lst (xs.map V.int))) (h0:0<=k) (h1:k<xs.length) (q:∀ v∈xs,Q (.int v) H):v5 K (.ref p) (.int k) H Q :=
 cE (aV.of h) h0 (by rw [List.length_map];exact h1) λv hv=>by
  obtain⟨i,hi,rfl⟩:=List.mem_map.mp hv
  exact q i hi
def Loop (J:It) (g:TG) (tb:TS) (D:Ends) (σ:St) (H:Hp):Prop:=∃ W:Nat->Nat->St->Hp->Prop,(∃ m,W 0 m σ H)/\∀ i m σ H,W i m σ H ->
 (J.stop i H/\D.nx σ H)∨(J.go i H/\∃ N:St->Hp->Prop,(∀ σ' H',N σ' H'->∃ m',m'<m/\W (i+1) m' σ' H')/\∀ x H',J.yld i H x H'->g x σ H' λσ2 H2=>tb { D with nx:=N,ct:=N,bk:=D.nx } σ2 H2)
theorem wu {wi:TI} {g:TG} {tb:TS} {D:Ends} {σ:St} {H:Hp}:Ae wi g tb D σ H=wi σ H λJ H1=>Loop J g tb D σ H1:=rfl
theorem oH {lo:Int} {n:Nat} {g:TG} {tb:TS} {D:Ends} {σ:St} {H:Hp} (Pv:Nat->St->Hp->Prop) (h0:Pv 0 σ H)
  (hs:∀ i σ H,i<n->Pv i σ H->g (.int (lo+i)) σ H λσ2 H2=>tb { D with nx:=Pv (i+1),ct:=Pv (i+1),bk:=D.nx } σ2 H2) (hd:∀ σ H,Pv n σ H->D.nx σ H):Loop (wC lo n) g tb D σ H:=qV Pv h0 hs hd
theorem sX {K:PySem.W.Frag} {a:Addr} {xs:List V} {g:TG} {tb:TS} {D:Ends} {σ:St} {H:Hp} (Pv:Nat->St->Hp->Prop) (h0:Pv 0 σ H) (hl:∀ i σ H,i<=xs.length->Pv i σ H->aJ K H a xs)
  (hs:∀ i x σ H,xs[i]?=some x->Pv i σ H->g x σ H λσ2 H2=>tb { D with nx:=Pv (i+1),ct:=Pv (i+1),bk:=D.nx } σ2 H2) (hd:∀ σ H,Pv xs.length σ H->D.nx σ H):Loop (xH K a) g tb D σ H:=vb Pv h0 hl hs hd
def mr (J:It) (js:List (Option Nat)) (g:TG) (tt:TT) (te:TE) (σ:St) (Q:VK) (H1:Hp):Prop:=∃ W:Nat->Nat->List V->Hp->Prop,(∃ m,W 0 m [] H1)/\∀ i m ys H,W i m ys H ->
 (J.stop i H/\ys.length<=sizeLine/\∀ p,H p=none->Q (.ref p) (upd H p (.lst ys))) ∨
 (J.go i H/\ys.length<sizeLine/\∃ N:List V->Hp->Prop,(∀ ys' H',N ys' H'->∃ m',m'<m/\W (i+1) m' ys' H') /\
  ∀ x H',J.yld i H x H'->g x (eJ js σ) H' λσ2 H2=>cI (eJ js σ) σ2/\tt σ2 H2 λb H3=>if b=true then te σ2 H3 λv H4=>N (ys++[v]) H4 else N ys H3)
theorem yU {js:List (Option Nat)} {wi:TI} {g:TG} {tt:TT} {te:TE} {σ:St} {H:Hp} {Q:VK}:BC js wi g tt te σ H Q=wi σ H λJ H1=>mr J js g tt te σ Q H1:=rfl
theorem dk {K:PySem.W.Frag} {a:Addr} {xs:List V} {js:List (Option Nat)} {g:TG} {tt:TT} {te:TE} {σ:St} {Q:VK} {H1:Hp} (Pv:Nat->List V->Hp->Prop) (h0:Pv 0 [] H1) (hx:xs.length<=sizeLine) (hl:∀ i ys H,i<=xs.length->Pv i ys H->aV K H a xs/\ys.length<=i)
  (hs:∀ i x ys H,xs[i]?=some x->Pv i ys H->g x (eJ js σ) H λσ2 H2=>cI (eJ js σ) σ2/\tt σ2 H2 λb H3=>if b=true then te σ2 H3 λv H4=>Pv (i+1) (ys++[v]) H4 else Pv (i+1) ys H3)
  (hd:∀ ys H p,Pv xs.length ys H->H p=none->Q (.ref p) (upd H p (.lst ys))):mr (AH K a) js g tt te σ Q H1:=by
 refine⟨λi m ys H=>m=xs.length-i/\i<=xs.length/\Pv i ys H,⟨xs.length,by simp,Nat.zero_le _,h0⟩,?_⟩
 rintro i m ys H ⟨rfl,hi,p⟩
 obtain⟨q,hy⟩:=hl i ys H hi p
 by_cases hlt:i<xs.length
 ·refine .inr ⟨⟨xs,xs[i],q,by simp [hlt]⟩,by omega,Pv (i+1),λys' H' p'=>⟨xs.length-(i+1),by omega,rfl,hlt,p'⟩,λx H' y=>?_⟩
  obtain⟨e,y⟩:=y
  subst e
  exact hs i x ys _ (y xs q) p
 ·have e:i=xs.length:=by omega
  subst e
  exact .inl ⟨⟨xs,q,Nat.le_refl _⟩,by omega,λp' hp'=>hd ys H p' p hp'⟩
theorem ko {K:PySem.W.Frag} {a:Addr} {xs:List V} {js:List (Option Nat)} {g:TG} {tt:TT} {te:TE} {σ:St} {Q:VK} {H1:Hp} (Pv:Nat->List V->Hp->Prop) (h0:Pv 0 [] H1) (hx:xs.length<=sizeLine) (hl:∀ i ys H,i<=xs.length->Pv i ys H->aJ K H a xs/\ys.length<=i)
  (hs:∀ i x ys H,xs[i]?=some x->Pv i ys H->g x (eJ js σ) H λσ2 H2=>cI (eJ js σ) σ2/\tt σ2 H2 λb H3=>if b=true then te σ2 H3 λv H4=>Pv (i+1) (ys++[v]) H4 else Pv (i+1) ys H3)
  (hd:∀ ys H p,Pv xs.length ys H->H p=none->Q (.ref p) (upd H p (.lst ys))):mr (xH K a) js g tt te σ Q H1:=by
 refine⟨λi m ys H=>m=xs.length-i/\i<=xs.length/\Pv i ys H,⟨xs.length,by simp,Nat.zero_le _,h0⟩,?_⟩
 rintro i m ys H ⟨rfl,hi,p⟩
 obtain⟨q,hy⟩:=hl i ys H hi p
 by_cases hlt:i<xs.length
 ·refine .inr ⟨⟨xs,xs[i],q,by simp [hlt]⟩,by omega,Pv (i+1),λys' H' p'=>⟨xs.length-(i+1),by omega,rfl,hlt,p'⟩,λx H' y=>?_⟩
  obtain⟨e,y⟩:=y
  subst e
  exact hs i x ys _ (y xs q) p
 ·have e:i=xs.length:=by omega
  subst e
  exact .inl ⟨⟨xs,q,Nat.le_refl _⟩,by omega,λp' hp'=>hd ys H p' p hp'⟩
theorem BS {CX:jo} {P:Program} {w:World} {K:PySem.W.Frag} {mg:Str->Option Value} {base:Heap} {N:List Str} {qual:Str} {scope:Scope} {f:Addr} {cd:Value} {A:Around} {outer:List Env} {s:Shared} {H:Hp} {E:XK} :
  (ft CX P w K mg base N qual scope f cd A outer s H E).K=K:=rfl
theorem zA {X:Cx} {N':List Str} {scope:Scope} {cl:List (Str × Addr)} {C:Addr} {s₂:Shared} {H₂:Hp} {fp:List Addr}:(la X N' scope cl C s₂ H₂ fp).K=X.K:=rfl
theorem aN {K:PySem.W.Frag} {b k:Bool} {H:Hp}:sf K (.bl b) H k=(k=b):=rfl
theorem uH {K:PySem.W.Frag} {i:Int} {k:Bool} {H:Hp}:sf K (.int i) H k=(k=(i != 0)):=rfl
def v7 (K:PySem.W.Frag):List V->Hp->VK->Prop:=λxs H Q=>∃ p ys,xs=[.ref p]/\(aV K H p ys∨aJ K H p ys)/\Q (.int ys.length) H
theorem bf {X:Cx}:fF X (.builtin "len") (v7 X.K):=kZ
theorem c9 {K:PySem.W.Frag} {H:Hp} {p:Addr} {xs:List V} {Q:VK} (h:aV K H p xs) (q:Q (.int xs.length) H):v7 K [.ref p] H Q:=⟨p,xs,rfl,.inl h,q⟩
theorem fu {K:PySem.W.Frag} {H:Hp} {p:Addr} {xs:List V} {Q:VK} (h:aJ K H p xs) (q:Q (.int xs.length) H):v7 K [.ref p] H Q:=⟨p,xs,rfl,.inr h,q⟩
theorem oi {K:PySem.W.Frag} {H:Hp} {p:Addr} {bs:List Bool} {Q:VK} (h:aV K H p (bs.map V.bl)) (q:Q (.bl (bs.all id)) H):yD K [.ref p] H Q:=⟨p,bs,rfl,h,q⟩
theorem jj {a b:Int}:i7 (.int a) (.int b)=true:=rfl
theorem wc {a b:Bool}:i7 (.bl a) (.bl b)=true:=rfl
theorem we {a:Int}:i7 (.int a) .bw=true:=rfl
theorem wg {a:Int}:i7 .bw (.int a)=true:=rfl
theorem wj:i7 .bw .bw=true:=rfl
theorem wd {a:Bool}:i7 (.bl a) .bw=true:=rfl
theorem wk {a b:Str}:i7 (.str a) (.str b)=true:=rfl
def Bi (t:TS):TS:=λD σ H=>∃ R:St->Hp->Prop,t { D with nx:=R } σ H/\∀ σ' H',R σ' H'->D.nx σ' H'
theorem bL {X:Cx} {st:Stmt} {t:TS} (h:PS X st t):PS X st (Bi t):=by
 intro pins s σ H D I ⟨R,hw,hR⟩
 refine bZ (h pins s σ H _ I hw) λf s' q=>?_
 cases f with
 | next=>obtain⟨σ',H',I',r⟩:=q;exact⟨σ',H',I',hR _ _ r⟩
 | brk=>exact q
 | cont=>exact q
 | ret u=>exact q
theorem va {P:Program} {w:World} {K:PySem.W.Frag} {mg:Str->Option Value} {base:Heap} {k:Nat} {x:Str} {ps:List Str} {sp:Sp} {st:Stmt} {N:List Str} {f:Addr} {fd:FuncData} (F:uO K x x st f fd)
  (S:aC N ps (ao st)) (len:∀ vs H Q E,sp vs H Q E->vs.length=ps.length)
  (hbody:∀(cdv:Value) (A:Around) (outer:List Env) (s:Shared) (H:Hp) (vs:List V) (Q:VK) (E:XK),cW k (A.deeper (envOfC x (ao st) s.heap.objs.size f cdv))->sp vs H Q E ->
   ∃ t,ja (ft aQ P w K mg base N x (ao st) f cdv A outer s H E).nY (bp st) t/\t { nx:=λ_ H'=>Q .bw H',rt:=Q } (start N vs) H):dH P w K mg base aQ (k+1) f fd ps sp :=
 F.ok S len λcdv A outer s H vs Q E hr h=>hbody cdv A outer s H vs Q E hr h
theorem vv {P:Program} {w:World} {K:PySem.W.Frag} {mg:Str->Option Value} {k:Nat} {x y:Str} {sp:Sp} {st:Stmt} {fa:Addr} (hfa:mg x=some (.ref fa)) (D:aA K mg x st)
  (hb:∀(kV doc pm:Value) (an:Option Addr) (cdv ct:Value) (u:Value),bindArgs (PySem.W.fnOf x x (cw st) (bp st) (ao st) .none kV doc pm an cdv ct) ⟨[u],[]⟩=pure [(y,u)])
  (ok:∀(base:Heap) (f:Addr) (fd:FuncData),K.In base->uO K x x st f fd->dH P w K mg base aQ k f fd [y] sp) :
  ∃ fd:FuncData,(∀(s:Shared) (u:Value),BindsTo s fd ⟨[u],[]⟩ [(y,u)])/\∀ base:Heap,K.In base->base.Ns mainGlobals mg->dH P w K mg base aQ k fa fd [y] sp:=by
 obtain⟨f,fd,F,hm⟩:=D
 have e:=hfa.symm.trans hm
 cases e
 refine⟨fd,λs u=>?_,λbase kb _=>ok base _ _ kb F⟩
 obtain⟨oc,od,kV,doc,pm,an,cdv,ct,osl,rfl,lk,hcd⟩:=F.ex
 exact .of_eq (hb kV doc pm an cdv ct u)
end L2
namespace L2
open PySem PySem.Spec PyProof.Rows PySem.W
def cT:List Value:=[.type "ValueError",.type "Exception",.type "BaseException",.type "object"]
def cJ:List Value->Bool
 | .ref _::r=>cJ r
 | l=>l==cT
theorem nJ (self:Value):refuseLoop self "__setattr__" cT=pure ():=by kernel_rfl
theorem jN (self:Value):∀{l:List Value},cJ l=true->refuseLoop self "__setattr__" l=pure ()
 | .ref c::r,e=>by rw [refuseLoop_ref];exact jN self (l:=r) e
 | [],e=>by cases e
 | .type n::r,e=>by
  have:Value.type n::r=cT:=by simpa [cJ] using e
  rw [this];exact nJ self
 | .none::r,e=>by simp [cJ,cT] at e
 | .bool _::r,e=>by simp [cJ,cT] at e
 | .int _ _::r,e=>by simp [cJ,cT] at e
 | .str _ _::r,e=>by simp [cJ,cT] at e
 | .bytes _ _::r,e=>by simp [cJ,cT] at e
 | .float _ _::r,e=>by simp [cJ,cT] at e
 | .builtin _::r,e=>by simp [cJ,cT] at e
theorem ly {l:List Value}:cJ l=true->l.contains (.type "object")=true/\l.contains (.type "BaseException")=true/\l.isEmpty=false:=by
 intro h
 induction l with
 | nil=>cases h
 | cons a r ih =>
  cases a with
  | ref c =>
   obtain⟨h1,h2,_⟩:=ih h
   exact⟨by rw [List.contains_cons,h1,Bool.or_true],by rw [List.contains_cons,h2,Bool.or_true],rfl⟩
  | type n =>
   have e:Value.type n::r=cT:=by simpa [cJ] using h
   rw [e]
   exact⟨by decide,by decide,rfl⟩
  | _=>simp [cJ,cT] at h
section
variable {prog:Program} {w:World} {A:Around} {E:Value->Shared->Prop} {s:Shared} {K:PySem.W.Frag} {x C:Addr} {name:Str} {v:Value} {cd:ClassData}
theorem u9 {vs:Array Value} {sl:Array (Option Value)} {Q:Unit->Shared->Prop} (X:K.In s.heap) (hx:s.heap.get? x=some ⟨.ref C,none,.fields vs,sl⟩) (hc:clsIn K C=some cd) (hm:cJ cd.mro=true) (hh:cd.hasDict=true)
  (hs:findIn K (.ref C) "__setattr__"=some (some (.builtin "object.__setattr__"))) (hn:findIn K (.ref C) name=some none)
  (h:∀ h',h'.get? x=some ⟨.ref C,some s.heap.objs.size,.fields vs,sl⟩->h'.Ns1 s.heap.objs.size (λy=>if y=name then some v else none)->(∀ b ob,b≠x->s.heap.get? b=some ob->h'.get? b=some ob)->Q () { s with heap:=h',toks:=s.toks+2 }) :
  wpAny (model prog w) A (setAttr (.ref x) name v) Q E s:=by
 have I:PySem.W.InstAt s.heap x ⟨.ref C,none,.fields vs,sl⟩ C none:=⟨hx,rfl,rfl,True.intro⟩
 obtain⟨m1,m2,m3⟩:=ly hm
 refine PySem.W.set_plain X I hs ?_
 have SF:=PySem.F.store_object
 have sub:Looks (model prog w) s.heap (isInstance (.ref x) (.type "object")) true:=I.type.andThen (looks_mroIn X (by unfold mroIn;rw [hc,Option.bind_some,if_neg (by rw [m3];decide),m1]))
 refine codeAny_call_builtin SF.slot.plain SF.entry (@check_slot (model prog w) _ _ { s with toks:=s.toks+1 } "object.__setattr__" "object" "__setattr__" (.ref x) [.str name s.toks,v] [] _ SF.kind SF.split sub (SF.args (.ref x) (.str name s.toks) v) ?_)
 have L1:Looks (model prog w) s.heap (mroOf (.ref C)) cd.mro:=(looks_clsIn X hc).andThen .now
 rw [osa_eq,refuse_eq]
 refine wpAny_bind (wpAny_bind (Looks.here (s:={ s with toks:=s.toks+1 }) I.type (wpAny_bind (Looks.here (s:={ s with toks:=s.toks+1 }) L1 ?_))))
 rw [jN _ hm]
 refine wpAny_pure (wpAny_bind (Looks.here (s:={ s with toks:=s.toks+1 }) I.type (wpAny_bind (Looks.here (s:={ s with toks:=s.toks+1 }) (looks_findIn X hn) (wpAny_bind (wpAny_pure ?_))))))
 show wpAny _ _ (Builtin.ObjectAttr.storeInOwnDict (.ref x) (.ref C) (.str name s.toks) name v false) _ _ _
 refine wpAny_bind (wpAny_pure (wpAny_bind (wpAny_bind (wpAny_loadPart hx (wpAny_bind (Looks.here (s:={ s with toks:=s.toks+1 }) (looks_clsIn X hc) ?_))))))
 rw [hh]
 refine wpAny_bind (wpAny_alloc ?_)
 have hlt:x≠s.heap.objs.size:=Nat.ne_of_lt (Heap.lt_size hx)
 have hp:(s.heap.push { cls:=.type "dict",data:=.dict #[] }).get? x=some ⟨.ref C,none,.fields vs,sl⟩:=Heap.get?_push_of_some _ hx
 refine wpAny_bind (wpAny_update (s:={ s with toks:=s.toks+1,heap:=s.heap.push { cls:=.type "dict",data:=.dict #[] } }) hp ?_)
 refine wpAny_pure ?_
 show wpAny _ _ (Builtin.ObjectAttr.storeInDict s.heap.objs.size (.str name s.toks) name v) _ _ _
 generalize hu:(s.heap.push { cls:=.type "dict",data:=.dict #[] }).update x (λo=>{ o with dict:=some s.heap.objs.size })=h1
 have g1:h1.get? x=some ⟨.ref C,some s.heap.objs.size,.fields vs,sl⟩:=by rw [<- hu];exact Heap.get?_update_self _ hp rfl
 have g2:∀ b,b≠x->h1.get? b=(s.heap.push { cls:=.type "dict",data:=.dict #[] }).get? b:=λb hb=>by rw [<- hu];exact Heap.get?_update_other _ _ (Ne.symm hb)
 have g3:h1.Ns1 s.heap.objs.size (λ_=>none):=by
  have e1:h1.get? s.heap.objs.size=some { cls:=.type "dict",data:=.dict #[] }:=by rw [g2 _ (Ne.symm hlt)];exact Heap.get?_push_size _ rfl
  have e3:h1.Ns s.heap.objs.size (λ_=>none):=⟨_,#[],_,e1,rfl,(λe he=>absurd he (by simp)),λ_=>rfl⟩
  exact Heap.Ns1.of_empty e3
 refine wpAny_bind (wpAny_pure (wpAny_bind ?_))
 refine wpAny_nsSet1 (s:={ s with toks:=s.toks+1,heap:=h1 }) g3 λh' hn2 hs2=>?_
 obtain⟨oD,esD,epD,hoD,hdD,hcD⟩:=hn2.count (ns:=[name]) (PySem.Within.cons name v (ns:=[]) (λy hy=>absurd rfl hy))
 refine wpAny_bind (wpAny_lookBehind hoD (by rw [hdD];exact pastItsLine_dict (Nat.le_trans hcD (by show 1<=sizeLine+1;decide))) ?_)
 refine wpAny_pure (h h' ((hs2.2 _ hlt).trans g1) hn2 λb ob hb e=>?_)
 have hb2:b≠s.heap.objs.size:=Nat.ne_of_lt (Heap.lt_size e)
 exact (hs2.2 b hb2).trans ((g2 b hb).trans (Heap.get?_push_of_some _ e))
structure d7 (K:PySem.W.Frag) (C:Addr):Prop where
 cls:∃ cd,clsIn K C=some cd/\cJ cd.mro=true/\cd.hasDict=true
 at_:∃ od cd sl,K.lookup C=some ⟨.type "type",od,.cls cd,sl⟩
 sa:findIn K (.ref C) "__setattr__"=some (some (.builtin "object.__setattr__"))
 ga:findIn K (.ref C) "__getattribute__"=some (some (.builtin "BaseException.__getattribute__"))
 gx:findIn K (.ref C) "__getattr__"=some none
 ca:findIn K (.ref C) "__class__"=some (some (.builtin "object.__class__"))
 gs:specialIn K (.builtin "object.__class__") "__get__"=some (some (.builtin "getset_descriptor.__get__"))
 tk:takesIn K (.builtin "object.__class__")=some true
theorem d7.there (c:d7 K C) {h:Heap} (X:K.In h):∃ oc od cd sl,h.get? C=some ⟨oc,od,.cls cd,sl⟩:=by
 obtain⟨cd,hc,_⟩:=c.cls
 unfold clsIn at hc
 split at hc
 ·rename_i c' d' cd' sl' ho
  exact⟨_,_,_,_,X _ _ ho⟩
 ·cases hc
end
section
variable {prog:Program} {w:World} {A:Around} {E:Value->Shared->Prop} {h:Heap} {g:Array GenState} {d:Drawn} {t:Nat} {os:OsState}
variable {nm q:Str} {C N:Addr} {bs bm:List Value} {hdct:Bool} {sn:List Str} {sub:List Value} {ab:Bool} {col:Option Bool} {dd:Option Addr} {k0 k1 k2 k3 k5:Option Value}
abbrev j9:String := "ValueError.__new__"
abbrev newExc (C a:Addr):Obj:={ cls:=.ref C,data:=.fields #[.ref a,.none,.none,.none,.bool false,.none] }
theorem u7 (hB:bm.contains (.type "ValueError")=true) (hA:bm.contains (.type "AttributeError")=false) (hN:bm.contains (.type "NameError")=false) {rest:List Value} {R:Result->Shared->Prop}
  (hC:h.get? C=some (excClassObj nm q C N bs bm hdct sn sub ab col dd k0 k1 k2 k3 k5 j9)) (hrest:rest.length<=sizeLine)
  (hq:R (.ok (.ret (.ref (h.objs.size+1)))) ⟨(h.push { cls:=.type "tuple",data:=.seq rest.toArray }).push (newExc C h.objs.size),g,d,t,os⟩) :
  codeAny (model prog w) A (.builtin j9 ⟨.ref C::rest,[]⟩) R ⟨h,g,d,t,os⟩:=by
 have Fn:=PySem.F.excBase_ValueError
 have hends:=Fn.ends
 have cB:(Value.ref C::bm).contains (.type "ValueError")=true:=by rw [List.contains_cons,hB,Bool.or_true]
 have cA:(Value.ref C::bm).contains (.type "AttributeError")=false:=by rw [List.contains_cons,hA];rfl
 have cN:(Value.ref C::bm).contains (.type "NameError")=false:=by rw [List.contains_cons,hN];rfl
 refine codeAny_builtinAt Fn.entry ?_
 unfold Builtin.«BaseException.__new__»
 refine PySem.wpAt_bind ?_
 show PySem.wpAt _ _ _ (stack >>= _) _ _ _
 refine PySem.wpAt_bind (PySem.wpAt_stack λp below=>PySem.wpAt_of_wpAny ?_)
 wp_walk
 refine PySem.wpAt_of_wpAny ?_
 rw [Fn.owner]
 repeat (first | with_reducible refine wpAny_madeHere_exc Fn.canon hC ?_ | with_reducible refine wpAny_loadPart_at hC ?_ | (with_reducible refine wpAny_isSubtype_exc hC ?_;first | rw [cB] | rw [cA] | rw [cN]) | wp_step)
 show R _ _
 rw [Heap.size_push]
 exact hq
theorem j3 (hB:bm.contains (.type "ValueError")=true) {rest:List Value} {M:Model} {Q:Unit->Shared->Prop} (hC:h.get? C=some (excClassObj nm q C N bs bm hdct sn sub ab col dd k0 k1 k2 k3 k5 j9))
  (hq:Q () ⟨h,g,d,t,os⟩):wpAny M A (checkBuiltinCall j9 ⟨.ref C::rest,[]⟩) Q E ⟨h,g,d,t,os⟩:=by
 have Fn:=PySem.F.excBase_ValueError
 have cB:(Value.ref C::bm).contains (.type "ValueError")=true:=by rw [List.contains_cons,hB,Bool.or_true]
 have hstar:=Fn.noStar
 simp only [checkBuiltinCall,Fn.newKind,Fn.newSplit,Fn.newRow]
 repeat (first | refine wpAny_loadPart_at hC ?_ | (refine wpAny_isSubtype_exc hC ?_;rw [cB]) | refine wpAny_staticBase_exc hC ?_ | refine wpAny_madeBy_exc hC ?_ | simp only [bne_self_eq_false,Bool.false_eq_true,if_false] | wp_step)
 exact hq
theorem lA {K:PySem.W.Frag} {i:Value} {rest:List Value} {Q:Fin->Shared->Prop} (X:K.In h) (hB:bm.contains (.type "ValueError")=true) (hA:bm.contains (.type "AttributeError")=false) (hN:bm.contains (.type "NameError")=false)
  (hC:h.get? C=some (excClassObj nm q C N bs bm hdct sn sub ab col dd k0 k1 k2 k3 k5 j9)) (hrest:rest.length<=sizeLine) (hi:findIn K (.ref C) "__init__"=some (some i)) {j:Value}
  (hb:Looks (model prog w) h (bindSpecial i (.ref (h.objs.size+1))) (j,[.ref (h.objs.size+1)]))
  (hq:codeAny (model prog w) A (.call j ⟨.ref (h.objs.size+1)::rest,[]⟩) (λr s'=>match r with | .ok (.ret v)=>v=.none/\Q (.done (.ret (.ref (h.objs.size+1)))) s' | .ok _=>False | .error e=>E e s')
   ⟨(h.push { cls:=.type "tuple",data:=.seq rest.toArray }).push (newExc C h.objs.size),g,d,t,os⟩) :
  wpAny (model prog w) A (Builtin.«type.__call__» ⟨.ref C::rest,[]⟩) Q E ⟨h,g,d,t,os⟩:=by
 have Fn:=PySem.F.excBase_ValueError
 repeat (first | with_reducible refine wpAny_loadPart_at hC ?_ | with_reducible refine wpAny_madeBy_exc hC ?_ | wp_step)
 refine codeAny_call_builtin_code (Code.quiet_builtin _ Fn.quiet) (j3 hB hC ?_)
 refine u7 hB hA hN hC hrest ?_
 show wpAny _ _ _ _ _ _
 have kp:∀ b o,h.get? b=some o->((h.push { cls:=.type "tuple",data:=.seq rest.toArray }).push (newExc C h.objs.size)).get? b=some o:=λb o e=>Heap.get?_push_of_some _ (Heap.get?_push_of_some _ e)
 have hget:((h.push { cls:=.type "tuple",data:=.seq rest.toArray }).push (newExc C h.objs.size)).get? (h.objs.size+1)=some (newExc C h.objs.size):=by
  have:=Heap.get?_push_size (h.push { cls:=.type "tuple",data:=.seq rest.toArray }) (o:=newExc C h.objs.size) rfl
  rwa [Heap.size_push] at this
 have cC:(Value.ref C::bm).contains (.ref C)=true:=by simp
 have hC₁:=kp _ _ hC
 have L1:=(looks_findIn (M:=model prog w) X hi).keeps kp
 have L2:=hb.keeps kp
 unfold isInstance
 repeat (first | with_reducible refine wpAny_loadPart_at hget ?_ | (with_reducible refine wpAny_isSubtype_exc hC₁ ?_;rw [cC]) | wp_step)
 show wpAny _ _ (typeLookup (.ref C) _) _ _ _
 refine L1.at (wpAny_holding (wpAny_bind (L2.at (wpAny_bind (wpAny_call (codeAny_mono hq λr s' z=>?_))))))
 rcases r with e | (_ | _ | _ | v)
 ·exact z
 ·exact z.elim
 ·exact z.elim
 ·exact z.elim
 ·obtain⟨rfl,z⟩:=z
  exact wpAny_pure (wpAny_pure z)
theorem mN {K:PySem.W.Frag} {i:Value} {rest:List Value} {Q:Value->Shared->Prop} (X:K.In h) (hB:bm.contains (.type "ValueError")=true) (hA:bm.contains (.type "AttributeError")=false) (hN:bm.contains (.type "NameError")=false)
  (hC:h.get? C=some (excClassObj nm q C N bs bm hdct sn sub ab col dd k0 k1 k2 k3 k5 j9)) (hrest:rest.length<=sizeLine) (hi:findIn K (.ref C) "__init__"=some (some i)) {j:Value}
  (hb:Looks (model prog w) h (bindSpecial i (.ref (h.objs.size+1))) (j,[.ref (h.objs.size+1)]))
  (hq:codeAny (model prog w) (A.under (.builtin "type.__call__" ⟨.ref C::rest,[]⟩)) (.call j ⟨.ref (h.objs.size+1)::rest,[]⟩) (λr s'=>match r with | .ok (.ret v)=>v=.none/\Q (.ref (h.objs.size+1)) s' | .ok _=>False | .error e=>E e s')
   ⟨(h.push { cls:=.type "tuple",data:=.seq rest.toArray }).push (newExc C h.objs.size),g,d,t,os⟩) :
  wpAny (model prog w) A (call (.ref C) rest) Q E ⟨h,g,d,t,os⟩:=by
 have f1:=tc_lookup
 have f2:=tc_bind (.ref C)
 have hT:(⟨h,g,d,t,os⟩:Shared).TypeIs (.ref C) "type":=⟨_,hC,rfl⟩
 refine wpAny_call (codeAny_of_tree ?_)
 show wpAny _ _ (callAny (.ref C) _) _ _ _
 repeat (any_goals (first | assumption | with_reducible refine wpAny_loadPart_at hC ?_ | wp_step))
 refine⟨rfl,?_⟩
 refine codeAny_call_builtin_at (Code.quiet_builtin _ (by decide +kernel)) entry_typeCall (wpAny_check_type_call_sub hC ?_)
 exact lA X hB hA hN hC hrest hi hb hq
end
def Tr (h:Heap) (e:Addr) (C:Value) (dd:Option Addr) (T:Addr) (fl:Value):Prop :=
 ∃ vs sl oT ts,h.get? e=some ⟨C,dd,.fields vs,sl⟩/\vs[1]?=some (.ref T)/\T≠e/\h.get? T=some oT/\oT.data=.fields ts/\ts[3]?=some fl
structure Kp (fs ch:List Addr) (h h':Heap):Prop where
 keep:∀ b o,b∉ch->b∉fs->h.get? b=some o->h'.get? b=some o
 slot:∀ b o,b∉ch->h.get? b=some o->∃ sl,h'.get? b=some { o with slots:=sl }
theorem Kp.trans {fs ch:List Addr} {h h' h'':Heap} (a:Kp fs ch h h') (b:Kp fs ch h' h''):Kp fs ch h h'' :=
 ⟨λc o hc hf e=>b.keep c o hc hf (a.keep c o hc hf e),λc o hc e=>by
  obtain⟨sl,e1⟩:=a.slot c o hc e
  obtain⟨sl',e2⟩:=b.slot c _ hc e1
  exact⟨sl',e2⟩⟩
theorem Kp.mono {fs ch ch':List Addr} {h h':Heap} (a:Kp fs ch h h') (hs:∀ b∈ch,b∈ch'):Kp fs ch' h h' :=
 ⟨λc o hc hf e=>a.keep c o (λz=>hc (hs c z)) hf e,λc o hc e=>a.slot c o (λz=>hc (hs c z)) e⟩
section
variable {M:Model} {A:Around} {E:Value->Shared->Prop} {s:Shared} {base:Heap} {env:Env} {outer:List Env} {L e T:Addr} {C:Value} {dd:Option Addr} {fl:Value}
theorem mP {vs:Array Value} {sl:Array (Option Value)} {head:Value} {hadNext:Bool} {Q:Unit->Shared->Prop} (hfr:A.frames=some (env::outer)) (hl:s.heap.FunFrames base (env::outer)) (hf:env.frame=some L)
  (he:s.heap.get? e=some ⟨C,dd,.fields vs,sl⟩) (hsz:1<vs.size)
  (h:∀ h' T,Tr h' e C dd T (rawInt L)->s.heap.objs.size<=T->Kp (gA (env::outer)) [e] s.heap h'->Q () { s with heap:=h' }) :
  wpAny M A (do let a <- frameOf env;let pl <- entryPlaceOf L hadNext;let b <- EntryCells.newEntry head a .none (rawInt L) .none pl;setField (.ref e) 1 b) Q E s:=by
 have hne:e∉gA (env::outer):=λhm=>by
  obtain⟨_,o,ho,hnf⟩:=hl.mem hm
  rw [he] at ho
  cases ho
  exact hnf vs rfl
 refine wpAny_bind (wpAny_frameOf_fun hfr hl hf λh1 so=>?_)
 refine wpAny_bind (wpAny_entryPlaceOf λpl hpl=>?_)
 unfold EntryCells.newEntry newFields
 refine wpAny_bind (wpAny_newObj_type ?_ (hpl.sizeOk5 _ _ _ _ _))
 have e1:h1.get? e=some ⟨C,dd,.fields vs,sl⟩:=(so.2.1 e hne).trans he
 generalize hO:({ cls:=.type "traceback",dict:=none,data:=.fields ([head,.ref L,.none,rawInt L,.none]++(if pl.isEmpty then List.replicate 6 Value.none else pl)).toArray }:Obj)=oT
 have hTd:oT.data=.fields ([head,.ref L,.none,rawInt L,.none]++(if pl.isEmpty then List.replicate 6 Value.none else pl)).toArray:=by rw [<- hO]
 have hTf:oT.isFreed=false:=by rw [<- hO];rfl
 have e2:(h1.push oT).get? e=some ⟨C,dd,.fields vs,sl⟩:=Heap.get?_push_of_some oT e1
 refine wpAny_setField e2 rfl hsz (h _ h1.objs.size ?_ ?_ ?_)
 ·have ne:h1.objs.size≠e:=Nat.ne_of_gt (Heap.lt_size e1)
  refine⟨vs.setIfInBounds 1 (.ref h1.objs.size),sl,oT,_,Heap.get?_update_self _ e2 rfl,by simp [hsz],ne,?_,hTd,by simp⟩
  rw [Heap.get?_update_other _ _ (Ne.symm ne)]
  exact Heap.get?_push_size h1 hTf
 ·exact Nat.le_of_eq (Eq.symm so.1)
 ·refine⟨λb o hb hf' q=>?_,λb o hb q=>?_⟩
  ·have hb':b≠e:=λz=>hb (by simp [z])
   rw [Heap.get?_update_other _ _ (Ne.symm hb')]
   exact Heap.get?_push_of_some oT ((so.2.1 b hf').trans q)
  ·have hb':b≠e:=λz=>hb (by simp [z])
   obtain⟨sl',q'⟩:=so.2.2 b o q
   refine⟨sl',?_⟩
   rw [Heap.get?_update_other _ _ (Ne.symm hb')]
   exact Heap.get?_push_of_some oT q'
theorem oM {vs:Array Value} {sl:Array (Option Value)} {Q:Unit->Shared->Prop} (hfr:A.frames=some (env::outer)) (hl:s.heap.FunFrames base (env::outer)) (hf:env.frame=some L)
  (he:s.heap.get? e=some ⟨C,dd,.fields vs,sl⟩) (h1:vs[1]?=some .none)
  (h:∀ h' T,Tr h' e C dd T (rawInt L)->s.heap.objs.size<=T->Kp (gA (env::outer)) [e] s.heap h'->Q () { s with heap:=h' }):wpAny M A (noteFrame (.ref e) env) Q E s:=by
 unfold noteFrame
 simp only [hf]
 refine wpAny_bind (wpAny_field he rfl h1 ?_)
 rw [if_neg (by decide)]
 exact mP hfr hl hf he (Array.getElem?_eq_some_iff.mp h1).1 h
theorem ro {Q:Unit->Shared->Prop} (hfr:A.frames=some (env::outer)) (hl:s.heap.FunFrames base (env::outer)) (hf:env.frame=some L) (ht:Tr s.heap e C dd T .none)
  (h:∀ h' T',Tr h' e C dd T' (rawInt L)->s.heap.objs.size<=T'->Kp (gA (env::outer)) [e,T] s.heap h'->Q () { s with heap:=h' }):wpAny M A (noteFrame (.ref e) env) Q E s:=by
 obtain⟨vs,sl,oT,ts,he,h1,hTe,hT,hdT,h3⟩:=ht
 unfold noteFrame
 simp only [hf]
 refine wpAny_bind (wpAny_field he rfl h1 ?_)
 rw [if_pos (show (Value.ref T != Value.none)=true from by simp)]
 refine wpAny_bind (wpAny_field hT hdT h3 ?_)
 rw [if_neg (show ¬((Value.none==rawInt L)=true) from by simp [rawInt])]
 refine wpAny_bind (wpAny_setField hT hdT (Array.getElem?_eq_some_iff.mp h3).1 ?_)
 generalize hu:s.heap.update T (Obj.mapFields (·.setIfInBounds 3 Value.none))=h1'
 have oth:∀ b,b≠T->h1'.get? b=s.heap.get? b:=λb hb=>by rw [<- hu];exact Heap.get?_update_other _ _ (Ne.symm hb)
 have hT1:∃ o,h1'.get? T=some o:=⟨_,by rw [<- hu];exact Heap.get?_update_self _ hT (Obj.isFreed_of_fields (Obj.data_mapFields hdT _))⟩
 have hl1:h1'.FunFrames base (env::outer):=hl.of_keeps λb o hb hnf=>⟨o,(oth b λq=>by rw [q,hT] at hb;cases hb;exact hnf ts hdT).trans hb,rfl⟩
 refine mP (s:={ s with heap:=h1' }) hfr hl1 hf ((oth e (Ne.symm hTe)).trans he) (Array.getElem?_eq_some_iff.mp h1).1 λh' T' t' n' k'=>h h' T' t' ?_ ?_
 ·have z:h1'.objs.size=s.heap.objs.size:=by rw [<- hu];exact Heap.size_update ..
  rw [<- z];exact n'
 ·refine⟨λb o hb hf' q=>k'.keep b o (λz=>hb (by simp at z;simp [z])) hf' ((oth b λz=>hb (by simp [z])).trans q),λb o hb q=>k'.slot b o (λz=>hb (by simp at z;simp [z])) ((oth b λz=>hb (by simp [z])).trans q)⟩
theorem land {Q:Unit->Shared->Prop} {fs:List Addr} (ht:Tr s.heap e C dd T fl) (h:∀ h',Tr h' e C dd T .none->Kp fs [T] s.heap h'->Q () { s with heap:=h' }):wpAny M A (setFlight (.ref e) none) Q E s:=by
 obtain⟨vs,sl,oT,ts,he,h1,hTe,hT,hdT,h3⟩:=ht
 unfold setFlight
 refine wpAny_bind (wpAny_field he rfl h1 ?_)
 rw [if_pos (show (Value.ref T != Value.none)=true from by simp)]
 have hsz:=(Array.getElem?_eq_some_iff.mp h3).1
 refine wpAny_setField hT hdT hsz (h _ ?_ ?_)
 ·refine⟨vs,sl,_,_,(Heap.get?_update_other _ _ hTe).trans he,h1,hTe,Heap.get?_update_self _ hT (Obj.isFreed_of_fields (Obj.data_mapFields hdT _)),Obj.data_mapFields hdT _,by simp [hsz]⟩
 ·refine⟨λb o hb _ q=>(Heap.get?_update_other _ _ λz=>hb (by simp [z])).trans q,λb o hb q=>⟨o.slots,(Heap.get?_update_other _ _ λz=>hb (by simp [z])).trans q⟩⟩
theorem mT {vs:Array Value} {sl:Array (Option Value)} {Q:Unit->Shared->Prop} (hfr:A.frames=some (env::outer)) (hl:s.heap.FunFrames base (env::outer)) (hf:env.frame=some L)
  (he:s.heap.get? e=some ⟨C,dd,.fields vs,sl⟩) (h1:vs[1]?=some .none)
  (h:∀ h' T,Tr h' e C dd T .none->s.heap.objs.size<=T->Kp (gA (env::outer)) [e] s.heap h'->Q () { s with heap:=h' }):wpAny M A (leaving env (.ref e)) Q E s:=by
 unfold leaving
 refine wpAny_bind (oM hfr hl hf he h1 λh1' T t1 n1 k1=>?_)
 refine land (fs:=gA (env::outer)) t1 λh2 t2 k2=>h h2 T t2 n1 ⟨λb o hb hf' q=>?_,λb o hb q=>?_⟩
 ·exact k2.keep b o (λz=>by simp at z;rw [z] at q;exact absurd (Heap.lt_size q) (Nat.not_lt.mpr n1)) hf' (k1.keep b o hb hf' q)
 ·obtain⟨s1,q1⟩:=k1.slot b o hb q
  obtain⟨s2,q2⟩:=k2.slot b _ (λz=>by simp at z;rw [z] at q;exact absurd (Heap.lt_size q) (Nat.not_lt.mpr n1)) q1
  exact⟨s2,q2⟩
theorem oG {Q:Unit->Shared->Prop} (hfr:A.frames=some (env::outer)) (hl:s.heap.FunFrames base (env::outer)) (hf:env.frame=some L) (ht:Tr s.heap e C dd T .none)
  (h:∀ h' T',Tr h' e C dd T' .none->s.heap.objs.size<=T'->Kp (gA (env::outer)) [e,T] s.heap h'->Q () { s with heap:=h' }):wpAny M A (leaving env (.ref e)) Q E s:=by
 unfold leaving
 refine wpAny_bind (ro hfr hl hf ht λh1' T' t1 n1 k1=>?_)
 refine land (fs:=gA (env::outer)) t1 λh2 t2 k2=>h h2 T' t2 n1 ⟨λb o hb hf' q=>?_,λb o hb q=>?_⟩
 ·exact k2.keep b o (λz=>by simp at z;rw [z] at q;exact absurd (Heap.lt_size q) (Nat.not_lt.mpr n1)) hf' (k1.keep b o hb hf' q)
 ·obtain⟨s1,q1⟩:=k1.slot b o hb q
  obtain⟨s2,q2⟩:=k2.slot b _ (λz=>by simp at z;rw [z] at q;exact absurd (Heap.lt_size q) (Nat.not_lt.mpr n1)) q1
  exact⟨s2,q2⟩
end
def XO (x C:Addr) (dd:Option Addr):HO:=.ext λh=>∃ vs sl,h.get? x=some ⟨.ref C,dd,.fields vs,sl⟩
def XN (x C:Addr) (dd:Option Addr):HO:=.ext λh=>∃ t sl,h.get? x=some ⟨.ref C,dd,.fields #[.ref t,.none,.none,.none,.bool false,.none],sl⟩
section
variable {P:Program} {w:World} {H H':Hp} {h h':Heap} {x C:Addr} {dd:Option Addr}
theorem XO.ok {vs:Array Value} {sl:Array (Option Value)} (e:h.get? x=some ⟨.ref C,dd,.fields vs,sl⟩):bK P w H h x (XO x C dd) :=
 ⟨⟨vs,sl,e⟩,⟨_,e⟩,λ_ _ ⟨vs,sl,q⟩ k=>⟨vs,sl,k _ q⟩⟩
theorem XN.ok {t:Addr} {sl:Array (Option Value)} (e:h.get? x=some ⟨.ref C,dd,.fields #[.ref t,.none,.none,.none,.bool false,.none],sl⟩):bK P w H h x (XN x C dd) :=
 ⟨⟨t,sl,e⟩,⟨_,e⟩,λ_ _ ⟨vs,sl,q⟩ k=>⟨vs,sl,k _ q⟩⟩
theorem XN.get (hok:fG P w H h) (e:H x=some (XN x C dd)):∃ t sl,h.get? x=some ⟨.ref C,dd,.fields #[.ref t,.none,.none,.none,.bool false,.none],sl⟩:=by
 obtain⟨q,_⟩:=(show bK P w H h x (XN x C dd) from hok x _ e)
 exact q
end
def gq (P:Program) (w:World):jo:=λouter H s E e s'=>∃(x C T:Addr) (dd:Option Addr) (H':Hp),e=.ref x/\s'.os=s.os/\AllBare s'.gens/\Un (gA outer) [] H H' s.heap s'.heap/\fG P w H' s'.heap /\
 Tr s'.heap x (.ref C) dd T .none/\s.heap.get? x=none/\s.heap.get? T=none/\H' T=none/\H' x=some (XO x C dd)/\E (.ref C) (some x) H'
theorem pX {base h h':Heap} {H H':Hp} {ex:List Addr}:∀{l:List Env} {fs:List Addr},h.FunFrames base l->Un fs ex H H' h h'->(∀ b∈gA l,H b=none)->(∀ b∈gA l,b∉ex)->h'.FunFrames base l
 | [],_,_,_,_,_=>trivial
 | env::r,fs,hl,u,hn,hx=>by
  obtain⟨hk,⟨L,o,hf,hb,ho,hd⟩,hr⟩:=hl
  have hL:L∈gA (env::r):=by unfold gA;rw [List.filterMap_cons,hf];exact List.mem_cons_self
  have sub:∀ b∈gA r,b∈gA (env::r):=λb hb'=>by unfold gA;rw [List.filterMap_cons,hf];exact List.mem_cons_of_mem _ hb'
  obtain⟨sl,e⟩:=u.any ho (hn L hL) (hx L hL)
  exact⟨hk,⟨L,_,hf,hb,e,hd⟩,pX hr u (λb hb'=>hn b (sub b hb')) λb hb'=>hx b (sub b hb')⟩
theorem pW {P:Program} {w:World} {H':Hp} {h h':Heap} {x C:Addr} {dd:Option Addr} {fs ch:List Addr} (hok:fG P w H' h) (k:Kp fs ch h h') (hch:∀ b∈ch,b=x∨H' b=none) (hfs:∀ b∈fs,H' b=none)
  (hx:H' x=some (XO x C dd)) {vs:Array Value} {sl:Array (Option Value)} (e:h'.get? x=some ⟨.ref C,dd,.fields vs,sl⟩):fG P w H' h':=by
 intro b o q
 by_cases hb:b=x
 ·subst hb
  rw [hx] at q
  cases q
  exact XO.ok e
 ·refine (hok b o q).jV (λc u hc r=>k.keep c u (λz=>?_) (λz=>?_) r) (λ_ r=>r) λ_ _ r=>r
  ·rcases hch c z with q1 | q1
   ·rcases hc with q2 | q2
    ·exact hb (q2.symm.trans q1)
    ·rw [q1,hx] at q2;cases q2
   ·rcases hc with q2 | q2
    ·rw [q2,q] at q1;cases q1
    ·rw [q2] at q1;cases q1
  ·have q1:=hfs c z
   rcases hc with q2 | q2
   ·rw [q2,q] at q1;cases q1
   ·rw [q2] at q1;cases q1
theorem tT {P:Program} {w:World} {K:PySem.W.Frag} {mg:Str->Option Value} {base:Heap} {N:List Str} {qual:Str} {scope:Scope} {f:Addr} {cd:Value} {A:Around} {outer:List Env} {s:Shared} {H:Hp} {E:XK} :
  Passes (gq P w) (ft (gq P w) P w K mg base N qual scope f cd A outer s H E) E:=by
 intro pins σ H1 s1 e s' I hq
 obtain⟨x,C,T,dd,H',rfl,os,bare,un,hok,tr,nx,nT,hT,hx,hE⟩:=hq
 have hl:=pX I.stack un I.iB (λb _=>by simp)
 have frN:∀ b∈gA (envOfC qual scope s.heap.objs.size f cd::outer),H' b=none:=λb hb=>by
  obtain⟨_,o,ho,_⟩:=I.stack.mem hb
  exact un.free b o ho (I.iB b hb) (by simp)
 show wpAny (model P w) (A.deeper (envOfC qual scope s.heap.objs.size f cd)) (leaving (envOfC qual scope s.heap.objs.size f cd) (.ref x)) _ _ s'
 refine oG (L:=s.heap.objs.size) I.ok.frames hl rfl tr λh'' T' t' n' k'=>?_
 have old:∀ b o,s.heap.get? b=some o->b∉[x,T]:=λb o q hb=>by
  obtain⟨o1,q1⟩:=I.base.there b o q (by intro z;exact absurd (show b∈([]:List Addr) from z) (by simp))
  rcases List.mem_cons.mp hb with z | z
  ·rw [z,nx] at q1;cases q1
  ·rw [List.mem_singleton.mp z,nT] at q1;cases q1
 have nex:∀ b:Addr,b∉(ft (gq P w) P w K mg base N qual scope f cd A outer s H E).ex:=λb z=>absurd (show b∈([]:List Addr) from z) (by simp)
 have nfr:∀ b o,s.heap.get? b=some o->b∉gA outer->b∉gA (envOfC qual scope s.heap.objs.size f cd::outer):=λb o q hb hm=>by
  rcases List.mem_cons.mp (I.fS b hm) with z | z
  ·exact absurd (Heap.lt_size q) (by rw [z];exact Nat.lt_irrefl _)
  ·exact hb z
 obtain⟨vs,sl,oT,ts,he,r'⟩:=t'
 have tr':Tr h'' x (.ref C) dd T' .none:=⟨vs,sl,oT,ts,he,r'⟩
 refine⟨x,C,T',dd,H',rfl,os.trans I.os,bare,?_,?_,tr',?_,?_,hok.fresh n',hx,hE⟩
 ·refine⟨λb o q nn hb _=>?_,λb o q nn hb _=>?_,λb o q nn _=>?_,λb o q _=>?_,λb xs q=>un.tups b xs (I.base.tups b xs q),λb o xs q=>un.frzs b o xs (I.base.frzs b o xs q),λb ps q=>?_⟩
  ·have q1:=I.base.keep b o q nn hb (nex b)
   have q2:=un.keep b o q1 (I.base.free b o q nn (nex b)) (nfr b o q hb) (by simp)
   exact k'.keep b o (old b o q) (nfr b o q hb) q2
  ·obtain⟨s1',q1⟩:=I.base.slot b o q nn hb (nex b)
   obtain⟨s2',q2⟩:=un.any q1 (I.base.free b o q nn (nex b)) (by simp)
   obtain⟨s3',q3⟩:=k'.slot b _ (old b o q) q2
   exact⟨s3',q3⟩
  ·obtain⟨o1,q1⟩:=I.base.there b o q (nex b)
   exact un.free b o1 q1 (I.base.free b o q nn (nex b)) (by simp)
  ·obtain⟨o1,q1⟩:=I.base.there b o q (nex b)
   obtain⟨o2,q2⟩:=un.there b o1 q1 (by simp)
   obtain⟨s3',q3⟩:=k'.slot b _ (old b o q) q2
   exact⟨_,q3⟩
  ·obtain⟨m1,e1⟩:=I.base.tbls b ps q
   obtain⟨m2,e2⟩:=un.tbls b _ e1
   exact⟨m1++m2,by rw [e2,Array.append_assoc]⟩
 ·exact pW hok k' (λb hb=>by
   rcases List.mem_cons.mp hb with z | z
   ·exact .inl z
   ·exact .inr (by rw [List.mem_singleton.mp z];exact hT)) frN hx he
 ·cases q:s.heap.get? x with
  | none=>rfl
  | some o=>exact absurd (List.mem_cons_self) (old x o q)
 ·cases q:s.heap.get? T' with
  | none=>rfl
  | some o =>
   obtain⟨o1,q1⟩:=I.base.there T' o q (nex T')
   obtain⟨o2,q2⟩:=un.there T' o1 q1 (by simp)
   exact absurd (Heap.lt_size q2) (Nat.not_lt.mpr n')
section
variable {prog:Program} {w:World} {A:Around} {E:Value->Shared->Prop} {s:Shared} {K:PySem.W.Frag} {env:Env}
theorem j4 {x:Sem Value} {Q:Flow->Shared->Prop} (hh:A.handled=none)
  (h:wpAny (model prog w) A x (λv s₁=>∃ e C t dd sl,v=.ref e/\K.In s₁.heap/\d7 K C/\s₁.heap.get? e=some ⟨.ref C,dd,.fields #[.ref t,.none,.none,.none,.bool false,.none],sl⟩/\E (.ref e) s₁) E s) :
  wpAny (model prog w) A (raiseStmt env (some x) none) Q E s:=by
 unfold raiseStmt
 refine wpAny_bind (wpAny_mono h (λv s₁ h₁=>?_) λ_ _ z=>z)
 obtain⟨e,C,t,dd,sl,rfl,X,c,he,hE⟩:=h₁
 obtain⟨hp,g,d,tk,os⟩:=s₁
 have L1:Looks (model prog w) hp (isSubtype (.ref C) (.type "BaseException")) true:=by
  obtain⟨cd,hc,hm,_⟩:=c.cls
  obtain⟨m1,m2,m3⟩:=ly hm
  exact looks_mroIn X (by unfold mroIn;rw [hc,Option.bind_some,if_neg (by rw [m3];decide),m2])
 obtain⟨od,cd,sc,hk⟩:=c.at_
 have hC:=X _ _ hk
 repeat (first | with_reducible refine wpAny_loadPart_at he ?_ | with_reducible refine wpAny_loadPart_at hC ?_ | with_reducible refine Looks.at L1 ?_ | wp_step)
 exact wpAny_raiseNew_none hh hE
end
def uC (K:PySem.W.Frag) (H₀:Hp) (E:XK) (te:TE):TS:=λ_ σ H=>te σ H λv H1=>∃ x C dd,v=.ref x/\H1 x=some (XN x C dd)/\d7 K C/\H₀ x=none/\E (.ref C) (some x) (upd H1 x (XO x C dd))
section
variable {P:Program} {w:World} {K:PySem.W.Frag} {mg:Str->Option Value} {base:Heap} {N:List Str} {qual:Str} {scope:Scope} {f:Addr} {cd:Value} {A:Around} {outer:List Env} {s:Shared} {H:Hp} {E:XK}
theorem rO {pins:List (Addr × Obj)} {σ:St} {H2:Hp} {s2:Shared} {x C:Addr} {dd:Option Addr} (I:Inv (ft (gq P w) P w K mg base N qual scope f cd A outer s H E) pins σ H2 s2) (hx:H2 x=some (XN x C dd)) (hn:H x=none)
  (hE:E (.ref C) (some x) (upd H2 x (XO x C dd))):(ft (gq P w) P w K mg base N qual scope f cd A outer s H E).xe (.ref x) s2:=by
 obtain⟨t,sl,he⟩:=XN.get I.hok hx
 have nex:∀ b:Addr,b∉(ft (gq P w) P w K mg base N qual scope f cd A outer s H E).ex:=λb z=>absurd (show b∈([]:List Addr) from z) (by simp)
 have nx:s.heap.get? x=none:=by
  cases q:s.heap.get? x with
  | none=>rfl
  | some o =>
   have:=I.base.free x o q hn (nex x)
   rw [hx] at this
   cases this
 have old:∀ b o,s.heap.get? b=some o->b≠x:=λb o q z=>by rw [z,nx] at q;cases q
 have nfr:∀ b o,s.heap.get? b=some o->b∉gA outer->b∉gA (envOfC qual scope s.heap.objs.size f cd::outer):=λb o q hb hm=>by
  rcases List.mem_cons.mp (I.fS b hm) with z | z
  ·exact absurd (Heap.lt_size q) (by rw [z];exact Nat.lt_irrefl _)
  ·exact hb z
 have hok':fG P w (upd H2 x (XO x C dd)) s2.heap:=λb o q=>by
  by_cases hb:b=x
  ·subst hb
   rw [af] at q
   cases q
   exact XO.ok he
  ·rw [av hb] at q
   refine (I.hok b o q).jV (λ_ _ _ r=>r) (λc r=>?_) λc xs r=>?_
   ·rw [av (λz=>by rw [z,hx] at r;cases r)];exact r
   ·rw [av (λz=>by rw [z,hx] at r;cases r)];exact r
 show wpAny (model P w) (A.deeper (envOfC qual scope s.heap.objs.size f cd)) (leaving (envOfC qual scope s.heap.objs.size f cd) (.ref x)) _ _ s2
 refine mT (L:=s.heap.objs.size) I.ok.frames I.stack rfl he rfl λh'' T t' n' k'=>?_
 obtain⟨vs,sl',oT,ts,he',r'⟩:=t'
 have tr':Tr h'' x (.ref C) dd T .none:=⟨vs,sl',oT,ts,he',r'⟩
 have nT:T≠x:=r'.2.1
 refine⟨x,C,T,dd,upd H2 x (XO x C dd),rfl,I.os,I.bare,?_,?_,tr',nx,?_,?_,af,hE⟩
 ·refine⟨λb o q nn hb _=>?_,λb o q nn hb _=>?_,λb o q nn _=>?_,λb o q _=>?_,λb xs q=>?_,λb o xs q=>?_,λb ps q=>?_⟩
  ·exact k'.keep b o (by simp [old b o q]) (nfr b o q hb) (I.base.keep b o q nn hb (nex b))
  ·obtain⟨s1',q1⟩:=I.base.slot b o q nn hb (nex b)
   obtain⟨s3',q3⟩:=k'.slot b _ (by simp [old b o q]) q1
   exact⟨s3',q3⟩
  ·rw [av (old b o q)]
   exact I.base.free b o q nn (nex b)
  ·obtain⟨o1,q1⟩:=I.base.there b o q (nex b)
   obtain⟨s3',q3⟩:=k'.slot b _ (by simp [old b o q]) q1
   exact⟨_,q3⟩
  ·have:=I.base.tups b xs q
   rw [av (λz=>by rw [z,hx] at this;cases this)];exact this
  ·have:=I.base.frzs b o xs q
   rw [av (λz=>by rw [z,hx] at this;cases this)];exact this
  ·obtain⟨m1,e1⟩:=I.base.tbls b ps q
   exact⟨m1,by rw [av (λz=>by rw [z,hx] at e1;cases e1)];exact e1⟩
 ·exact pW hok' k' (λb hb=>.inl (by simpa using hb)) (λb hb=>by
   have z:=I.iB b hb
   rw [av (λy=>by rw [y,hx] at z;cases z)];exact z) af he'
 ·cases q:s.heap.get? T with
  | none=>rfl
  | some o =>
   obtain⟨o1,q1⟩:=I.base.there T o q (nex T)
   exact absurd (Heap.lt_size q1) (Nat.not_lt.mpr n')
 ·rw [av nT]
  exact I.hok.fresh n'
theorem eW {e:Expr} {te:TE} {pos:Pos} (he:PE (ft (gq P w) P w K mg base N qual scope f cd A outer s H E) e te):PS (ft (gq P w) P w K mg base N qual scope f cd A outer s H E) (.Raise (some e) none pos) (uC K H E te):=by
 intro pins s1 σ H1 D I h
 rw [arm_exec_Raise]
 refine wpAny_bind (wpAny_standAt (j4 (K:=K) (I.ok.hd rfl) (wpAny_bind (bZ (he pins s1 σ H1 _ I h) λv s2 ⟨y,H2,I2,r,x,C,dd,ey,hx,c,hn,hE⟩=>?_))))
 subst ey
 obtain rfl:v=Value.ref x:=r
 obtain⟨t,sl,hg⟩:=XN.get I2.hok hx
 exact wpAny_bind (wpAny_standAt (wpAny_pure ⟨x,C,t,dd,sl,rfl,I2.hG,c,hg,rO I2 hx hn hE⟩))
end
section
variable {prog:Program} {w:World} {A:Around} {E:Value->Shared->Prop} {h:Heap} {g:Array GenState} {d:Drawn} {t:Nat} {os:OsState}
variable {nm q:Str} {C N:Addr} {bs bm:List Value} {hdct:Bool} {sn:List Str} {sub:List Value} {ab:Bool} {col:Option Bool} {dd:Option Addr} {k0 k1 k2 k3 k5:Option Value}
theorem qU {R:Result->Shared->Prop} {e a:Addr} (hB:bm.contains (.type "ValueError")=true) (hC:h.get? C=some (excClassObj nm q C N bs bm hdct sn sub ab col dd k0 k1 k2 k3 k5 j9)) (he:h.get? e=some (newExc C a))
  (hq:∀ h',h'.get? e=some (newExc C h.objs.size)->(∀ b o,b≠e->h.get? b=some o->h'.get? b=some o)->R (.ok (.ret .none)) ⟨h',g,d,t,os⟩) :
  codeAny (model prog w) A (.call (.builtin "ValueError.__init__") ⟨[.ref e],[]⟩) R ⟨h,g,d,t,os⟩:=by
 have Fn:=PySem.F.excBase_ValueError
 have cB:(Value.ref C::bm).contains (.type "ValueError")=true:=by rw [List.contains_cons,hB,Bool.or_true]
 have hshort:=Fn.noStar
 refine codeAny_call_builtin Fn.init.plain Fn.initEntry ?_
 have chk:∀{Q:Unit->Shared->Prop} {E:Value->Shared->Prop} {A:Around},Q () ⟨h,g,d,t,os⟩->wpAny (model prog w) A (checkBuiltinCall "ValueError.__init__" ⟨[.ref e],[]⟩) Q E ⟨h,g,d,t,os⟩:=by
  intro Q E A hq
  simp only [checkBuiltinCall,Fn.initKind,Fn.initSplit,Fn.initRow]
  repeat (first | with_reducible refine wpAny_loadPart_at he ?_ | with_reducible refine wpAny_loadPart_at hC ?_ | (with_reducible refine wpAny_isSubtype_exc hC ?_;rw [cB]) | wp_step)
  exact hq
 refine chk ?_
 wp_walk
 have hp:=Heap.get?_push_of_some (h:=h) { cls:=.type "tuple",data:=.seq ([]:List Value).toArray } he
 refine hq _ ?_ λb o hb z=>?_
 ·exact Heap.get?_update_self _ hp rfl
 ·rw [Heap.get?_update_other _ _ (Ne.symm hb)]
  exact Heap.get?_push_of_some _ z
end
theorem dH.any {P:Program} {w:World} {K:PySem.W.Frag} {mg:Str->Option Value} {base:Heap} {CX:jo} {k:Nat} {f:Addr} {fd:FuncData} {ps:List Str} {sp:Sp} (F:dH P w K mg base aQ k f fd ps sp):dH P w K mg base CX k f fd ps sp :=
 ⟨F.len,λA outer s H args us vs Q E hr he hb hv hs=>codeAny_mono (F.run A outer s H args us vs Q E hr he hb hv hs) λr s' q=>by
  cases r with
  | error e=>exact False.elim q
  | ok fl =>
   cases fl with
   | ret u=>exact q
   | next=>exact q
   | brk=>exact q
   | cont=>exact q⟩
def zZ (K:PySem.W.Frag) (ta tv:TE) (f:Str):TS:=λD σ H=>tv σ H λy H1=>ta σ H1 λxv H2=>∃ x C,xv=.ref x/\H2 x=some (XN x C none)/\d7 K C/\findIn K (.ref C) f=some none /\
 ∀ dx,H2 dx=none->dx≠x->D.nx σ (upd (upd H2 dx (.xd [(f,y)])) x (XN x C (some dx)))
section
variable {X:Cx} {o value:Expr} {f:Str} {pos pos':Pos} {ta tv:TE}
theorem vX (ha:PE X o ta) (hv:PE X value tv) (hs:swapsWith value (some (.Attribute o f pos')) pos.line X.env=pure false:=by rfl):PS X (.Assign [.Attribute o f pos'] value pos) (zZ X.K ta tv f):=by
 intro pins s σ H D I h
 refine plainObj_wpAny_Assign_Attribute (bZ (hv pins s σ H _ I h) λu s1 ⟨y,H1,I1,ry,q⟩=>bZ (ha pins s1 σ H1 _ I1 q) λov s2 ⟨xv,H2,I2,rx,x,C,ex,hx,c,hf,q2⟩=>?_) hs
 subst ex
 obtain rfl:ov=Value.ref x:=rx
 obtain⟨t,sl,hg⟩:=XN.get I2.hok hx
 obtain⟨cd,hc,hm,hh⟩:=c.cls
 refine u9 I2.hG hg hc hm hh c.sa hf λh' g1 g2 g3=>?_
 have hd0:H2 s2.heap.objs.size=none:=I2.hok.fresh (Nat.le_refl _)
 have hne:s2.heap.objs.size≠x:=λz=>by rw [z,hx] at hd0;cases hd0
 have bx:∀ b,H2 b=none->b≠x:=λb z y=>by rw [y,hx] at z;cases z
 have bd:∀ b o,s2.heap.get? b=some o->b≠s2.heap.objs.size:=λb o q=>Nat.ne_of_lt (Heap.lt_size q)
 have tb:∀ b u,H2 b=some u->b≠s2.heap.objs.size:=λb u q z=>by rw [z,hd0] at q;cases q
 refine⟨σ,upd (upd H2 s2.heap.objs.size (.xd [(f,y)])) x (XN x C (some s2.heap.objs.size)),I2.un ⟨λb o q n _ _=>g3 b o (bx b n) q,λb o q n _ _=>⟨o.slots,g3 b o (bx b n) q⟩,λb o q n _=>?_,λb o q _=>?_,λb xs q=>?_,λb o xs q=>?_,λb ps q=>?_⟩ ?_,q2 _ hd0 hne⟩
 ·rw [av (bx b n),av (bd b o q)];exact n
 ·by_cases z:b=x
  ·exact⟨_,by rw [z];exact g1⟩
  ·exact⟨o,g3 b o z q⟩
 ·rw [av (λz=>by rw [z,hx] at q;cases q),av (tb b _ q)];exact q
 ·rw [av (λz=>by rw [z,hx] at q;cases q),av (tb b _ q)];exact q
 ·exact⟨#[],by rw [av (λz=>by rw [z,hx] at q;cases q),av (tb b _ q),q];simp⟩
 ·intro b o q
  by_cases z:b=x
  ·subst z
   rw [af] at q
   cases q
   exact XN.ok g1
  ·rw [av z] at q
   by_cases z2:b=s2.heap.objs.size
   ·subst z2
    rw [af] at q
    cases q
    refine⟨_,g2,λk=>?_⟩
    show gT (List.lookup k [(f,y)]) (if k=f then some u else none)
    by_cases e:k=f
    ·subst e
     rw [if_pos rfl,List.lookup_cons,beq_self_eq_true]
     exact ry
    ·have e':(k==f)=false:=by simpa using e
     rw [if_neg e,List.lookup_cons,e']
     exact True.intro
   ·rw [av z2] at q
    refine (I2.hok b o q).jV (λc' u' hc' r=>g3 c' u' (λz3=>?_) r) (λc' r=>?_) λc' xs r=>?_
    ·rcases hc' with e | e
     ·exact z (e.symm.trans z3)
     ·rw [z3,hx] at e;cases e
    ·rw [av (λz3=>by rw [z3,hx] at r;cases r),av (tb c' _ r)];exact r
    ·rw [av (λz3=>by rw [z3,hx] at r;cases r),av (tb c' _ r)];exact r
end
structure wG (K:PySem.W.Frag) (C:Addr):Prop where
 obj:∃ nm q N bs bm hdct sn sub ab col dd k0 k1 k2 k3 k5,K.lookup C=some (excClassObj nm q C N bs bm hdct sn sub ab col dd k0 k1 k2 k3 k5 j9)/\bm.contains (.type "ValueError")=true/\bm.contains (.type "AttributeError")=false/\bm.contains (.type "NameError")=false
 kp:keepIn K (.ref C)=true
def ma (K:PySem.W.Frag) (f:Str):Sp:=λvs H Q _=>∃ x C v,vs=[.ref x,v]/\H x=some (XN x C none)/\d7 K C/\findIn K (.ref C) f=some none /\
 ∀ dx,H dx=none->dx≠x->Q .bw (upd (upd H dx (.xd [(f,v)])) x (XN x C (some dx)))
def yX (C:Addr) (f:Str) (t:TA):TE:=λσ H Q=>t σ H λvs H1=>∃ v,vs=[v]/\∀ x dx,H1 x=none->H1 dx=none->dx≠x->Q (.ref x) (upd (upd (upd H1 x (XN x C none)) dx (.xd [(f,v)])) x (XN x C (some dx)))
def yW (C:Addr):TE:=λ_ H Q=>∀ x,H x=none->Q (.ref x) (upd H x (XN x C none))
section
variable {X:Cx} {C fi:Addr} {fd:FuncData} {p f x:Str} {k:Nat} {pos np:Pos} {e:Expr} {t:TA}
theorem Inv.newExc {pins:List (Addr × Obj)} {σ:St} {H:Hp} {s:Shared} (I:Inv X pins σ H s) (us:List Value):Inv X pins σ (upd H (s.heap.objs.size+1) (XN (s.heap.objs.size+1) C none))
  { s with heap:=(s.heap.push { cls:=.type "tuple",data:=.seq us.toArray }).push (L2.newExc C s.heap.objs.size) }:=by
 have I1:Inv X pins σ H { s with heap:=s.heap.push { cls:=.type "tuple",data:=.seq us.toArray } }:=I.kept (t':=s.toks) λb u q=>Heap.get?_push_of_some _ q
 refine I1.laid (a:=s.heap.objs.size+1) (t':=s.toks) (λb u q=>Heap.get?_push_of_some _ q) (Nat.le_of_eq (Heap.size_push _ _)) ?_
 refine XN.ok (t:=s.heap.objs.size) (sl:=#[]) ?_
 have:=Heap.get?_push_size (s.heap.push { cls:=.type "tuple",data:=.seq us.toArray }) (o:=L2.newExc C s.heap.objs.size) rfl
 rwa [Heap.size_push] at this
theorem rK (M:wG X.K C) (c:d7 X.K C) (hi:findIn X.K (.ref C) "__init__"=some (some (.ref fi))) (fn:isFn X.K (.ref fi)=true) (hf:findIn X.K (.ref C) f=some none) (F:dH X.prog X.w X.K X.mg X.base aQ k fi fd ["self",p] (ma X.K f)) (hr:cW (k+1) X.A) (hg:Gl X x)
  (hm:X.mg x=some (.ref C)) (hb:Binds X.K fd ["self",p] []) (ha:PA X [e] t) (hdb:(x==("__debug__":Str))=false:=by decide) (he:starEach [e] X.env=(false,eval e X.env)::starEach [] X.env:=by rfl) (hpl:(backTo pos (starEach [] X.env)).any (·.1)=false:=by rfl) :
  PE X (.Call (.Name x np) [e] [] pos) (yX C f t):=by
 intro pins s σ H Q I h
 refine wpAny_Call_Name_kw (jf I hg hm ?_ hdb)
 refine PySem.W.callWith_K (h₀:=X.base) I.ok.mod.kin M.kp (bZ (ha pos pins s σ H _ I h) λus s1 ⟨vs,H1,I1,r,q⟩=>⟨I1.hG,?_⟩) he hpl
 obtain⟨v,rfl,q⟩:=q
 obtain⟨u,rfl,ru⟩:=vals1 r
 obtain⟨nm,qn,Nn,bs,bm,hdct,sn,sub,ab,col,dd,k0,k1,k2,k3,k5,hk,hB,hA,hN⟩:=M.obj
 have I2:=Inv.newExc (C:=C) I1 [u]
 have n1:H1 (s1.heap.objs.size+1)=none:=I1.hok.fresh (Nat.le_succ _)
 have r2:Vals [V.ref (s1.heap.objs.size+1),v] [Value.ref (s1.heap.objs.size+1),u]:=.cons rfl (.cons ru .nil)
 have hq:ma X.K f [V.ref (s1.heap.objs.size+1),v] (upd H1 (s1.heap.objs.size+1) (XN (s1.heap.objs.size+1) C none)) (λz H3=>z=.bw/\Q (.ref (s1.heap.objs.size+1)) H3) E0 :=
  ⟨_,C,v,rfl,af,c,hf,λdx hd hne=>⟨rfl,q _ dx n1 (by rw [av hne] at hd;exact hd) hne⟩⟩
 obtain⟨hh,g,d,tk,os⟩:=s1
 refine mN (K:=X.K) I1.hG hB hA hN (I1.hG _ _ hk) (by show 1<=sizeLine;decide) hi (bind_fn I1.hG _ (beq_iff_eq.mp fn)) ?_
 refine codeAny_mono (F.run _ X.stack _ _ ⟨[Value.ref (hh.objs.size+1),u],[]⟩ [Value.ref (hh.objs.size+1),u] _ _ E0 (hr.make C [u] []) (I2.zD.make C [u] []) (by have:=hb _ [Value.ref (hh.objs.size+1),u] I2.hG rfl;rwa [List.append_nil] at this) r2 hq) λr s' hq'=>?_
 cases r with
 | error e=>exact False.elim hq'
 | ok fl =>
  cases fl with
  | ret u' =>
   obtain⟨v',H',I3,rv,ev,q3⟩:=I2.after hq'
   subst ev
   exact⟨rv,⟨V.ref (hh.objs.size+1),H',I3,rfl,q3⟩⟩
  | next=>exact False.elim hq'
  | brk=>exact False.elim hq'
  | cont=>exact False.elim hq'
theorem rJ (M:wG X.K C) (hi:findIn X.K (.ref C) "__init__"=some (some (.builtin "ValueError.__init__"))) (hg:Gl X x) (hm:X.mg x=some (.ref C)) (hdb:(x==("__debug__":Str))=false:=by decide) :
  PE X (.Call (.Name x np) [] [] pos) (yW C):=by
 intro pins s σ H Q I h
 refine wpAny_Call_Name_kw (jf I hg hm ?_ hdb)
 refine PySem.W.callWith_K0 I.hG M.kp ?_
 obtain⟨nm,qn,Nn,bs,bm,hdct,sn,sub,ab,col,dd,k0,k1,k2,k3,k5,hk,hB,hA,hN⟩:=M.obj
 have I2:=Inv.newExc (C:=C) I []
 have n1:H (s.heap.objs.size+1)=none:=I.hok.fresh (Nat.le_succ _)
 have Fn:=PySem.F.excBase_ValueError
 obtain⟨hh,g,d,tk,os⟩:=s
 have hC:=I.hG _ _ hk
 refine mN (K:=X.K) I.hG hB hA hN hC (by show 0<=sizeLine;decide) hi (j:=.builtin "ValueError.__init__") (Looks.of_pure (Fn.init.bind _)) ?_
 have hC2:((hh.push { cls:=.type "tuple",data:=.seq ([]:List Value).toArray }).push (L2.newExc C hh.objs.size)).get? C=some _:=Heap.get?_push_of_some _ (Heap.get?_push_of_some _ hC)
 have he2:((hh.push { cls:=.type "tuple",data:=.seq ([]:List Value).toArray }).push (L2.newExc C hh.objs.size)).get? (hh.objs.size+1)=some (L2.newExc C hh.objs.size):=by
  have:=Heap.get?_push_size (hh.push { cls:=.type "tuple",data:=.seq ([]:List Value).toArray }) (o:=L2.newExc C hh.objs.size) rfl
  rwa [Heap.size_push] at this
 refine qU hB hC2 he2 λh' g1 g3=>⟨rfl,.ref (hh.objs.size+1),_,?_,rfl,h _ n1⟩
 have e:upd (upd H (hh.objs.size+1) (XN (hh.objs.size+1) C none)) (hh.objs.size+1) (XN (hh.objs.size+1) C none)=upd H (hh.objs.size+1) (XN (hh.objs.size+1) C none):=by
  funext b
  by_cases z:b=hh.objs.size+1
  ·rw [z,af,af]
  ·rw [av z]
 have W:=I2.write (x:=hh.objs.size+1) (e:=hh.objs.size+1) (o:=XN (hh.objs.size+1) C none) (h':=h') (t':=tk) (by rw [af];exact True.intro) (.inl rfl) (λb u hb q=>g3 b u hb q) ⟨_,g1⟩ (XN.ok g1)
 rw [e] at W
 exact W
end
def BR (H:Hp) (x C:Addr) (dd:Option Addr):Prop:=H x=some (XO x C dd)∨H x=some (XN x C dd)
def B0 (K:PySem.W.Frag) (ta:TE) (f:Str):TE:=λσ H Q=>ta σ H λxv H1=>∃ x C dx fs v,xv=.ref x/\BR H1 x C (some dx)/\d7 K C/\findIn K (.ref C) f=some none/\H1 dx=some (.xd fs)/\fs.lookup f=some v/\Q v H1
section
variable {X:Cx} {e:Expr} {f:Str} {pos:Pos} {ta:TE}
end
section
variable {prog:Program} {w:World} {A:Around} {E:Value->Shared->Prop} {K:PySem.W.Frag} {h:Heap} {g:Array GenState} {d:Drawn} {t:Nat} {os:OsState} {x C B:Addr}
theorem d7.base (c:d7 K C):mroIn K C (.type "BaseException")=some true:=by
 obtain⟨cd,hc,hm,_⟩:=c.cls
 obtain⟨m1,m2,m3⟩:=ly hm
 unfold mroIn
 rw [hc,Option.bind_some,if_neg (by rw [m3];decide),m2]
end
section
variable {M:Model} {A:Around} {E:Value->Shared->Prop} {s:Shared}
end
section
variable {X:Cx} {pins:List (Addr × Obj)} {σ:St} {H:Hp} {s:Shared} {M:Model} {A:Around} {E:Value->Shared->Prop}
end
section
variable {X:Cx} {pins:List (Addr × Obj)} {σ:St} {H:Hp} {s:Shared} {x:Addr}
def ve (n:Option Nat) (x:Addr) (σ:St):St:=match n with | some i=>σ.set i (some (.ref x)) | none=>σ
def pZ (n:Option Nat) (D:Ends):Ends:=match n with
 | some i=>{ nx:=λσ H=>D.nx (σ.set i none) H,rt:=D.rt,bk:=λσ H=>D.bk (σ.set i none) H,ct:=λσ H=>D.ct (σ.set i none) H }
 | none=>D
end
def Bn (K:PySem.W.Frag) (B:Addr) (n:Option Nat) (sp:Sp) (ta:TA) (put:V->St->St) (ts:TS):TS:=λD σ H=>ta σ H λvs H1=>sp vs H1 (λv H2=>D.nx (put v σ) H2)
 (λcv xo H2=>∃ C x dd,cv=.ref C/\xo=some x/\H2 x=some (XO x C dd)/\d7 K C/\mroIn K C (.ref B)=some true/\ts (pZ n D) (ve n x σ) H2)
section
variable {X:Cx} {B:Addr} {n:Option Nat} {hd:ExceptHandler} {ts:TS}
variable {k:Nat} {f:Str} {ps:List Str} {sp:Sp} {e:Expr} {es:List Expr} {t:TA} {p cpos epos pos:Pos}
end
section
variable {P:Program} {w:World} {K:PySem.W.Frag} {mg:Str->Option Value} {base:Heap} {k:Nat} {x:Str} {ps:List Str} {sp:Sp}
theorem oj {st:Stmt} {N:List Str} (D:aA K mg x st)
  (hb:∀(kV doc pm:Value) (an:Option Addr) (cdv ct:Value) (us:List Value),us.length=ps.length->bindArgs (PySem.W.fnOf x x (cw st) (bp st) (ao st) .none kV doc pm an cdv ct) ⟨us,[]⟩=pure (ps.zip us))
  (S:aC N ps (ao st)) (len:∀ vs H Q E,sp vs H Q E->vs.length=ps.length)
  (hbody:∀(f:Addr) (cdv:Value) (A:Around) (outer:List Env) (s:Shared) (H:Hp) (vs:List V) (Q:VK) (E:XK),cW k (A.deeper (envOfC x (ao st) s.heap.objs.size f cdv))->sp vs H Q E ->
   ∃ t,ja (ft (gq P w) P w K mg base N x (ao st) f cdv A outer s H E) (bp st) t/\t { nx:=λ_ H'=>Q .bw H',rt:=Q } (start N vs) H):Callee P w K mg base (gq P w) (k+1) x ps sp:=by
 obtain⟨f,fd,F,hm⟩:=D
 obtain⟨oc,od,kV,doc,pm,an,cdv,ct,osl,rfl,lk,hcd⟩:=F.ex
 exact⟨f,_,wN lk hcd S len λA outer s H vs Q E hr h=>hbody f cdv A outer s H vs Q E hr h,hm,F.kp,F.binds hb⟩
theorem Callee.any {CX:jo} (C:Callee P w K mg base aQ k x ps sp):Callee P w K mg base CX k x ps sp:=by
 obtain⟨f,fd,F,a,b,c⟩:=C.ex
 exact⟨f,fd,F.any,a,b,c⟩
end
theorem vf {P:Program} {w:World} {K:PySem.W.Frag} {mg:Str->Option Value} {base:Heap} {qual f p:Str} {st:Stmt} {fi:Addr} {fd:FuncData} {p1 p2 p3 p4:Pos} (F:uO K "__init__" qual st fi fd) (S:aC ["self",p] ["self",p] (ao st))
  (hb:bp st=[.Assign [.Attribute (.Name "self" p1) f p2] (.Name p p3) p4]) (h1:(ao st).names.lookup ("self":Str)=some .local) (h2:(ao st).names.lookup p=some .local) (hd:(p==("__debug__":Str))=false) (hcd:(p==("__classdict__":Str))=false)
  (ab:∀ env:Env,attributeBase (.Name "self" p1) f env (eval (.Name "self" p1) env)=eval (.Name "self" p1) env) (sw:∀ env:Env,swapsWith (.Name p p3) (some (.Attribute (.Name "self" p1) f p2)) p4.line env=pure false):dH P w K mg base aQ 1 fi fd ["self",p] (ma K f):=by
 refine F.ok S (λvs H Q E h=>?_) (λcdv A outer s H vs Q E hr h=>?_)
 ·obtain⟨x,C,v,rfl,_⟩:=h
  rfl
 ·obtain⟨x,C,v,rfl,hx,c,hf,q⟩:=h
  rw [hb]
  refine⟨_,aj (vX (oW (i:=0) rfl (.inl h1) (by decide) (by decide)) (oW (i:=1) rfl (.inl h2) hd hcd) (sw _)),?_⟩
  exact⟨v,rfl,.ref x,rfl,x,C,rfl,hx,c,hf,λdx n ne=>q dx n ne⟩
structure oa (P:Program) (w:World) (K:PySem.W.Frag) (mg:Str->Option Value) (base:Heap) (x:Str) (C:Addr) (f:Str):Prop where
 mkd:wG K C
 cls:d7 K C
 at_:mg x=some (.ref C)
 nof:findIn K (.ref C) f=some none
 ex:∃ fi fd p,findIn K (.ref C) "__init__"=some (some (.ref fi))/\isFn K (.ref fi)=true/\dH P w K mg base aQ 1 fi fd ["self",p] (ma K f)/\Binds K fd ["self",p] []
structure uW (K:PySem.W.Frag) (mg:Str->Option Value) (x:Str) (C:Addr):Prop where
 mkd:wG K C
 cls:d7 K C
 at_:mg x=some (.ref C)
 ini:findIn K (.ref C) "__init__"=some (some (.builtin "ValueError.__init__"))
section
variable {X:Cx} {C:Addr} {f x:Str} {pos np:Pos} {e:Expr} {t:TA}
theorem lU (c:oa X.prog X.w X.K X.mg X.base x C f) (hr:cW 2 X.A) (hg:Gl X x) (ha:PA X [e] t) (hdb:(x==("__debug__":Str))=false:=by decide)
  (he:starEach [e] X.env=(false,eval e X.env)::starEach [] X.env:=by rfl) (hpl:(backTo pos (starEach [] X.env)).any (·.1)=false:=by rfl):PE X (.Call (.Name x np) [e] [] pos) (yX C f t):=by
 obtain⟨fi,fd,p,hi,fn,F,hb⟩:=c.ex
 exact rK c.mkd c.cls hi fn c.nof F hr hg c.at_ hb ha hdb he hpl
theorem tV (c:uW X.K X.mg x C) (hg:Gl X x) (hdb:(x==("__debug__":Str))=false:=by decide):PE X (.Call (.Name x np) [] [] pos) (yW C):=rJ c.mkd c.ini hg c.at_ hdb
end
inductive xG (K:PySem.W.Frag) (H:Hp):Nat->V->V->Bool->Prop
 | flat {d:Nat} {y x:V}:dY y=true->dY x=true->xG K H d y x (mM y x)
 | same {d:Nat} {p:Addr}:xG K H d (.ref p) (.ref p) true
 | lists {d:Nat} {p q:Addr} {xs ys:List V} {e:Nat->Bool}:p≠q->aV K H p xs->aV K H q ys->xs.length=ys.length->(∀ j y x,xs[j]?=some y->ys[j]?=some x->xG K H d y x (e j))->xG K H (d+1) (.ref p) (.ref q) ((List.range xs.length).all e)
 | unlike {d:Nat} {p q:Addr} {xs ys:List V}:p≠q->aV K H p xs->aV K H q ys->xs.length≠ys.length->xG K H (d+1) (.ref p) (.ref q) false
 | tups {d:Nat} {p q:Addr} {xs ys:List V} {e:Nat->Bool}:p≠q->aJ K H p xs->aJ K H q ys->(∀ j y x,xs[j]?=some y->ys[j]?=some x->xG K H d y x (e j))->xG K H (d+1) (.ref p) (.ref q) ((List.range (min xs.length ys.length)).all e && xs.length==ys.length)
section
variable {X:Cx} {pins:List (Addr × Obj)} {σ:St} {H:Hp} {s:Shared}
theorem Vals.at {xs:List V} {us:List Value} (r:Vals xs us):∀{j:Nat} {u:Value},us[j]?=some u->∃ x,xs[j]?=some x/\RelV x u:=by
 induction r with
 | nil=>intro j u h;simp at h
 | cons r t ih =>
  intro j u h
  cases j with
  | zero=>simp only [List.getElem?_cons_zero,Option.some.injEq] at h;subst h;exact⟨_,rfl,r⟩
  | succ j=>simp only [List.getElem?_cons_succ] at h ⊢;exact ih h
theorem Vals.len {xs:List V} {us:List Value} (r:Vals xs us):us.length=xs.length:=by
 induction r with
 | nil=>rfl
 | cons r t ih=>simp only [List.length_cons,ih]
end
theorem gz {A B:Prop} (a:A) (f:A->B):B:=f a
section
variable {K:PySem.W.Frag} {mg:Str->Option Value} {h:Heap} {x f p qual:Str} {C D fi N:Addr}
section
variable {nm q:Str} {bs bm:List Value} {hdct ab:Bool} {sn:Option Str} {od:Option Addr} {cd:ClassData} {sl:Array (Option Value)}
theorem y3 {o:Obj} (l:K.lookup C=some o) (ob:∃ nm q N bs bm hdct sn sub ab col dd k0 k1 k2 k3 k5,o=excClassObj nm q C N bs bm hdct sn sub ab col dd k0 k1 k2 k3 k5 j9/\bm.contains (.type "ValueError")=true/\bm.contains (.type "AttributeError")=false/\bm.contains (.type "NameError")=false) (kp:keepIn K (.ref C)=true):wG K C:=by
 obtain⟨nm,q,N,bs,bm,hdct,sn,sub,ab,col,dd,k0,k1,k2,k3,k5,e,r⟩:=ob
 subst e
 exact⟨⟨nm,q,N,bs,bm,hdct,sn,sub,ab,col,dd,k0,k1,k2,k3,k5,l,r⟩,kp⟩
theorem wA (l:K.lookup C=some ⟨.type "type",od,.cls cd,sl⟩) (h2:cJ cd.mro=true) (h3:cd.hasDict=true)
  (sa:findIn K (.ref C) "__setattr__"=some (some (.builtin "object.__setattr__"))) (ga:findIn K (.ref C) "__getattribute__"=some (some (.builtin "BaseException.__getattribute__"))) (gx:findIn K (.ref C) "__getattr__"=some none)
  (ca:findIn K (.ref C) "__class__"=some (some (.builtin "object.__class__"))) (gs:specialIn K (.builtin "object.__class__") "__get__"=some (some (.builtin "getset_descriptor.__get__"))) (tk:takesIn K (.builtin "object.__class__")=some true):L2.d7 K C :=
 ⟨⟨cd,by unfold clsIn;rw [l],h2,h3⟩,⟨_,_,_,l⟩,sa,ga,gx,ca,gs,tk⟩
theorem qM (a:mg x=some (.ref C)) (M:wG K C) (c:d7 K C) (ini:findIn K (.ref C) "__init__"=some (some (.builtin "ValueError.__init__"))):uW K mg x C:=⟨M,c,a,ini⟩
structure kX (qual f p:Str) (st:Stmt):Prop where
 S:aC ["self",p] ["self",p] (ao st)
 hb:∃ p1 p2 p3 p4,bp st=[.Assign [.Attribute (.Name "self" p1) f p2] (.Name p p3) p4]/\(∀ env:Env,attributeBase (.Name "self" p1) f env (eval (.Name "self" p1) env)=eval (.Name "self" p1) env)/\(∀ env:Env,swapsWith (.Name p p3) (some (.Attribute (.Name "self" p1) f p2)) p4.line env=pure false)
 h1:(ao st).names.lookup ("self":Str)=some .local
 h2:(ao st).names.lookup p=some .local
 hd:(p==("__debug__":Str))=false
 hcd:(p==("__classdict__":Str))=false
 bd:∀(kV doc pm:Value) (an:Option Addr) (cdv ct:Value) (us:List Value),us.length=2->bindArgs (PySem.W.fnOf "__init__" qual (cw st) (bp st) (ao st) .none kV doc pm an cdv ct) ⟨us,[]⟩=pure ((["self",p]:List Str).zip us)
theorem mq {st:Stmt} {oc:Value} {od an:Option Addr} {osl:Array (Option Value)} {kV doc pm cdv ct:Value} (I:kX qual f p st) (a:mg x=some (.ref C)) (M:wG K C) (c:d7 K C) (nof:findIn K (.ref C) f=some none)
  (ini:findIn K (.ref C) "__init__"=some (some (.ref fi))) (fn:isFn K (.ref fi)=true) (l:K.lookup fi=some ⟨oc,od,.func (PySem.W.fnOf "__init__" qual (cw st) (bp st) (ao st) .none kV doc pm an cdv ct),osl⟩) (cc:codeIn K cdv qual=true) (kk:keepIn K (.ref fi)=true) :
  ∀(P:Program) (w:World) (base:Heap),oa P w K mg base x C f:=λP w base=>by
 obtain⟨p1,p2,p3,p4,hb,ab,sw⟩:=I.hb
 have F:=sR l cc kk
 exact⟨M,c,a,nof,fi,_,p,ini,fn,vf F I.S hb I.h1 I.h2 I.hd I.hcd ab sw,F.binds I.bd⟩
end
theorem iF {od:Option Addr} {cd:ClassData} {sl:Array (Option Value)} (_:K.In h) (_:mg x=some (.ref C)) (l:K.lookup C=some ⟨.type "type",od,.cls cd,sl⟩) (h2:cJ cd.mro=true) (h3:cd.hasDict=true)
  (sa:findIn K (.ref C) "__setattr__"=some (some (.builtin "object.__setattr__"))) (ga:findIn K (.ref C) "__getattribute__"=some (some (.builtin "BaseException.__getattribute__"))) (gx:findIn K (.ref C) "__getattr__"=some none)
  (ca:findIn K (.ref C) "__class__"=some (some (.builtin "object.__class__"))) (gs:specialIn K (.builtin "object.__class__") "__get__"=some (some (.builtin "getset_descriptor.__get__"))) (tk:takesIn K (.builtin "object.__class__")=some true)
  (ob:∃ nm q N bs bm hdct sn sub ab col dd k0 k1 k2 k3 k5,(⟨.type "type",od,.cls cd,sl⟩:Obj)=excClassObj nm q C N bs bm hdct sn sub ab col dd k0 k1 k2 k3 k5 j9/\bm.contains (.type "ValueError")=true/\bm.contains (.type "AttributeError")=false/\bm.contains (.type "NameError")=false) (kp:keepIn K (.ref C)=true):d7 K C/\wG K C :=
 ⟨wA l h2 h3 sa ga gx ca gs tk,y3 l ob kp⟩
end
end L2
namespace Pw
theorem jH (x n:Int):∀ k:Nat,(x%n)^k%n=x^k%n
 | 0=>by rw [Int.pow_zero,Int.pow_zero]
 | k+1=>by rw [Int.pow_succ,Int.pow_succ,Int.mul_emod,jH x n k,Int.emod_emod,<- Int.mul_emod]
theorem uz (b:Int):∀ k:Nat,(b*b)^k=b^(2*k)
 | 0=>by rw [Nat.mul_zero,Int.pow_zero,Int.pow_zero]
 | k+1=>by
  rw [Int.pow_succ,uz b k,Nat.mul_add,Nat.mul_one,Int.pow_succ,Int.pow_succ,Int.mul_assoc]
theorem qc (x y n:Int):x%n*y%n=x*y%n:=by rw [Int.mul_emod,Int.emod_emod,<- Int.mul_emod]
theorem xb {x x' y y' n:Int} (h:x%n=x'%n) (h':y%n=y'%n):x*y%n=x'*y'%n:=by rw [Int.mul_emod,h,h',<- Int.mul_emod]
theorem step (r b n:Int) (l:Nat):(if l%2=1 then r*b%n else r)*(b*b%n)^(l/2)%n=r*b^l%n:=by
 have e:(b*b%n)^(l/2)%n=b^(2*(l/2))%n:=by rw [jH,uz]
 by_cases c:l%2=1
 ·rw [if_pos c]
  have h:l=2*(l/2)+1:=by omega
  have e2:b^l=b^(2*(l/2))*b:=by rw [<- Int.pow_succ];exact congrArg _ h
  rw [xb (Int.emod_emod_of_dvd (r*b) (Int.dvd_refl n)) e,e2]
  congr 1
  rw [Int.mul_assoc,Int.mul_comm b]
 ·rw [if_neg c]
  have h:l=2*(l/2):=by omega
  rw [xb (rfl:r%n=r%n) e,<- h]
theorem pow_add (a:Int) (m:Nat):∀ k:Nat,a^(m+k)=a^m*a^k
 | 0=>by rw [Nat.add_zero,Int.pow_zero,Int.mul_one]
 | k+1=>by rw [<- Nat.add_assoc,Int.pow_succ,pow_add a m k,Int.pow_succ,Int.mul_assoc]
theorem mul_pow (a b:Int):∀ k:Nat,(a*b)^k=a^k*b^k
 | 0=>by rw [Int.pow_zero,Int.pow_zero,Int.pow_zero,Int.mul_one]
 | k+1=>by
  rw [Int.pow_succ,Int.pow_succ,Int.pow_succ,mul_pow a b k]
  grind
theorem pow_mul (a:Int) (m:Nat):∀ k:Nat,a^(m*k)=(a^m)^k
 | 0=>by rw [Nat.mul_zero,Int.pow_zero,Int.pow_zero]
 | k+1=>by rw [Nat.mul_add,Nat.mul_one,pow_add,pow_mul a m k,Int.pow_succ]
theorem one_pow:∀ k:Nat,(1:Int)^k=1
 | 0=>Int.pow_zero 1
 | k+1=>by rw [Int.pow_succ,one_pow k,Int.mul_one]
theorem xK {n x y:Int}:x%n=y%n↔n∣x-y:=by
 rw [Int.emod_eq_emod_iff_emod_sub_eq_zero,Int.dvd_iff_emod_eq_zero]
end Pw
namespace L2
open PySem PySem.Spec PyProof.Rows
end L2
namespace L2
open PySem PySem.Spec PyProof.Rows PySem.W
theorem Vals.rev:∀{xs:List V} {us:List Value},Vals xs us->Vals xs.reverse us.reverse
 | [],[],_=>.nil
 | x::xs,u::us,.cons r t=>by
  rw [List.reverse_cons,List.reverse_cons]
  exact (Vals.rev t).append (.cons r .nil)
def Bm (K:PySem.W.Frag) (te:TE) (tk:TO):TE:=λσ H Q=>te σ H λx H1=>tk σ H1 λo H2=>o=some (-1)/\∃ a xs,x=.ref a/\aV K H2 a xs/\∀ p,H2 p=none->Q (.ref p) (upd H2 p (.lst xs.reverse))
section
variable {X:Cx} {e k:Expr} {te:TE} {tk:TO} {p2 pos:Pos}
end
mutual
def dv (K:PySem.W.Frag) (H:Hp):PyData->V->Prop
 | .none,v=>v=.bw
 | .bool b,v=>v=.bl b
 | .int i,v=>v=.int i
 | .str x,v=>v=.str x
 | .list ds,v=>∃ p xs,v=.ref p/\aV K H p xs/\bh K H ds xs
 | .tuple ds,v=>∃ p xs,v=.ref p/\aJ K H p xs/\bh K H ds xs
 | .dict _,_=>False
def bh (K:PySem.W.Frag) (H:Hp):List PyData->List V->Prop
 | [],xs=>xs=[]
 | d::ds,xs=>∃ x r,xs=x::r/\dv K H d x/\bh K H ds r
end
section
variable {K:PySem.W.Frag} {H H':Hp}
theorem Rd.same {a:Addr} {o:HO} (h:Rd H a o) (s:aE H H'):Rd H' a o:=by
 rcases h with h | ⟨b,h⟩
 ·exact .inl (s _ _ h)
 ·exact .inr ⟨b,s _ _ h⟩
theorem aV.same {a:Addr} {xs:List V} (h:aV K H a xs) (s:aE H H'):aV K H' a xs:=h.imp (λz=>z.same s) id
theorem aJ.same {a:Addr} {xs:List V} (h:aJ K H a xs) (s:aE H H'):aJ K H' a xs:=h.imp (λz=>z.same s) id
mutual
theorem dv.same (s:aE H H'):∀(d:PyData) {v:V},dv K H d v->dv K H' d v
 | .none,_,h=>h
 | .bool _,_,h=>h
 | .int _,_,h=>h
 | .str _,_,h=>h
 | .list ds,_,⟨p,xs,e,h,t⟩=>⟨p,xs,e,h.same s,bh.same s ds t⟩
 | .tuple ds,_,⟨p,xs,e,h,t⟩=>⟨p,xs,e,h.same s,bh.same s ds t⟩
 | .dict _,_,h=>h.elim
theorem bh.same (s:aE H H'):∀(ds:List PyData) {xs:List V},bh K H ds xs->bh K H' ds xs
 | [],_,h=>h
 | d::ds,_,⟨x,r,e,h,t⟩=>⟨x,r,e,dv.same s d h,bh.same s ds t⟩
end
theorem bh.length:∀{ds:List PyData} {xs:List V},bh K H ds xs->xs.length=ds.length
 | [],_,h=>by cases h;rfl
 | d::ds,_,⟨x,r,e,h,t⟩=>by subst e;rw [List.length_cons,List.length_cons,bh.length t]
theorem bh.get:∀{ds:List PyData} {xs:List V},bh K H ds xs->∀{i:Nat} {x:V},xs[i]?=some x->∃ d,ds[i]?=some d/\dv K H d x
 | [],_,h,i,x,e=>by cases h;simp at e
 | d::ds,_,⟨y,r,ey,h,t⟩,0,x,e=>by subst ey;simp at e;subst e;exact⟨d,rfl,h⟩
 | d::ds,_,⟨y,r,ey,h,t⟩,i+1,x,e=>by subst ey;simp at e;simpa using bh.get t e
theorem bh.append:∀{ds es:List PyData} {xs ys:List V},bh K H ds xs->bh K H es ys->bh K H (ds++es) (xs++ys)
 | [],_,_,_,h,h'=>by cases h;exact h'
 | d::ds,_,_,_,⟨x,r,e,h,t⟩,h'=>by subst e;exact⟨x,_,rfl,h,t.append h'⟩
theorem bh.one {d:PyData} {x:V} (h:dv K H d x):bh K H [d] [x]:=⟨x,[],rfl,h,rfl⟩
theorem bh.ints:∀ ns:List Int,bh K H (ns.map PyData.int) (ns.map V.int)
 | []=>rfl
 | n::ns=>⟨_,_,rfl,rfl,bh.ints ns⟩
theorem dv.lst {p:Addr} {xs:List V} {ds:List PyData} (h:H p=some (.lst xs)) (t:bh K H ds xs):dv K H (.list ds) (.ref p):=⟨p,xs,rfl,aV.of h,t⟩
theorem dv.tup {p:Addr} {xs:List V} {ds:List PyData} (h:H p=some (.tup xs)) (t:bh K H ds xs):dv K H (.tuple ds) (.ref p):=⟨p,xs,rfl,aJ.of h,t⟩
mutual
def yf:PyData->Bool
 | .list _=>false
 | .tuple ds=>j6 ds
 | _=>true
def j6:List PyData->Bool
 | []=>true
 | d::ds=>yf d && j6 ds
end
def SameBut (p:Addr) (H H':Hp):Prop:=∀ b o,b≠p->H b=some o->H' b=some o
theorem aJ.but {p a:Addr} {us xs:List V} (hp:H p=some (.lst us)) (s:SameBut p H H') (h:aJ K H a xs):aJ K H' a xs:=by
 rcases h with (h | ⟨o,h⟩) | h
 ·exact .inl (.inl (s _ _ (λe=>by rw [e,hp] at h;cases h) h))
 ·exact .inl (.inr ⟨o,s _ _ (λe=>by rw [e,hp] at h;cases h) h⟩)
 ·exact .inr h
mutual
theorem dv.but {p:Addr} {us:List V} (hp:H p=some (.lst us)) (s:SameBut p H H'):∀(d:PyData) {v:V},yf d=true->dv K H d v->dv K H' d v
 | .none,_,_,h=>h
 | .bool _,_,_,h=>h
 | .int _,_,_,h=>h
 | .str _,_,_,h=>h
 | .list ds,_,z,_=>by cases z
 | .tuple ds,_,z,⟨q,xs,e,h,t⟩=>⟨q,xs,e,h.but hp s,bh.but hp s ds z t⟩
 | .dict _,_,_,h=>h.elim
theorem bh.but {p:Addr} {us:List V} (hp:H p=some (.lst us)) (s:SameBut p H H'):∀(ds:List PyData) {xs:List V},j6 ds=true->bh K H ds xs->bh K H' ds xs
 | [],_,_,h=>h
 | d::ds,_,z,⟨x,r,e,h,t⟩=>by
  have z':yf d=true/\j6 ds=true:=by simpa [j6] using z
  exact⟨x,r,e,dv.but hp s d z'.1 h,bh.but hp s ds z'.2 t⟩
end
theorem mY {α:Type} {f:α->PyData} (h:∀ x,yf (f x)=true):∀ xs:List α,j6 (xs.map f)=true
 | []=>rfl
 | x::xs=>by rw [List.map_cons,j6,h,mY h xs];rfl
end
section
variable {X:Cx} {pins:List (Addr × Obj)} {σ:St} {H:Hp} {s:Shared}
mutual
theorem fK (I:Inv X pins σ H s):∀(d:PyData) {v:V} {u:Value},dv X.K H d v->RelV v u->∃ as,Reads s.heap u d as
 | .none,_,u,h,r=>by cases h;cases r;exact⟨_,.none⟩
 | .bool _,_,u,h,r=>by cases h;cases r;exact⟨_,.bool _⟩
 | .int _,_,u,h,r=>by cases h;obtain⟨t,rfl⟩:=r;exact⟨_,.int _ _⟩
 | .str _,_,u,h,r=>by cases h;obtain⟨t,rfl⟩:=r;exact⟨_,.str _ _⟩
 | .list ds,_,u,⟨p,xs,e,h,t⟩,r=>by
  subst e
  cases r
  obtain⟨its,rr,pl,_⟩:=I.list h
  obtain⟨o,h1,h2,n,h3⟩:=pl.isList
  obtain⟨as,ra⟩:=fJ I ds t rr
  exact⟨_,.list h1 h2 h3 (by simpa using ra)⟩
 | .tuple ds,_,u,⟨p,xs,e,h,t⟩,r=>by
  subst e
  cases r
  obtain⟨its,rr,pl,_⟩:=I.tuple h
  obtain⟨o,h1,h2,n,h3⟩:=pl
  obtain⟨as,ra⟩:=fJ I ds t rr
  exact⟨_,.tuple h1 h2 h3 (by simpa using ra)⟩
 | .dict _,_,_,h,_=>h.elim
theorem fJ (I:Inv X pins σ H s):∀(ds:List PyData) {xs:List V} {us:List Value},bh X.K H ds xs->Vals xs us->∃ as,ReadsAll s.heap us ds as
 | [],_,us,h,r=>by cases h;cases r;exact⟨_,.nil⟩
 | d::ds,_,us,⟨x,r,e,h,t⟩,rr=>by
  subst e
  cases rr with
  | cons r1 r2 =>
   obtain⟨a1,q1⟩:=fK I d h r1
   obtain⟨a2,q2⟩:=fJ I ds t r2
   exact⟨_,.cons q1 q2⟩
end
def yE (K:PySem.W.Frag) (neg:Bool):R2:=λy x H Q=>∃ d e,dv K H d y/\dv K H e x/\d.canLay0=true/\e.canLay0=true/\min d.depth e.depth<=60/\Q (.bl (if neg then !PyData.eqv d e else PyData.eqv d e)) H
theorem lO (hu:X.A.units+64<cLine):gv X (compareOp .Eq) (yE X.K false):=by
 intro pins s σ H y x u v Q I ry rx h
 obtain⟨d,e,hd,he,c1,c2,c3,q⟩:=h
 obtain⟨as,ra⟩:=fK I d hd ry
 obtain⟨bs,rb⟩:=fK I e he rx
 exact SeqAt.compareEq_reads ra rb c1 c2 (by omega) ⟨.bl _,H,I,rfl,q⟩
theorem yr (hu:X.A.units+64<cLine):gv X (compareOp .NotEq) (yE X.K true):=by
 intro pins s σ H y x u v Q I ry rx h
 obtain⟨d,e,hd,he,c1,c2,c3,q⟩:=h
 obtain⟨as,ra⟩:=fK I d hd ry
 obtain⟨bs,rb⟩:=fK I e he rx
 exact SeqAt.compareNe_reads ra rb c1 c2 (by omega) ⟨.bl _,H,I,rfl,q⟩
end
end L2
namespace Pw
def lst (xs:List Nat):Nat:=xs.getLast?.getD 0
end Pw
namespace L2
open PySem PySem.Spec PyProof.Rows PySem.W
def AD (C:Addr) (H:Hp) (E:XK):Prop:=∀ x H',aE H H'->H x=none->H' x=some (XO x C none)->E (.ref C) (some x) H'
def AE (C:Addr) (f:Str) (v:V) (H:Hp) (E:XK):Prop:=∀ x dx H',aE H H'->H x=none->H' x=some (XO x C (some dx))->H' dx=some (.xd [(f,v)])->E (.ref C) (some x) H'
theorem ky {K:PySem.W.Frag} {C x:Addr} {H H1:Hp} {E:XK} (c:d7 K C) (hs:aE H H1) (hx:H1 x=none) (e:AD C H E) :
  ∃(C':Addr) (dd:Option Addr),upd H1 x (XN x C none) x=some (XN x C' dd)/\d7 K C'/\H x=none/\E (.ref C') (some x) (upd (upd H1 x (XN x C none)) x (XO x C' dd)):=by
 refine⟨C,none,af,c,hs.free hx,e x _ ?_ (hs.free hx) af⟩
 intro b o q
 have q1:=hs _ _ q
 have bx:b≠x:=λy=>by rw [y,hx] at q1;cases q1
 rw [av bx,av bx]
 exact q1
theorem kz {K:PySem.W.Frag} {C x dx:Addr} {f:Str} {v:V} {H H1:Hp} {E:XK} (c:d7 K C) (hs:aE H H1) (hx:H1 x=none) (hdx:H1 dx=none) (ne:dx≠x) (e:AE C f v H E) :
  ∃(C':Addr) (dd:Option Addr),upd (upd (upd H1 x (XN x C none)) dx (.xd [(f,v)])) x (XN x C (some dx)) x=some (XN x C' dd)/\d7 K C'/\H x=none/\E (.ref C') (some x) (upd (upd (upd (upd H1 x (XN x C none)) dx (.xd [(f,v)])) x (XN x C (some dx))) x (XO x C' dd)):=by
 refine⟨C,some dx,af,c,hs.free hx,e x dx _ ?_ (hs.free hx) af ?_⟩
 ·intro b o q
  have q1:=hs _ _ q
  have bx:b≠x:=λy=>by rw [y,hx] at q1;cases q1
  have bd:b≠dx:=λy=>by rw [y,hdx] at q1;cases q1
  rw [av bx,av bx,av bd,av bx]
  exact q1
 ·rw [av ne,av ne,af]
end L2
namespace Ld
structure eO (n r:Int):Prop where
 two:2<=r
 dv:r∣n
 no:∀ d:Int,2<=d->d<r->¬d∣n
theorem eO.one {n r r':Int} (h:eO n r) (h':eO n r'):r=r':=by
 rcases Int.lt_trichotomy r r' with c | c | c
 ·exact absurd h.dv (h'.no r h.two c)
 ·exact c
 ·exact absurd h'.dv (h.no r' h'.two c)
theorem eO.le {n r:Int} (h:eO n r) (hn:0<n):r<=n:=Int.le_of_dvd hn h.dv
structure Inv (n k:Int):Prop where
 two:2<=k
 odd:k=2∨k%2=1
 no:∀ d:Int,2<=d->d<k->¬d∣n
theorem Inv.step {n k:Int} (h:Inv n k) (hk:¬k∣n):Inv n (k+if k=2 then 1 else 2):=by
 have h2:=h.two
 by_cases c:k=2
 ·rw [if_pos c]
  refine⟨by omega,.inr (by omega),λd d0 d1=>?_⟩
  have:d=k:=by omega
  rw [this];exact hk
 ·rw [if_neg c]
  have ho:k%2=1:=by rcases h.odd with z | z;exact absurd z c;exact z
  refine⟨by omega,.inr (by omega),λd d0 d1 hd=>?_⟩
  rcases (by omega:d<k∨d=k∨d=k+1) with z | z | z
  ·exact h.no d d0 z hd
  ·subst z;exact hk hd
  ·have e2:(2:Int)∣d:=Int.dvd_of_emod_eq_zero (by omega)
   exact h.no 2 (by omega) (by omega) (Int.dvd_trans e2 hd)
theorem Inv.found {n k:Int} (h:Inv n k) (hk:k∣n):eO n k:=⟨h.two,hk,h.no⟩
theorem Inv.done {n k:Int} (h:Inv n k) (hn:2<=n) (hk:n<k*k):eO n n:=by
 refine⟨hn,Int.dvd_refl n,λd d0 d1 hd=>?_⟩
 obtain⟨c,hc⟩:=hd
 have h2:=h.two
 by_cases z:d<k
 ·exact h.no d d0 z ⟨c,hc⟩
 ·have c0:0<c:=by
   rcases (by omega:c<=0∨0<c) with y | y
   ·have:=Int.mul_nonpos_of_nonneg_of_nonpos (show 0<=d by omega) y
    omega
   ·exact y
  have c2:2<=c:=by
   rcases (by omega:c=1∨2<=c) with y | y
   ·subst y;omega
   ·exact y
  have ck:c<k:=by
   rcases (by omega:c<k∨k<=c) with y | y
   ·exact y
   ·have:=Int.mul_le_mul (show k<=d by omega) y (by omega) (by omega)
    omega
  exact h.no c c2 ck ⟨d,by rw [Int.mul_comm];exact hc⟩
end Ld
namespace L2
open PySem PySem.Spec PyProof.Rows PySem.W
section
variable {K:PySem.W.Frag} {H:Hp}
mutual
theorem eqv_refl:∀ d:PyData,d.canLay0=true->PyData.eqv d d=true
 | .none,_=>by simp [PyData.eqv]
 | .bool _,_=>by simp [PyData.eqv]
 | .int _,_=>by simp [PyData.eqv]
 | .str _,_=>by simp [PyData.eqv]
 | .list ds,h=>by simpa [PyData.eqv] using iI ds h
 | .tuple ds,h=>by simpa [PyData.eqv] using iI ds h
 | .dict _,h=>by simp [PyData.canLay0] at h
theorem iI:∀ ds:List PyData,PyData.canLayAll0 ds=true->PyData.eqvAll ds ds=true
 | [],_=>by simp [PyData.eqvAll]
 | d::ds,h=>by
  have h':d.canLay0=true/\PyData.canLayAll0 ds=true:=by simpa [PyData.canLayAll0] using h
  simp [PyData.eqvAll,eqv_refl d h'.1,iI ds h'.2]
end
end
end L2
namespace L2
open PySem PySem.Spec PyProof.Rows
def AI (lo k:Int) (n:Nat):It:=⟨λi _=>i<n,λi H x H'=>H'=H/\x=.int (lo+i*k),λi _=>n<=i⟩
def zN (lo hi k:Int):Nat:=if lo<hi then ((hi-lo-1)/k+1).toNat else 0
def zH (ta:TA):TI:=λσ H R=>ta σ H λvs H1=>∃ i j k:Int,vs=[.int i,.int j,.int k]/\(-(2^60)<=i/\i<2^60 /\ -(2^60)<=j/\j<2^60/\0<k/\k<2^29)/\R (AI i k (zN i j k)) H1
section
variable {X:Cx} {tg:Expr}
end
end L2
namespace Sv
def yQ (d:Nat) (arr:Nat->Bool):Nat->Bool:=λj=>arr j || (decide (d*d<=j) && decide (j%d=0))
def sv:Nat->(Nat->Bool) × List Nat
 | 0=>(λ_=>false,[])
 | i+1=>if (sv i).1 (i+2) then sv i else (yQ (i+2) (sv i).1,(sv i).2++[i+2])
theorem len:∀ i,(sv i).2.length<=i
 | 0=>Nat.le_refl _
 | i+1=>by
  have:=len i
  rw [sv]
  split
  ·omega
  ·rw [List.length_append,List.length_singleton];omega
end Sv
namespace L2
open PySem PySem.Spec PyProof.Rows
theorem qP {X:Cx}:fF X (.type "int") (λxs H Q=>∃ k,xs=[.bl k]/\Q (.int (if k=true then 1 else 0)) H):=λpins s σ H xs us Q I r h=>kn pins s σ H xs us Q I r (.inr h)
section
variable {X:Cx} {pins:List (Addr × Obj)} {σ:St} {H:Hp} {s:Shared} {h':Heap}
theorem Inv.qK {t':Nat} {ch:List Addr} (I:Inv X pins σ H s) (k:∀ b o,b∉ch->s.heap.get? b=some o->h'.get? b=some o) (hf:∀ b∈ch,kW X pins H b):Inv X pins σ H { s with heap:=h',toks:=t' }:=by
 have nit:∀ b u,H b=some u->b∉ch:=λb u e z=>by rw [(hf b z).1] at e;cases e
 refine I.step (g':=s.gens) (d':=s.drawn) (ch:=ch) (λb hb=>?_) (λb o _ _ hc e _=>k b o hc e) (λb o _ _ hc e _=>⟨o.slots,k b o hc e⟩) (λ_ _ _ _ n=>n)
  (λb o hc e=>⟨o,k b o hc e⟩) (λ_ _ e=>e) (λ_ _ _ e=>e) (λb ps e=>⟨#[],by rw [e];simp⟩) (λm hm=>?_) (λb u e=>?_) I.bare
 ·obtain⟨_,f1,_,f3,f4,f5⟩:=hf b hb
  exact⟨f3,f1,f4,f5⟩
 ·obtain⟨o,es,ep,ho,r⟩:=hm
  exact⟨o,es,ep,k _ o (λz=>(hf _ z).2.1 rfl) ho,r⟩
 ·refine (I.hok b u e).jV (λc v hc q=>k c v ?_ q) (λ_ q=>q) λ_ _ q=>q
  rcases hc with z | z
  ·rw [z];exact nit b u e
  ·exact nit c _ z
theorem Inv.adopt {T:Addr} {o:HO} (I:Inv X pins σ H s) (hf:kW X pins H T) (new:bK X.prog X.w (upd H T o) s.heap T o):Inv X pins σ (upd H T o) s:=by
 have nT:∀ b u,H b=some u->b≠T:=λb u e z=>by rw [z,hf.1] at e;cases e
 refine I.step (h':=s.heap) (g':=s.gens) (d':=s.drawn) (t':=s.toks) (ch:=[T]) (λb hb=>?_) (λb o _ _ hc e _=>e) (λb o _ _ hc e _=>⟨o.slots,e⟩) (λb o hc e n=>by rw [av (λz=>hc (by simp [z]))];exact n)
  (λb o hc e=>⟨o,e⟩) (λb xs e=>by rw [av (nT _ _ e)];exact e) (λb o u e=>by rw [av (nT _ _ e)];exact e) (λb ps e=>⟨#[],by rw [av (nT _ _ e),e];simp⟩) (λm hm=>hm) (λb u e=>?_) I.bare
 ·have e:b=T:=by simpa using hb
  subst e
  obtain⟨_,f1,_,f3,f4,f5⟩:=hf
  exact⟨f3,f1,f4,f5⟩
 ·by_cases z:b=T
  ·subst z
   rw [af] at e
   cases e
   exact new
  ·rw [av z] at e
   exact (I.hok b u e).jV (λc v _ q=>q) (λc q=>by rw [av (nT _ _ q)];exact q) λc xs q=>by rw [av (nT _ _ q)];exact q
end
def BJ (K:PySem.W.Frag) (a:Addr):It :=
 ⟨λi H=>∃ xs x,aV K H a xs/\xs[i]?=some x,λi H x H'=>∃ p v,H p=none/\x=.ref p/\(∀ xs,aV K H a xs->xs[i]?=some v)/\H'=upd H p (.tup [.int i,v]),λi H=>∃ xs,aV K H a xs/\xs.length<=i⟩
def zF (K:PySem.W.Frag) (ta:TA):TI:=λσ H R=>ta σ H λvs H1=>∃ a,vs=[.ref a]/\(∃ xs,aV K H1 a xs)/\R (BJ K a) H1
end L2
namespace Crt
structure G (a b g:Int):Prop where
 pos:0<g
 da:g∣a
 db:g∣b
 lin:∃ u v:Int,u*a+v*b=g
theorem G.gr {a b g d:Int} (h:G a b g) (h1:d∣a) (h2:d∣b):d∣g:=by
 obtain⟨u,v,e⟩:=h.lin
 rw [<- e]
 exact Int.dvd_add (Int.dvd_mul_of_dvd_right h1) (Int.dvd_mul_of_dvd_right h2)
theorem G.one {a b g g':Int} (h:G a b g) (h':G a b g'):g=g':=Int.le_antisymm (Int.le_of_dvd h'.pos (h'.gr h.da h.db)) (Int.le_of_dvd h.pos (h.gr h'.da h'.db))
theorem a1 {g u A v L:Int} (e:u*(g*A)+v*(g*L)=g):g*(u*A+v*L)=g*1:=by grind
theorem a2 {g A k L l y:Int} (h1:y=g*A*k) (h2:y=g*L*l):g*(A*k)=g*(L*l):=by grind
theorem a3 {u A v L k l:Int} (e4:u*A+v*L=1) (e5:A*k=L*l):k=L*(u*l+v*k):=by
 have z:k*(u*A+v*L)=k:=by rw [e4,Int.mul_one]
 grind
theorem a4 {A D r L q1 t:Int} (et:L*q1+t=D*r):A*t=A*(D*r)-A*(L*q1):=by grind
theorem a5 {D r A L c:Int} (hc:r*A-1=L*c):D*(r*A)-D=D*(L*c):=by rw [<- hc];grind
theorem a6 {M L t q2 N x:Int} (ex:M*L*q2+x=N+M*t):x-N=M*(t-L*q2):=by grind
theorem a7 {g A L t q1 q2 c D r N x:Int} (z3:x=N+g*A*t-g*A*L*q2) (z1:A*t=A*(D*r)-A*(L*q1)) (z2:D*(r*A)-D=D*(L*c)):x-(N+g*D)=g*L*(c*D-q1*A-A*q2):=by grind
theorem a8 {M L k w:Int} (h:k=L*w):M*k=M*L*w:=by rw [h,Int.mul_assoc]
structure BG (M N m n W x:Int):Prop where
 pos:0<W
 dM:M∣W
 dm:m∣W
 le:∀ y:Int,M∣y->m∣y->W∣y
 x0:0<=x
 x1:x<W
 eM:M∣x-N
 em:m∣x-n
theorem AF:∀(b a:Nat),0<a->∃ g,G (a:Int) (b:Int) g:=by
 intro b
 induction b using Nat.strongRecOn with
 | ind b ih =>
  intro a ha
  rcases Nat.eq_zero_or_pos b with z | z
  ·subst z
   exact⟨a,by omega,Int.dvd_refl _,Int.dvd_zero _,1,0,by simp⟩
  ·obtain⟨g,h⟩:=ih (a%b) (Nat.mod_lt a z) b z
   obtain⟨u,v,e⟩:=h.lin
   have ed:(a:Int)=(b:Int)*((a/b:Nat):Int)+((a%b:Nat):Int):=by
    have:=Nat.div_add_mod a b
    rw [<- Int.natCast_mul,<- Int.natCast_add,this]
   refine⟨g,h.pos,?_,h.da,v,u-v*((a/b:Nat):Int),?_⟩
   ·rw [ed]
    exact Int.dvd_add (Int.dvd_mul_of_dvd_left h.da) h.db
   ·rw [ed,<- e]
    generalize ((a/b:Nat):Int)=q
    generalize ((a%b:Nat):Int)=r
    generalize (b:Int)=b'
    grind
theorem zj {a b:Int} (ha:0<a) (hb:0<b):∃ g,G a b g:=by
 obtain⟨g,h⟩:=AF b.toNat a.toNat (by omega)
 rw [Int.toNat_of_nonneg (by omega),Int.toNat_of_nonneg (by omega)] at h
 exact⟨g,h⟩
structure Told (ps:List (Int × Int)) (M N:Int):Prop where
 pos:0<M
 x0:0<=N
 x1:N<M
 dv:∀ p∈ps,p.1∣M
 le:∀ y:Int,(∀ p∈ps,p.1∣y)->M∣y
 al:∀ p∈ps,p.1∣N-p.2
theorem Told.nil:Told [] 1 0:=⟨by decide,by decide,by decide,λ_ h=>by simp at h,λy _=>⟨y,by omega⟩,λ_ h=>by simp at h⟩
theorem Told.one {ps:List (Int × Int)} {M N M' N':Int} (h:Told ps M N) (h':Told ps M' N'):M=M'/\N=N':=by
 have e:M=M':=Int.le_antisymm (Int.le_of_dvd h'.pos (h.le _ h'.dv)) (Int.le_of_dvd h.pos (h'.le _ h.dv))
 subst e
 refine⟨rfl,?_⟩
 have z:M∣N-N':=h.le _ λp hp=>by
  have:=Int.dvd_sub (h.al p hp) (h'.al p hp)
  rwa [show N-p.2-(N' - p.2)=N-N' by omega] at this
 have w:=Int.emod_emod_of_dvd
 have:=(Int.emod_eq_emod_iff_emod_sub_eq_zero (m:=N) (n:=M) (k:=N')).mpr (Int.emod_eq_zero_of_dvd z)
 rwa [Int.emod_eq_of_lt h.x0 h.x1,Int.emod_eq_of_lt h'.x0 h'.x1] at this
end Crt
namespace Num
def Al (n x y:Int):Prop:=n∣x-y
theorem Al.refl (n x:Int):Al n x x:=⟨0,by omega⟩
theorem Al.symm {n x y:Int} (h:Al n x y):Al n y x:=by
 have:=(Int.dvd_neg).mpr h
 rwa [show -(x-y)=y-x by omega] at this
theorem Al.trans {n x y z:Int} (h:Al n x y) (h':Al n y z):Al n x z:=by
 have:=Int.dvd_add h h'
 rwa [show x-y+(y-z)=x-z by omega] at this
theorem Al.mul {n x y u v:Int} (h:Al n x y) (h':Al n u v):Al n (x*u) (y*v):=by
 have h1:n∣(x-y)*u:=Int.dvd_mul_of_dvd_left h
 have h2:n∣y*(u-v):=Int.dvd_mul_of_dvd_right h'
 have:=Int.dvd_add h1 h2
 rwa [show (x-y)*u+y*(u-v)=x*u-y*v by rw [Int.sub_mul,Int.mul_sub];omega] at this
theorem Al.pow {n x y:Int} (h:Al n x y):∀ k:Nat,Al n (x^k) (y^k)
 | 0=>by rw [Int.pow_zero,Int.pow_zero];exact Al.refl _ _
 | k+1=>by rw [Int.pow_succ,Int.pow_succ];exact (Al.pow h k).mul h
theorem Al.iff {n x y:Int}:Al n x y↔x%n=y%n:=Pw.xK.symm
theorem Al.rest (n x:Int):Al n (x%n) x:=Al.iff.mpr (Int.emod_emod_of_dvd x (Int.dvd_refl n))
def Co (a n:Int):Prop:=∃ u v:Int,u*a+v*n=1
theorem Co.dvd {a n b:Int} (h:Co a n) (hd:n∣a*b):n∣b:=by
 obtain⟨u,v,e⟩:=h
 have h1:n∣u*(a*b):=Int.dvd_mul_of_dvd_right hd
 have h2:n∣(v*b)*n:=⟨v*b,Int.mul_comm _ _⟩
 have:=Int.dvd_add h1 h2
 have e2:u*(a*b)+v*b*n=(u*a+v*n)*b:=by
  rw [Int.add_mul,Int.mul_assoc u a b,Int.mul_assoc v n b,Int.mul_comm n b,Int.mul_assoc v b n]
 rw [e2,e,Int.one_mul] at this
 exact this
theorem Co.cancel {a n x y:Int} (h:Co a n) (e:Al n (a*x) (a*y)):Al n x y:=by
 refine h.dvd ?_
 rw [Int.mul_sub]
 exact e
theorem Co.mul {a b n:Int} (h:Co a n) (h':Co b n):Co (a*b) n:=by
 obtain⟨u,v,e⟩:=h
 obtain⟨u',v',e'⟩:=h'
 refine⟨u*u',u*a*v'+v*(u'*b+v'*n),?_⟩
 have:(u*a+v*n)*(u'*b+v'*n)=1:=by rw [e,e'];rfl
 grind
theorem Co.pow {a n:Int} (h:Co a n):∀ k:Nat,Co (a^k) n
 | 0=>⟨1,0,by rw [Int.pow_zero];simp⟩
 | k+1=>by rw [Int.pow_succ];exact (Co.pow h k).mul h
theorem Co.zO {a b n:Int} (h:Co a n) (e:Al n a b):Co b n:=by
 obtain⟨u,v,e1⟩:=h
 obtain⟨c,hc⟩:=e
 refine⟨u,v+u*c,?_⟩
 have:b=a-n*c:=by omega
 rw [this]
 grind
theorem bD {n a:Int} {d k:Nat} (h:Al n (a^d) 1):Al n (a^(d*k)) 1:=by
 rw [Pw.pow_mul]
 have:=h.pow k
 rwa [Pw.one_pow] at this
structure Ord (n a:Int) (m:Nat):Prop where
 pos:0<m
 one:Al n (a^m) 1
 dv:∀ j:Nat,Al n (a^j) 1->m∣j
theorem pow_mod {n a:Int} {m j:Nat} (h:Al n (a^m) 1) (hj:Al n (a^j) 1):Al n (a^(j%m)) 1:=by
 have e:a^j=a^(m*(j/m))*a^(j%m):=by rw [<- Pw.pow_add,Nat.div_add_mod]
 rw [e] at hj
 have h1:=(bD (k:=j/m) h).mul (Al.refl n (a^(j%m)))
 rw [Int.one_mul] at h1
 exact h1.symm.trans hj
theorem lS {n a:Int} {m:Nat} (pos:0<m) (one:Al n (a^m) 1) (no:∀ j,0<j->j<m->¬Al n (a^j) 1):Ord n a m:=by
 refine⟨pos,one,λj hj=>?_⟩
 have h:=pow_mod one hj
 rcases Nat.eq_zero_or_pos (j%m) with z | z
 ·exact Nat.dvd_of_mod_eq_zero z
 ·exact absurd h (no _ z (Nat.mod_lt _ pos))
theorem eU {P:Nat->Prop}:∀ N:Nat,P N->∃ m,P m/\∀ j,j<m->¬P j:=by
 intro N
 induction N using Nat.strongRecOn with
 | ind N ih =>
  intro h
  by_cases z:∃ j,j<N/\P j
  ·obtain⟨j,hj,pj⟩:=z
   exact ih j hj pj
  ·exact⟨N,h,λj hj pj=>z ⟨j,hj,pj⟩⟩
theorem jE {n a:Int} {N:Nat} (pos:0<N) (h:Al n (a^N) 1):∃ m,Ord n a m/\m<=N:=by
 obtain⟨m,⟨m0,m1⟩,no⟩:=eU (P:=λj=>0<j/\Al n (a^j) 1) N ⟨pos,h⟩
 refine⟨m,lS m0 m1 λj j0 jm z=>no j jm ⟨j0,z⟩,?_⟩
 by_cases z:m<=N
 ·exact z
 ·exact absurd ⟨pos,h⟩ (no N (by omega))
theorem Ord.lM {n a:Int} {m m':Nat} (h:Ord n a m) (h':Ord n a m'):m=m':=Nat.dvd_antisymm (h.dv _ h'.one) (h'.dv _ h.one)
theorem Ord.inj {n a:Int} {m i j:Nat} (h:Ord n a m) (c:Co a n) (hi:i<m) (hj:j<m) (e:Al n (a^i) (a^j)):i=j:=by
 have aux:∀ i j:Nat,i<m->j<m->i<=j->Al n (a^i) (a^j)->i=j:=by
  intro i j hi hj hij e
  have e1:a^j=a^i*a^(j-i):=by rw [<- Pw.pow_add];congr 1;omega
  rw [e1] at e
  have e2:Al n (a^i*1) (a^i*a^(j-i)):=by rw [Int.mul_one];exact e
  have e3:=(c.pow i).cancel e2
  have:=h.dv _ e3.symm
  rcases Nat.eq_zero_or_pos (j-i) with z | z
  ·omega
  ·have:=Nat.le_of_dvd z this
   omega
 rcases Nat.le_total i j with z | z
 ·exact aux i j hi hj z e
 ·exact (aux j i hj hi z e.symm).symm
theorem tY:∀(n:Nat) (l:List Nat),l.Nodup->(∀ x∈l,x<n)->l.length<=n:=by
 intro n
 induction n with
 | zero =>
  intro l _ h
  cases l with
  | nil=>exact Nat.le_refl _
  | cons x r=>exact absurd (h x (by simp)) (by omega)
 | succ n ih =>
  intro l nd h
  by_cases c:n∈l
  ·have h1:=ih (l.erase n) (nd.erase n) λx hx=>by
    have hx':=List.mem_of_mem_erase hx
    have ne:x≠n:=λz=>by
     subst z
     exact absurd hx (List.Nodup.not_mem_erase nd)
    have:=h x hx'
    omega
   rw [List.length_erase_of_mem c] at h1
   omega
  ·have h1:=ih l nd λx hx=>by
    have:=h x hx
    have ne:x≠n:=λz=>c (z▸hx)
    omega
   omega
end Num
namespace Num
structure Pm (p:Int):Prop where
 two:2<=p
 no:∀ d:Int,2<=d->d<p->¬d∣p
theorem Pm.co {p a:Int} (h:Pm p) (ha:¬p∣a):Co a p:=by
 have h2:=h.two
 have r0:=Int.emod_nonneg a (show p≠0 by omega)
 have r1:=Int.emod_lt_of_pos a (show 0<p by omega)
 have rn:a%p≠0:=λz=>ha (Int.dvd_of_emod_eq_zero z)
 obtain⟨g,G⟩:=Crt.zj (a:=a%p) (b:=p) (by omega) (by omega)
 have gl:=Int.le_of_dvd (show 0<a%p by omega) G.da
 have g1:g=1:=by
  have g0:=G.pos
  rcases (by omega:g=1∨2<=g) with z | z
  ·exact z
  ·exact absurd G.db (h.no g z (by omega))
 obtain⟨u,v,e⟩:=G.lin
 rw [g1] at e
 exact Co.zO ⟨u,v,e⟩ (Al.rest p a)
theorem Pm.or {p a b:Int} (h:Pm p) (hd:p∣a*b) (ha:¬p∣a):p∣b:=(h.co ha).dvd hd
theorem Pm.qg {p:Int} (h:Pm p):¬Al p 0 1:=λz=>by
 have h2:=h.two
 have z':p∣0-1:=z
 have z2:=(Int.dvd_neg).mpr z'
 rw [show -((0:Int)-1)=1 by decide] at z2
 have:=Int.le_of_dvd (show (0:Int)<1 by decide) z2
 omega
def H:Int->List Int->Int->Int
 | acc,[],_=>acc
 | acc,c::cs,x=>H (acc*x+c) cs x
theorem rX (x:Int):∀(cs:List Int) (a b:Int),H (a+b) cs x=H a cs x+b*x^cs.length
 | [],a,b=>by rw [List.length_nil,Int.pow_zero,Int.mul_one];rfl
 | c::cs,a,b=>by
  show H ((a+b)*x+c) cs x=H (a*x+c) cs x+b*x^(cs.length+1)
  rw [show (a+b)*x+c=(a*x+c)+b*x by rw [Int.add_mul];omega,rX x cs,Int.pow_succ,Int.mul_assoc,Int.mul_comm x]
def vY (r:Int):Int->List Int->List Int
 | _,[]=>[]
 | _,[_]=>[]
 | c0,c::c'::cs=>(c0*r+c)::vY r (c0*r+c) (c'::cs)
theorem lZ (r:Int):∀(cs:List Int) (c0:Int),(vY r c0 cs).length=cs.length-1
 | [],_=>rfl
 | [_],_=>rfl
 | c::c'::cs,c0=>by
  show (vY r (c0*r+c) (c'::cs)).length+1=_
  rw [lZ r (c'::cs)]
  simp
theorem factor (x r:Int):∀(cs:List Int) (c0:Int),cs≠[]->H c0 cs x-H c0 cs r=(x-r)*H c0 (vY r c0 cs) x
 | [],_,h=>absurd rfl h
 | [c],c0,_=>by
  show c0*x+c-(c0*r+c)=(x-r)*c0
  rw [Int.sub_mul,Int.mul_comm c0 x,Int.mul_comm c0 r]
  omega
 | c::c'::cs,c0,_=>by
  have ih:=factor x r (c'::cs) (c0*r+c) (by simp)
  show H (c0*x+c) (c'::cs) x-H (c0*r+c) (c'::cs) r=(x-r)*H (c0*x+(c0*r+c)) (vY r (c0*r+c) (c'::cs)) x
  have e1:c0*x+c=(c0*r+c)+c0*(x-r):=by rw [Int.mul_sub];omega
  have e2:H (c0*x+(c0*r+c)) (vY r (c0*r+c) (c'::cs)) x=H (c0*r+c) (vY r (c0*r+c) (c'::cs)) x+c0*x*x^cs.length:=by
   rw [Int.add_comm (c0*x),rX,lZ]
   simp
  rw [e1,rX,e2,List.length_cons,Int.pow_succ,Int.mul_add,<- ih]
  generalize H (c0*r+c) (c'::cs) x=A
  generalize H (c0*r+c) (c'::cs) r=B
  generalize x^cs.length=Y
  grind
theorem roots {p:Int} (hp:Pm p):∀(n:Nat) (cs:List Int) (c0:Int),cs.length=n->¬p∣c0->∀ rs:List Int,rs.Pairwise (λa b=>¬Al p a b)->(∀ r∈rs,p∣H c0 cs r)->rs.length<=n:=by
 intro n
 induction n with
 | zero =>
  intro cs c0 hl h0 rs hr hz
  have:cs=[]:=List.eq_nil_of_length_eq_zero hl
  subst this
  cases rs with
  | nil=>exact Nat.le_refl _
  | cons r rs=>exact absurd (hz r (by simp)) h0
 | succ n ih =>
  intro cs c0 hl h0 rs hr hz
  cases rs with
  | nil=>exact Nat.zero_le _
  | cons r rs =>
   have hne:cs≠[]:=λz=>by rw [z] at hl;simp at hl
   obtain⟨h1,h2⟩:=List.pairwise_cons.mp hr
   have:=ih (vY r c0 cs) c0 (by rw [lZ,hl];rfl) h0 rs h2 λs hs=>by
    have e:=factor s r cs c0 hne
    have d1:=hz s (List.mem_cons_of_mem _ hs)
    have d2:=hz r (by simp)
    have d3:=Int.dvd_sub d1 d2
    rw [e] at d3
    exact hp.or d3 λz=>h1 s hs (Al.symm z)
   simpa using this
theorem rY (x:Int):∀(n:Nat) (a:Int),H a (List.replicate n 0++[-1]) x=a*x^(n+1)-1
 | 0,a=>by
  show a*x + -1=_
  rw [Int.pow_succ,Int.pow_zero,Int.one_mul];omega
 | n+1,a=>by
  show H (a*x+0) (List.replicate n 0++[-1]) x=_
  rw [rY x n,Int.add_zero,Int.pow_succ x (n+1),Int.mul_comm (x^(n+1)) x,Int.mul_assoc]
theorem uY {p:Int} (hp:Pm p) {n:Nat} (hn:0<n) (h:∀ a:Int,¬p∣a->Al p (a^n) 1):p-1<=n:=by
 have h2:=hp.two
 obtain⟨m,rfl⟩:∃ m,n=m+1:=⟨n-1,by omega⟩
 have key:=roots hp (m+1) (List.replicate m 0++[-1]) 1 (by simp) (λz=>by have:=Int.le_of_dvd (by decide) z;omega) ((List.range (p-1).toNat).map λi:Nat=>(i:Int)+1) ?_ ?_
 ·rw [List.length_map,List.length_range] at key
  omega
 ·rw [List.pairwise_map]
  refine List.Pairwise.imp_of_mem (R:=(·<·)) (λ{a b} ha hb hab z=>?_) List.pairwise_lt_range
  have hb':=List.mem_range.mp hb
  have:=Int.le_of_dvd (by omega) (Al.symm z)
  omega
 ·intro r hr
  obtain⟨i,hi,rfl⟩:=List.mem_map.mp hr
  have hi':=List.mem_range.mp hi
  rw [rY,Int.one_mul]
  exact h _ λz=>by have:=Int.le_of_dvd (by omega) z;omega
theorem kE {f:Nat->Nat} {n:Nat} (h:∀ i j,i<j->j<n->f i≠f j):((List.range n).map f).Nodup:=by
 show List.Pairwise _ _
 rw [List.pairwise_map]
 exact List.Pairwise.imp_of_mem (R:=(·<·)) (λ{a b} ha hb hab=>h a b hab (List.mem_range.mp hb)) List.pairwise_lt_range
theorem rest_eq {p x y:Int} (hp:0<p) (e:(x%p).toNat=(y%p).toNat):Al p x y:=by
 have h1:=Int.emod_nonneg x (show p≠0 by omega)
 have h2:=Int.emod_nonneg y (show p≠0 by omega)
 exact Al.iff.mpr (by omega)
theorem back {n a:Int} (hn:2<=n) (c:Co a n):∃ d:Nat,0<d/\(d:Int)<=n/\Al n (a^d) 1:=by
 by_cases z:∃ i j:Nat,i<j/\j<n.toNat+1/\Al n (a^i) (a^j)
 ·obtain⟨i,j,ij,jn,e⟩:=z
  refine⟨j-i,by omega,by omega,?_⟩
  have e1:a^j=a^i*a^(j-i):=by rw [<- Pw.pow_add];congr 1;omega
  rw [e1] at e
  have e2:Al n (a^i*1) (a^i*a^(j-i)):=by rw [Int.mul_one];exact e
  exact ((c.pow i).cancel e2).symm
 ·exfalso
  have nd:=kE (f:=λi=>(a^i%n).toNat) (n:=n.toNat+1) λi j ij jn e=>z ⟨i,j,ij,jn,rest_eq (by omega) e⟩
  have:=tY n.toNat _ nd λx hx=>by
   obtain⟨i,_,rfl⟩:=List.mem_map.mp hx
   have h1:=Int.emod_nonneg (a^i) (show n≠0 by omega)
   have h2:=Int.emod_lt_of_pos (a^i) (show 0<n by omega)
   show (a^i%n).toNat<n.toNat
   omega
  rw [List.length_map,List.length_range] at this
  omega
def fact:Nat->Nat
 | 0=>1
 | n+1=>(n+1)*fact n
theorem mO:∀ n,0<fact n
 | 0=>by decide
 | n+1=>Nat.mul_pos (Nat.succ_pos n) (mO n)
theorem mH {d:Nat}:∀ n,0<d->d<=n->d∣fact n
 | 0,h,h'=>by omega
 | n+1,h,h'=>by
  by_cases c:d=n+1
  ·subst c;exact⟨fact n,rfl⟩
  ·exact Nat.dvd_trans (mH n h (by omega)) ⟨n+1,Nat.mul_comm _ _⟩
theorem Ord.mul {n a b:Int} {k m:Nat} (ha:Ord n a k) (hb:Ord n b m) (ca:Co a n) (cb:Co b n) (co:Nat.Coprime k m):Ord n (a*b) (k*m):=by
 refine⟨Nat.mul_pos ha.pos hb.pos,?_,λj hj=>?_⟩
 ·rw [Pw.mul_pow]
  have h1:=bD (k:=m) ha.one
  have h2:=bD (k:=k) hb.one
  rw [Nat.mul_comm m k] at h2
  exact h1.mul h2
 ·rw [Pw.mul_pow] at hj
  have d1:k∣j:=by
   have e:=hj.pow m
   rw [Pw.one_pow,Pw.mul_pow,<- Pw.pow_mul,<- Pw.pow_mul] at e
   have h2:=bD (k:=j) hb.one
   rw [Nat.mul_comm m j] at h2
   have e2:Al n (a^(j*m)) 1:=by
    have:=(Al.refl n (a^(j*m))).mul h2.symm
    rw [Int.mul_one] at this
    exact this.trans e
   exact Nat.Coprime.dvd_of_dvd_mul_right co (ha.dv _ e2)
  have d2:m∣j:=by
   have e:=hj.pow k
   rw [Pw.one_pow,Pw.mul_pow,<- Pw.pow_mul,<- Pw.pow_mul] at e
   have h2:=bD (k:=j) ha.one
   rw [Nat.mul_comm k j] at h2
   have e2:Al n (b^(j*k)) 1:=by
    have:=h2.symm.mul (Al.refl n (b^(j*k)))
    rw [Int.one_mul] at this
    exact this.trans e
   exact Nat.Coprime.dvd_of_dvd_mul_right co.symm (hb.dv _ e2)
  exact Nat.Coprime.mul_dvd_of_dvd_of_dvd co d1 d2
end Num
namespace Num
def Nm (q:Nat):Prop:=2<=q/\∀ d,2<=d->d<q->¬d∣q
theorem xc {m:Nat} (h:2<=m):∃ q,Nm q/\q∣m:=by
 obtain⟨q,⟨q2,qm⟩,no⟩:=eU (P:=λd=>2<=d/\d∣m) m ⟨h,Nat.dvd_refl m⟩
 exact⟨q,⟨q2,λd d2 dq hd=>no d dq ⟨d2,Nat.dvd_trans hd qm⟩⟩,qm⟩
theorem Nm.co {q m:Nat} (h:Nm q) (hm:¬q∣m):Nat.Coprime q m:=by
 have hg:=Nat.gcd_dvd_left q m
 have g0:0<Nat.gcd q m:=Nat.gcd_pos_of_pos_left m (by have:=h.1;omega)
 have gl:=Nat.le_of_dvd (by have:=h.1;omega) hg
 rcases (by omega:Nat.gcd q m=1∨(2<=Nat.gcd q m/\Nat.gcd q m<q)∨Nat.gcd q m=q) with z | ⟨z1,z2⟩ | z
 ·exact z
 ·exact absurd hg (h.2 _ z1 z2)
 ·exact absurd (z▸Nat.gcd_dvd_right q m) hm
theorem uy {q:Nat} (hq:2<=q):∀ m:Nat,0<m->∃ k m',m=q^k*m'/\¬q∣m':=by
 intro m
 induction m using Nat.strongRecOn with
 | ind m ih =>
  intro hm
  by_cases c:q∣m
  ·obtain⟨t,ht⟩:=c
   have t0:0<t:=by
    rcases Nat.eq_zero_or_pos t with z | z
    ·subst z;omega
    ·exact z
   have tm:t<m:=by
    rw [ht]
    have:=Nat.mul_le_mul_right t hq
    omega
   obtain⟨k,m',e,hn⟩:=ih t tm t0
   exact⟨k+1,m',by rw [ht,e,Nat.pow_succ,Nat.mul_comm (q^k) q,Nat.mul_assoc],hn⟩
  ·exact⟨0,m,by simp,c⟩
theorem qw {q:Nat} (h:Nm q):∀(k d:Nat),d∣q^(k+1)->¬d∣q^k->d=q^(k+1):=by
 intro k
 induction k with
 | zero =>
  intro d h1 h2
  rw [Nat.zero_add,Nat.pow_one] at h1 ⊢
  rw [Nat.pow_zero] at h2
  have q2:=h.1
  have d0:0<d:=Nat.pos_of_dvd_of_pos h1 (by omega)
  have dl:=Nat.le_of_dvd (by omega) h1
  rcases (by omega:d=1∨(2<=d/\d<q)∨d=q) with z | ⟨z1,z2⟩ | z
  ·exact absurd (z▸Nat.dvd_refl 1) h2
  ·exact absurd h1 (h.2 d z1 z2)
  ·exact z
 | succ k ih =>
  intro d h1 h2
  by_cases c:q∣d
  ·obtain⟨t,ht⟩:=c
   have q0:0<q:=by have:=h.1;omega
   rw [ht,Nat.pow_succ,Nat.mul_comm (q^(k+1)) q] at h1
   rw [ht,Nat.pow_succ,Nat.mul_comm (q^k) q] at h2
   have e1:=Nat.dvd_of_mul_dvd_mul_left q0 h1
   have e2:¬t∣q^k:=λz=>h2 (Nat.mul_dvd_mul_left q z)
   rw [ht,ih t e1 e2,Nat.pow_succ q (k+1),Nat.mul_comm]
  ·have co:Nat.Coprime (q^(k+1+1)) d:=Nat.Coprime.pow_left _ (h.co c)
   have:d∣1:=by
    have:=Nat.dvd_gcd h1 (Nat.dvd_refl d)
    rwa [co] at this
   exact absurd (Nat.dvd_trans this (Nat.one_dvd _)) h2
section
variable {p:Int} {L:Nat}
structure Ex (p:Int) (L:Nat):Prop where
 pos:0<L
 all:∀ a:Int,¬p∣a->Al p (a^L) 1
 no:∀ j,0<j->j<L->∃ a:Int,¬p∣a/\¬Al p (a^j) 1
theorem Pm.unit {p a:Int} (hp:Pm p) (c:Co a p):¬p∣a:=λh=>by
 obtain⟨u,v,e⟩:=c
 have h1:p∣u*a:=Int.dvd_mul_of_dvd_right h
 have h2:p∣v*p:=⟨v,Int.mul_comm _ _⟩
 have:=Int.dvd_add h1 h2
 rw [e] at this
 have:=Int.le_of_dvd (by decide) this
 have:=hp.two
 omega
theorem wL (hp:Pm p):∃ L,Ex p L:=by
 have h2:=hp.two
 have uni:∀ a:Int,¬p∣a->Al p (a^fact p.toNat) 1:=λa ha=>by
  obtain⟨d,d0,d1,e⟩:=back h2 (hp.co ha)
  obtain⟨t,ht⟩:=mH p.toNat d0 (by omega)
  rw [ht]
  exact bD e
 obtain⟨L,⟨l0,l1⟩,no⟩:=eU (P:=λj=>0<j/\∀ a:Int,¬p∣a->Al p (a^j) 1) (fact p.toNat) ⟨mO _,uni⟩
 refine⟨L,l0,l1,λj j0 jl=>?_⟩
 have:=no j jl
 by_cases z:∃ a:Int,¬p∣a/\¬Al p (a^j) 1
 ·exact z
 ·exact absurd ⟨j0,λa ha=>Classical.byContradiction λw=>z ⟨a,ha,w⟩⟩ this
theorem nr (hp:Pm p) (h:Ex p L):∀ m:Nat,0<m->m∣L->∃ x:Int,Co x p/\Ord p x m:=by
 intro m
 induction m using Nat.strongRecOn with
 | ind m ih =>
  intro hm hd
  by_cases c:m=1
  ·subst c
   exact⟨1,⟨1,0,by omega⟩,by decide,by rw [Int.pow_succ,Int.pow_zero];exact Al.refl _ _,λj _=>Nat.one_dvd j⟩
  ·obtain⟨q,hq,qm⟩:=xc (show 2<=m by omega)
   obtain⟨k,m',e,hn⟩:=uy hq.1 m hm
   have q0:0<q:=by have:=hq.1;omega
   obtain⟨k',rfl⟩:∃ k',k=k'+1:=by
    cases k with
    | zero=>rw [Nat.pow_zero,Nat.one_mul] at e;exact absurd (e▸qm) hn
    | succ k'=>exact⟨k',rfl⟩
   have m0:0<m':=by
    rcases Nat.eq_zero_or_pos m' with z | z
    ·rw [z,Nat.mul_zero] at e;omega
    ·exact z
   have qk:2<=q^(k'+1):=by
    rw [Nat.pow_succ]
    have:=Nat.mul_le_mul (Nat.pow_pos (n:=k') q0) hq.1
    omega
   have mm:m'<m:=by
    rw [e]
    have:=Nat.mul_le_mul_right m' qk
    omega
   obtain⟨y,cy,oy⟩:=ih m' mm m0 (Nat.dvd_trans ⟨q^(k'+1),by rw [e,Nat.mul_comm]⟩ hd)
   have dq:q^(k'+1)∣L:=Nat.dvd_trans ⟨m',e⟩ hd
   obtain⟨T,hT⟩:=dq
   have T0:0<T:=by
    rcases Nat.eq_zero_or_pos T with z | z
    ·rw [z,Nat.mul_zero] at hT;have:=h.pos;omega
    ·exact z
   have eL:L=q*(q^k'*T):=by rw [hT,Nat.pow_succ,Nat.mul_comm (q^k') q,Nat.mul_assoc]
   have jp:0<q^k'*T:=Nat.mul_pos (Nat.pow_pos q0) T0
   have jl:q^k'*T<L:=by
    rw [eL]
    have:=Nat.mul_le_mul_right (q^k'*T) hq.1
    omega
   obtain⟨a,ha,hna⟩:=h.no _ jp jl
   have ca:=hp.co ha
   have z1:Al p ((a^T)^(q^(k'+1))) 1:=by
    rw [<- Pw.pow_mul,Nat.mul_comm,<- hT]
    exact h.all a ha
   have z2:¬Al p ((a^T)^(q^k')) 1:=by
    rw [<- Pw.pow_mul,Nat.mul_comm]
    exact hna
   obtain⟨d,od,_⟩:=jE (Nat.pow_pos q0) z1
   have d1:=od.dv _ z1
   have d2:¬d∣q^k':=λw=>z2 (by obtain⟨t,ht⟩:=w;rw [ht];exact bD od.one)
   have ed:=qw hq k' d d1 d2
   subst ed
   refine⟨a^T*y,(ca.pow T).mul cy,?_⟩
   rw [e]
   exact od.mul oy (ca.pow T) cy (Nat.Coprime.pow_left _ (hq.co hn))
theorem wM (hp:Pm p) (h:Ex p L):(L:Int)=p-1:=by
 have h2:=hp.two
 have h1:=uY hp h.pos h.all
 obtain⟨g,cg,og⟩:=nr hp h L h.pos (Nat.dvd_refl L)
 have nd:=kE (f:=λi=>(g^i%p).toNat-1) (n:=L) λi j ij jn e=>by
  have r1:∀ k:Nat,1<=(g^k%p).toNat:=λk=>by
   have a1:=Int.emod_nonneg (g^k) (show p≠0 by omega)
   have:g^k%p≠0:=λz=>hp.unit (cg.pow k) (Int.dvd_of_emod_eq_zero z)
   omega
  have e':(g^i%p).toNat=(g^j%p).toNat:=by
   have:=r1 i
   have:=r1 j
   have e:(g^i%p).toNat-1=(g^j%p).toNat-1:=e
   omega
  have:=og.inj cg (by omega) jn (rest_eq (by omega) e')
  omega
 have:=tY (p-1).toNat _ nd λx hx=>by
  obtain⟨i,_,rfl⟩:=List.mem_map.mp hx
  have a1:=Int.emod_nonneg (g^i) (show p≠0 by omega)
  have a2:=Int.emod_lt_of_pos (g^i) (show 0<p by omega)
  have:g^i%p≠0:=λz=>hp.unit (cg.pow i) (Int.dvd_of_emod_eq_zero z)
  show (g^i%p).toNat-1<(p-1).toNat
  omega
 rw [List.length_map,List.length_range] at this
 omega
theorem jx (hp:Pm p) {a:Int} (ha:¬p∣a):Al p (a^(p-1).toNat) 1:=by
 obtain⟨L,h⟩:=wL hp
 have:=wM hp h
 rw [show (p-1).toNat=L by omega]
 exact h.all a ha
theorem ow (hp:Pm p) {m:Nat} (h0:0<m) (hd:m∣(p-1).toNat):∃ x:Int,1<=x/\x<p/\Ord p x m:=by
 obtain⟨L,h⟩:=wL hp
 have:=wM hp h
 have h2:=hp.two
 obtain⟨x,cx,ox⟩:=nr hp h m h0 (by rwa [show (p-1).toNat=L by omega] at hd)
 have a1:=Int.emod_nonneg x (show p≠0 by omega)
 have a2:=Int.emod_lt_of_pos x (show 0<p by omega)
 have a3:x%p≠0:=λz=>hp.unit cx (Int.dvd_of_emod_eq_zero z)
 refine⟨x%p,by omega,a2,ox.pos,((Al.rest p x).pow m).trans ox.one,λj hj=>ox.dv j (((Al.rest p x).pow j).symm.trans hj)⟩
theorem vc (hp:Pm p):∃ g:Int,1<=g/\g<p/\Ord p g (p-1).toNat:=ow hp (by have:=hp.two;omega) (Nat.dvd_refl _)
end
end Num
namespace Num
theorem Co.yh {n a:Int} {m:Nat} (h:Al n (a^(m+1)) 1):Co a n:=by
 obtain⟨c,hc⟩:=h
 refine⟨a^m,-c,?_⟩
 rw [Int.pow_succ] at hc
 rw [Int.neg_mul,Int.mul_comm c n]
 omega
theorem tO {n a:Int} {e:Nat} (h0:0<e) (h1:Al n (a^e) 1) (no:∀ q,Nm q->q∣e->¬Al n (a^(e/q)) 1):Ord n a e:=by
 obtain⟨m,om,_⟩:=jE h0 h1
 have d:=om.dv _ h1
 by_cases z:m=e
 ·subst z;exact om
 ·exfalso
  obtain⟨t,ht⟩:=d
  have t2:2<=t:=by
   rcases (by omega:t=0∨t=1∨2<=t) with w | w | w
   ·rw [w] at ht;omega
   ·rw [w,Nat.mul_one] at ht;exact absurd ht.symm z
   ·exact w
  obtain⟨q,hq,r,hr⟩:=xc t2
  have q0:0<q:=by have:=hq.1;omega
  have e1:e=q*(m*r):=by rw [ht,hr,<- Nat.mul_assoc,Nat.mul_comm m q,Nat.mul_assoc]
  refine no q hq ⟨m*r,e1⟩ ?_
  rw [e1,Nat.mul_div_cancel_left _ q0]
  exact bD om.one
theorem Ord.Bu {n a:Int} {e:Nat} (h:Ord n a e) {q:Nat} (hq:Nm q) (hd:q∣e):¬Al n (a^(e/q)) 1:=λz=>by
 have q0:0<q:=by have:=hq.1;omega
 obtain⟨r,hr⟩:=hd
 rw [hr,Nat.mul_div_cancel_left _ q0] at z
 have d:=h.dv _ z
 have r0:0<r:=by
  rcases Nat.eq_zero_or_pos r with w | w
  ·rw [w,Nat.mul_zero] at hr;have:=h.pos;omega
  ·exact w
 have:=Nat.le_of_dvd r0 d
 have:=Nat.mul_le_mul_right r hq.1
 omega
end Num
namespace Num
theorem tZ {n r:Int} (h:Ld.eO n r):Pm r:=⟨h.two,λd d2 dr hd=>h.no d d2 dr (Int.dvd_trans hd h.dv)⟩
def bQ:List (Int × Int)->Int
 | []=>1
 | p::r=>p.1^p.2.toNat*bQ r
theorem jJ:∀(ps:List (Int × Int)) (p:Int × Int),bQ (ps++[p])=bQ ps*p.1^p.2.toNat
 | [],p=>by show p.1^_*1=1*_;omega
 | q::r,p=>by
  show q.1^q.2.toNat*bQ (r++[p])=q.1^q.2.toNat*bQ r*_
  rw [jJ r p,Int.mul_assoc]
structure Part (n:Int) (ps:List (Int × Int)):Prop where
 ok:∀ p∈ps,Pm p.1/\1<=p.2/\p.2<=30
 rise:ps.Pairwise λa b=>a.1<b.1
 prod:bQ ps=n
theorem aW {q:Int} (h:0<q):∀ k:Nat,0<q^k
 | 0=>by rw [Int.pow_zero];decide
 | k+1=>by rw [Int.pow_succ];exact Int.mul_pos (aW h k) h
theorem two_pow_le {q:Int} (h:2<=q):∀ k:Nat,(2:Int)^k<=q^k
 | 0=>by rw [Int.pow_zero,Int.pow_zero];exact Int.le_refl _
 | k+1=>by
  rw [Int.pow_succ,Int.pow_succ]
  exact Int.mul_le_mul (two_pow_le h k) h (by decide) (Int.le_of_lt (aW (by omega) k))
theorem two_le:∀{k:Nat},(2:Int)^k<=10^9->k<=29:=by
 intro k h
 by_cases c:k<=29
 ·exact c
 ·exfalso
  have e:k=30+(k-30):=by omega
  rw [e,Pw.pow_add] at h
  have:=aW (show (0:Int)<2 by decide) (k-30)
  have h2:=Int.mul_le_mul_of_nonneg_left (show (1:Int)<=2^(k-30) by omega) (show (0:Int)<=2^30 by decide)
  have:(2:Int)^30=1073741824:=by decide
  omega
structure Way (n:Int) (ps:List (Int × Int)) (left prime:Int):Prop where
 ok:∀ p∈ps,Pm p.1/\1<=p.2/\p.2<=30
 rise:ps.Pairwise λa b=>a.1<b.1
 prod:bQ ps*left=n
 pos:1<=left
 inv:Ld.Inv left prime
 le:∀ p∈ps,p.1<=prime
 gone:ps=[]∨¬prime∣left
 two:(2:Int)^ps.length*left<=n
theorem Way.start {n:Int} (h:1<=n):Way n [] n 2:=⟨λ_ z=>by simp at z,List.Pairwise.nil,by show 1*n=n;omega,h,⟨by decide,.inl rfl,λd d0 d1=>by omega⟩,λ_ z=>by simp at z,.inl rfl,by rw [List.length_nil,Int.pow_zero];omega⟩
theorem Way.step {n left prime r left':Int} {ps:List (Int × Int)} {k:Nat} (w:Way n ps left prime) (hn:n<=10^9) (hl:1<left) (h:Ld.eO left r) (e:left=r^k*left') (l0:1<=left') (hk:1<=k) (hg:¬r∣left'):Way n (ps++[(r,(k:Int))]) left' r:=by
 have r2:=h.two
 have pm:=tZ h
 have rp:prime<=r:=by
  rcases (by omega:prime<=r∨r<prime) with z | z
  ·exact z
  ·exact absurd h.dv (w.inv.no r r2 z)
 have rk:=aW (show 0<r by omega) k
 have k2:=two_pow_le r2 k
 have kl:(2:Int)^k<=left:=by
  have:=Int.mul_le_mul k2 l0 (by decide) (Int.le_of_lt rk)
  rw [Int.mul_one] at this
  omega
 have ln:left<=n:=by
  have z:=w.two
  have p0:=aW (show (0:Int)<2 by decide) ps.length
  have:=Int.mul_le_mul_of_nonneg_right (show (1:Int)<=2^ps.length by omega) (show 0<=left by omega)
  omega
 have k29:=two_le (k:=k) (by omega)
 refine⟨λp hp=>?_,?_,?_,l0,?_,λp hp=>?_,.inr hg,?_⟩
 ·rcases List.mem_append.mp hp with z | z
  ·exact w.ok p z
  ·rw [List.mem_singleton.mp z]
   exact⟨pm,by show (1:Int)<=k;omega,by show (k:Int)<=30;omega⟩
 ·refine List.pairwise_append.mpr ⟨w.rise,List.pairwise_singleton _ _,λa ha b hb=>?_⟩
  rw [List.mem_singleton.mp hb]
  show a.1<r
  have:=w.le a ha
  rcases w.gone with z | z
  ·rw [z] at ha;simp at ha
  ·have:prime≠r:=λy=>z (y▸h.dv)
   omega
 ·rw [jJ,<- w.prod,e]
  show bQ ps*r^((k:Int).toNat)*left'=_
  rw [Int.toNat_natCast,Int.mul_assoc]
 ·refine⟨r2,?_,λd d0 d1 hd=>h.no d d0 d1 (by rw [e];exact Int.dvd_mul_of_dvd_right hd)⟩
  rcases (by omega:r=2∨2<r) with z | z
  ·exact .inl z
  ·refine .inr ?_
   rcases (by omega:r%2=1∨r%2=0) with y | y
   ·exact y
   ·exact absurd (Int.dvd_of_emod_eq_zero y) (pm.no 2 (by decide) z)
 ·rcases List.mem_append.mp hp with z | z
  ·have:=w.le p z;omega
  ·rw [List.mem_singleton.mp z];exact Int.le_refl _
 ·rw [List.length_append,List.length_singleton,Pw.pow_add,Int.pow_succ,Int.pow_zero,Int.one_mul,Int.mul_assoc]
  refine Int.le_trans (Int.mul_le_mul_of_nonneg_left ?_ (Int.le_of_lt (aW (by decide) _))) w.two
  rw [e]
  obtain⟨k',rfl⟩:∃ k',k=k'+1:=⟨k-1,by omega⟩
  have p0:=aW (show 0<r by omega) k'
  have h1:r<=r^(k'+1):=by
   rw [Int.pow_succ]
   have:=Int.mul_le_mul_of_nonneg_right (show 1<=r^k' by omega) (show 0<=r by omega)
   omega
  exact Int.mul_le_mul_of_nonneg_right (show 2<=r^(k'+1) by omega) (show 0<=left' by omega)
theorem Way.done {n prime:Int} {ps:List (Int × Int)} (w:Way n ps 1 prime):Part n ps:=⟨w.ok,w.rise,by have:=w.prod;omega⟩
theorem Way.len {n left prime:Int} {ps:List (Int × Int)} (w:Way n ps left prime) (hn:n<=10^9):ps.length<=29:=by
 refine two_le ?_
 have z:=w.two
 have p0:=aW (show (0:Int)<2 by decide) ps.length
 have:=Int.mul_le_mul_of_nonneg_left w.pos (Int.le_of_lt p0)
 omega
end Num
namespace Num
open PySem
theorem bY:∀{ps:List (Int × Int)} {p:Int × Int},p∈ps->1<=p.2->p.1∣bQ ps
 | a::r,p,h,hk=>by
  rcases List.mem_cons.mp h with z | z
  ·subst z
   obtain⟨k,hk'⟩:∃ k,p.2.toNat=k+1:=⟨p.2.toNat-1,by omega⟩
   show p.1∣p.1^p.2.toNat*bQ r
   rw [hk',Int.pow_succ]
   exact Int.dvd_mul_of_dvd_left ⟨p.1^k,Int.mul_comm _ _⟩
  ·exact Int.dvd_mul_of_dvd_right (bY z hk)
theorem xi {q:Nat} (h:Nm q):Pm (q:Int):=⟨by have:=h.1;omega,λd d2 dq hd=>h.2 d.toNat (by omega) (by omega) (by
 obtain⟨c,hc⟩:=hd
 have:(d.toNat:Int)=d:=by omega
 exact Int.natCast_dvd_natCast.mp (by rw [this];exact⟨c,hc⟩))⟩
theorem mX {p:Int} (h:Pm p):Nm p.toNat:=⟨by have:=h.two;omega,λd d2 dp hd=>h.no d (by omega) (by omega) (by
 have:=Int.natCast_dvd_natCast.mpr hd
 rwa [show (p.toNat:Int)=p by have:=h.two;omega] at this)⟩
theorem oZ {p q:Int} (hp:Pm p) (hq:Pm q):∀ k:Nat,q∣p^k->q=p
 | 0,h=>by
  rw [Int.pow_zero] at h
  have:=Int.le_of_dvd (by decide) h
  have:=hq.two
  omega
 | k+1,h=>by
  rw [Int.pow_succ] at h
  by_cases c:q∣p^k
  ·exact oZ hp hq k c
  ·have d:=hq.or h c
   have l:=Int.le_of_dvd (by have:=hp.two;omega) d
   rcases (by omega:q<p∨q=p) with z | z
   ·exact absurd d (hp.no q hq.two z)
   ·exact z
theorem cS {q:Int} (hq:Pm q):∀{ps:List (Int × Int)},(∀ p∈ps,Pm p.1)->q∣bQ ps->∃ p∈ps,p.1=q
 | [],_,h=>by
  have:=Int.le_of_dvd (by decide) (show q∣1 from h)
  have:=hq.two
  omega
 | a::r,hp,h=>by
  by_cases c:q∣a.1^a.2.toNat
  ·exact⟨a,by simp,(oZ (hp a (by simp)) hq _ c).symm⟩
  ·obtain⟨p,h1,h2⟩:=cS hq (λp z=>hp p (List.mem_cons_of_mem _ z)) (hq.or h c)
   exact⟨p,List.mem_cons_of_mem _ h1,h2⟩
theorem tQ {n a e:Int} {ps:List (Int × Int)} (h:Part e ps) (he:1<=e):(Al n (a^e.toNat) 1/\∀ q∈ps.map (·.1),¬Al n (a^(e/q).toNat) 1)↔Ord n a e.toNat:=by
 constructor
 ·rintro⟨h1,h2⟩
  refine tO (by omega) h1 λq hq hd=>?_
  have hd':(q:Int)∣e:=by
   have:=Int.natCast_dvd_natCast.mpr hd
   rwa [show (e.toNat:Int)=e by omega] at this
  obtain⟨p,hp,ep⟩:=cS (xi hq) (λp z=>(h.ok p z).1) (by rw [h.prod];exact hd')
  have:=h2 q (List.mem_map.mpr ⟨p,hp,ep⟩)
  rwa [show (e/(q:Int)).toNat=e.toNat/q by
   have:e/(q:Int)=((e.toNat/q:Nat):Int):=by rw [Int.natCast_ediv];congr 1;omega
   rw [this,Int.toNat_natCast]] at this
 ·intro h1
  refine⟨h1.one,λq hq=>?_⟩
  obtain⟨p,hp,rfl⟩:=List.mem_map.mp hq
  obtain⟨o1,o2,_⟩:=h.ok p hp
  have d:p.1∣e:=by rw [<- h.prod];exact bY hp o2
  have t:=o1.two
  have:=h1.Bu (mX o1) (by
   have:(p.1.toNat:Int)∣(e.toNat:Int):=by rw [show (p.1.toNat:Int)=p.1 by omega,show (e.toNat:Int)=e by omega];exact d
   exact Int.natCast_dvd_natCast.mp this)
  rwa [show e.toNat/p.1.toNat=(e/p.1).toNat by
   have:e/p.1=((e.toNat/p.1.toNat:Nat):Int):=by rw [Int.natCast_ediv];congr 1<;>omega
   rw [this,Int.toNat_natCast]] at this
structure LF (p g:Int):Prop where
 one:1<=g
 lt:g<p
 ord:Ord p g (p-1).toNat
 no:∀ a:Int,1<=a->a<g->¬Ord p a (p-1).toNat
def rowsOf (ps:List (Int × Int)) (ds:Nat->PyData):List PyData:=(List.range ps.length).map λi=>.tuple [ds i,.int (ps.getD i (0,0)).2]
theorem c5 {ps:List (Int × Int)} {ds:Nat->PyData}:(rowsOf ps ds).length=ps.length:=by unfold rowsOf;rw [List.length_map,List.length_range]
theorem pE {ps:List (Int × Int)} {ds:Nat->PyData} {i:Nat} {p:Int × Int} (h:ps[i]?=some p):(rowsOf ps ds)[i]?=some (.tuple [ds i,.int p.2]):=by
 have hi:=(List.getElem?_eq_some_iff.mp h).1
 unfold rowsOf
 rw [List.getElem?_map,List.getElem?_range hi]
 show some (PyData.tuple [ds i,.int (ps.getD i (0,0)).2])=_
 rw [List.getD_eq_getElem?_getD,h]
 rfl
inductive gR:Int->PyData->Prop
 | mk (p g:Int) (ps:List (Int × Int)) (ds:Nat->PyData):Pm p->p<=10^9->LF p g->Part (p-1) ps->ps.length<=29->(∀ i q k,ps[i]?=some (q,k)->gR q (ds i))->gR p (.tuple [.int p,.int g,.tuple (rowsOf ps ds)])
theorem gR.head {p:Int} {d:PyData} (h:gR p d):∃ g rows,d=.tuple [.int p,.int g,.tuple rows]:=by
 cases h
 exact⟨_,_,rfl⟩
def Ht:Nat->Int->Prop
 | 0,_=>False
 | L+1,n=>∀ q:Int,Pm q->q∣n-1->Ht L q
theorem wQ:∀(L:Nat) (n:Int),Pm n->n<2^(L+2)->Ht (L+2) n
 | 0,n,h,hn=>by
  have h2:=h.two
  have hn':n<4:=hn
  intro q hq hd
  intro q' hq' hd'
  have q2:=hq.two
  have l:=Int.le_of_dvd (by rcases (by omega:n=2∨n=3) with z | z;exfalso;rw [z] at hd;have:=Int.le_of_dvd (by decide) hd;omega;omega) hd
  have qq:q=2:=by omega
  rw [qq] at hd'
  have:=Int.le_of_dvd (by decide) hd'
  have:=hq'.two
  omega
 | L+1,n,h,hn=>by
  intro q hq hd
  have q2:=hq.two
  have h2:=h.two
  refine wQ L q hq ?_
  have e:(2:Int)^(L+1+2)=2^(L+2)*2:=by rw [<- Int.pow_succ]
  rw [e] at hn
  have four:(4:Int)<=2^(L+2):=by
   have:=aW (show (0:Int)<2 by decide) L
   have e4:(2:Int)^(L+2)=2^L*4:=by rw [Pw.pow_add];rfl
   omega
  obtain⟨c,hc⟩:=hd
  rcases (by omega:n<=3∨3<n) with z | z
  ·have:q<=n-1:=Int.le_of_dvd (by
    rcases (by omega:n=2∨n=3) with y | y
    ·exfalso
     rw [y] at hc
     have:=Int.le_of_dvd (by decide) (show q∣1 from ⟨c,hc⟩)
     omega
    ·omega) ⟨c,hc⟩
   omega
  ·rcases (by omega:n%2=0∨n%2=1) with y | y
   ·exact absurd (Int.dvd_of_emod_eq_zero y) (h.no 2 (by decide) (by omega))
   ·rcases (by omega:q=2∨2<q) with x | x
    ·omega
    ·have qo:q%2=1:=by
      rcases (by omega:q%2=1∨q%2=0) with w | w
      ·exact w
      ·exact absurd (Int.dvd_of_emod_eq_zero w) (hq.no 2 (by decide) x)
     have ce:c%2=0:=by
      rcases (by omega:c%2=0∨c%2=1) with w | w
      ·exact w
      ·exfalso
       have:(q*c)%2=1:=by rw [Int.mul_emod,qo,w];rfl
       omega
     have c2:2<=c:=by
      rcases (by omega:c<=0∨2<=c) with w | w
      ·have:=Int.mul_nonpos_of_nonneg_of_nonpos (show 0<=q by omega) w
       omega
      ·exact w
     have:=Int.mul_le_mul_of_nonneg_left c2 (show 0<=q by omega)
     omega
theorem sV {n:Int} (h:Pm n) (hn:n<=10^9):Ht 30 n:=wQ 28 n h (by
 have:(2:Int)^(28+2)=1073741824:=by decide
 omega)
end Num
namespace L2
open PySem PySem.Spec PyProof.Rows
def B1:PyData->String
 | .none => "NoneType"
 | .bool _ => "bool"
 | .int _ => "int"
 | .str _ => "str"
 | .list _ => "list"
 | .tuple _ => "tuple"
 | .dict _ => "dict"
def mS:PyData->Bool
 | .int _=>true
 | _=>false
def vm:PyData->Bool
 | .bool _=>true
 | _=>false
def zK:PyData->Bool
 | .tuple _=>true
 | _=>false
def Az:PyData->Bool
 | .list _=>true
 | _=>false
section
variable {X:Cx} {K:PySem.W.Frag}
def jM (K:PySem.W.Frag):List V->Hp->VK->Prop:=λxs H Q=>∃ d x n b,xs=[x,.ty n]/\dv K H d x/\PySem.W.kitOne K (.type (B1 d)) (.type n)=some b/\Q (.bl b) H
theorem aY:fF X (.builtin "isinstance") (jM X.K):=by
 intro pins s σ H xs us Q I r h
 obtain⟨d,x,n,b,rfl,hd,ek,q⟩:=h
 obtain⟨u,w',rfl,rx,rc⟩:=vals2 r
 have e:w'=.type n:=rc
 subst e
 have fin:∀ tk,∃ v' H',Inv X pins σ H' { s with toks:=tk }/\RelV v' (.bool b)/\Q v' H':=λtk=>⟨.bl b,H,I.tok _,rfl,q⟩
 cases d with
 | none=>cases hd;exact fZ I rx gw.bw ek fin
 | bool y=>cases hd;exact fZ I rx (gw.bl _) ek fin
 | int y=>cases hd;exact fZ I rx (gw.int _) ek fin
 | str y=>cases hd;exact fZ I rx (gw.str _) ek fin
 | list ds =>
  obtain⟨p,ys,rfl,h,t⟩:=hd
  cases rx
  obtain⟨its,rr,pl,_⟩:=I.list h
  obtain⟨o,h1,h2,_⟩:=pl.isList
  exact PySem.W.kia_one PySem.W.kitx_list I.hG ⟨o,h1,h2⟩ ek (λz=>nomatch z) fin
 | tuple ds =>
  obtain⟨p,ys,rfl,h,t⟩:=hd
  cases rx
  obtain⟨its,rr,pl,_⟩:=I.tuple h
  obtain⟨o,h1,h2,_⟩:=pl
  exact PySem.W.kia_one PySem.W.kitx_tuple I.hG ⟨o,h1,h2⟩ ek (λz=>nomatch z) fin
 | dict _=>exact hd.elim
theorem vo {H:Hp} {d:PyData} {x:V} {Q:VK} (h:dv K H d x) (q:Q (.bl (mS d || vm d)) H):jM K [x,.ty "int"] H Q:=by
 refine⟨d,x,"int",_,rfl,h,?_,q⟩
 cases d<;>first | exact h.elim | with_unfolding_all rfl
theorem jz {H:Hp} {d:PyData} {x:V} {Q:VK} (h:dv K H d x) (q:Q (.bl (vm d)) H):jM K [x,.ty "bool"] H Q:=by
 refine⟨d,x,"bool",_,rfl,h,?_,q⟩
 cases d<;>first | exact h.elim | with_unfolding_all rfl
theorem bM {H:Hp} {d:PyData} {x:V} {Q:VK} (h:dv K H d x) (q:Q (.bl (zK d)) H):jM K [x,.ty "tuple"] H Q:=by
 refine⟨d,x,"tuple",_,rfl,h,?_,q⟩
 cases d<;>first | exact h.elim | with_unfolding_all rfl
theorem cD {H:Hp} {d:PyData} {x:V} {Q:VK} (h:dv K H d x) (q:Q (.bl (Az d)) H):jM K [x,.ty "list"] H Q:=by
 refine⟨d,x,"list",_,rfl,h,?_,q⟩
 cases d<;>first | exact h.elim | with_unfolding_all rfl
end
def zE (i:Int) (n:Nat):List V:=(List.range n).map fun(k:Nat)=>V.int (i+(k:Int))
def BZ (ta:TA):TE:=λσ H Q=>ta σ H λvs H1=>∃ i j:Int,vs=[.int i,.int j]/\(-(2^62)<=i/\i<2^62 /\ -(2^62)<=j/\j<2^62)/\j-i<=10^6/\∀ l,H1 l=none->Q (.ref l) (upd H1 l (.lst (zE i (j-i).toNat)))
variable {X:Cx}
section
variable {X:Cx} {K:PySem.W.Frag}
end
section
variable {κ:Type} [DecidableEq κ]
def iE (kvs:List (κ × V)) (k:κ):Option V:=(kvs.find? λkv=>decide (kv.1=k)).map (·.2)
def putK (kvs:List (κ × V)) (k:κ) (v:V):List (κ × V) :=
 if (kvs.any λkv=>decide (kv.1=k))=true then kvs.map (λkv=>if kv.1=k then (kv.1,v) else kv) else kvs++[(k,v)]
def zB (kvs:List (κ × V)) (k:κ):List (κ × V):=kvs.filter λkv=>decide (kv.1≠k)
theorem jY {p:κ × V} {r:List (κ × V)} {k:κ} (e:p.1=k):iE (p::r) k=some p.2:=by simp [iE,List.find?_cons,e]
theorem jX {p:κ × V} {r:List (κ × V)} {k:κ} (e:¬p.1=k):iE (p::r) k=iE r k:=by simp [iE,List.find?_cons,e]
theorem nV (k:κ):∀ kvs:List (κ × V),(kvs.any λkv=>decide (kv.1=k))=(iE kvs k).isSome
 | []=>rfl
 | p::r=>by
  rw [List.any_cons]
  by_cases e:p.1=k
  ·simp only [jY e,decide_eq_true e,Bool.true_or,Option.isSome_some]
  ·rw [jX e,decide_eq_false e,Bool.false_or];exact nV k r
theorem fI (kvs:List (κ × V)) (k:κ) (v:V):(putK kvs k v).length<=kvs.length+1:=by
 unfold putK
 split
 ·rw [List.length_map];omega
 ·rw [List.length_append,List.length_cons,List.length_nil];omega
theorem gT.q5 {o:Option V} {u:Option Value} (r:gT o u):o.isSome=u.isSome:=by
 cases o with
 | none=>cases u with
  | none=>rfl
  | some _=>exact (show False from r).elim
 | some _=>cases u with
  | none=>exact (show False from r).elim
  | some _=>rfl
theorem gT.getD {o:Option V} {u:Option Value} {d:V} {d':Value} (r:gT o u) (rd:RelV d d'):RelV (o.getD d) (u.getD d'):=by
 cases o with
 | none=>cases u with
  | none=>exact rd
  | some _=>exact (show False from r).elim
 | some _=>cases u with
  | none=>exact (show False from r).elim
  | some _=>exact r
theorem KV.val {kvs:List (κ × V)} {vs:List (κ × Value)} (r:KV kvs vs) (k:κ):gT (iE kvs k) (valueAt vs k):=by
 unfold KV at r
 induction r with
 | nil=>exact True.intro
 | @cons p q ps qs h t ih =>
  obtain⟨h1,h2⟩:=h
  by_cases e:p.1=k
  ·have e':q.1=k:=h1.symm.trans e
   have b:valueAt (q::qs) k=some q.2:=by simp [valueAt,List.find?_cons,e']
   rw [jY e,b];exact h2
  ·have e':¬q.1=k:=λz=>e (h1.trans z)
   have b:valueAt (q::qs) k=valueAt qs k:=by simp [valueAt,List.find?_cons,e']
   rw [jX e,b];exact ih
theorem KV.any {kvs:List (κ × V)} {vs:List (κ × Value)} (r:KV kvs vs) (k:κ):(kvs.any λkv=>decide (kv.1=k))=vs.any λkv=>decide (kv.1=k):=by
 unfold KV at r
 induction r with
 | nil=>rfl
 | cons h t ih=>rw [List.any_cons,List.any_cons,ih,h.1]
theorem KV.yH {kvs:List (κ × V)} {vs:List (κ × Value)} (r:KV kvs vs) (k:κ) {y:V} {u:Value} (ry:RelV y u) :
  KV (kvs.map λkv=>if kv.1=k then (kv.1,y) else kv) (vs.map λkv=>if kv.1=k then (kv.1,u) else kv):=by
 unfold KV at r ⊢
 induction r with
 | nil=>exact .nil
 | @cons p q ps qs h t ih =>
  rw [List.map_cons,List.map_cons]
  refine .cons ?_ ih
  obtain⟨h1,h2⟩:=h
  by_cases e:p.1=k
  ·rw [if_pos e,if_pos (h1.symm.trans e)];exact⟨h1,ry⟩
  ·rw [if_neg e,if_neg (λz=>e (h1.trans z))];exact⟨h1,h2⟩
theorem KV.put {kvs:List (κ × V)} {vs:List (κ × Value)} (r:KV kvs vs) (k:κ) {y:V} {u:Value} (ry:RelV y u):KV (putK kvs k y) (stored vs k u):=by
 unfold putK stored
 rw [r.any k]
 by_cases e:(vs.any λkv=>decide (kv.1=k))=true
 ·rw [if_pos e,if_pos e];exact r.yH k ry
 ·rw [if_neg e,if_neg e];exact Paired.snoc r ⟨rfl,ry⟩
theorem KV.keys {kvs:List (κ × V)} {vs:List (κ × Value)} (r:KV kvs vs):kvs.map (·.1)=vs.map (·.1):=by
 unfold KV at r
 induction r with
 | nil=>rfl
 | cons h t ih=>rw [List.map_cons,List.map_cons,ih,h.1]
theorem KV.length {kvs:List (κ × V)} {vs:List (κ × Value)} (r:KV kvs vs):kvs.length=vs.length:=Paired.length r
end
theorem qb {P:Program} {w:World} {k:Key} {u:Value} (r:RelV (kV k) u):(bX P w).is k u=true:=by
 cases k with
 | inl i=>obtain⟨t,e⟩:=(show ∃ t,u=Value.int i t from r);subst e;exact mV P w i t
 | inr x=>obtain⟨t,e⟩:=(show ∃ t,u=Value.str x t from r);subst e;exact mW P w x t
theorem kA {P:Program} {w:World}:∀{ks:List Key} {us:List Value},Vals (ks.map kV) us->ItemsAre (bX P w) ks us
 | [],_,r=>by rw [List.map_nil] at r;cases r;exact .nil
 | k::ks,_,r=>by
  rw [List.map_cons] at r
  cases r with
  | cons h t=>exact .cons (qb h) (kA t)
abbrev KT (H:Hp):List (List Key × V)->List (List Key × Addr × Value)->Prop:=Paired λp q=>p.1=q.1/\H q.2.1=some (.tup (p.1.map kV))/\RelV p.2 q.2.2
theorem KT.val {H:Hp} {kvs:List (List Key × V)} {xs:List (List Key × Addr × Value)} (r:KT H kvs xs) (k:List Key):gT (iE kvs k) ((atKey xs k).map (·.2)):=by
 induction r with
 | nil=>exact True.intro
 | @cons p q ps qs h t ih =>
  obtain⟨h1,_,h2⟩:=h
  by_cases e:p.1=k
  ·have e':q.1=k:=h1.symm.trans e
   have b:atKey (q::qs) k=some q.2:=by simp [atKey,List.find?_cons,e']
   rw [jY e,b];exact h2
  ·have e':¬q.1=k:=λz=>e (h1.trans z)
   have b:atKey (q::qs) k=atKey qs k:=by simp [atKey,List.find?_cons,e']
   rw [jX e,b];exact ih
theorem KT.yH {H:Hp} {kvs:List (List Key × V)} {xs:List (List Key × Addr × Value)} (r:KT H kvs xs) (k:List Key) {y:V} {u:Value} (ry:RelV y u) :
  KT H (kvs.map λkv=>if kv.1=k then (kv.1,y) else kv) (xs.map (putAt k u)):=by
 induction r with
 | nil=>exact .nil
 | @cons p q ps qs h t ih =>
  rw [List.map_cons,List.map_cons]
  refine .cons ?_ ih
  obtain⟨h1,h2,h3⟩:=h
  unfold putAt
  by_cases e:p.1=k
  ·rw [if_pos e,if_pos (h1.symm.trans e)];exact⟨h1,h2,ry⟩
  ·rw [if_neg e,if_neg (λz=>e (h1.trans z))];exact⟨h1,h2,h3⟩
theorem KT.put {H:Hp} {kvs:List (List Key × V)} {xs:List (List Key × Addr × Value)} (r:KT H kvs xs) (k:List Key) {b:Addr} {y:V} {u:Value} (hb:H b=some (.tup (k.map kV))) (ry:RelV y u) :
  KT H (putK kvs k y) (storedH xs k b u):=by
 have e:(kvs.any λkv=>decide (kv.1=k))=(atKey xs k).isSome:=by
  rw [nV,(r.val k).q5,Option.isSome_map]
 unfold putK storedH
 rw [e]
 by_cases q:(atKey xs k).isSome=true
 ·rw [if_pos q,if_pos q];exact r.yH k ry
 ·rw [if_neg q,if_neg q];exact Paired.snoc r ⟨rfl,hb,ry⟩
theorem KT.keeps {H H':Hp} {kvs:List (List Key × V)} {xs:List (List Key × Addr × Value)} (r:KT H kvs xs) (ht:∀ b ys,H b=some (.tup ys)->H' b=some (.tup ys)):KT H' kvs xs :=
 Paired.yd r λ_ _ z=>⟨z.1,ht _ _ z.2.1,z.2.2⟩
section
variable {P:Program} {w:World} {H:Hp} {h:Heap} {a:Addr}
theorem xj {u:HO} (ok:fG P w H h) (e:Rd H a u):bK P w H h a u:=e.ok ok
theorem sM {kvs:List (Key × V)} (ok:fG P w H h) (e:Rd H a (.dK kvs)):kvs.length<=sizeLine/\(a==sysModules)=false/\∃ vs,KV kvs vs/\h.DictOf (bX P w) a vs :=
 show bK P w H h a (.dK kvs) from xj ok e
theorem wJ {kvs:List (Key × V)} (ok:fG P w H h) (e:H a=some (.dK kvs)):kvs.length<=sizeLine/\(a==sysModules)=false/\∃ vs,KV kvs vs/\h.DictOf (bX P w) a vs:=sM ok (.inl e)
theorem oF {ks:List Key} (ok:fG P w H h) (e:H a=some (.tup (ks.map kV))):(tupleKind (bX P w)).is h ks a:=by
 obtain⟨_,its,r,o,h1,h2,n,h3⟩:=(show bK P w H h a (.tup (ks.map kV)) from ok a _ e)
 exact⟨o,its.toArray,n,h1,h2,h3,by simpa using kA r⟩
theorem sN {kvs:List (List Key × V)} (ok:fG P w H h) (e:Rd H a (.dT kvs)):kvs.length<=sizeLine/\(a==sysModules)=false /\
  ∃ xs,KT H kvs xs/\h.DictOfH (tupleKind (bX P w)) a xs:=by
 obtain⟨z,y,xs,r,o,es,ep,h1,h2,h3,h4,h5⟩:=(show bK P w H h a (.dT kvs) from xj ok e)
 refine⟨z,y,xs,r,o,es,ep,h1,h2,h3,h4,λx hx=>?_,h5⟩
 have all:∀{l:List (List Key × V)} {m:List (List Key × Addr × Value)},KT H l m->∀ x∈m,(tupleKind (bX P w)).is h x.1 x.2.1:=by
  intro l m q
  induction q with
  | nil=>intro x hx;exact nomatch hx
  | @cons p q ps qs hq t ih =>
   intro x hx
   rcases List.mem_cons.mp hx with e | hx
   ·subst e
    exact oF ok (by rw [<- hq.1];exact hq.2.1)
   ·exact ih x hx
 exact all r x hx
theorem zC {kvs:List (List Key × V)} (ok:fG P w H h) (e:H a=some (.dT kvs)):kvs.length<=sizeLine/\(a==sysModules)=false /\
  ∃ xs,KT H kvs xs/\h.DictOfH (tupleKind (bX P w)) a xs:=sN ok (.inl e)
end
def gK (H:Hp) (a:Addr) (y:V) (r:Option V):Prop :=
 (∃ kvs k,Rd H a (.dK kvs)/\y=kV k/\r=iE kvs k)∨∃ kvs k b,Rd H a (.dT kvs)/\y=.ref b/\H b=some (.tup (k.map kV))/\r=iE kvs k
def mv (H:Hp) (a:Addr) (y v:V) (H':Hp):Prop :=
 (∃ kvs k,H a=some (.dK kvs)/\y=kV k/\kvs.length<sizeLine/\H'=upd H a (.dK (putK kvs k v))) ∨
 ∃ kvs k b,H a=some (.dT kvs)/\y=.ref b/\H b=some (.tup (k.map kV))/\kvs.length<sizeLine/\H'=upd H a (.dT (putK kvs k v))
theorem gK.k {H:Hp} {a:Addr} {kvs:List (Key × V)} {k:Key} (e:H a=some (.dK kvs)):gK H a (kV k) (iE kvs k):=.inl ⟨kvs,k,.inl e,rfl,rfl⟩
theorem gK.t {H:Hp} {a b:Addr} {kvs:List (List Key × V)} {k:List Key} (e:H a=some (.dT kvs)) (eb:H b=some (.tup (k.map kV))):gK H a (.ref b) (iE kvs k):=.inr ⟨kvs,k,b,.inl e,rfl,eb,rfl⟩
theorem mv.k {H:Hp} {a:Addr} {kvs:List (Key × V)} {k:Key} {v:V} (e:H a=some (.dK kvs)) (hl:kvs.length<sizeLine):mv H a (kV k) v (upd H a (.dK (putK kvs k v))):=.inl ⟨kvs,k,e,rfl,hl,rfl⟩
theorem mv.t {H:Hp} {a b:Addr} {kvs:List (List Key × V)} {k:List Key} {v:V} (e:H a=some (.dT kvs)) (eb:H b=some (.tup (k.map kV))) (hl:kvs.length<sizeLine) :
  mv H a (.ref b) v (upd H a (.dT (putK kvs k v))):=.inr ⟨kvs,k,b,e,rfl,eb,hl,rfl⟩
section
variable {X:Cx} {pins:List (Addr × Obj)} {σ:St} {H:Hp} {s:Shared} {a:Addr} {y v:V} {u r:Value} {o:Option V} {A:Around} {E:Value->Shared->Prop}
theorem Inv.big (I:Inv X pins σ H s):sysModules<s.heap.objs.size:=by
 have h:mainGlobals<s.heap.objs.size:=(I.mod.glob.keeps I.bk).lt
 exact Nat.lt_trans (by decide) h
theorem qR {Q:Value->Shared->Prop} (hu:A.units+1<cLine) (I:Inv X pins σ H s) (g:gK H a y (some v)) (ry:RelV y u) (h:∀ w' s',Inv X pins σ H s'->RelV v w'->Q w' s') :
  wpAny (model X.prog X.w) A (getItem (.ref a) u) Q E s:=by
 rcases g with⟨kvs,k,e,ey,l⟩|⟨kvs,k,b,e,ey,eb,l⟩
 ·subst ey
  obtain⟨z,hd,vs,rel,dd⟩:=sM I.hok e
  obtain⟨w',hw,rw'⟩:=gT.some_of (v:=v) (o:=valueAt vs k) (by rw [l];exact rel.val k)
  exact wpAny_getItem_of (qb ry) dd.mapOf hw (h w' _ (I.tok _) rw')
 ·subst ey
  cases (show u=Value.ref b from ry)
  obtain⟨z,hd,xs,rel,dd⟩:=sN I.hok e
  obtain⟨w',hw,rw'⟩:=gT.some_of (v:=v) (o:=(atKey xs k).map (·.2)) (by rw [l];exact rel.val k)
  obtain⟨p,hp,hp2⟩:=Option.map_eq_some_iff.mp hw
  refine wpAny_getItem_heap (tupleKind_room_in1 hu) (oF I.hok eb) dd hp ?_
  rw [hp2]
  exact h w' _ (I.tok _) rw'
theorem lh {h':Heap} {t':Nat} {ob:HO} (I:Inv X pins σ H s) (mu:zu (H a)) (hs:Heap.SameBut a s.heap h') (he:∃ q,h'.get? a=some q) (new:bK X.prog X.w (upd H a ob) h' a ob) :
  Inv X pins σ (upd H a ob) { s with heap:=h',toks:=t' } :=
 I.write (x:=a) (e:=a) mu (.inl rfl) (λb q hb z=>(hs.2 b hb).trans z) he new
theorem sL {P:Program} {w:World} {H':Hp} {h':Heap} {kvs:List (Key × V)} {vs:List (Key × Value)} (z:kvs.length<=sizeLine) (hd:(a==sysModules)=false) (rel:KV kvs vs) (dd:h'.DictOf (bX P w) a vs) :
  bK P w H' h' a (.dK kvs):=⟨z,hd,vs,rel,dd⟩
theorem qS {H':Hp} {Q:Unit->Shared->Prop} (hu:A.units+1<cLine) (I:Inv X pins σ H s) (g:mv H a y v H') (ry:RelV y u) (rv:RelV v r) (h:∀ s',Inv X pins σ H' s'->Q () s') :
  wpAny (model X.prog X.w) A (setItem (.ref a) u r) Q E s:=by
 rcases g with⟨kvs,k,e,ey,l,eH⟩|⟨kvs,k,b,e,ey,eb,l,eH⟩
 ·subst ey eH
  obtain⟨z,hd,vs,rel,dd⟩:=wJ I.hok e
  have hz:vs.length<=sizeLine:=by rw [<- rel.length];exact z
  have hl:(putK kvs k v).length<=sizeLine:=by have:=fI kvs k v;omega
  refine wpAny_setItem_pairs (hsz:=hz) (qb ry) dd λh' dd' hs=>h _ ?_
  have he:∃ q,h'.get? a=some q:=let ⟨q,_,_,hq,_⟩:=dd';⟨q,hq⟩
  exact lh I (by rw [e];exact True.intro) hs he (sL hl hd (rel.put k rv) dd')
 ·subst ey eH
  cases (show u=Value.ref b from ry)
  obtain⟨z,hd,xs,rel,dd⟩:=zC I.hok e
  have hz:xs.length<=sizeLine:=by rw [<- Paired.length rel];exact z
  have hl:(putK kvs k v).length<=sizeLine:=by have:=fI kvs k v;omega
  refine wpAny_setItem_heap (hsz:=hz) (tupleKind_room_in1 hu) (oF I.hok eb) dd λh' dd' hs=>h _ ?_
  obtain⟨q,es,ep,hq,h2,h3,h4,_,h5⟩:=dd'
  refine lh I (by rw [e];exact True.intro) hs ⟨q,hq⟩ ⟨hl,hd,_,(rel.put k eb rv).keeps λc ys ec=>?_,q,es,ep,hq,h2,h3,h4,h5⟩
  rw [av (kD ec e (λz=>nomatch z))]
  exact ec
end
section
variable {X:Cx} {pins:List (Addr × Obj)} {σ:St} {H:Hp} {s:Shared} {a:Addr} {kvs:List (Key × V)} {k:Key} {u:Value} {A:Around} {E:Value->Shared->Prop}
end
def zw (i:Expr):Prop:=∀ ov iv,subscripted i false ov iv=operate [ov,iv] (getItem ov iv)
theorem wo {prog:Program} {w:World} {A:Around} {E:Value->Shared->Prop} {s:Shared} {env:Env} {value slice:Expr} {pos:Pos} {T id:String} {Q:Value->Shared->Prop}
  (hl:typeLookup (.type T) "__getitem__"=pure (some (.builtin id))) (hs:zw slice)
  (h:wpAny (model prog w) A (eval value env) (λo s₁=>wpAny (model prog w) A (eval slice env) (λi s₂=>s₂.TypeIs o T/\wpAny (model prog w) A (getItem o i) Q E s₂) E s₁) E s) :
  wpAny (model prog w) A (eval (.Subscript value slice pos) env) Q E s:=by
 refine Subscript_ (wpAny_mono h (λo s₁ h₁=>wpAny_mono h₁ (λi s₂ h₂=>?_) λ_ _ x=>x) λ_ _ x=>x)
 obtain⟨hT,h₂⟩:=h₂
 unfold subscriptTail
 refine wpAny_bind ?_
 rw [getitemInPython_of_ne hT.not_modules]
 refine wpAny_bind (wpAny_specialOf hT hl ?_)
 have fin:wpAny (model prog w) A (subscripted slice false o i) (λr s₃=>wpAny (model prog w) A (letTemporaryGo value o r >>= λ_=>pure r) Q E s₃) E s₂:=by
  rw [hs o i]
  exact wpAny_operating (wpAny_mono h₂ (λr s₃ h₃=>wpAny_bind (wpAny_letTemporaryGo (wpAny_pure h₃))) λ_ _ x=>x)
 first
  | exact wpAny_pure (wpAny_bind fin)
  | exact wpAny_bind (wpAny_pure (wpAny_bind fin))
  | exact wpAny_bind fin
theorem mG {X:Cx} {pins:List (Addr × Obj)} {σ:St} {H:Hp} {s:Shared} {a:Addr} {y:V} {o:Option V} (I:Inv X pins σ H s) (g:gK H a y o):s.TypeIs (.ref a) "dict":=by
 rcases g with⟨kvs,k,e,_,_⟩|⟨kvs,k,b,e,_,_,_⟩
 ·obtain⟨_,_,vs,_,dd⟩:=sM I.hok e
  exact dd.typeIs
 ·obtain⟨_,_,xs,_,dd⟩:=sN I.hok e
  exact dd.typeIs
def xt (td ty:TE):TE:=λσ H Q=>td σ H λx H1=>ty σ H1 λy H2=>∃ a v,x=.ref a/\gK H2 a y (some v)/\Q v H2
def Bj (ty td:TE):TE:=λσ H Q=>ty σ H λy H1=>td σ H1 λx H2=>∃ a o,x=.ref a/\gK H2 a y o/\Q (.bl o.isSome) H2
def wt (ty td:TE):TE:=λσ H Q=>ty σ H λy H1=>td σ H1 λx H2=>∃ a o,x=.ref a/\gK H2 a y o/\Q (.bl (!o.isSome)) H2
def xk (td ty tv:TE):TS:=λD σ H=>tv σ H λv H1=>td σ H1 λx H2=>ty σ H2 λy H3=>∃ a H4,x=.ref a/\mv H3 a y v H4/\D.nx σ H4
section
variable {X:Cx} {o i e value:Expr} {pos pos' tpos:Pos} {td ty tv:TE}
theorem ic (hu:X.A.units+1<cLine) (ho:PE X o td) (hi:PE X i ty) (hs:zw i):PE X (.Subscript o i pos) (xt td ty):=by
 intro pins s σ H Q I h
 refine wo PySem.F.slot_dict_getitem.lookup hs (bZ (ho pins s σ H _ I h) λu s1 ⟨x,H1,I1,rx,q1⟩=>bZ (hi pins s1 σ H1 _ I1 q1) λiv s2 ⟨y,H2,I2,ry,a,v,ex,g,q2⟩=>?_)
 subst ex
 obtain rfl:u=Value.ref a:=rx
 exact⟨mG I2 g,qR hu I2 g ry λw' s3 I3 rw'=>⟨v,H2,I3,rw',q2⟩⟩
theorem lX (hu:X.A.units+1<cLine) (ho:PE X o td) (hi:PE X i ty) (hv:PE X value tv) (hs:swapsWith value (some (.Subscript o i pos')) pos.line X.env=pure false) :
  PS X (.Assign [.Subscript o i pos'] value pos) (xk td ty tv):=by
 intro pins s σ H D I h
 refine wpAny_Assign_Subscript (bZ (hv pins s σ H _ I h) λr s1 ⟨v,H1,I1,rv,q1⟩=>bZ (ho pins s1 σ H1 _ I1 q1) λu s2 ⟨x,H2,I2,rx,q2⟩=>bZ (hi pins s2 σ H2 _ I2 q2) λiv s3 ⟨y,H3,I3,ry,a,H4,ex,g,q3⟩=>?_) hs
 subst ex
 obtain rfl:u=Value.ref a:=rx
 exact qS hu I3 g ry rv λs4 I4=>⟨σ,H4,I4,q3⟩
end
theorem sJ {P:Program} {w:World} {H:Hp} (h:Heap) (hb:sysModules<h.objs.size):bK P w H (h.push { cls:=.type "dict",data:=.dict #[] }) h.objs.size (.dK []) :=
 ⟨Nat.zero_le _,beq_eq_false_iff_ne.mpr (Ne.symm (Nat.ne_of_lt hb)),[],.nil,Heap.DictOf.new h⟩
def yR:TE:=λ_ H Q=>∀ p,H p=none->Q (.ref p) (upd H p (.dK []))
def yS:TE:=λ_ H Q=>∀ p,H p=none->Q (.ref p) (upd H p (.dT []))
section
variable {X:Cx} {pos:Pos}
end
def mi:List (TE × TE)->St->Hp->(List (V × V)->Hp->Prop)->Prop
 | [],_,H,Q=>Q [] H
 | (tk,tv)::r,σ,H,Q=>tk σ H λx H1=>tv σ H1 λy H2=>mi r σ H2 λps H3=>Q ((x,y)::ps) H3
abbrev VV:List (V × V)->List (Value × Value)->Prop:=Paired λp q=>RelV p.1 q.1/\RelV p.2 q.2
def Aw (X:Cx) (pos:Pos) (keys:List (Option Expr)) (values:List Expr) (trs:List (TE × TE)):Prop :=
 ∀(pins:List (Addr × Obj)) (s:Shared) (σ:St) (H:Hp) (Q:List (V × V)->Hp->Prop),Inv X pins σ H s->mi trs σ H Q ->
  wpAny (model X.prog X.w) X.A (evalPairs (pairTrees keys values X.env pos)) (λvs s'=>∃ ps H',Inv X pins σ H' s'/\VV ps vs/\Q ps H') X.xe s
theorem vW {X:Cx} {pos:Pos}:Aw X pos [] [] []:=λpins s σ H Q I h=>pairTrees_nil_walk ⟨[],H,I,.nil,h⟩
theorem jI {X:Cx} {pos:Pos} {k v:Expr} {ks:List (Option Expr)} {vs:List Expr} {tk tv:TE} {trs:List (TE × TE)} (hk:PE X k tk) (hv:PE X v tv) (hr:Aw X pos ks vs trs) :
  Aw X pos (some k::ks) (v::vs) ((tk,tv)::trs):=λpins s σ H Q I h =>
 pairTrees_cons_walk (bZ (hk pins s σ H _ I h) λu s1 ⟨x,H1,I1,rx,q1⟩=>bZ (hv pins s1 σ H1 _ I1 q1) λw2 s2 ⟨y,H2,I2,ry,q2⟩ =>
  bZ (hr pins s2 σ H2 _ I2 q2) λws s3 ⟨ps,H3,I3,rel,q3⟩=>⟨(x,y)::ps,H3,I3,.cons ⟨rx,ry⟩ rel,q3⟩)
def jB (kvs more:List (Key × V)):List (Key × V):=more.foldl (λacc kv=>putK acc kv.1 kv.2) kvs
theorem KV.merge:∀{more:List (Key × V)} {rs:List (Key × Value)} {kvs:List (Key × V)} {vs:List (Key × Value)},KV more rs->KV kvs vs->KV (jB kvs more) (merged vs rs):=by
 intro more rs kvs vs r
 unfold KV at r
 induction r generalizing kvs vs with
 | nil=>intro q;exact q
 | @cons p q ps qs h t ih =>
  intro r0
  have e:KV (putK kvs p.1 p.2) (stored vs q.1 q.2):=by
   have:=r0.put p.1 h.2
   rw [<- h.1];exact this
  exact ih e
theorem gD:∀(more kvs:List (Key × V)),(jB kvs more).length<=kvs.length+more.length
 | [],kvs=>by show kvs.length<=kvs.length+0;omega
 | p::r,kvs=>by
  have h1:=gD r (putK kvs p.1 p.2)
  have h2:=fI kvs p.1 p.2
  show (jB (putK kvs p.1 p.2) r).length<=_
  rw [List.length_cons];omega
theorem jw {P:Program} {w:World}:∀{kvs:List (Key × V)} {ws:List (Value × Value)},VV (kvs.map λkv=>(kV kv.1,kv.2)) ws->∃ rs,Carries (bX P w) ws rs/\KV kvs rs
 | [],_,r=>by rw [List.map_nil] at r;cases r;exact⟨[],True.intro,.nil⟩
 | p::kvs,_,r=>by
  rw [List.map_cons] at r
  cases r with
  | @cons a b as bs h t =>
   obtain⟨rs,c,q⟩:=jw (P:=P) (w:=w) t
   obtain⟨b1,b2⟩:=b
   exact⟨(p.1,b2)::rs,⟨qb h.1,rfl,c⟩,.cons ⟨rfl,h.2⟩ q⟩
def xu (trs:List (TE × TE)):TE:=λσ H Q=>∀ p,H p=none->mi trs σ (upd H p (.dK [])) λps H2=>H2 p=some (.dK [])/\∃ kvs:List (Key × V),ps=kvs.map (λkv=>(kV kv.1,kv.2))/\kvs.length<=15/\Q (.ref p) (upd H2 p (.dK (jB [] kvs)))
theorem vU {X:Cx} {pos:Pos} {keys:List (Option Expr)} {values:List Expr} {trs:List (TE × TE)} (h:Aw X pos keys values trs) (hall:keys.all (·.isSome)=true) (hl:keys.length=values.length) (h0:keys≠[])
  (h15:keys.length<=15):PE X (.Dict keys values pos) (xu trs):=by
 intro pins s σ H Q I q
 have hn:=I.hok.fresh (Nat.le_refl s.heap.objs.size)
 have I1:=I.laid (a:=s.heap.objs.size) (o:=.dK []) (h':=s.heap.push { cls:=.type "dict",data:=.dict #[] }) (t':=s.toks) (λ_ _ q=>Heap.get?_push_of_some _ q) (Nat.le_refl _) (sJ s.heap I.big)
 refine wpAny_Dict_walk (knd:=bX X.prog X.w) hall hl h0 h15 (bZ (h pins _ σ _ _ I1 (q _ hn)) λws s2 ⟨ps,H2,I2,rel,e,kvs,ep,lk,q2⟩=>?_)
 subst ep
 obtain⟨rs,c,rk⟩:=jw (P:=X.prog) (w:=X.w) rel
 obtain⟨z,hd,vs0,r0,dd⟩:=wJ I2.hok e
 cases r0
 refine⟨rs,c,dd,λh' dd' hs=>⟨.ref s.heap.objs.size,_,?_,rfl,q2⟩⟩
 have hz:(jB [] kvs).length<=sizeLine:=by
  have h1:=gD kvs []
  rw [List.length_nil] at h1
  rw [sizeLine_eq];omega
 have he:∃ q,h'.get? s.heap.objs.size=some q:=let ⟨q,_,_,hq,_⟩:=dd';⟨q,hq⟩
 exact lh I2 (by rw [e];exact True.intro) hs he (sL hz hd (rk.merge .nil) dd')
structure M1 (X:Cx) (o:Expr) (m:Str) (apos:Pos) (e:Expr) (cpos:Pos):Prop where
 base:attributeBase o m X.env (eval o X.env)=eval o X.env
 few:((backTo cpos (starEach [e] X.env)).all (λx=>!x.1) && (backToKw cpos (keywordEach [] X.env)).all (λx=>x.1.isSome)
  && decide (([e]:List Expr).length+([]:List Keyword).length+(if ([]:List Keyword).isEmpty then 0 else 1)<30))=true
 line:(apos.endLine==cpos.line)=true
 trees:backTo cpos (starEach [e] X.env)=[(false,eval e X.env)]
structure M2 (X:Cx) (o:Expr) (m:Str) (apos:Pos) (e f:Expr) (cpos:Pos):Prop where
 base:attributeBase o m X.env (eval o X.env)=eval o X.env
 few:((backTo cpos (starEach [e,f] X.env)).all (λx=>!x.1) && (backToKw cpos (keywordEach [] X.env)).all (λx=>x.1.isSome)
  && decide (([e,f]:List Expr).length+([]:List Keyword).length+(if ([]:List Keyword).isEmpty then 0 else 1)<30))=true
 line:(apos.endLine==cpos.line)=true
 trees:backTo cpos (starEach [e,f] X.env)=[(false,eval e X.env),(false,eval f X.env)]
def BI (H:Hp) (a:Addr):Prop:=(∃ kvs,Rd H a (.dK kvs))∨∃ kvs,Rd H a (.dT kvs)
section
variable {X:Cx} {pins:List (Addr × Obj)} {σ:St} {H:Hp} {s:Shared} {a:Addr} {y d:V} {u r:Value} {o:Option V} {A:Around} {E:Value->Shared->Prop}
end
section
variable {X:Cx} {o e f:Expr} {apos cpos:Pos} {td ty tx:TE}
end
section
variable {X:Cx} {pins:List (Addr × Obj)} {σ:St} {H:Hp} {s:Shared} {a:Addr} {kvs:List (Key × V)} {A:Around} {E:Value->Shared->Prop}
end
section
variable {X:Cx} {pins:List (Addr × Obj)} {σ:St} {H:Hp} {s:Shared} {a:Addr} {y:V} {u:Value} {A:Around} {E:Value->Shared->Prop}
end
def Aa (l:Int) (b:Bool):HO:=.dK [(Sum.inr "left",.int l),(Sum.inr "free",.bl b)]
def AA (l:Int) (b:Bool):Prop:=b=true∨(0<=l/\l<2147483647)
def Up (p:Addr) (b:Bool) (H H':Hp):Prop:=∃ l,AA l b/\H'=upd H p (Aa l b)
theorem rW {H:Hp} {p:Addr} {o o':HO}:upd (upd H p o) p o'=upd H p o':=by
 funext c
 by_cases e:c=p
 ·subst e;rw [af,af]
 ·rw [av e,av e,av e]
theorem Up.trans {p:Addr} {b:Bool} {H H1 H2:Hp} (h:Up p b H H1) (h':Up p b H1 H2):Up p b H H2:=by
 obtain⟨l,_,rfl⟩:=h
 obtain⟨l',k',rfl⟩:=h'
 exact⟨l',k',rW⟩
theorem Up.at {p:Addr} {b:Bool} {H H1:Hp} (h:Up p b H H1):∃ l,AA l b/\H1 p=some (Aa l b):=by
 obtain⟨l,k,rfl⟩:=h
 exact⟨l,k,af⟩
theorem Up.ne {p q:Addr} {b:Bool} {H H1:Hp} (h:Up p b H H1) (n:q≠p):H1 q=H q:=by
 obtain⟨l,k,rfl⟩:=h
 exact av n
def Us (p:Addr) (b:Bool) (H H':Hp):Prop:=(∃ l,AA l b/\H' p=some (Aa l b))/\∀ q o,q≠p->H q=some o->H' q=some o
theorem Up.us {p:Addr} {b:Bool} {H H':Hp} (h:Up p b H H'):Us p b H H':=⟨h.at,λq o n e=>by rw [h.ne n];exact e⟩
theorem Us.trans {p:Addr} {b:Bool} {H H1 H2:Hp} (h:Us p b H H1) (h':Us p b H1 H2):Us p b H H2:=⟨h'.1,λq o n e=>h'.2 q o n (h.2 q o n e)⟩
theorem Us.free {p q:Addr} {b:Bool} {H H1:Hp} (h:Us p b H H1) (f:H1 q=none):H q=none:=by
 cases e:H q with
 | none=>rfl
 | some o =>
  by_cases n:q=p
  ·subst n
   obtain⟨l,_,z⟩:=h.1
   rw [z] at f;cases f
  ·rw [h.2 q o n e] at f;cases f
theorem Us.set {p q:Addr} {b:Bool} {H H1:Hp} {o:HO} (h:Us p b H H1) (f:H q=none) (n:q≠p):Us p b H (upd H1 q o):=by
 obtain⟨⟨l,k,e⟩,s⟩:=h
 exact⟨⟨l,k,by rw [av (Ne.symm n)];exact e⟩,λr u n er=>by rw [av (λz=>by rw [z,f] at er;cases er)];exact s r u n er⟩
section
variable {K:PySem.W.Frag} {H H':Hp}
theorem aJ.gB {a:Addr} {xs:List V} (k:∀ a xs,Rd H a (.tup xs)->Rd H' a (.tup xs)) (h:aJ K H a xs):aJ K H' a xs:=h.imp (λz=>k _ _ z) id
mutual
theorem dv.gB (k:∀ a xs,Rd H a (.tup xs)->Rd H' a (.tup xs)):∀(d:PyData) {v:V},yf d=true->dv K H d v->dv K H' d v
 | .none,_,_,h=>h
 | .bool _,_,_,h=>h
 | .int _,_,_,h=>h
 | .str _,_,_,h=>h
 | .list ds,_,z,_=>by cases z
 | .tuple ds,_,z,⟨q,xs,e,h,t⟩=>⟨q,xs,e,h.gB k,bh.gB k ds z t⟩
 | .dict _,_,_,h=>h.elim
theorem bh.gB (k:∀ a xs,Rd H a (.tup xs)->Rd H' a (.tup xs)):∀(ds:List PyData) {xs:List V},j6 ds=true->bh K H ds xs->bh K H' ds xs
 | [],_,_,h=>h
 | d::ds,_,z,⟨x,r,e,h,t⟩=>by
  have z':yf d=true/\j6 ds=true:=by simpa [j6] using z
  exact⟨x,r,e,dv.gB k d z'.1 h,bh.gB k ds z'.2 t⟩
end
theorem bh.set:∀{ds:List PyData} {us:List V} (i:Nat) {d:PyData} {v:V},bh K H ds us->dv K H d v->bh K H (ds.set i d) (us.set i v)
 | [],_,_,_,_,h,_=>by cases h;exact rfl
 | e::ds,_,0,_,_,⟨x,r,ex,h,t⟩,hv=>by subst ex;exact⟨_,_,rfl,hv,t⟩
 | e::ds,_,i+1,_,_,⟨x,r,ex,h,t⟩,hv=>by subst ex;exact⟨_,_,rfl,h,bh.set i t hv⟩
theorem Us.gB {p:Addr} {b:Bool} {l:Int} (h:Us p b H H') (hp:H p=some (Aa l b)):∀ a xs,Rd H a (.tup xs)->Rd H' a (.tup xs):=by
 intro a xs z
 rcases z with z | ⟨o,z⟩
 ·exact .inl (h.2 _ _ (λe=>by rw [e,hp] at z;cases z) z)
 ·exact .inr ⟨o,h.2 _ _ (λe=>by rw [e,hp] at z;cases z) z⟩
end
theorem Us.ref {p:Addr} {b:Bool} {H H1:Hp} (h:Us p b H H1):∃ l,AA l b/\H1 p=some (Aa l b):=h.1
theorem uc {X:Cx} {ss:List Stmt}:ja X ss (λ_ _ _=>False):=by
 intro _ _ _ _ _ _ h
 exact False.elim h
theorem mn (it t:Addr) (i:Nat) (items:Array Value) (x:Value) (hx:items[i]?=some x):Meets (Builtin.«tuple_iterator.__next__» ⟨[.ref it],[]⟩)
  (λ_ R s=>s.heap.IsTupleIter it t i/\s.heap.IsTuple t items/\∀ h',h'.IsTupleIter it t (i+1)->Heap.SameBut it s.heap h'->R (.ok (.ret x)) { s with heap:=h' }) :=
 .of_wp λprog w A R s h=>by
  obtain⟨⟨o,e,c,d⟩,⟨o2,e2,c2,n2,d2⟩,q⟩:=h
  have hx':items[(i:Int).toNat]?=some x:=by simpa using hx
  wp_walk using wpAny_field (i:=0) (x:=Value.ref t) e d rfl,wpAny_field (i:=1) (x:=Value.int i 0) e d rfl,wpAny_seqItems e2 d2
  rw [hx']
  refine wpAny_bind (wpAny_setField e d (show 1<2 by decide) ?_)
  obtain⟨oc,od,odt,os⟩:=o
  cases c
  cases d
  wp_walk
  refine⟨x,rfl,q _ ⟨_,Heap.get?_update_self _ e rfl,rfl,?_⟩ (Heap.SameBut.update ..)⟩
  show Data.fields _=_
  simp [rawInt]
theorem nS (it t:Addr) (i:Nat) (items:Array Value) (hx:items[i]?=none):Meets (Builtin.«tuple_iterator.__next__» ⟨[.ref it],[]⟩)
  (λA R s=>A.handled=none/\s.heap.IsTupleIter it t i/\s.heap.IsTuple t items/\∀ h' e,Heap.ExtBut it s.heap h'->(∃ o,h'.get? e=some o/\o.cls=.type "StopIteration")->R (.error (.ref e)) { s with heap:=h' }) :=
 .of_wp λprog w A R s h=>by
  obtain⟨hn,⟨o,e,c,d⟩,⟨o2,e2,c2,n2,d2⟩,q⟩:=h
  have hx':items[(i:Int).toNat]?=none:=by simpa using hx
  wp_walk using wpAny_field (i:=0) (x:=Value.ref t) e d rfl,wpAny_field (i:=1) (x:=Value.int i 0) e d rfl,wpAny_seqItems e2 d2
  rw [hx']
  wp_walk using wpAny_setField e d (show 0<2 by decide)
  refine wpAny_raiseNew_none hn (q _ _ (λb o hb e=>Heap.get?_push_of_some _ (Heap.get?_push_of_some _ ((Heap.get?_update_other _ _ (Ne.symm hb)).trans e))) ⟨_,Heap.get?_push_size _ rfl,rfl⟩)
section
variable {prog:Program} {w:World} {A:Around} {E:Value->Shared->Prop} {s:Shared} {it t:Addr} {i:Nat} {items:Array Value} {Q:Value->Shared->Prop}
theorem i6 {x:Value} (h1:s.heap.IsTupleIter it t i) (h2:s.heap.IsTuple t items) (hx:items[i]?=some x) (q:∀ h',h'.IsTupleIter it t (i+1)->Heap.SameBut it s.heap h'->Q x { s with heap:=h' }) :
  wpAny (model prog w) A (Builtin.SmallTypes.nextOf (.ref it)) Q E s:=by
 have ty:s.TypeIs (.ref it) "tuple_iterator":=by obtain⟨o,e,c,_⟩:=h1;exact⟨o,e,c⟩
 unfold Builtin.SmallTypes.nextOf
 refine wpAny_bind (wpAny_callSpecial?_slot ty slot_tupleiter_next (call_meets slot_tupleiter_next ty entry_tupleiter_next (args_tupleiter_next _) (mn it t i items x hx) ⟨h1,h2,λh' a b=>?_⟩))
 exact wpAny_pure (q h' a b)
theorem jC (hn:A.handled=none) (h1:s.heap.IsTupleIter it t i) (h2:s.heap.IsTuple t items) (hx:items[i]?=none) (q:∀ h' e,Heap.ExtBut it s.heap h'->(∃ o,h'.get? e=some o/\o.cls=.type "StopIteration")->E (.ref e) { s with heap:=h' }) :
  wpAny (model prog w) A (Builtin.SmallTypes.nextOf (.ref it)) Q E s:=by
 have ty:s.TypeIs (.ref it) "tuple_iterator":=by obtain⟨o,e,c,_⟩:=h1;exact⟨o,e,c⟩
 unfold Builtin.SmallTypes.nextOf
 exact wpAny_bind (wpAny_callSpecial?_slot ty slot_tupleiter_next (call_meets slot_tupleiter_next ty entry_tupleiter_next (args_tupleiter_next _) (nS it t i items hx) ⟨hn,h1,h2,λh' e a b=>q h' e a b⟩))
end
inductive Sd
 | l
 | t
def Sd.It:Sd->Heap->Addr->Addr->Nat->Prop
 | .l=>Heap.IsListIter
 | .t=>Heap.IsTupleIter
def Sd.Sq:Sd->Heap->Addr->Array Value->Prop
 | .l=>Heap.IsList
 | .t=>Heap.IsTuple
def Sd.io (k:Sd) (a:Addr):Obj:=match k with
 | .l=>{ cls:=.type "list_iterator",data:=.fields #[.ref a,.int 0 0] }
 | .t=>{ cls:=.type "tuple_iterator",data:=.fields #[.ref a,.int 0 0] }
theorem Sd.It.at {k:Sd} {h h':Heap} {it a:Addr} {i:Nat} (x:k.It h it a i) (e:∀ o,h.get? it=some o->h'.get? it=some o):k.It h' it a i:=by
 cases k<;>(obtain⟨o,e1,r⟩:=x;exact⟨o,e o e1,r⟩)
theorem Sd.It.there {k:Sd} {h:Heap} {it a:Addr} {i:Nat} (x:k.It h it a i):∃ o,h.get? it=some o/\∀ v,o.data≠.cell v:=by
 cases k<;>(obtain⟨o,e1,_,d⟩:=x;exact⟨o,e1,λv z=>by rw [d] at z;cases z⟩)
theorem Sd.Sq.at {k:Sd} {h h':Heap} {a:Addr} {xs:Array Value} (x:k.Sq h a xs) (e:∀ o,h.get? a=some o->h'.get? a=some o):k.Sq h' a xs:=by
 cases k<;>(obtain⟨o,e1,r⟩:=x;exact⟨o,e o e1,r⟩)
theorem Sd.Sq.lt {k:Sd} {h:Heap} {a:Addr} {xs:Array Value} (x:k.Sq h a xs):a<h.objs.size:=by
 cases k<;>(obtain⟨o,e1,r⟩:=x;exact Heap.lt_size e1)
theorem Sd.start (k:Sd) {h:Heap} {it a:Addr} (e:h.get? it=some (k.io a)):k.It h it a 0:=by
 cases k<;>exact⟨_,e,rfl,rfl⟩
section
variable {prog:Program} {w:World} {A:Around} {E:Value->Shared->Prop} {s:Shared} {it a:Addr} {i:Nat} {xs:Array Value} {Q:Value->Shared->Prop} {k:Sd}
theorem Sd.item {x:Value} (h1:k.It s.heap it a i) (h2:k.Sq s.heap a xs) (hx:xs[i]?=some x) (q:∀ h',k.It h' it a (i+1)->Heap.SameBut it s.heap h'->Q x { s with heap:=h' }) :
  wpAny (model prog w) A (Builtin.SmallTypes.nextOf (.ref it)) Q E s:=by
 cases k
 ·exact wpAny_nextOf_list_item h1 h2 hx q
 ·exact i6 h1 h2 hx q
theorem Sd.fin (hn:A.handled=none) (h1:k.It s.heap it a i) (h2:k.Sq s.heap a xs) (hx:xs[i]?=none) (q:∀ h' e,Heap.ExtBut it s.heap h'->(∃ o,h'.get? e=some o/\o.cls=.type "StopIteration")->E (.ref e) { s with heap:=h' }) :
  wpAny (model prog w) A (Builtin.SmallTypes.nextOf (.ref it)) Q E s:=by
 cases k
 ·exact wpAny_nextOf_list_end hn h1 h2 hx q
 ·exact jC hn h1 h2 hx q
theorem Sd.iter (h2:k.Sq s.heap a xs) (q:Q (.ref s.heap.objs.size) { s with heap:=s.heap.push (k.io a) }):wpAny (model prog w) A (pyIter (.ref a)) Q E s:=by
 cases k
 ·exact wpAny_pyIter_list h2 q
 ·exact wpAny_pyIter_tuple h2 q
end
theorem wB (k1 k2:Sd) (l1 l2:Addr) (xs ys:Array Value):Meets (Builtin.«zip.__new__» ⟨[.type "zip",.ref l1,.ref l2],[]⟩)
  (λ_ R s=>k1.Sq s.heap l1 xs/\k2.Sq s.heap l2 ys/\∀ h',IsZip h' (s.heap.objs.size+4) (s.heap.objs.size+2) (s.heap.objs.size+3) .none->IsPair h' (s.heap.objs.size+2) (.ref s.heap.objs.size) (.ref (s.heap.objs.size+1)) ->
   IsPair h' (s.heap.objs.size+3) .none .none->k1.It h' s.heap.objs.size l1 0->k2.It h' (s.heap.objs.size+1) l2 0->(∀ c o,s.heap.get? c=some o->h'.get? c=some o)->R (.ok (.ret (.ref (s.heap.objs.size+4)))) { s with heap:=h' }) :=
 .of_wp λprog w A R s h=>by
  obtain⟨h1,h2,q⟩:=h
  have f1:=sub_zip
  have h2':k2.Sq (s.heap.push (k1.io l1)) l2 ys:=h2.at λo e=>Heap.get?_push_of_some _ e
  wp_walk using Sd.iter h1,Sd.iter (s:={ s with heap:=s.heap.push (k1.io l1) }) h2'
  refine⟨_,rfl,?_⟩
  have e5:((((s.heap.push (k1.io l1)).push (k2.io l2)).push { cls:=.type "tuple",data:=.seq #[.ref s.heap.objs.size,.ref (s.heap.push (k1.io l1)).objs.size] }).push { cls:=.type "tuple",data:=.seq #[.none,.none] }).objs.size=s.heap.objs.size+4:=by simp only [Heap.size_push]
  have e4:(((s.heap.push (k1.io l1)).push (k2.io l2)).push { cls:=.type "tuple",data:=.seq #[.ref s.heap.objs.size,.ref (s.heap.push (k1.io l1)).objs.size] }).objs.size=s.heap.objs.size+3:=by simp only [Heap.size_push]
  have e3:((s.heap.push (k1.io l1)).push (k2.io l2)).objs.size=s.heap.objs.size+2:=by simp only [Heap.size_push]
  have e2:(s.heap.push (k1.io l1)).objs.size=s.heap.objs.size+1:=by simp only [Heap.size_push]
  show R (.ok (.ret (.ref ((((s.heap.push (k1.io l1)).push (k2.io l2)).push { cls:=.type "tuple",data:=.seq #[.ref s.heap.objs.size,.ref (s.heap.push (k1.io l1)).objs.size] }).push { cls:=.type "tuple",data:=.seq #[.none,.none] }).objs.size))) { s with heap:=((((s.heap.push (k1.io l1)).push (k2.io l2)).push { cls:=.type "tuple",data:=.seq #[.ref s.heap.objs.size,.ref (s.heap.push (k1.io l1)).objs.size] }).push { cls:=.type "tuple",data:=.seq #[.none,.none] }).push { cls:=.type "zip",data:=.fields #[.none,.bool false,.bool false,.ref ((s.heap.push (k1.io l1)).push (k2.io l2)).objs.size,.ref (((s.heap.push (k1.io l1)).push (k2.io l2)).push { cls:=.type "tuple",data:=.seq #[.ref s.heap.objs.size,.ref (s.heap.push (k1.io l1)).objs.size] }).objs.size] } }
  have g0:(s.heap.push (k1.io l1)).get? s.heap.objs.size=some (k1.io l1):=Heap.get?_push_size _ (by cases k1<;>rfl)
  have g1:((s.heap.push (k1.io l1)).push (k2.io l2)).get? (s.heap.objs.size+1)=some (k2.io l2):=by rw [<- e2];exact Heap.get?_push_size _ (by cases k2<;>rfl)
  rw [e5,e4,e3,e2]
  refine q _ ?_ ?_ ?_ (k1.start (Heap.get?_push_of_some _ (Heap.get?_push_of_some _ (Heap.get?_push_of_some _ (Heap.get?_push_of_some _ g0))))) (k2.start (Heap.get?_push_of_some _ (Heap.get?_push_of_some _ (Heap.get?_push_of_some _ g1)))) λc o e=>Heap.get?_push_of_some _ (Heap.get?_push_of_some _ (Heap.get?_push_of_some _ (Heap.get?_push_of_some _ (Heap.get?_push_of_some _ e))))
  ·exact (show _=_ from by
    have:=Heap.get?_push_size (((((s.heap.push (k1.io l1)).push (k2.io l2)).push { cls:=.type "tuple",data:=.seq #[.ref s.heap.objs.size,.ref (s.heap.objs.size+1)] }).push { cls:=.type "tuple",data:=.seq #[.none,.none] })) (o:={ cls:=.type "zip",data:=.fields #[.none,.bool false,.bool false,.ref (s.heap.objs.size+2),.ref (s.heap.objs.size+3)] }) rfl
    simp only [Heap.size_push] at this
    exact this)
  ·refine Heap.get?_push_of_some _ (Heap.get?_push_of_some _ ?_)
   have:=Heap.get?_push_size ((s.heap.push (k1.io l1)).push (k2.io l2)) (o:={ cls:=.type "tuple",data:=.seq #[.ref s.heap.objs.size,.ref (s.heap.objs.size+1)] }) rfl
   simp only [Heap.size_push] at this
   exact this
  ·refine Heap.get?_push_of_some _ ?_
   have:=Heap.get?_push_size (((s.heap.push (k1.io l1)).push (k2.io l2)).push { cls:=.type "tuple",data:=.seq #[.ref s.heap.objs.size,.ref (s.heap.objs.size+1)] }) (o:={ cls:=.type "tuple",data:=.seq #[.none,.none] }) rfl
   simp only [Heap.size_push] at this
   exact this
theorem uN (k1 k2:Sd) (z TI TO i1 i2 l1 l2:Addr) (ap:ZipApart z TI TO i1 i2 l1 l2) (n1 n2:Nat) (xs ys:Array Value) (x y a b:Value) (hx:xs[n1]?=some x) (hy:ys[n2]?=some y):Meets (Builtin.«zip.__next__» ⟨[.ref z],[]⟩)
  (λ_ R s=>IsZip s.heap z TI TO .none/\IsPair s.heap TI (.ref i1) (.ref i2)/\IsPair s.heap TO a b/\k1.It s.heap i1 l1 n1/\k2.It s.heap i2 l2 n2/\k1.Sq s.heap l1 xs/\k2.Sq s.heap l2 ys /\
   ∀ h',IsZip h' z TI TO (rawInt s.heap.objs.size)->IsPair h' TO x y->k1.It h' i1 l1 (n1+1)->k2.It h' i2 l2 (n2+1)->IsPair h' s.heap.objs.size x y ->
    (∀ c o,c≠z->c≠TO->c≠i1->c≠i2->s.heap.get? c=some o->h'.get? c=some o)->R (.ok (.ret (.ref s.heap.objs.size))) { s with heap:=h' }) :=
 .of_wp λprog w A R s h=>by
  obtain⟨hz,hTI,hTO,j1,j2,q1,q2,q⟩:=h
  wp_walk using wpAny_field (i:=2) (x:=Value.bool false) hz rfl rfl,wpAny_field (i:=3) (x:=Value.ref TI) hz rfl rfl,wpAny_field (i:=0) (x:=Value.none) hz rfl rfl,wpAny_field (i:=4) (x:=Value.ref TO) hz rfl rfl,wpAny_seqItems hTI rfl,wpAny_setField_rec hz (show 0<5 by decide)
  intro ha za sa
  have ka:∀ c o,c≠z->s.heap.get? c=some o->ha.get? c=some o:=λc o hc e=>(sa.2 c hc).trans e
  have j1a:=j1.at (h':=ha) λo e=>ka i1 o ap.i1z e
  have q1a:=q1.at (h':=ha) λo e=>ka l1 o ap.l1z e
  wp_walk using wpAny_onRaise,Sd.item (s:={ s with heap:=ha }) j1a q1a hx
  intro hb jb sb
  have kb:∀ c o,c≠z->c≠i1->s.heap.get? c=some o->hb.get? c=some o:=λc o h1 h2 e=>(sb.2 c h2).trans (ka c o h1 e)
  have TOb:IsPair hb TO a b:=kb TO _ ap.TOz ap.TOi1 hTO
  wp_walk using wpAny_seqItems TOb rfl,wpAny_updateSeq_pair (s:={ s with heap:=hb }) TOb
  intro hc TOc' sc
  have TOc:IsPair hc TO x b:=TOc'
  have kc:∀ c o,c≠z->c≠i1->c≠TO->s.heap.get? c=some o->hc.get? c=some o:=λc o h1 h2 h3 e=>(sc.2 c h3).trans (kb c o h1 h2 e)
  have zc:hc.get? z=some { cls:=.type "zip",data:=.fields #[.ellipsis,.bool false,.bool false,.ref TI,.ref TO] }:=(sc.2 z (Ne.symm ap.TOz)).trans ((sb.2 z (Ne.symm ap.i1z)).trans za)
  have j1c:=jb.at (h':=hc) λo e=>(sc.2 i1 (Ne.symm ap.TOi1)).trans e
  have j2c:=j2.at (h':=hc) λo e=>kc i2 o ap.i2z (Ne.symm ap.i12) (Ne.symm ap.TOi2) e
  have q2c:=q2.at (h':=hc) λo e=>kc l2 o ap.l2z ap.l2i1 ap.l2TO e
  wp_walk using wpAny_letGo,wpAny_onRaise,Sd.item (s:={ s with heap:=hc }) j2c q2c hy
  intro hd jd sd
  have TOd:IsPair hd TO x b:=(sd.2 TO ap.TOi2).trans TOc
  have zd:=(sd.2 z (Ne.symm ap.i2z)).trans zc
  wp_walk using wpAny_seqItems TOd rfl,wpAny_updateSeq_pair (s:={ s with heap:=hd }) TOd
  intro he TOe' se
  have TOe:IsPair he TO x y:=TOe'
  have ze:=(se.2 z (Ne.symm ap.TOz)).trans zd
  wp_walk using wpAny_letGo,wpAny_seqItems TOe rfl
  have sz:he.objs.size=s.heap.objs.size:=se.1.trans (sd.1.trans (sc.1.trans (sb.1.trans sa.1)))
  have zn:z≠he.objs.size:=Nat.ne_of_lt (Heap.lt_size ze)
  have zf:(he.push { cls:=.type "tuple",data:=.seq #[x,y] }).get? z=some { cls:=.type "zip",data:=.fields #[.ellipsis,.bool false,.bool false,.ref TI,.ref TO] }:=Heap.get?_push_of_some _ ze
  have ke:∀ c o,c≠z->he.get? c=some o->(((he.push { cls:=.type "tuple",data:=.seq #[x,y] }).update z (Obj.mapFields λx=>x.setIfInBounds 0 (rawInt ↑he.objs.size))).update z (Obj.mapFields λx=>x.setIfInBounds 1 (Value.bool false))).get? c=some o:=λc o hc e=>(Heap.get?_update_other _ _ (Ne.symm hc)).trans ((Heap.get?_update_other _ _ (Ne.symm hc)).trans (Heap.get?_push_of_some _ e))
  have g1:=Heap.get?_update_self (Obj.mapFields λx=>x.setIfInBounds 0 (rawInt ↑he.objs.size)) zf rfl
  have g2:=Heap.get?_update_self (Obj.mapFields λx=>x.setIfInBounds 1 (Value.bool false)) g1 rfl
  have gn:(((he.push { cls:=.type "tuple",data:=.seq #[x,y] }).update z (Obj.mapFields λx=>x.setIfInBounds 0 (rawInt ↑he.objs.size))).update z (Obj.mapFields λx=>x.setIfInBounds 1 (Value.bool false))).get? he.objs.size=some { cls:=.type "tuple",data:=.seq #[x,y] }:=(Heap.get?_update_other _ _ zn).trans ((Heap.get?_update_other _ _ zn).trans (Heap.get?_push_size _ rfl))
  refine⟨_,rfl,?_⟩
  show R (.ok (.ret (.ref he.objs.size))) { s with heap:=(((he.push { cls:=.type "tuple",data:=.seq #[x,y] }).update z (Obj.mapFields λx=>x.setIfInBounds 0 (rawInt ↑he.objs.size))).update z (Obj.mapFields λx=>x.setIfInBounds 1 (Value.bool false))) }
  generalize (((he.push { cls:=.type "tuple",data:=.seq #[x,y] }).update z (Obj.mapFields λx=>x.setIfInBounds 0 (rawInt ↑he.objs.size))).update z (Obj.mapFields λx=>x.setIfInBounds 1 (Value.bool false)))=hf at *
  rw [sz]
  refine q hf (by rw [<- sz];exact g2) (ke TO _ ap.TOz TOe) (j1c.at λo e=>ke i1 o ap.i1z ((se.2 i1 (Ne.symm ap.TOi1)).trans ((sd.2 i1 ap.i12).trans e))) (jd.at λo e=>ke i2 o ap.i2z ((se.2 i2 (Ne.symm ap.TOi2)).trans e)) (by rw [<- sz];exact gn) λc o h1 h2 h3 h4 e=>ke c o h1 ((se.2 c h2).trans ((sd.2 c h4).trans (kc c o h1 h3 h2 e)))
theorem uM (k1:Sd) (z TI TO i1 i2 l1:Addr) (i1z:i1≠z) (l1z:l1≠z) (n1:Nat) (xs:Array Value) (a b:Value) (hx:xs[n1]?=none):Meets (Builtin.«zip.__next__» ⟨[.ref z],[]⟩)
  (λA R s=>A.handled=none/\IsZip s.heap z TI TO .none/\IsPair s.heap TI (.ref i1) (.ref i2)/\IsPair s.heap TO a b/\k1.It s.heap i1 l1 n1/\k1.Sq s.heap l1 xs /\
   ∀ h' e,(∀ c o,c≠z->c≠i1->s.heap.get? c=some o->h'.get? c=some o)->(∃ o,h'.get? e=some o/\o.cls=.type "StopIteration")->R (.error (.ref e)) { s with heap:=h' }) :=
 .of_wp λprog w A R s h=>by
  obtain⟨hn,hz,hTI,hTO,j1,q1,q⟩:=h
  wp_walk using wpAny_field (i:=2) (x:=Value.bool false) hz rfl rfl,wpAny_field (i:=3) (x:=Value.ref TI) hz rfl rfl,wpAny_field (i:=0) (x:=Value.none) hz rfl rfl,wpAny_field (i:=4) (x:=Value.ref TO) hz rfl rfl,wpAny_seqItems hTI rfl,wpAny_setField_rec hz (show 0<5 by decide)
  intro ha za sa
  have ka:∀ c o,c≠z->s.heap.get? c=some o->ha.get? c=some o:=λc o hc e=>(sa.2 c hc).trans e
  have j1a:=j1.at (h':=ha) λo e=>ka i1 o i1z e
  have q1a:=q1.at (h':=ha) λo e=>ka l1 o l1z e
  wp_walk using wpAny_onRaise,Sd.fin (A:=A.in1) (s:={ s with heap:=ha }) hn j1a q1a hx
  intro hb e kb oe
  have zb:=kb z _ (Ne.symm i1z) za
  refine wpAny_setField_rec (s:={ s with heap:=hb }) zb (show 0<5 by decide) λhc zc sc=>?_
  obtain⟨o,eo,co⟩:=oe
  have ez:e≠z:=λx=>by
   subst x
   rw [zb] at eo
   cases eo
   injection co with x
   exact absurd x (by decide)
  exact q hc e (λc o h1 h2 x=>(sc.2 c h1).trans (kb c o h2 (ka c o h1 x))) ⟨o,(sc.2 e ez).trans eo,co⟩
section
variable {prog:Program} {w:World} {A:Around} {E:Value->Shared->Prop} {s:Shared}
theorem kL {it:Addr} {T id:String} {Q:Option Value->Shared->Prop} (ty:s.TypeIs (.ref it) T) (sl:Slot T "__next__" id)
  (h:wpAny (model prog w) A (call (.builtin id) [.ref it]) (λv s'=>Q (some v) s') (λe s'=>(∃ x o,e=.ref x/\s'.heap.get? x=some o/\o.cls=.type "StopIteration")/\Q none s') s):wpAny (model prog w) A (pyNext (.ref it)) Q E s:=by
 unfold pyNext
 refine wpAny_bind (wpAny_attempt (wpAny_callSpecial?_slot ty sl (wpAny_mono h (λv s' q=>wpAny_pure q) λe s' q=>?_)))
 obtain⟨⟨x,o,rfl,eo,co⟩,q⟩:=q
 refine wpAny_bind (wpAny_isInstance (T := "StopIteration") (b:=true) ⟨o,eo,co⟩ ?_ ?_)
 ·with_unfolding_all rfl
 ·rw [if_pos rfl]
  exact wpAny_pure q
theorem sk {k1 k2:Sd} {l1 l2:Addr} {xs ys:Array Value} {Q:Value->Shared->Prop} (h1:k1.Sq s.heap l1 xs) (h2:k2.Sq s.heap l2 ys)
  (q:∀ h',IsZip h' (s.heap.objs.size+4) (s.heap.objs.size+2) (s.heap.objs.size+3) .none->IsPair h' (s.heap.objs.size+2) (.ref s.heap.objs.size) (.ref (s.heap.objs.size+1)) ->
   IsPair h' (s.heap.objs.size+3) .none .none->k1.It h' s.heap.objs.size l1 0->k2.It h' (s.heap.objs.size+1) l2 0->(∀ c o,s.heap.get? c=some o->h'.get? c=some o)->Q (.ref (s.heap.objs.size+4)) { s with heap:=h' }) :
  wpAny (model prog w) A (call (.type "zip") [.ref l1,.ref l2]) Q E s :=
 callType_new F.called_zip (by decide) (F.typeCall_zip_2 _ _) (F.newCall_zip_2 _ _) (λobj=>F.args_object_init_3 _ _ _) F.entry_zip_new (wB k1 k2 l1 l2 xs ys) ⟨h1,h2,λh' z a b c d e=>⟨⟨_,z,rfl⟩,q h' z a b c d e⟩⟩
theorem j5 {k1 k2:Sd} {z TI TO i1 i2 l1 l2:Addr} {n1 n2:Nat} {xs ys:Array Value} {x y a b:Value} {Q:Option Value->Shared->Prop} (ap:ZipApart z TI TO i1 i2 l1 l2) (hz:IsZip s.heap z TI TO .none) (hTI:IsPair s.heap TI (.ref i1) (.ref i2)) (hTO:IsPair s.heap TO a b)
  (j1:k1.It s.heap i1 l1 n1) (j2:k2.It s.heap i2 l2 n2) (q1:k1.Sq s.heap l1 xs) (q2:k2.Sq s.heap l2 ys) (hx:xs[n1]?=some x) (hy:ys[n2]?=some y)
  (q:∀ h',IsZip h' z TI TO (rawInt s.heap.objs.size)->IsPair h' TO x y->k1.It h' i1 l1 (n1+1)->k2.It h' i2 l2 (n2+1)->IsPair h' s.heap.objs.size x y ->
    (∀ c o,c≠z->c≠TO->c≠i1->c≠i2->s.heap.get? c=some o->h'.get? c=some o)->Q (some (.ref s.heap.objs.size)) { s with heap:=h' }):wpAny (model prog w) A (pyNext (.ref z)) Q E s :=
 kL ⟨_,hz,rfl⟩ F.slot_zip_next (call_meets F.slot_zip_next ⟨_,hz,rfl⟩ F.entry_zip_next (F.args_zip_next_1 _) (uN k1 k2 z TI TO i1 i2 l1 l2 ap n1 n2 xs ys x y a b hx hy) ⟨hz,hTI,hTO,j1,j2,q1,q2,λh' a b c d e f=>q h' a b c d e f⟩)
theorem lH {k1:Sd} {z TI TO i1 i2 l1:Addr} {n1:Nat} {xs:Array Value} {a b:Value} {Q:Option Value->Shared->Prop} (hn:A.handled=none) (i1z:i1≠z) (l1z:l1≠z) (hz:IsZip s.heap z TI TO .none) (hTI:IsPair s.heap TI (.ref i1) (.ref i2)) (hTO:IsPair s.heap TO a b)
  (j1:k1.It s.heap i1 l1 n1) (q1:k1.Sq s.heap l1 xs) (hx:xs[n1]?=none)
  (q:∀ h',(∀ c o,c≠z->c≠i1->s.heap.get? c=some o->h'.get? c=some o)->Q none { s with heap:=h' }):wpAny (model prog w) A (pyNext (.ref z)) Q E s :=
 kL ⟨_,hz,rfl⟩ F.slot_zip_next (call_meets F.slot_zip_next ⟨_,hz,rfl⟩ F.entry_zip_next (F.args_zip_next_1 _) (uM k1 z TI TO i1 i2 l1 i1z l1z n1 xs a b hx) ⟨hn,hz,hTI,hTO,j1,q1,λh' e k ⟨o,eo,co⟩=>⟨⟨e,o,rfl,eo,co⟩,q h' k⟩⟩)
end
def jt (k:Sd) (K:PySem.W.Frag) (H:Hp) (a:Addr) (xs:List V):Prop:=match k with
 | .l=>aV K H a xs
 | .t=>aJ K H a xs
theorem Inv.z8 {X:Cx} {pins:List (Addr × Obj)} {σ:St} {H:Hp} {s:Shared} {k:Sd} {a:Addr} {xs:List V} (I:Inv X pins σ H s) (h:jt k X.K H a xs):∃ its:List Value,Vals xs its/\k.Sq s.heap a its.toArray:=by
 cases k
 ·obtain⟨its,r,p,_⟩:=I.list h
  exact⟨its,r,p.isList⟩
 ·obtain⟨its,r,p,_⟩:=I.tuple h
  exact⟨its,r,p⟩
theorem Inv.qH {X:Cx} {pins:List (Addr × Obj)} {σ:St} {H:Hp} {s:Shared} {k:Sd} {a:Addr} {xs ys:List V} (I:Inv X pins σ H s) (h:jt k X.K H a xs) (h':jt k X.K H a ys):xs=ys:=by
 cases k
 ·exact I.mU h h'
 ·exact I.kT h h'
def zo (k1 k2:Sd) (K:PySem.W.Frag) (a b:Addr):It :=
 ⟨λi H=>∃ xs ys x y,jt k1 K H a xs/\jt k2 K H b ys/\xs[i]?=some x/\ys[i]?=some y,λi H x H'=>∃ p u v,H p=none/\x=.ref p/\(∀ xs,jt k1 K H a xs->xs[i]?=some u)/\(∀ ys,jt k2 K H b ys->ys[i]?=some v)/\H'=upd H p (.tup [u,v]),
  λi H=>∃ xs,jt k1 K H a xs/\xs.length<=i⟩
theorem uJ {P:Program} {w:World} {K:PySem.W.Frag} {elts:List Expr} {x1} {pos:Pos} {k1 k2:Sd} {a b z TI TO i1 i2:Addr} (ap:ZipApart z TI TO i1 i2 a b):Turn P w K (.Tuple elts x1 pos) (zo k1 k2 K a b) [z,TI,TO,i1,i2] z (λi h=>IsZip h z TI TO .none/\IsPair h TI (.ref i1) (.ref i2)/\(∃ u v,IsPair h TO u v)/\k1.It h i1 a i/\k2.It h i2 b i) where
 mem:=by simp
 obj:=λi h st c hc=>by
  obtain⟨h1,h2,⟨u,v,h3⟩,h4,h5⟩:=st
  simp only [List.mem_cons,List.not_mem_nil,or_false] at hc
  rcases hc with rfl | rfl | rfl | rfl | rfl
  ·exact⟨_,h1,λv z=>by cases z⟩
  ·exact⟨_,h2,λv z=>by cases z⟩
  ·exact⟨_,h3,λv z=>by cases z⟩
  ·exact h4.there
  ·exact h5.there
 keep:=λi h h' st k=>by
  obtain⟨h1,h2,⟨u,v,h3⟩,h4,h5⟩:=st
  exact⟨k z (by simp) _ h1,k TI (by simp) _ h2,⟨u,v,k TO (by simp) _ h3⟩,h4.at λo x=>k i1 (by simp) o x,h5.at λo x=>k i2 (by simp) o x⟩
 item:=by
  intro X hP hw hK hc i pins s σ H E I hf st hg
  subst hP hw hK
  obtain⟨xs,ys,x,y,hq1,hq2,hx,hy⟩:=hg
  obtain⟨its1,rv1,p1⟩:=I.z8 hq1
  obtain⟨its2,rv2,p2⟩:=I.z8 hq2
  obtain⟨u,hu,ru⟩:=rv1.get hx
  obtain⟨v,hv,rv⟩:=rv2.get hy
  obtain⟨h1,h2,⟨u0,v0,h3⟩,h4,h5⟩:=st
  refine j5 ap h1 h2 h3 h4 h5 p1 p2 (x:=u) (y:=v) (by simpa using hu) (by simpa using hv) λh' z' TO' j1 j2 hT hk=>?_
  refine⟨_,rfl,?_⟩
  have fT:H s.heap.objs.size=none:=I.hok.fresh (Nat.le_refl _)
  refine wpAny_letOwnedTupleGo_zip z' λh'' z2 s2=>?_
  have hke:∀ c o,c∉[z,TI,TO,i1,i2]->s.heap.get? c=some o->h''.get? c=some o:=λc o hc q=>by
   simp only [List.mem_cons,List.not_mem_nil,or_false,not_or] at hc
   exact (s2.2 c hc.1).trans (hk c o hc.1 hc.2.2.1 hc.2.2.2.1 hc.2.2.2.2 q)
  have I1:Inv X pins σ H { s with heap:=h'',toks:=s.toks }:=I.qK hke hf
  have nz:∀ c∈[z,TI,TO,i1,i2],c≠s.heap.objs.size:=λc hc e=>by
   have:∃ o,s.heap.get? c=some o:=by
    simp only [List.mem_cons,List.not_mem_nil,or_false] at hc
    rcases hc with rfl | rfl | rfl | rfl | rfl
    ·exact⟨_,h1⟩
    ·exact⟨_,h2⟩
    ·exact⟨_,h3⟩
    ·obtain⟨o,e,_⟩:=h4.there;exact⟨o,e⟩
    ·obtain⟨o,e,_⟩:=h5.there;exact⟨o,e⟩
   obtain⟨o,eo⟩:=this
   exact Nat.ne_of_lt (Heap.lt_size eo) e
  have hT2:h''.get? s.heap.objs.size=some { cls:=.type "tuple",data:=.seq #[u,v] }:=(s2.2 _ (Ne.symm (nz z (by simp)))).trans hT
  refine⟨.ref s.heap.objs.size,upd H s.heap.objs.size (.tup [x,y]),?_,rfl,⟨_,x,y,fT,rfl,λzs hz=>by rw [I.qH hz hq1];exact hx,λzs hz=>by rw [I.qH hz hq2];exact hy,rfl⟩,
   ⟨z2,(s2.2 TI ap.TIz).trans (hk TI _ ap.TIz ap.TITO ap.TIi1 ap.TIi2 h2),⟨_,_,(s2.2 TO ap.TOz).trans TO'⟩,j1.at λo q=>(s2.2 i1 ap.i1z).trans q,j2.at λo q=>(s2.2 i2 ap.i2z).trans q⟩,λc hc=>?_⟩
  ·exact I1.adopt (T:=s.heap.objs.size) (o:=.tup [x,y]) (I.sQ (Nat.le_refl _) fT) ⟨by show 2<=sizeLine;decide,[u,v],.cons ru (.cons rv .nil),⟨_,hT2,rfl,_,rfl⟩⟩
  ·rw [av (nz c hc)]
   exact (hf c hc).1
 done:=by
  intro X hP hw hK hc i pins s σ H E I hf st hg
  subst hP hw hK
  obtain⟨xs,hq,hx⟩:=hg
  obtain⟨its,rv,p⟩:=I.z8 hq
  have hl:=rv.length
  obtain⟨h1,h2,⟨u0,v0,h3⟩,h4,h5⟩:=st
  exact lH (I.ok.hd hc) ap.i1z ap.l1z h1 h2 h3 h4 p (by simp;omega) λh' eb=>⟨rfl,I.qK (t':=s.toks) (ch:=[z,i1]) (λc o hc q=>by
   simp only [List.mem_cons,List.not_mem_nil,or_false,not_or] at hc
   exact eb c o hc.1 hc.2 q) (λc hc=>hf c (by
    simp only [List.mem_cons,List.not_mem_nil,or_false] at hc
    rcases hc with rfl | rfl<;>simp))⟩
 self:=λ_ _ _ _ _ st h=>wpAny_pyIter_zip st.1 h
def AU (k1 k2:Sd) (K:PySem.W.Frag) (ta:TA):TI:=λσ H R=>ta σ H λvs H1=>∃ a b,vs=[.ref a,.ref b]/\(∃ xs,jt k1 K H1 a xs)/\(∃ ys,jt k2 K H1 b ys)/\R (zo k1 k2 K a b) H1
theorem qO:bootBuiltins "zip"=some (.type "zip"):=by decide +kernel
theorem kq {K:PySem.W.Frag} {k1 k2:Sd} {a b:Addr} {xs ys:List V} {js:List (Option Nat)} {g:TG} {tt:TT} {te:TE} {σ:St} {Q:VK} {H1:Hp} (Pv:Nat->List V->Hp->Prop) (h0:Pv 0 [] H1) (hxy:xs.length=ys.length) (hx:xs.length<=sizeLine) (hl:∀ i zs H,i<=xs.length->Pv i zs H->jt k1 K H a xs/\jt k2 K H b ys/\zs.length<=i)
  (hs:∀ i x y zs H p,xs[i]?=some x->ys[i]?=some y->Pv i zs H->H p=none->g (.ref p) (eJ js σ) (upd H p (.tup [x,y])) λσ2 H2=>cI (eJ js σ) σ2/\tt σ2 H2 λc H3=>if c=true then te σ2 H3 λv H4=>Pv (i+1) (zs++[v]) H4 else Pv (i+1) zs H3)
  (hd:∀ zs H p,Pv xs.length zs H->H p=none->Q (.ref p) (upd H p (.lst zs))):mr (zo k1 k2 K a b) js g tt te σ Q H1:=by
 refine⟨λi m zs H=>m=xs.length-i/\i<=xs.length/\Pv i zs H,⟨xs.length,by simp,Nat.zero_le _,h0⟩,?_⟩
 rintro i m zs H ⟨rfl,hi,p⟩
 obtain⟨q,q',hy⟩:=hl i zs H hi p
 by_cases hlt:i<xs.length
 ·refine .inr ⟨⟨xs,ys,xs[i],ys[i],q,q',by simp [hlt],by simp⟩,by omega,Pv (i+1),λys' H' p'=>⟨xs.length-(i+1),by omega,rfl,hlt,p'⟩,λx H' y=>?_⟩
  obtain⟨pt,u,v,f,e1,e2,e3,e4⟩:=y
  subst e1 e4
  exact hs i u v zs _ pt (e2 xs q) (e3 ys q') p f
 ·have e:i=xs.length:=by omega
  subst e
  exact .inl ⟨⟨xs,q,Nat.le_refl _⟩,by omega,λp' hp'=>hd zs H p' p hp'⟩
end L2
namespace Num
theorem yt {p x y:Int} {m:Nat} (h:Al p x y) (o:Ord p x m):Ord p y m:=⟨o.pos,(h.pow m).symm.trans o.one,λj z=>o.dv j ((h.pow j).trans z)⟩
def eN:List (Int × Int)->Nat
 | []=>1
 | p::r=>p.1.toNat^p.2.toNat*eN r
theorem iH:∀ a b:List (Int × Int),eN (a++b)=eN a*eN b
 | [],b=>by simp [eN]
 | p::r,b=>by
  show p.1.toNat^p.2.toNat*eN (r++b)=p.1.toNat^p.2.toNat*eN r*eN b
  rw [iH r b,Nat.mul_assoc]
theorem fX:∀ a:List (Int × Int),(∀ p∈a,Pm p.1)->(eN a:Int)=bQ a
 | [],_=>rfl
 | p::r,h=>by
  have t:=(h p (List.mem_cons_self ..)).two
  show ((p.1.toNat^p.2.toNat*eN r:Nat):Int)=p.1^p.2.toNat*bQ r
  rw [Int.natCast_mul,Int.natCast_pow,fX r λx z=>h x (List.mem_cons_of_mem _ z),show (p.1.toNat:Int)=p.1 by omega]
theorem ou:∀ a:List (Int × Int),(∀ p∈a,Pm p.1)->0<eN a
 | [],_=>Nat.one_pos
 | p::r,h=>by
  have t:=(h p (List.mem_cons_self ..)).two
  exact Nat.mul_pos (Nat.pow_pos (by omega)) (ou r λx z=>h x (List.mem_cons_of_mem _ z))
theorem su {q m:Nat} (h:Nm q) (hm:¬q∣m) (k:Nat):Nat.Coprime (q^k) m:=Nat.Coprime.pow_left k (h.co hm)
theorem wK {q:Int} (hq:Pm q) {b:List (Int × Int)} (hb:∀ p∈b,Pm p.1) (ne:∀ p∈b,p.1≠q):¬q.toNat∣eN b:=λz=>by
 have t:=hq.two
 have:q∣bQ b:=by
  rw [<- fX b hb]
  have:=Int.natCast_dvd_natCast.mpr z
  rwa [show (q.toNat:Int)=q by omega] at this
 obtain⟨p,hp,e⟩:=cS hq hb this
 exact ne p hp e
theorem sO {b:List (Int × Int)} (hb:∀ p∈b,Pm p.1):∀ a:List (Int × Int),(∀ p∈a,Pm p.1)->(∀ x∈a,∀ y∈b,y.1≠x.1)->Nat.Coprime (eN a) (eN b)
 | [],_,_=>Nat.coprime_one_left _
 | p::r,h,ne=>by
  have hp:=h p (List.mem_cons_self ..)
  exact Nat.Coprime.mul_left (su (mX hp) (wK hp hb (ne p (List.mem_cons_self ..))) _) (sO hb r (λx z=>h x (List.mem_cons_of_mem _ z)) λx z=>ne x (List.mem_cons_of_mem _ z))
theorem vQ {n a:Int} {q t:Nat} (hq:Nm q) (h:Al n (a^q^t) 1) (no:∀ j,j<t->¬Al n (a^q^j) 1):Ord n a (q^t):=by
 have q2:=hq.1
 obtain⟨m,o,_⟩:=jE (N:=q^t) (Nat.pow_pos (by omega)) h
 have d:=o.dv _ h
 cases t with
 | zero =>
  have:m=1:=Nat.eq_one_of_dvd_one (by simpa using d)
  rw [this] at o
  simpa using o
 | succ k =>
  have:m=q^(k+1):=qw hq k m d λz=>no k (Nat.lt_succ_self _) (by
   obtain⟨c,hc⟩:=z
   rw [hc]
   exact bD o.one)
  rw [<- this]
  exact o
theorem dR {a:Int} {x y:Nat}:(a^x)^y=a^(x*y):=by rw [Int.pow_mul]
theorem oV {n a:Int} {M1 M2 E1 E2:Nat} (co:Nat.Coprime M1 M2) (p1:0<M1) (p2:0<M2) (h:Al n (a^(M1*M2)) 1) (o1:Ord n (a^M2) E1) (o2:Ord n (a^M1) E2):Ord n a (E1*E2):=by
 have d1:E1∣M1:=o1.dv M1 (by rw [dR,Nat.mul_comm];exact h)
 have d2:E2∣M2:=o2.dv M2 (by rw [dR];exact h)
 obtain⟨c1,hc1⟩:=d1
 obtain⟨c2,hc2⟩:=d2
 obtain⟨e,o,_⟩:=jE (Nat.mul_pos p1 p2) h
 have x1:e∣M2*E1:=o.dv _ (by rw [<- dR];exact o1.one)
 have x2:e∣M1*E2:=o.dv _ (by rw [<- dR];exact o2.one)
 have cc:Nat.Coprime c2 c1:=by
  have:Nat.Coprime c1 c2:=Nat.Coprime.coprime_dvd_left ⟨E1,by rw [hc1,Nat.mul_comm]⟩ (Nat.Coprime.coprime_dvd_right ⟨E2,by rw [hc2,Nat.mul_comm]⟩ co)
  exact this.symm
 have x3:e∣E1*E2:=by
  have:=Nat.dvd_gcd x1 x2
  rw [show M2*E1=E1*E2*c2 by rw [hc2];rw [Nat.mul_comm (E2*c2) E1,Nat.mul_assoc],show M1*E2=E1*E2*c1 by rw [hc1];rw [Nat.mul_assoc,Nat.mul_comm c1 E2,Nat.mul_assoc],Nat.gcd_mul_left,cc.gcd_eq_one,Nat.mul_one] at this
  exact this
 have ce:Nat.Coprime E1 E2:=Nat.Coprime.coprime_dvd_left ⟨c1,hc1⟩ (Nat.Coprime.coprime_dvd_right ⟨c2,hc2⟩ co)
 refine⟨Nat.mul_pos o1.pos o2.pos,?_,λj hj=>?_⟩
 ·obtain⟨c,hc⟩:=x3
  rw [hc]
  exact bD o.one
 ·refine ce.mul_dvd_of_dvd_of_dvd (o1.dv j ?_) (o2.dv j ?_)
  ·rw [dR,Nat.mul_comm,<- dR]
   have:=hj.pow M2
   rwa [Int.one_pow] at this
  ·rw [dR,Nat.mul_comm,<- dR]
   have:=hj.pow M1
   rwa [Int.one_pow] at this
structure TO (n a:Int) (ps:List (Int × Int)) (ts:List Int):Prop where
 len:ts.length=ps.length
 nn:∀ t∈ts,0<=t
 ord:Ord n a (eN ((ps.map (·.1)).zip ts))
theorem TO.al {n a b:Int} {ps:List (Int × Int)} {ts:List Int} (h:TO n a ps ts) (e:Al n a b):TO n b ps ts:=⟨h.len,h.nn,yt e h.ord⟩
theorem TO.none {n a:Int} (h:Al n a 1):TO n a [] []:=⟨rfl,λ_ z=>by simp at z,⟨Nat.one_pos,by show Al n (a^1) 1;rw [Int.pow_one];exact h,λj _=>Nat.one_dvd j⟩⟩
theorem TO.one {n a q k:Int} {t:Nat} (hq:Pm q) (h:Al n (a^q.toNat^t) 1) (no:∀ j,j<t->¬Al n (a^q.toNat^j) 1):TO n a [(q,k)] [(t:Int)]:=by
 refine⟨rfl,λx z=>?_,?_⟩
 ·rw [List.mem_singleton.mp z];omega
 ·show Ord n a (q.toNat^(t:Int).toNat*1)
  rw [Nat.mul_one,Int.toNat_natCast]
  exact vQ (mX hq) h no
theorem TO.two {n a:Int} {as bs:List (Int × Int)} {ts us:List Int} (ha:∀ p∈as,Pm p.1) (hb:∀ p∈bs,Pm p.1) (ne:∀ x∈as,∀ y∈bs,y.1≠x.1) (h:Al n (a^eN (as++bs)) 1) (h1:TO n (a^eN bs) as ts) (h2:TO n (a^eN as) bs us):TO n a (as++bs) (ts++us):=by
 refine⟨by rw [List.length_append,List.length_append,h1.len,h2.len],λt z=>(List.mem_append.mp z).elim (h1.nn t) (h2.nn t),?_⟩
 rw [List.map_append,List.zip_append (by rw [List.length_map,h1.len]),iH]
 rw [iH] at h
 exact oV (sO hb as ha ne) (ou as ha) (ou bs hb) h h1.ord h2.ord
end Num
namespace L2
open PySem PySem.Spec PyProof.Rows
section
variable {prog:Program} {w:World} {A:Around} {E:Value->Shared->Prop} {s:Shared}
end
def AG (K:PySem.W.Frag) (a:Addr):It :=
 ⟨λi H=>∃ xs x,aJ K H a xs/\xs[i]?=some x,λi H x H'=>∃ p v,H p=none/\x=.ref p/\(∀ xs,aJ K H a xs->xs[i]?=some v)/\H'=upd H p (.tup [.int i,v]),λi H=>∃ xs,aJ K H a xs/\xs.length<=i⟩
def xZ (K:PySem.W.Frag) (ta:TA):TI:=λσ H R=>ta σ H λvs H1=>∃ a,vs=[.ref a]/\(∃ xs,aJ K H1 a xs)/\R (AG K a) H1
def wV (K:PySem.W.Frag) (ta:TA):TI:=λσ H R=>ta σ H λvs H1=>∃ a b k1 k2,vs=[.ref a,.ref b]/\(∃ xs,jt k1 K H1 a xs)/\(∃ ys,jt k2 K H1 b ys)/\R (zo k1 k2 K a b) H1
theorem qv {X:Cx} {elts:List Expr} {x1} {tpos:Pos} {a b:Expr} {ta:TA} {p pos:Pos} (hg:Gl X "zip") (hm:X.mg "zip"=none) (ha:PA X [a,b] ta) (hs:starEach [a,b] X.env=[(false,eval a X.env),(false,eval b X.env)]:=by rfl) (hs2:starEach [b] X.env=[(false,eval b X.env)]:=by rfl) :
  PI X (.Tuple elts x1 tpos) (.Call (.Name "zip" p) [a,b] [] pos) (wV X.K ta):=by
 intro pins s σ H R I h
 refine Call_ (jA I hg hm qO (PyProof.Rows.callWith_type1 (bZ (ha pos pins s σ H _ I h) λus s1 ⟨vs,H1,I1,r1,q1⟩=>?_) (by rw [hs,hs2]) (by rw [hs2];rfl)))
 obtain⟨a',b',k1,k2,e,⟨xs,hq1⟩,⟨ys,hq2⟩,q⟩:=q1
 subst e
 cases r1 with
 | cons r rr =>
  cases rr with
  | cons r' rr' =>
   cases rr'
   cases r
   cases r'
   obtain⟨its1,rv1,p1⟩:=I1.z8 hq1
   obtain⟨its2,rv2,p2⟩:=I1.z8 hq2
   refine sk p1 p2 λh' hz hTI hTO j1 j2 hk=>?_
   refine wpAny_pyIter_zip hz ?_
   have I2:Inv X pins σ H1 { s1 with heap:=h' }:=I1.kept (t':=s1.toks) hk
   refine⟨_,[s1.heap.objs.size+4,s1.heap.objs.size+2,s1.heap.objs.size+3,s1.heap.objs.size,s1.heap.objs.size+1],_,_,H1,rfl,I2,uJ (PyProof.Rows.zipApart_new p1.lt p2.lt),⟨hz,hTI,⟨_,_,hTO⟩,j1,j2⟩,λc hc=>?_,q⟩
   simp only [List.mem_cons,List.not_mem_nil,or_false] at hc
   rcases hc with rfl | rfl | rfl | rfl | rfl<;>exact I1.sQ (by omega) (I1.hok.fresh (by omega))
end L2
namespace L2
open PySem PySem.Spec PyProof.Rows PySem.W
end L2
namespace L2
open PySem PySem.Spec PyProof.Rows
end L2
namespace L2
open PySem PySem.Spec PyProof.Rows PySem.W
section
variable {prog:Program} {w:World} {A:Around} {E:Value->Shared->Prop} {K:PySem.W.Frag} {h:Heap} {g:Array GenState} {d:Drawn} {t:Nat} {os:OsState} {x C B:Addr}
end
section
variable {X:Cx} {pins:List (Addr × Obj)} {σ:St} {H:Hp} {s:Shared} {x:Addr}
end
section
variable {X:Cx} {B:Addr} {n:Option Nat} {hd:ExceptHandler} {ts:TS}
variable {B2:Addr} {n2:Option Nat} {hd2:ExceptHandler} {ts2:TS}
def An (K:PySem.W.Frag) (B:Addr) (n:Option Nat) (B2:Addr) (n2:Option Nat) (sp:Sp) (ta:TA) (put:V->St->St) (ts ts2:TS):TS:=λD σ H=>ta σ H λvs H1=>sp vs H1 (λv H2=>D.nx (put v σ) H2)
 (λcv xo H2=>∃ C x dd,cv=.ref C/\xo=some x/\H2 x=some (XO x C dd)/\d7 K C/\((mroIn K C (.ref B)=some true/\ts (pZ n D) (ve n x σ) H2)∨(mroIn K C (.ref B)=some false/\mroIn K C (.ref B2)=some true/\ts2 (pZ n2 D) (ve n2 x σ) H2)))
variable {k:Nat} {f:Str} {ps:List Str} {sp:Sp} {e:Expr} {es:List Expr} {t:TA} {p cpos epos pos:Pos}
end
namespace HT
section
variable {prog:Program} {w:World} {A:Around} {E:Value->Shared->Prop} {s:Shared}
theorem sr {t b:Addr} {ws:List Value} {Q:Value->Shared->Prop} (ht:IsTup s.heap t ([]:List Value).toArray) (hb:IsTup s.heap b ws.toArray)
  (h1:Q (.ref b) s):wpAny (model prog w) A (binaryOp .Add (.ref t) (.ref b)) Q E s:=by
 obtain⟨⟨cls,dd,data,sl⟩,ho,hc,n,hd⟩:=id ht
 obtain⟨⟨cls2,dd2,data2,sl2⟩,ho2,hc2,n2,hd2⟩:=id hb
 simp only at hc hd hc2 hd2
 subst hc hd hc2 hd2
 exact concat_meets ⟨_,ho,rfl⟩ ⟨_,ho2,rfl⟩ noFill_tuple_add seq_tuple_add PySem.F.slot_tuple_add PySem.F.entry_tuple_add (PySem.F.args_tuple_add_2 _ _)
   (tuple_addW0 t b ([]:List Value).toArray ws.toArray n n2 dd dd2 sl sl2 (by simp)) ⟨ho,ho2,h1⟩
end
end HT
def nI (K:PySem.W.Frag):R2:=λx y H Q=>∃ a b xs ys,x=.ref a/\y=.ref b/\aJ K H a xs/\aJ K H b ys/\xs.length+ys.length<=sizeLine/\∀ p H',aE H H'->aJ K H' p (xs++ys)->Q (.ref p) H'
theorem cF {X:Cx}:gv X (binaryOp .Add) (nI X.K):=by
 intro pins s σ H x y v u Q I rx ry h
 obtain⟨a,b,xs,ys,rfl,rfl,ha,hb,hz,q⟩:=h
 by_cases e:xs=[]
 ·subst e
  cases rx
  cases ry
  obtain⟨its,r1,p1,_⟩:=I.tuple ha
  obtain⟨its2,r2,p2,_⟩:=I.tuple hb
  have e1:its=[]:=r1.jg.mpr rfl
  subst e1
  exact HT.sr p1 p2 ⟨.ref b,H,I,rfl,q b H (aE.refl _) hb⟩
 ·refine vO pins s σ H _ _ v u Q I rx ry ⟨a,b,xs,ys,rfl,rfl,ha,hb,e,hz,λz=>q a H (aE.refl _) (by rw [z,List.append_nil];exact ha),λ_ p hp=>q p _ (ai hp) (aJ.of af)⟩
end L2
namespace L2
open PySem PySem.Spec PyProof.Rows PySem.W
namespace Tsl
open _root_.HT
section
variable {prog:Program} {w:World} {A:Around} {E:Value->Shared->Prop} {s:Shared}
theorem nU {t sl:Addr} {items:Array Value} {vl vu:Value} {lo hi:Option Int} {Q:Value->Shared->Prop} (ht:IsTup s.heap t items) (hs:s.heap.IsSliceOf sl vl vu .none) (pl:IsPart vl lo) (pu:IsPart vu hi)
  (h0:c6 items.size 0 lo=0) (h1:c6 items.size items.size hi=items.size) (q:Q (.ref t) s):wpAny (model prog w) A (getItem (.ref t) (.ref sl)) Q E s:=by
 obtain⟨os,hos,hcs,hds⟩:=id hs
 have hTs:s.TypeIs (.ref sl) "slice":=⟨os,hos,hcs⟩
 unfold getItem
 try with_reducible refine wpAny_holding ?_
 first | refine wpAny_bind (wpAny_pure ?_) | skip
 refine wpAny_bind (wpAny_sequenceKey ht.typeIs (by decide) ?_)
 refine wpAny_bind (wpAny_callSpecial?_slot (name:=Str.ofString "__getitem__") ht.typeIs slot_tuple_getitem (wpAny_call_entry slot_tuple_getitem ht.typeIs entry_tuple_getitem ?_ (args_tuple_getitem _ _)))
 show wpAny _ _ (Builtin.Tuple.tupleItemsOf _ >>= _) _ _ _
 refine wpAny_bind (tupleItemsOf_ ht ?_)
 refine wpAny_bind (wpAny_typeOf hTs ?_)
 rw [if_pos (by decide)]
 refine wpAny_bind (ff hs pl pu ?_)
 rw [h0,h1]
 dsimp only
 rw [if_pos (by simp)]
 unfold Builtin.Tuple.tupleIsExact
 refine wpAny_bind (wpAny_bind (wpAny_typeOf ht.typeIs (wpAny_pure ?_)))
 rw [if_pos (by decide)]
 first
  | exact wpAny_bind (wpAny_rule (wpAny_pure ⟨_,rfl,wpAny_pure q⟩))
  | (refine wpAny_bind (m:=rule _) (wpAny_pure ?_);exact wpAny_pure ⟨_,rfl,wpAny_pure q⟩)
  | (unfold rule;wp_walk)
theorem mQ {α β:Type} {f g:α->Option β}:∀{l:List α},(∀ x∈l,f x=g x)->l.filterMap f=l.filterMap g
 | [],_=>rfl
 | x::l,h=>by rw [List.filterMap_cons,List.filterMap_cons,h x (List.mem_cons_self ..),mQ λy hy=>h y (List.mem_cons_of_mem _ hy)]
theorem qN (xs:Array Value):((List.range xs.size).filterMap fun(m:Nat)=>xs[((xs.size:Int)-1+(m:Int) * -1).toNat]?).toArray=xs.toList.reverse.toArray:=by
 rw [<- krv_pick]
 unfold slicePick
 rw [krv_bounds]
 show _=((sliceRange ((xs.size:Int)-1) (-1) (-1)).filterMap (xs[·]?)).toArray
 rw [krv_sliceRange,List.filterMap_map]
 congr 1
 exact mQ λm hm=>by
  have:=List.mem_range.mp hm
  show xs[((xs.size:Int)-1+(m:Int) * -1).toNat]?=xs[xs.size-1-m]?
  congr 1
  omega
theorem mC (n:Nat):Builtin.Slice.sliceAdjust none none (-1) (n:Int)=((n:Int)-1,-1):=by
 unfold Builtin.Slice.sliceAdjust
 simp
theorem mD (n:Nat):Builtin.Slice.slicePlaces ((n:Int)-1) (-1) (-1)=n:=by
 unfold Builtin.Slice.slicePlaces
 simp
 omega
theorem iz {sl:Addr} {vk:Value} {n:Nat} {Q:Int × Int × Nat->Shared->Prop} (hs:s.heap.IsSliceOf sl .none .none vk) (pk:IsPart vk (some (-1)))
  (h:Q ((n:Int)-1,-1,n) s):wpAny (model prog w) A (Builtin.Slice.sliceApplied (.ref sl) (pure (n:Int))) Q E s:=by
 obtain⟨os,hos,hcs,hds⟩:=id hs
 unfold Builtin.Slice.sliceApplied Builtin.Slice.sliceFields
 refine wpAny_bind (wpAny_bind (wpAny_field hos hds (x:=.none) rfl (wpAny_bind (wpAny_field hos hds (x:=.none) rfl (wpAny_bind (wpAny_field hos hds (x:=vk) rfl (wpAny_pure ?_)))))))
 refine wpAny_bind (gM pk ?_)
 dsimp only
 rw [if_neg (by decide)]
 refine wpAny_bind (slicePart_none (wpAny_bind (slicePart_none (wpAny_bind (wpAny_pure ?_)))))
 show wpAny _ _ (pure ((Builtin.Slice.sliceAdjust none none (-1) (n:Int)).1,(-1:Int),Builtin.Slice.slicePlaces (Builtin.Slice.sliceAdjust none none (-1) (n:Int)).1 (Builtin.Slice.sliceAdjust none none (-1) (n:Int)).2 (-1))) _ _ s
 rw [mC]
 dsimp only
 rw [mD]
 exact wpAny_pure h
theorem pI {t sl:Addr} {items:Array Value} {vk:Value} {Q:Value->Shared->Prop} (ht:IsTup s.heap t items) (hs:s.heap.IsSliceOf sl .none .none vk) (pk:IsPart vk (some (-1))) (hz:items.size<=sizeLine)
  (q:Q (.ref s.heap.objs.size) { s with heap:=s.heap.push { cls:=.type "tuple",data:=.seq items.toList.reverse.toArray } }):wpAny (model prog w) A (getItem (.ref t) (.ref sl)) Q E s:=by
 obtain⟨os,hos,hcs,hds⟩:=id hs
 have hTs:s.TypeIs (.ref sl) "slice":=⟨os,hos,hcs⟩
 have hsz:sizeOk (.seq items.toList.reverse.toArray):=by
  show items.toList.reverse.toArray.size<=sizeLine
  rw [List.size_toArray,List.length_reverse,Array.length_toList]
  exact hz
 unfold getItem
 try with_reducible refine wpAny_holding ?_
 first | refine wpAny_bind (wpAny_pure ?_) | skip
 refine wpAny_bind (wpAny_sequenceKey ht.typeIs (by decide) ?_)
 refine wpAny_bind (wpAny_callSpecial?_slot (name:=Str.ofString "__getitem__") ht.typeIs slot_tuple_getitem (wpAny_call_entry slot_tuple_getitem ht.typeIs entry_tuple_getitem ?_ (args_tuple_getitem _ _)))
 show wpAny _ _ (Builtin.Tuple.tupleItemsOf _ >>= _) _ _ _
 refine wpAny_bind (tupleItemsOf_ ht ?_)
 refine wpAny_bind (wpAny_typeOf hTs ?_)
 rw [if_pos (by decide)]
 refine wpAny_bind (iz hs pk ?_)
 dsimp only
 rw [if_neg (by simp),qN]
 first
  | exact wpAny_bind (m:=Builtin.Tuple.tupleExact _) (wpAny_newObj_type (wpAny_pure ⟨_,rfl,wpAny_pure q⟩) hsz)
  | exact wpAny_bind (wpAny_bind (m:=Builtin.Tuple.tupleExact _) (wpAny_newObj_type (wpAny_pure (wpAny_pure ⟨_,rfl,wpAny_pure q⟩)) hsz))
  | exact wpAny_bind (m:=Builtin.Tuple.tupleExact _) (wpAny_newObj_type (wpAny_bind (wpAny_pure (wpAny_pure ⟨_,rfl,wpAny_pure q⟩))) hsz)
  | exact wpAny_bind (wpAny_bind (m:=Builtin.Tuple.tupleExact _) (wpAny_newObj_type (wpAny_pure ⟨_,rfl,wpAny_pure q⟩) hsz))
end
end Tsl
def v8 (K:PySem.W.Frag):V->Option Int->Option Int->Hp->VK->Prop:=λx lo hi H Q=>∃ a xs,x=.ref a/\aJ K H a xs/\∀ p H',aE H H'->aJ K H' p (eQ xs lo hi)->Q (.ref p) H'
theorem ot {xs:List V} {lo hi:Option Int} (h0:HT.c6 xs.length 0 lo=0) (h1:HT.c6 xs.length xs.length hi=xs.length):eQ xs lo hi=xs:=by
 unfold eQ
 rw [h0,h1]
 simp
theorem cL {X:Cx}:Ax X (v8 X.K):=by
 intro pins s σ H x v vl vu lo hi sl Q I rx hs pl pu h
 obtain⟨a,xs,rfl,hx,q⟩:=h
 by_cases hw:HT.c6 xs.length 0 lo=0/\HT.c6 xs.length xs.length hi=xs.length
 ·cases rx
  obtain⟨its,r,ht,hz⟩:=I.tuple hx
  have hlen:its.toArray.size=xs.length:=by rw [List.size_toArray];exact r.length.symm
  refine⟨"tuple",_,slot_tuple_getitem.lookup,ht.typeIs,?_⟩
  refine Tsl.nU ht hs pl pu (by rw [hlen];exact hw.1) (by rw [hlen];exact hw.2) ?_
  exact⟨.ref a,H,I,rfl,q a H (aE.refl _) (by rw [ot hw.1 hw.2];exact hx)⟩
 ·exact yM pins s σ H _ v vl vu lo hi sl Q I rx hs pl pu ⟨a,xs,rfl,hx,hw,λp hp=>q p _ (ai hp) (aJ.of af)⟩
def xD (K:PySem.W.Frag) (te:TE) (tk:TO):TE:=λσ H Q=>te σ H λx H1=>tk σ H1 λo H2=>o=some (-1)/\∃ a xs,x=.ref a/\aJ K H2 a xs/\∀ p,H2 p=none->Q (.ref p) (upd H2 p (.tup xs.reverse))
section
variable {X:Cx} {e k:Expr} {te:TE} {tk:TO} {p2 pos:Pos}
theorem vV (he:PE X e te) (hk:PO X (some k) tk)
  (hs:∀ a b:Addr,∃ ops,subscripted (.Slice none none (some k) p2) false (.ref a) (.ref b)=operate ops (getItem (.ref a) (.ref b)):=by intro a b;exact⟨_,by with_unfolding_all rfl⟩):PE X (.Subscript e (.Slice none none (some k) p2) pos) (xD X.K te tk):=by
 intro pins s σ H Q I h
 refine Subscript_ (bZ (he pins s σ H _ I h) λv s1 ⟨x,H1,I1,r1,q1⟩=>?_)
 refine wpAny_Slice ?_
 rw [evalPart_none]
 refine wpAny_pure (wpAny_pure ?_)
 refine bZ (hk pins s1 σ H1 _ I1 q1) λvk s3 ⟨o,H3,I3,pk,eo,a,xs,ex,hx,q3⟩=>?_
 subst eo
 subst ex
 cases r1
 have I4:Inv X pins σ H3 { s3 with heap:=s3.heap.push { cls:=.type "slice",data:=.fields #[.none,.none,vk] } }:=I3.kept (t':=s3.toks) λb ob q=>Heap.get?_push_of_some _ q
 obtain⟨its,r,ht,hz⟩:=I4.tuple hx
 have hlen:=r.length
 show wpAny (model X.prog X.w) X.A (subscriptTail e (.Slice none none (some k) p2) (.ref a) (.ref s3.heap.objs.size)) (EP X pins σ Q) X.xe { s3 with heap:=s3.heap.push { cls:=.type "slice",data:=.fields #[.none,.none,vk] } }
 obtain⟨ops,hops⟩:=hs a s3.heap.objs.size
 refine tail_any (ops:=ops) ht.typeIs slot_tuple_getitem.lookup ?_ hops
 refine Tsl.pI ht (Heap.IsSliceOf.new ..) pk (by rw [List.size_toArray]<;>omega) ?_
 refine⟨.ref _,_,I4.laid (t':=s3.toks) (o:=.tup xs.reverse) (λb ob q=>Heap.get?_push_of_some _ q) (Nat.le_refl _) ?_,rfl,q3 _ (I4.hok.fresh (Nat.le_refl _))⟩
 exact⟨by rw [List.length_reverse];exact hz,_,r.rev,IsTup.new _ _⟩
end
end L2
namespace L2
open PySem PySem.Spec PyProof.Rows
section
variable {prog:Program} {w:World} {K:Type} [DecidableEq K] {knd:HeapKind prog w K} {A:Around} {E:Value->Shared->Prop} {s:Shared}
end
end L2
namespace L2
open PySem PySem.Spec PyProof.Rows PySem.W
def zh (h:Heap) (d:Addr) (es:Array DictEntry) (ep:Nat):Prop:=∃ o,h.get? d=some o/\o.ExactDict/\o.data=.dict es ep
section
variable {P:Program} {w:World} {A:Around} {E:Value->Shared->Prop} {s:Shared} {d:Addr} {es:Array DictEntry} {ep:Nat}
theorem zh.type (x:zh s.heap d es ep):s.TypeIs (.ref d) "dict":=by obtain⟨o,a,c,_⟩:=x;exact⟨o,a,c.1⟩
end
section
variable {X:Cx} {pins:List (Addr × Obj)} {σ:St} {H:Hp} {s:Shared} {A:Around} {E:Value->Shared->Prop}
def yT (td ty:TE):TE:=λσ H Q=>td σ H λx H1=>∃ a,x=.ref a/\BI H1 a/\ty σ H1 λy H2=>∃ kvs k b v,H2 a=some (.dT kvs)/\y=.ref b/\H2 b=some (.tup (k.map kV))/\iE kvs k=some v/\Q v (upd H2 a (.dT (zB kvs k)))
end
section
variable {P:Program} {w:World} {K:PySem.W.Frag} {mg:Str->Option Value} {base:Heap} {CX:jo} {k:Nat} {C:Addr} {m qual x:Str} {ps:List Str} {sp:Sp} {st:Stmt}
structure As (P:Program) (w:World) (K:PySem.W.Frag) (mg:Str->Option Value) (base:Heap) (CX:jo) (k:Nat) (C:Addr) (m:Str) (ps:List Str) (sp:Sp):Prop where
 ex:∃ f fd,Meth K C m f/\dH P w K mg base CX k f fd ps sp/\Binds K fd ps []
variable {X:Cx} {E:XK} {o e:Expr} {es:List Expr} {ta:TE} {t:TA} {p apos pos:Pos}
structure BH (K:PySem.W.Frag) (x qual:Str) (st:Stmt) (f:Addr) (fd:FuncData) (ds:Array Value):Prop where
 ex:∃(oc:Value) (od:Option Addr) (T:Addr) (o:Obj) (n:Nat) (kV doc pm:Value) (an:Option Addr) (cdv ct:Value) (osl:Array (Option Value)),
  fd=fnOf x qual (cw st) (bp st) (ao st) (.ref T) kV doc pm an cdv ct/\K.lookup f=some ⟨oc,od,.func fd,osl⟩/\codeIn K cdv qual=true/\K.lookup T=some o/\o.data=.seq ds n
 kp:keepIn K (.ref f)=true
end
end L2
namespace L2
open PySem PySem.Spec PyProof.Rows
def Bz (q:Nat):Nat->Nat->Nat
 | 0,m=>m
 | f+1,m=>if q<=m*m then m else Bz q f (m+1)
def rt (q:Nat):Nat:=Bz q q 0
def Bo (p w:Int) (m:Nat):List (Key × V):=(List.range m).map λi:Nat=>(Sum.inl (w^i%p),V.int (i:Int))
end L2
namespace Num
theorem Ord.co {n a:Int} {m:Nat} (o:Ord n a m):Co a n:=by
 obtain⟨k,hk⟩:∃ k,m=k+1:=⟨m-1,by have:=o.pos;omega⟩
 exact Co.yh (m:=k) (by rw [<- hk];exact o.one)
theorem Ord.uh {n a:Int} {m i j:Nat} (o:Ord n a m) (hi:i<m) (hj:j<m) (e:a^i%n=a^j%n):i=j:=o.inj o.co hi hj (Al.iff.mpr e)
def eR (x q n:Nat):List Nat:=(List.range n).map λi=>x/q^i%q
theorem eS {x q n:Nat}:(eR x q n).length=n:=by unfold eR;rw [List.length_map,List.length_range]
theorem kr {x q n:Nat}:eR x q (n+1)=eR x q n++[x/q^n%q]:=by unfold eR;rw [List.range_succ,List.map_append];rfl
theorem ua {p a b:Int} {e:Nat} (hp:Pm p) (o:Ord p b e) (h:Al p (a^e) 1):∃ x,x<e/\Al p a (b^x):=by
 rcases Classical.em (∃ x,x<e/\Al p a (b^x)) with z | z
 ·exact z
 ·exfalso
  have no:∀ x,x<e->¬Al p a (b^x):=λx hx hh=>z ⟨x,hx,hh⟩
  obtain⟨m,hm⟩:∃ m,e=m+1:=⟨e-1,by have:=o.pos;omega⟩
  have hlen:(List.replicate m (0:Int)++[-1]).length=e:=by simp [hm]
  have key:=roots hp e (List.replicate m 0++[-1]) 1 hlen (λhd=>hp.qg (by
   obtain⟨c,hc⟩:=hd
   exact⟨-c,by rw [Int.mul_neg,<- hc];omega⟩)) (a::(List.range e).map λi=>b^i) ?_ ?_
  ·simp at key
   omega
  ·refine List.pairwise_cons.mpr ⟨λy hy=>?_,?_⟩
   ·obtain⟨i,hi,rfl⟩:=List.mem_map.mp hy
    exact no i (List.mem_range.mp hi)
   ·rw [List.pairwise_map]
    refine List.Pairwise.imp_of_mem ?_ List.pairwise_lt_range
    intro i j hi hj lt hh
    have:=o.inj o.co (List.mem_range.mp hi) (List.mem_range.mp hj) hh
    omega
  ·intro r hr
   rw [rY,Int.one_mul,<- hm]
   rcases List.mem_cons.mp hr with rfl | hr
   ·exact h
   ·obtain⟨i,_,rfl⟩:=List.mem_map.mp hr
    have:=bD (k:=i) o.one
    rw [dR,Nat.mul_comm]
    exact this
theorem kK {p a b:Int} {e x y:Nat} (o:Ord p b e) (hx:x<e) (hy:y<e) (h1:Al p a (b^x)) (h2:Al p a (b^y)):x=y:=o.inj o.co hx hy (h1.symm.trans h2)
end Num
namespace L2
open PySem PySem.Spec PyProof.Rows
def xF (a d:Addr) (H H':Hp):Prop:=∀ b o,b≠a->b≠d->H b=some o->H' b=some o
theorem xF.trans {a d:Addr} {H H1 H2:Hp} (h:xF a d H H1) (h':xF a d H1 H2):xF a d H H2:=λb o x y e=>h' b o x y (h b o x y e)
structure KH where
 a:Addr
 dx:Addr
 d:Addr
 most:Int
 c:Int
 ks:List (Int × Int × Int)
def k3 (x:Int × Int × Int):List Key:=[.inl x.1,.inl x.2.1,.inl x.2.2]
def BW (k:KH):List (Str × V):=[("most",.int k.most),("counted",.int k.c),("laid",.ref k.d)]
def KTab (H:Hp) (x:Int × Int × Int) (v:V):Prop:=∃ t,v=.ref t/\H t=some (.dK (Bo x.1 x.2.2 (rt x.2.1.toNat)))
structure AJ (H:Hp) (k:KH) (kvs:List (List Key × V)):Prop where
 dict:H k.d=some (.dT kvs)
 keys:kvs.map (·.1)=k.ks.map k3
 nd:k.ks.Nodup
 tab:∀ x v,iE kvs (k3 x)=some v->KTab H x v
structure jZ (C:Addr) (k:KH) (H:Hp):Prop where
 ins:H k.a=some (.ins C k.dx (BW k))
 ex:∃ kvs,AJ H k kvs
 m0:0<=k.most
 m1:k.most<=10^6
section
variable {C:Addr} {k:KH} {H H':Hp} {kvs:List (List Key × V)}
theorem AJ.len (h:AJ H k kvs):kvs.length=k.ks.length:=by have:=congrArg List.length h.keys;simpa using this
theorem jZ.ne (h:jZ C k H):k.a≠k.d:=by
 obtain⟨kvs,z⟩:=h.ex
 exact kD h.ins z.dict (by intro z;cases z)
theorem jZ.apart (h:jZ C k H) {b:Addr} {o:HO} (e:H b=some o) (h1:∀ C dx fs,o≠.ins C dx fs) (h2:∀ kvs,o≠.dT kvs):b≠k.a/\b≠k.d:=by
 obtain⟨kvs,z⟩:=h.ex
 exact⟨kD e h.ins (h1 _ _ _),kD e z.dict (h2 _)⟩
theorem jZ.keep (h:jZ C k H) (bt:xF k.a k.d H H') {b:Addr} {o:HO} (e:H b=some o) (h1:∀ C dx fs,o≠.ins C dx fs:=by intro _ _ _ z;cases z) (h2:∀ kvs,o≠.dT kvs:=by intro _ z;cases z):H' b=some o :=
 let ⟨x,y⟩:=h.apart e h1 h2;bt b o x y e
theorem jZ.gB (h:jZ C k H) (bt:xF k.a k.d H H'):∀ a xs,Rd H a (.tup xs)->Rd H' a (.tup xs):=by
 intro a xs z
 rcases z with z | ⟨o,z⟩
 ·exact .inl (h.keep bt z)
 ·exact .inr ⟨o,h.keep bt z⟩
theorem jZ.dv {K:PySem.W.Frag} (h:jZ C k H) (bt:xF k.a k.d H H') {d:PyData} {v:V} (nl:yf d=true) (x:dv K H d v):dv K H' d v:=dv.gB (h.gB bt) d nl x
end
def yF:V->List V->Hp->VK->Prop:=λx vs H Q=>∃ l xs y,∃ j:Nat,x=.ref l/\vs=[y]/\H l=some (.lst xs)/\dY y=true/\xs.all dY=true/\(∃ z,xs[j]?=some z/\mM z y=true)/\(∀ i z,i<j->xs[i]?=some z->mM z y=false)/\Q (.int j) H
theorem xM {xs:List V} {i:Nat} {z:V} (f:xs.all dY=true) (h:xs[i]?=some z):dY z=true:=List.all_eq_true.mp f z (List.mem_of_getElem? h)
theorem sZ {X:Cx}:Au X "list.index" yF:=by
 intro pins s σ H x vs v us Q I rx rv h
 obtain⟨l,xs,y,j,rfl,rfl,hH,fy,fx,⟨z1,hz1,hz2⟩,no,q⟩:=h
 cases rx
 obtain⟨u,rfl,ru⟩:=rv.one
 obtain⟨z,its,n,r,hl,e⟩:=I.oI hH
 have hj:j<its.length:=by rw [<- r.length];exact (List.getElem?_eq_some_iff.mp hz1).1
 have hs:its.length<=sizeLine:=by rw [<- r.length];exact z
 have at_:∀ i (hi:i<its.length) w,xs[i]?=some w->qT y its[i]=mM w y:=λi hi w hw=>by
  obtain⟨u',e1,e2⟩:=r.get hw
  rw [List.getElem?_eq_getElem hi] at e1
  cases e1
  exact oz e2 (xM fx hw)
 refine call_meets F.slot_list_index ⟨_,e,rfl⟩ F.entry_list_index (F.args_list_index_2 _ _) (SeqAt.list_indexAt l its.toArray n none #[] u (qT y) j (by simpa using hj) (by rw [sizeLine_eq] at hs;omega) ?_ ?_) ⟨e,λw hw=>hJ ru fy r fx w (by simpa using hw),⟨.int j,H,I.tok _,⟨_,rfl⟩,q⟩⟩
 ·show qT y its[j]=true
  rw [at_ j hj z1 hz1]
  exact hz2
 ·intro i hi hlt
  have hi':i<its.length:=by simpa using hi
  show qT y its[i]=false
  have hx:i<xs.length:=by rw [r.length];exact hi'
  rw [at_ i hi' _ (List.getElem?_eq_getElem hx)]
  exact no i _ hlt (List.getElem?_eq_getElem hx)
section
variable {K:PySem.W.Frag} {H H':Hp}
mutual
theorem dv.fD (kt:∀ a xs,aJ K H a xs->aJ K H' a xs) (kl:∀ a xs,aV K H a xs->aV K H' a xs):∀(d:PyData) {v:V},dv K H d v->dv K H' d v
 | .none,_,h=>h
 | .bool _,_,h=>h
 | .int _,_,h=>h
 | .str _,_,h=>h
 | .list ds,_,⟨q,xs,e,h,t⟩=>⟨q,xs,e,kl _ _ h,bh.fD kt kl ds t⟩
 | .tuple ds,_,⟨q,xs,e,h,t⟩=>⟨q,xs,e,kt _ _ h,bh.fD kt kl ds t⟩
 | .dict _,_,h=>h.elim
theorem bh.fD (kt:∀ a xs,aJ K H a xs->aJ K H' a xs) (kl:∀ a xs,aV K H a xs->aV K H' a xs):∀(ds:List PyData) {xs:List V},bh K H ds xs->bh K H' ds xs
 | [],_,h=>h
 | d::ds,_,⟨x,r,e,h,t⟩=>⟨x,r,e,dv.fD kt kl d h,bh.fD kt kl ds t⟩
end
mutual
def gd:PyData->Prop
 | .none=>True
 | .bool _=>True
 | .int i => -(10^90)<=i/\i<=10^90
 | .str x=>PyData.canLay0 (.str x)=true
 | .list ds=>bV ds
 | .tuple ds=>bV ds
 | _=>False
def bV:List PyData->Prop
 | []=>True
 | d::ds=>gd d/\bV ds
end
theorem cU:∀{ds:List PyData},bV ds↔∀ d∈ds,gd d
 | []=>⟨λ_ d h=>(List.not_mem_nil h).elim,λ_=>by simp only [bV]⟩
 | d::ds=>by
  simp only [bV]
  rw [cU,List.forall_mem_cons]
mutual
theorem gd.lay:∀(d:PyData),gd d->d.canLay0=true
 | .none,_=>rfl
 | .bool _,_=>rfl
 | .int _,_=>rfl
 | .str x,h=>by simp only [gd] at h;exact h
 | .list ds,h=>by simp only [gd] at h;simp only [PyData.canLay0];exact bV.lay ds h
 | .tuple ds,h=>by simp only [gd] at h;simp only [PyData.canLay0];exact bV.lay ds h
 | .dict _,h=>by simp only [gd] at h
theorem bV.lay:∀(ds:List PyData),bV ds->PyData.canLayAll0 ds=true
 | [],_=>rfl
 | d::ds,h=>by
  simp only [bV] at h
  simp only [PyData.canLayAll0]
  rw [gd.lay d h.1,bV.lay ds h.2]
  rfl
end
def GV (K:PySem.W.Frag) (H:Hp) (x:V):Prop:=∃ d,dv K H d x/\gd d
def cp (K:PySem.W.Frag) (H:Hp) (xs:List V):Prop:=∃ ds,bh K H ds xs/\bV ds
theorem GV.keep (kt:∀ a xs,aJ K H a xs->aJ K H' a xs) (kl:∀ a xs,aV K H a xs->aV K H' a xs) {x:V} (h:GV K H x):GV K H' x:=by
 obtain⟨d,h1,h2⟩:=h
 exact⟨d,dv.fD kt kl d h1,h2⟩
theorem GV.same {x:V} (h:GV K H x) (s:aE H H'):GV K H' x:=by
 obtain⟨d,h1,h2⟩:=h
 exact⟨d,dv.same s d h1,h2⟩
theorem cp.same {xs:List V} (h:cp K H xs) (s:aE H H'):cp K H' xs:=by
 obtain⟨d,h1,h2⟩:=h
 exact⟨d,bh.same s d h1,h2⟩
theorem cp.keep (kt:∀ a xs,aJ K H a xs->aJ K H' a xs) (kl:∀ a xs,aV K H a xs->aV K H' a xs) {xs:List V} (h:cp K H xs):cp K H' xs:=by
 obtain⟨d,h1,h2⟩:=h
 exact⟨d,bh.fD kt kl d h1,h2⟩
theorem cp.nil:cp K H []:=⟨[],rfl,by simp only [bV]⟩
theorem cp.cons {x:V} {xs:List V} (h:GV K H x) (g:cp K H xs):cp K H (x::xs):=by
 obtain⟨d,h1,h2⟩:=h
 obtain⟨ds,g1,g2⟩:=g
 exact⟨d::ds,⟨x,xs,rfl,h1,g1⟩,by simp only [bV];exact⟨h2,g2⟩⟩
theorem cp.app {xs ys:List V} (h:cp K H xs) (g:cp K H ys):cp K H (xs++ys):=by
 obtain⟨ds,h1,h2⟩:=h
 obtain⟨es,g1,g2⟩:=g
 refine⟨ds++es,bh.append h1 g1,cU.mpr λd hd=>?_⟩
 rcases List.mem_append.mp hd with z | z
 ·exact cU.mp h2 d z
 ·exact cU.mp g2 d z
theorem cp.all {xs:List V} (h:cp K H xs):∀ x∈xs,GV K H x:=by
 obtain⟨ds,h1,h2⟩:=h
 intro x hx
 obtain⟨i,hi,e⟩:=List.mem_iff_getElem.mp hx
 have hx':xs[i]?=some x:=by rw [<- e];exact List.getElem?_eq_getElem hi
 obtain⟨d,e1,hv⟩:=h1.get hx'
 exact⟨d,hv,cU.mp h2 d (List.mem_of_getElem? e1)⟩
theorem cp.of:∀{xs:List V},(∀ x∈xs,GV K H x)->cp K H xs
 | [],_=>cp.nil
 | x::xs,h=>cp.cons (h x (List.mem_cons_self ..)) (cp.of λy hy=>h y (List.mem_cons_of_mem _ hy))
theorem cp.cut {xs:List V} (lo hi:Option Int) (h:cp K H xs):cp K H (eQ xs lo hi):=cp.of λx hx=>by
 unfold eQ at hx
 exact h.all x (List.mem_of_mem_drop (List.mem_of_mem_take hx))
theorem cp.rev {xs:List V} (h:cp K H xs):cp K H xs.reverse:=cp.of λx hx=>h.all x (List.mem_reverse.mp hx)
theorem GV.tup {p:Addr} {xs:List V} (hS:aJ K H p xs) (h:cp K H xs):GV K H (.ref p):=by
 obtain⟨ds,h1,h2⟩:=h
 exact⟨.tuple ds,⟨p,xs,rfl,hS,h1⟩,by simp only [gd];exact h2⟩
theorem GV.lst {p:Addr} {xs:List V} (hS:aV K H p xs) (h:cp K H xs):GV K H (.ref p):=by
 obtain⟨ds,h1,h2⟩:=h
 exact⟨.list ds,⟨p,xs,rfl,hS,h1⟩,by simp only [gd];exact h2⟩
theorem GV.int {i:Int} (h0:-(10^90)<=i) (h1:i<=10^90):GV K H (.int i):=⟨.int i,rfl,by simp only [gd];exact⟨h0,h1⟩⟩
theorem GV.bw:GV K H .bw:=⟨.none,rfl,by simp only [gd]⟩
theorem GV.bl {b:Bool}:GV K H (.bl b):=⟨.bool b,rfl,by simp only [gd]⟩
theorem GV.str {x:Str} (h:PyData.canLay0 (.str x)=true):GV K H (.str x):=⟨.str x,rfl,by simp only [gd];exact h⟩
end
section
variable {X:Cx}
end
end L2
set_option maxHeartbeats 8000000
namespace K
open PySem PySem.Spec PyProof.Rows L2
def top (i:Nat):Stmt:=PySem.Challenge.pw_rootprime_k59_whole_only_right_powers_ar.main.body.getD i (.Pass ⟨0,0,0,0⟩)
theorem wW {us:List Value} (h:us.length=1):∃ a,us=[a]:=match us,h with | [a],_=>⟨a,rfl⟩
theorem wX {us:List Value} (h:us.length=2):∃ a b,us=[a,b]:=match us,h with | [a,b],_=>⟨a,b,rfl⟩
theorem wY {us:List Value} (h:us.length=3):∃ a b c,us=[a,b,c]:=match us,h with | [a,b,c],_=>⟨a,b,c,rfl⟩
theorem wZ {us:List Value} (h:us.length=4):∃ a b c d,us=[a,b,c,d]:=match us,h with | [a,b,c,d],_=>⟨a,b,c,d,rfl⟩
theorem w5 {us:List Value} (h:us.length=5):∃ a b c d e,us=[a,b,c,d,e]:=match us,h with | [a,b,c,d,e],_=>⟨a,b,c,d,e,rfl⟩
theorem w6 {us:List Value} (h:us.length=6):∃ a b c d e f,us=[a,b,c,d,e,f]:=match us,h with | [a,b,c,d,e,f],_=>⟨a,b,c,d,e,f,rfl⟩
theorem dW {N P:List Str} {sc:Scope} (a:sc.kind=.function:=by exact rfl) (b:sc.isCoroutine=false:=by exact rfl) (c:sc.isGenerator=false:=by exact rfl) (d:N.Nodup:=by decide +kernel) (e:N.take P.length=P:=by exact rfl) (f:∀ x∈P,sc.names.lookup x=some .local∨sc.names.lookup x=some .cell:=by decide +kernel) (g:∀ y∈sc.names,y.2≠.free:=by decide +kernel):aC N P sc:=⟨a,b,c,d,e,f,g⟩
theorem dU {F:PySem.W.Frag} {mg:Str->Option Value} {x:Str} {h:Heap} {f:Addr} {st:Stmt} {oc:Value} {od an:Option Addr} {osl:Array (Option Value)} {kV doc pm cdv ct:Value} (X:F.In h) (G:h.Ns mainGlobals mg) (a:PySem.W.nsIn F mainGlobals x=some (some (.ref f)):=by k_is) (l:F.lookup f=some ⟨oc,od,.func (PySem.W.fnOf x x (cw st) (bp st) (ao st) .none kV doc pm an cdv ct),osl⟩:=by k_is) (c:PySem.W.codeIn F cdv x=true:=by k_is) (kk:PySem.W.keepIn F (.ref f)=true:=by k_is):aA (dI X) mg x st:=sI X G a l c kk
theorem uQ {X:Cx} {N':List Str} {js:List (Option Nat)} {scope:Scope} {cl:List (Str × Addr)} (clos:closureFor scope X.env=pure cl) (kind:scope.kind=.function) (nocell:∀ y∈scope.names,y.2=.cell->scope.names.lookup y.1=some .cell/\∀ p∈js.zip N',p.1.isSome=true->p.2≠y.1:=by decide +kernel) (names:∀ y∈scope.names,y.2=.local->scope.names.lookup y.1=some .local:=by decide +kernel) (sub:AllIn X.env cl:=by repeat (first | exact True.intro | refine⟨rfl,?_⟩)) (has:iG cl scope.names:=by repeat (first | exact True.intro | refine⟨rfl,?_⟩ | refine⟨True.intro,?_⟩)) (j:gQ X scope cl js N':=by repeat (first | exact True.intro | refine⟨⟨rfl,rfl,.inl rfl,.inl rfl⟩,?_⟩)):jq X N' js scope cl:=xS clos kind nocell names sub has j
theorem cu {X:Cx} {pos:Pos} {i:Nat} {x:Str} {e:Expr} {te:TE} {pos':Pos} (hN:X.N.Nodup) (he:PE X e te) (hi:X.N[i]?=some x:=by exact rfl) (hx:Loc X.env.scope x:=by exact Or.inl rfl) (hs:swapsWith e (some (.Name x pos')) pos.line X.env=pure false:=by rfl) (hf:X.fn x=true∨X.env.scope.names.lookup x=some .local:=by first | exact .inl rfl | exact .inr rfl | assumption):PS X (.Assign [.Name x pos'] e pos) (wq te (eT i)):=bT hN hi hx he hs hf
theorem bU {X:Cx} {CX:jo} {k n:Nat} {x:Str} {ps:List Str} {sp:Sp} {E:XK} {e:Expr} {es:List Expr} {t:TA} {p pos:Pos} (C:Callee X.prog X.w X.K X.mg X.base CX k x ps sp) (hr:cW n X.A) (hx:Passes CX X E) (ha:PA X (e::es) t) (hm:k<=n:=by decide) (hg:Gl X x:=by exact rfl) (hdb:(x==("__debug__":Str))=false:=by decide) (he:starEach (e::es) X.env=(false,eval e X.env)::starEach es X.env:=by rfl) (hpl:(backTo pos (starEach es X.env)).any (·.1)=false:=by rfl):PE X (.Call (.Name x p) (e::es) [] pos) (nQ sp [] E t):=aF C (hr.mono hm) hg hx ha hdb he hpl
theorem cO {P:Program} {w:World} {F:PySem.W.Frag} {mg:Str->Option Value} {base:Heap} {k:Nat} {x:Str} {ps:List Str} {sp:Sp} {st:Stmt} {N:List Str} (D:aA F mg x st) (S:aC N ps (ao st))
  (hbody:∀(f:Addr) (cdv:Value) (A:Around) (outer:List Env) (s:Shared) (H:Hp) (vs:List V) (Q:VK) (E:XK),cW k (A.deeper (envOfC x (ao st) s.heap.objs.size f cdv))->sp vs H Q E->∃ t,ja (ft aQ P w F mg base N x (ao st) f cdv A outer s H E).nY (bp st) t/\t { nx:=λ_ H'=>Q .bw H',rt:=Q } (start N vs) H)
  (hb:∀(kV doc pm:Value) (an:Option Addr) (cdv ct:Value) (us:List Value),us.length=ps.length->bindArgs (PySem.W.fnOf x x (cw st) (bp st) (ao st) .none kV doc pm an cdv ct) ⟨us,[]⟩=pure (ps.zip us):=by
    intro _ _ _ _ _ _ us hl
    first | (obtain⟨_,rfl⟩:=wW hl;exact rfl) | (obtain⟨_,_,rfl⟩:=wX hl;exact rfl) | (obtain⟨_,_,_,rfl⟩:=wY hl;exact rfl) | (obtain⟨_,_,_,_,rfl⟩:=wZ hl;exact rfl) | (obtain⟨_,_,_,_,_,rfl⟩:=w5 hl;exact rfl) | (obtain⟨_,_,_,_,_,_,rfl⟩:=w6 hl;exact rfl))
  (len:∀ vs H Q E,sp vs H Q E->vs.length=ps.length:=by
    intro _ _ _ _ h
    first | (obtain⟨_,rfl,_⟩:=h;rfl) | (obtain⟨_,_,rfl,_⟩:=h;rfl) | (obtain⟨_,_,_,rfl,_⟩:=h;rfl) | (obtain⟨_,_,_,_,rfl,_⟩:=h;rfl) | (obtain⟨_,_,_,_,_,rfl,_⟩:=h;rfl) | (obtain⟨_,_,_,_,_,_,rfl,_⟩:=h;rfl) | (obtain⟨_,_,_,_,_,_,_,rfl,_⟩:=h;rfl) | (obtain⟨_,_,_,_,_,_,_,_,rfl,_⟩:=h;rfl) | (obtain⟨_,_,_,_,_,_,_,_,_,rfl,_⟩:=h;rfl) | (obtain⟨_,_,_,_,_,_,_,_,_,_,rfl,_⟩:=h;rfl) | (obtain⟨_,_,_,_,_,_,_,_,_,_,_,rfl,_⟩:=h;rfl) | (obtain⟨_,_,_,_,_,_,_,_,_,_,_,_,rfl,_⟩:=h;rfl) | (obtain⟨_,_,_,_,_,_,_,_,_,_,_,_,_,rfl,_⟩:=h;rfl) | (obtain⟨_,_,_,_,_,_,_,_,_,_,_,_,_,_,rfl,_⟩:=h;rfl) | (obtain⟨_,_,_,_,_,_,_,_,_,_,_,_,_,_,_,rfl,_⟩:=h;rfl)):Callee P w F mg base aQ (k+1) x ps sp:=qQ D hb S len hbody
theorem cX {P:Program} {w:World} {F:PySem.W.Frag} {mg:Str->Option Value} {base:Heap} {k:Nat} {x:Str} {ps:List Str} {sp:Sp} {st:Stmt} {N:List Str} (D:aA F mg x st) (S:aC N ps (ao st))
  (hbody:∀(f:Addr) (cdv:Value) (A:Around) (outer:List Env) (s:Shared) (H:Hp) (vs:List V) (Q:VK) (E:XK),cW k (A.deeper (envOfC x (ao st) s.heap.objs.size f cdv))->sp vs H Q E->∃ t,ja (ft (gq P w) P w F mg base N x (ao st) f cdv A outer s H E) (bp st) t/\t { nx:=λ_ H'=>Q .bw H',rt:=Q } (start N vs) H)
  (hb:∀(kV doc pm:Value) (an:Option Addr) (cdv ct:Value) (us:List Value),us.length=ps.length->bindArgs (PySem.W.fnOf x x (cw st) (bp st) (ao st) .none kV doc pm an cdv ct) ⟨us,[]⟩=pure (ps.zip us):=by
    intro _ _ _ _ _ _ us hl
    first | (obtain⟨_,rfl⟩:=wW hl;exact rfl) | (obtain⟨_,_,rfl⟩:=wX hl;exact rfl) | (obtain⟨_,_,_,rfl⟩:=wY hl;exact rfl) | (obtain⟨_,_,_,_,rfl⟩:=wZ hl;exact rfl) | (obtain⟨_,_,_,_,_,rfl⟩:=w5 hl;exact rfl) | (obtain⟨_,_,_,_,_,_,rfl⟩:=w6 hl;exact rfl))
  (len:∀ vs H Q E,sp vs H Q E->vs.length=ps.length:=by
    intro _ _ _ _ h
    first | (obtain⟨_,rfl,_⟩:=h;rfl) | (obtain⟨_,_,rfl,_⟩:=h;rfl) | (obtain⟨_,_,_,rfl,_⟩:=h;rfl) | (obtain⟨_,_,_,_,rfl,_⟩:=h;rfl) | (obtain⟨_,_,_,_,_,rfl,_⟩:=h;rfl) | (obtain⟨_,_,_,_,_,_,rfl,_⟩:=h;rfl) | (obtain⟨_,_,_,_,_,_,_,rfl,_⟩:=h;rfl) | (obtain⟨_,_,_,_,_,_,_,_,rfl,_⟩:=h;rfl) | (obtain⟨_,_,_,_,_,_,_,_,_,rfl,_⟩:=h;rfl) | (obtain⟨_,_,_,_,_,_,_,_,_,_,rfl,_⟩:=h;rfl) | (obtain⟨_,_,_,_,_,_,_,_,_,_,_,rfl,_⟩:=h;rfl) | (obtain⟨_,_,_,_,_,_,_,_,_,_,_,_,rfl,_⟩:=h;rfl) | (obtain⟨_,_,_,_,_,_,_,_,_,_,_,_,_,rfl,_⟩:=h;rfl) | (obtain⟨_,_,_,_,_,_,_,_,_,_,_,_,_,_,rfl,_⟩:=h;rfl) | (obtain⟨_,_,_,_,_,_,_,_,_,_,_,_,_,_,_,rfl,_⟩:=h;rfl)):Callee P w F mg base (gq P w) (k+1) x ps sp:=oj D hb S len hbody
end K
local macro_rules | `(tactic| k_data) => `(tactic| (iterate 2 ((try dsimp only [L2.cf, L2.Ak, L2.xB, L2.qI, L2.yV, L2.Bh, L2.j8, L2.tC, L2.wx, L2.rI, L2.qA, L2.rU, L2.BF, L2.xE, L2.wq, L2.eT, L2.iC, L2.Am, L2.Ao, L2.Ag, L2.BB, L2.Af, L2.xy, L2.Ab, L2.BD, L2.Aj, L2.uA, L2.Bl, L2.xA, L2.tB, L2.Ac, L2.xw, L2.pY, L2.xX, L2.nQ, L2.wu, L2.yU, L2.wU, L2.zG, L2.zH, L2.wR, L2.zI, L2.BE, L2.Bm, L2.xC, L2.qJ, L2.uB, L2.Bx, L2.By, L2.BA, L2.Ad, L2.BZ, L2.AS, L2.xt, L2.xk, L2.xu, L2.mi, L2.zF, L2.xZ, L2.AU, L2.wV, L2.uC, L2.yX, L2.yW, L2.B0, L2.Bn, L2.An, L2.ve, L2.pZ, L2.Ai, L2.Ah, L2.Bk, L2.Bg, L2.wb, L2.Bj, L2.wt, L2.yT, L2.yS, L2.yR, List.getElem?_cons_zero, List.getElem?_cons_succ, List.set_cons_zero, List.set_cons_succ, List.nil_append, List.cons_append, L2.y9, L2.BS, L2.zA]); (try simp only [Option.some.injEq, exists_eq_left', exists_and_left, List.cons.injEq, L2.V.int.injEq, L2.V.bl.injEq, and_true, true_and, and_assoc, decide_eq_true_eq, List.append_nil, Int.reduceToNat, Int.reducePow, Int.reduceLT, Int.reduceLE, Int.reduceNeg, Int.zero_add, Nat.reducePow, Nat.reduceLT, Int.reduceAdd, Int.reduceSub, Int.reduceMul, L2.V.ref.injEq, L2.aN, L2.uH, exists_eq_left, exists_eq', exists_eq, exists_const, L2.jj, L2.wc, L2.we, L2.wg, L2.wj, L2.wd, L2.wk, reduceIte, reduceCtorEq, Bool.not_eq_true', decide_eq_false_iff_not, Int.reduceAbs, Bool.not_true, Bool.not_false, if_true, Bool.false_eq_true, if_false]))))
namespace K
open PySem PySem.Spec PyProof.Rows L2
section
variable {P:Program} {w:World} {K:PySem.W.Frag} {mg:Str->Option Value} {base:Heap}
theorem uP {i:Int} (h:(decide (i.natAbs<10^250))=true):Bd i:=Nat.lt_of_lt_of_le (of_decide_eq_true h) si
def rT (l:Addr) (i j:Int):HO:=.dK [(Sum.inr "cells",.ref l),(Sum.inr "spot",.int i),(Sum.inr "left",.int j)]
def Tp (p:Addr) (n:Nat) (H:Hp):Prop:=∃(l:Addr) (i j:Int) (ns:List Int),H p=some (rT l i j)/\H l=some (.lst (ns.map V.int))/\ns.length<=63/\0<=i/\i<=n
def Off (p:Addr) (H H':Hp):Prop:=∀ b,b≠p->H' b=H b
def bR (p:Addr) (H H':Hp):Prop:=∀ b o,b≠p->H b=some o->H' b=some o
theorem Off.bS {p:Addr} {H H':Hp} (h:Off p H H'):bR p H H':=λb o n e=>by rw [h b n];exact e
theorem bR.trans {p:Addr} {H H1 H2:Hp} (h:bR p H H1) (h':bR p H1 H2):bR p H H2:=λb o n e=>h' b o n (h b o n e)
theorem Off.trans {p:Addr} {H H1 H2:Hp} (h:Off p H H1) (h':Off p H1 H2):Off p H H2:=λb n=>(h' b n).trans (h b n)
theorem bR.of {p:Addr} {H H':Hp} (h:aE H H'):bR p H H':=λb o _ e=>h b o e
theorem Off.yZ {p:Addr} {H:Hp} {o:HO}:Off p H (upd H p o):=λb n=>av n
theorem Tp.same {p:Addr} {n:Nat} {H H':Hp} (h:Tp p n H) (s:aE H H'):Tp p n H':=by
 obtain⟨l,i,j,ns,a,b,c⟩:=h
 exact⟨l,i,j,ns,s _ _ a,s _ _ b,c⟩
theorem Tp.ne {p b:Addr} {n:Nat} {H:Hp} {o:HO} (h:Tp p n H) (e:H b=some o) (z:∀ kvs,o≠.dK kvs):b≠p:=by
 obtain⟨l,i,j,ns,a,_⟩:=h
 exact kD e a (z _)
theorem qh:∀{L:List V},(∀ x∈L,∃ c,x=V.int c)->∃ ns:List Int,L=ns.map V.int
 | [],_=>⟨[],rfl⟩
 | x::L,h=>by
  obtain⟨c,e⟩:=h x (List.mem_cons_self ..)
  obtain⟨ns,z⟩:=qh (L:=L) λy hy=>h y (List.mem_cons_of_mem _ hy)
  exact⟨c::ns,by rw [e,z];rfl⟩
theorem sG {ns:List Int} {lo hi:Option Int}:∃ ns':List Int,eQ (ns.map V.int) lo hi=ns'.map V.int/\ns'.length<=ns.length:=by
 obtain⟨ns',e⟩:=qh (L:=eQ (ns.map V.int) lo hi) λx hx=>by
  unfold eQ at hx
  obtain⟨c,_,e⟩:=List.mem_map.mp (List.mem_of_mem_drop (List.mem_of_mem_take hx))
  exact⟨c,e.symm⟩
 refine⟨ns',e,?_⟩
 have:=dD (ns.map V.int) lo hi
 rw [e,List.length_map,List.length_map] at this
 exact this
def ux (K:PySem.W.Frag):Sp:=λvs H Q _=>∃(a:Addr) (ns:List Int),vs=[.ref a]/\aV K H a (ns.map V.int)/\ns.length<=63/\∀ p H',aE H H'->H p=none->Tp p 0 H'->Q (.ref p) H'
theorem iu:aC ["_law_script"] ["_law_script"] (ao (top 46)):=dW
theorem vL (D:aA K mg "_law_tape" (top 46)):Callee P w K mg base aQ 1 "_law_tape" ["_law_script"] (ux K):=by
 refine cO D iu (λf cdv A outer s H vs Q E hr h=>?_)
 obtain⟨a,ns,rfl,hS,h63,q⟩:=h
 have nd:=iu.nd
 refine⟨_,(aj (aB (vU (jI ba (bP wm (pv 0) cH (cn ah)) (jI ba ah (jI ba ah vW))) rfl rfl (by intro z;cases z) (by decide)))),?_⟩
 show iC _ _ [some (.ref a)] H
 k_data
 intro p hp
 have s1:=ai (o:=.dK []) hp
 refine⟨a,_,rfl,hS.same s1,λpl hpl=>⟨?_,[(Sum.inr "cells",.ref pl),(Sum.inr "spot",.int 0),(Sum.inr "left",.int 0)],rfl,by show 3<=15;decide,?_⟩⟩
 ·rw [av (bA af hpl),af]
 ·obtain⟨ns',e1,e2⟩:=sG (ns:=ns) (lo:=none) (hi:=some 63)
  have nep:pl≠p:=λz=>by rw [z,af] at hpl;cases hpl
  rw [e1]
  exact q p _ ((s1.trans (ai hpl)).upd hp) hp ⟨pl,0,0,ns',af,by rw [av nep,af],by omega,by decide,by decide⟩
section
variable {H:Hp} {p l:Addr} {i j i' j':Int}
theorem mj (h:H p=some (rT l i j)):gK H p (.str "left") (some (.int j)):=gK.k (k:=Sum.inr "left") h
theorem wy (h:H p=some (rT l i j)):gK H p (.str "spot") (some (.int i)):=gK.k (k:=Sum.inr "spot") h
theorem uE (h:H p=some (rT l i j)):gK H p (.str "cells") (some (.ref l)):=gK.k (k:=Sum.inr "cells") h
theorem nR (h:H p=some (rT l i j)):mv H p (.str "left") (.int j') (upd H p (rT l i j')):=.inl ⟨_,Sum.inr "left",h,rfl,by show 3<sizeLine;decide,rfl⟩
theorem uF (h:H p=some (rT l i j)):mv H p (.str "spot") (.int i') (upd H p (rT l i' j)):=.inl ⟨_,Sum.inr "spot",h,rfl,by show 3<sizeLine;decide,rfl⟩
end
def dz:Sp:=λvs H Q _=>∃(p:Addr) (m:Int) (n:Nat),vs=[.ref p,.int m]/\Tp p n H/\n<=10^60/\0<m/\m<10^200/\∀ r H',0<=r->r<m->Off p H H'->Tp p (n+1) H'->Q (.int r) H'
theorem iq:aC ["_law_tape_here","_law_many","_law_found","_law_spot","_law_cells","_law_cell","_law_seed"] ["_law_tape_here","_law_many"] (ao (top 47)):=dW
theorem vG (D:aA K mg "_law_draw" (top 47)) (n_len:mg "len"=none):Callee P w K mg base aQ 1 "_law_draw" ["_law_tape_here","_law_many"] dz:=by
 refine cO D iq (λf cdv A outer s H vs Q E hr h=>?_)
 obtain⟨p,m,n,rfl,⟨l,i,j,ns,hp,hl,h63,i0,i1⟩,hn,m0,m1,q⟩:=h
 have nd:=iq.nd
 refine⟨_,(ag (aP (aw cM (ic (iP hr) (pv 0) ba (λ_ _=>rfl)) ah (ar _)) (ag (cu (i:=2) nd (aq aM (ic (iP hr) (pv 0) ba (λ_ _=>rfl)) (pv 1))) (ag (lX (iP hr) (pv 0) ba (aq cV (ic (iP hr) (pv 0) ba (λ_ _=>rfl)) (pv 1)) rfl) (aj (aB (pv 2))))) aD) (ag (cu (i:=3) nd (ic (iP hr) (pv 0) ba (λ_ _=>rfl))) (ag (lX (iP hr) (pv 0) ba (aq bB (pv 3) ah) rfl) (ag (cu (i:=4) nd (ic (iP hr) (pv 0) ba (λ_ _=>rfl))) (ag (cu (i:=5) nd ah) (ag (bL (aP (aw cM (aG bf rfl n_len PySem.boot_len (aa (pv 4) ae)) ah (ar _)) (aj (cu (i:=5) nd (aO bW (pv 4) (aq aM (pv 3) (aG bf rfl n_len PySem.boot_len (aa (pv 4) ae))) (λ_ _=>rfl)))) aD)) (ag (aP (PW.pt (df (aw cM (pv 5) ah (ar _)) (df (aw bj (aq aM (pv 5) ah) ah (ar _)) (dB (aw fE (pv 3) (aG bf rfl n_len PySem.boot_len (aa (pv 4) ae)) (ar _)))))) (ag (lX (iP hr) (pv 0) ba (aq cV (aq cV (pv 5) ah) (pv 1)) rfl) (aj (aB (aq aM (aq cV (pv 5) ah) (pv 1))))) aD) (ag (cu (i:=6) nd (aq aM (aq aX (aq bB (aq bB (aq bB (aq aM (pv 5) ah) (aq aX (aq aX ah (pv 3)) (pv 3))) (aq aX ah (pv 3))) ah) ah) ah)) (aj (aB (aq aM (aq cV (aq aM (aq aX (pv 6) (aq bB (pv 6) ah)) ah) ah) (pv 1)))))))))))),?_⟩
 show cf _ _ _ [some (.ref p),some (.int m),none,none,none,none,none] H
 k_data
 have lp:l≠p:=kD hl hp (by intro z;cases z)
 have mb:Bd m:=Bd.of (by omega) (by omega)
 have em:=λx:Int=>Int.emod_nonneg x (show m≠0 by omega)
 have el:=λx:Int=>Int.emod_lt_of_pos x m0
 refine⟨_,mj hp,j,rfl,aL (λc=>?_) (λc=>?_)⟩
 ·exact⟨_,mj hp,j,rfl,m0,_,mj hp,j,rfl,m0,mb,_,nR hp,q _ _ (em _) (el _) Off.yZ ⟨l,i,_,ns,af,by rw [av lp];exact hl,h63,i0,by omega⟩⟩
 ·refine⟨_,wy hp,i,rfl,_,uF hp,_,uE af,?_⟩
  have hp1:upd H p (rT l (i+1) j) p=some (rT l (i+1) j):=af
  have hl1:upd H p (rT l (i+1) j) l=some (.lst (ns.map V.int)):=by rw [av lp];exact hl
  have of1:Off p H (upd H p (rT l (i+1) j)):=Off.yZ
  generalize upd H p (rT l (i+1) j)=H1 at *
  refine⟨λσ' H'=>H'=H1/\∃ c,σ'=[some (.ref p),some (.int m),none,some (.int i),some (.ref l),some (.int c),none],?_,?_⟩
  ·k_data
   refine c9 (aV.of hl1) ⟨_,rfl,?_⟩
   rw [List.length_map]
   refine aL (λc1=>?_) (λc1=>rfl)
   refine c9 (aV.of hl1) ?_
   rw [List.length_map]
   have r0:=Int.emod_nonneg i (show (ns.length:Int)≠0 by omega)
   have r1:=Int.emod_lt_of_pos i c1
   refine⟨_,rfl,c1,cE (aV.of hl1) r0 (by rw [List.length_map];exact r1) λv hv=>?_⟩
   obtain⟨x,_,rfl⟩:=List.mem_map.mp hv
   exact⟨rfl,x,rfl⟩
  ·rintro σ' H' ⟨rfl,c',rfl⟩
   k_data
   have ib:i<=10^60:=by omega
   have ii:7919*i*i<=7919*i*10^60:=Int.mul_le_mul_of_nonneg_left ib (by omega)
   have i2:0<=7919*i*i:=Int.mul_nonneg (by omega) i0
   have c0:=Int.emod_nonneg c' (show (2147483629:Int)≠0 by decide)
   have c1:=Int.emod_lt_of_pos c' (show (0:Int)<2147483629 by decide)
   have sd:∀ z:Int,0<=z%2147483647/\z%2147483647<2147483647:=λz=>⟨Int.emod_nonneg z (by decide),Int.emod_lt_of_pos z (by decide)⟩
   have T1:Tp p (n+1) H':=⟨l,i+1,j,ns,hp1,hl1,h63,by omega,by omega⟩
   have fin:Bd 7919/\Bd i/\Bd (7919*i)/\Bd i/\Bd 48271/\Bd i/\Bd (c'%2147483629+7919*i*i+48271*i+1)/\Bd 69621/\Bd ((c'%2147483629+7919*i*i+48271*i+1)*69621%2147483647)/\Bd ((c'%2147483629+7919*i*i+48271*i+1)*69621%2147483647+16807)/\Bd 64/\0<m:=by
    have s1:=sd ((c'%2147483629+7919*i*i+48271*i+1)*69621)
    exact⟨uP (by decide),Bd.of (by omega) (by omega),Bd.of (by omega) (by omega),Bd.of (by omega) (by omega),uP (by decide),Bd.of (by omega) (by omega),Bd.of (by omega) (by omega),uP (by decide),Bd.of (by omega) (by omega),Bd.of (by omega) (by omega),uP (by decide),m0⟩
   obtain⟨f1,f2,f3,f4,f5,f6,f7,f8,f9,f10,f11,f12⟩:=fin
   have fq:∀ x,Q (V.int (x%m)) H':=λx=>q _ _ (em _) (el _) of1 T1
   refine aL (λc2=>aL (λc3=>?_) (λc3=>⟨f1,f2,f3,f4,f5,f6,f7,f8,f9,f10,f11,f12,fq _⟩)) (λc2=>⟨f1,f2,f3,f4,f5,f6,f7,f8,f9,f10,f11,f12,fq _⟩)
   refine c9 (aV.of hl1) ⟨_,rfl,aL (λc4=>⟨uP (by decide),m0,mb,_,nR hp1,uP (by decide),m0,?_⟩) (λc4=>⟨f1,f2,f3,f4,f5,f6,f7,f8,f9,f10,f11,f12,fq _⟩)⟩
   exact q _ _ (em _) (el _) (of1.trans Off.yZ) ⟨l,i+1,_,ns,af,by rw [av lp];exact hl1,h63,by omega,by omega⟩
end
end K
namespace K
open PySem PySem.Spec PyProof.Rows L2
section
variable {P:Program} {w:World} {K:PySem.W.Frag} {mg:Str->Option Value} {base:Heap}
def iO (a:Int):Prop := -(10^240)<=a/\a<=10^240
theorem iO.bd {a:Int} (h:iO a):Bd a:=Bd.of (by have:=h.1;omega) (by have:=h.2;omega)
def kN:Sp:=λvs H Q _=>∃ a b:Int,vs=[.int a,.int b]/\iO a/\iO b/\∀ g u v p H',Gcd.Ap a b g u v->aE H H'->H' p=some (.tup [.int g,.int u,.int v])->Q (.ref p) H'
theorem jQ:aC ["a","b","g","u","v","next_g","next_u","next_v","times"] ["a","b"] (ao (top 7)):=dW
structure DS where
 (g u v ng nu nv:Int)
 t:Option V
theorem oO (D:aA K mg "divisor" (top 7)) (n_abs:mg "abs"=none):Callee P w K mg base aQ 1 "divisor" ["a","b"] kN:=by
 refine cO D jQ (λf cdv A outer s H vs Q E hr h=>?_)
 obtain⟨a,b,rfl,ha,hb,q⟩:=h
 have nd:=jQ.nd
 refine⟨_,(ag (qx (i:=2) (j:=3) (k:=4) rfl nd rfl rfl rfl (by decide) (by decide) (by decide) rfl rfl rfl (aa (aG ju rfl n_abs L2.boot_abs (aa (pv 0) ae)) (aa ah (aa ah ae))) rfl) (ag (qx (i:=5) (j:=6) (k:=7) rfl nd rfl rfl rfl (by decide) (by decide) (by decide) rfl rfl rfl (aa (aG ju rfl n_abs L2.boot_abs (aa (pv 1) ae)) (aa ah (aa ah ae))) rfl) (ag (bE PassesOwn.never (aw cM (pv 5) ah (ar _)) (ag (cu (i:=8) nd (aq cV (pv 2) (pv 5))) (ag (ph (i:=2) (j:=5) rfl nd rfl rfl (by decide) rfl rfl (aa (pv 5) (aa (aq cZ (pv 2) (aq aX (pv 8) (pv 5))) ae)) rfl) (ag (ph (i:=3) (j:=6) rfl nd rfl rfl (by decide) rfl rfl (aa (pv 6) (aa (aq cZ (pv 3) (aq aX (pv 8) (pv 6))) ae)) rfl) (aj (ph (i:=4) (j:=7) rfl nd rfl rfl (by decide) rfl rfl (aa (pv 7) (aa (aq cZ (pv 4) (aq aX (pv 8) (pv 7))) ae)) rfl)))))) (aj (aB (ax (aa (pv 2) (aa (ig (aw fE (pv 0) ah (ar _)) (ik fC (pv 3)) (pv 3)) (aa (ig (aw fE (pv 1) ah (ar _)) (ik fC (pv 4)) (pv 4)) ae))))))))),?_⟩
 show cf _ _ _ [some (.int a),some (.int b),none,none,none,none,none,none,none] H
 k_data
 have hA:0<=(if a<0 then -a else a)/\(if a<0 then -a else a)<=10^240:=by have:=ha.1;have:=ha.2;split<;>omega
 have hB:0<=(if b<0 then -b else b)/\(if b<0 then -b else b)<=10^240:=by have:=hb.1;have:=hb.2;split<;>omega
 refine bF (α:=DS) (λx=>[some (.int a),some (.int b),some (.int x.g),some (.int x.u),some (.int x.v),some (.int x.ng),some (.int x.nu),some (.int x.nv),x.t])
  (λx H'=>H'=H/\Gcd.J (if a<0 then -a else a) (if b<0 then -b else b) x.g x.u x.v x.ng x.nu x.nv/\x.g<=10^240/\x.ng<=10^240) (λx=>x.ng.toNat)
  ⟨_,1,0,_,0,1,none⟩ rfl ⟨rfl,Gcd.J.start hA.1 hB.1,hA.2,hB.2⟩ ?_
 rintro x H1 ⟨rfl,j,hg,hng⟩
 k_data
 refine aL (λc=>?_) (λc=>?_)
 ·refine⟨_,λ_ _ z=>z,?_⟩
  obtain⟨s1,s2,s3,s4⟩:=j.small hA.1 hB.1 hA.2 hB.2 (by omega)
  obtain⟨j',l,q0,ql⟩:=j.turn c
  have bg:iO x.ng:=⟨by omega,hng⟩
  have bq:iO (x.g/x.ng):=⟨by omega,by omega⟩
  refine⟨c,bg.bd,bq.bd,bg.bd,bq.bd,iO.bd s3,bq.bd,iO.bd s4,⟨x.ng,x.nu,x.nv,x.g-x.g/x.ng*x.ng,x.u-x.g/x.ng*x.nu,x.v-x.g/x.ng*x.nv,some (.int (x.g/x.ng))⟩,rfl,rfl,j',hng,by show (x.g-x.g/x.ng*x.ng)<=_;omega,by show (x.g-x.g/x.ng*x.ng).toNat<x.ng.toNat;omega⟩
 ·have e:x.ng=0:=by have:=j.n0;omega
  rw [e] at j
  have z:=j.done
  refine aL (λca=>?_) (λca=>?_)<;>simp only [ca,if_true,if_false] at z ⊢<;>refine aL (λcb=>?_) (λcb=>?_)<;>simp only [cb,if_true,if_false] at z ⊢ <;>
   exact⟨by show 3<=sizeLine;decide,λp hp=>q _ _ _ p _ z (ai hp) af⟩
end
end K
namespace K
open PySem PySem.Spec PyProof.Rows L2
structure Gd (n a g:Int):Prop where
 pos:0<g
 dn:g∣n
 da:g∣a
 gr:∀ d:Int,d∣n->d∣a->d∣g
theorem Gd.one {n a g g':Int} (h:Gd n a g) (h':Gd n a g'):g=g' :=
 Int.le_antisymm (Int.le_of_dvd h'.pos (h'.gr g h.dn h.da)) (Int.le_of_dvd h.pos (h.gr g' h'.dn h'.da))
theorem mI {n a g:Int} (dn:g∣n):g∣a%n↔g∣a:=by
 have e:=Int.mul_ediv_add_emod a n
 constructor
 ·intro h
  rw [<- e]
  exact Int.dvd_add (Int.dvd_mul_of_dvd_left dn) h
 ·intro h
  have:a%n=a-n*(a/n):=by omega
  rw [this]
  exact Int.dvd_sub h (Int.dvd_mul_of_dvd_left dn)
theorem Gd.of {n a g u v:Int} (hn:0<n) (z:Gcd.Ap (a%n) n g u v):Gd n a g:=by
 refine⟨?_,z.db,(mI z.db).mp z.da,λd h1 h2=>?_⟩
 ·have:=z.g0
  rcases (by omega:g=0∨0<g) with e | e
  ·have:=z.db
   rw [e] at this
   have:=Int.zero_dvd.mp this
   omega
  ·exact e
 ·rw [<- z.lin]
  exact Int.dvd_add (Int.dvd_mul_of_dvd_right ((mI h1).mpr h2)) (Int.dvd_mul_of_dvd_right h1)
theorem x4 {n a u v:Int} (hn:0<n) (z:Gcd.Ap (a%n) n 1 u v):n∣u%n*a-1:=by
 have e:=z.lin
 have e1:=Int.mul_ediv_add_emod a n
 have e2:=Int.mul_ediv_add_emod u n
 refine⟨u*(a/n)-v-u/n*a,?_⟩
 generalize a%n=x at *
 generalize u%n=y at *
 generalize a/n=s at *
 generalize u/n=t at *
 grind
section
variable {P:Program} {w:World} {K:PySem.W.Frag} {mg:Str->Option Value} {base:Heap}
def kO (C:Addr):Sp:=λvs H Q E=>∃ n a:Int,vs=[.int n,.int a]/\0<n/\n<=10^240/\∀ g,Gd n a g ->
 (g=1->∀ r H',0<=r->r<n->n∣r*a-1->aE H H'->Q (.int r) H') /\
 (1<g->∀ x dx H',aE H H'->H x=none->H' x=some (XO x C (some dx))->H' dx=some (.xd [("divisor",.int g)])->E (.ref C) (some x) H')
theorem jR:aC ["n","a","g","u","v"] ["n","a"] (ao (top 8)):=dW
theorem oP {C:Addr} (D:aA K mg "inverse" (top 8)) (c_divisor:Callee P w K mg base aQ 1 "divisor" ["a","b"] kN) (x_NoInverse:oa P w K mg base "NoInverse" C "divisor"):Callee P w K mg base (gq P w) 3 "inverse" ["n","a"] (kO C):=by
 refine cX D jR (λf cdv A outer s H vs Q E hr h=>?_)
 obtain⟨n,a,rfl,hn,hn1,q⟩:=h
 have nd:=jR.nd
 refine⟨_,(ag (dZ (bU c_divisor hr ay (aa (aq aM (pv 1) (pv 0)) (aa (pv 0) ae))) (dN (n:=3) rfl (aI (aH (i:=2) nd rfl (Or.inl rfl) (.inr rfl)) (aI (aH (i:=3) nd rfl (Or.inl rfl) (.inr rfl)) (aI (aH (i:=4) nd rfl (Or.inl rfl) (.inr rfl)) cG))))) (ag (aP (aw cM (pv 2) ah (ar _)) (aj (eW (lU x_NoInverse (hr.mono (by decide)) rfl (aa (pv 2) ae)))) aD) (ja.nY (aj (aB (aq aM (pv 3) (pv 0))))))),?_⟩
 show cf _ _ _ [some (.int n),some (.int a),none,none,none] H
 k_data
 have r0:=Int.emod_nonneg a (show n≠0 by omega)
 have r1:=Int.emod_lt_of_pos a hn
 refine⟨hn,a%n,n,rfl,⟨by omega,by omega⟩,⟨by omega,by omega⟩,λg u v p H1 z hs hh=>?_⟩
 have G:=Gd.of hn z
 obtain⟨q1,q2⟩:=q g G
 refine⟨p,_,rfl,aJ.of hh,rfl,?_⟩
 k_data
 refine aL (λc=>?_) (λc=>?_)
 ·intro x dx hx hdx ne
  have ne':dx≠x:=ne
  refine⟨C,some dx,af,x_NoInverse.cls,?_,?_⟩
  ·cases e:H x with
   | none=>rfl
   | some o=>rw [hs _ _ e] at hx;cases hx
  ·refine q2 c x dx _ ?_ ?_ af ?_
   ·intro b o e
    have e1:=hs _ _ e
    have bx:b≠x:=λy=>by rw [y,hx] at e1;cases e1
    have bd:b≠dx:=λy=>by rw [y,hdx] at e1;cases e1
    rw [av bx,av bx,av bd,av bx]
    exact e1
   ·cases e:H x with
    | none=>rfl
    | some o=>rw [hs _ _ e] at hx;cases hx
   ·rw [av ne',av ne',af]
 ·have g1:g=1:=by have:=G.pos;omega
  subst g1
  exact⟨hn,q1 rfl _ _ (Int.emod_nonneg _ (by omega)) (Int.emod_lt_of_pos _ hn) (x4 hn z) hs⟩
end
end K
namespace K
open PySem PySem.Spec PyProof.Rows L2
section
variable {P:Program} {w:World} {K:PySem.W.Frag} {mg:Str->Option Value} {base:Heap}
def jk (C:Addr):Sp:=λvs H Q E=>∃ n a e:Int,vs=[.int n,.int a,.int e]/\0<n/\n<=10^120 /\
 (0<=e->∀ H',aE H H'->Q (.int (a^e.toNat%n)) H') /\
 (e<0->∀ g,Gd n a g ->
  (g=1->∀ b H',0<=b->b<n->n∣b*a-1->aE H H'->Q (.int (b^(-e).toNat%n)) H') /\
  (1<g->∀ x dx H',aE H H'->H x=none->H' x=some (XO x C (some dx))->H' dx=some (.xd [("divisor",.int g)])->E (.ref C) (some x) H'))
theorem nM:aC ["n","a","e","base","left","rest"] ["n","a","e"] (ao (top 17)):=dW
theorem tM {C:Addr} (D:aA K mg "power" (top 17)) (c_inverse:Callee P w K mg base (gq P w) 3 "inverse" ["n","a"] (kO C)) (n_abs:mg "abs"=none):Callee P w K mg base (gq P w) 4 "power" ["n","a","e"] (jk C):=by
 refine cX D nM (λf cdv A outer s H vs Q E hr h=>?_)
 obtain⟨n,a,e,rfl,hn,hn1,q1,q2⟩:=h
 have nd:=nM.nd
 refine⟨_,(ag (cu (i:=3) nd (aq aM (pv 1) (pv 0))) (ag (bL (aP (aw fE (pv 2) ah (ar _)) (aj (cu (i:=3) nd (bU c_inverse hr tT (aa (pv 0) (aa (pv 1) ae))))) aD)) (ja.nY (ag (cu (i:=4) nd (aG ju rfl n_abs L2.boot_abs (aa (pv 2) ae))) (ag (cu (i:=5) nd (aq aM ah (pv 0))) (ag (bE PassesOwn.never (aw cM (pv 4) ah (ar _)) (ag (bL (aP (aw bj (aq aM (pv 4) ah) ah (ar _)) (aj (cu (i:=5) nd (aq aM (aq aX (pv 5) (pv 3)) (pv 0)))) aD)) (ag (cu (i:=3) nd (aq aM (aq aX (pv 3) (pv 3)) (pv 0))) (aj (fw (i:=4) nd rfl (Or.inl rfl) ah (gZ fH)))))) (aj (aB (pv 5))))))))),?_⟩
 show cf _ _ _ [some (.int n),some (.int a),some (.int e),none,none,none] H
 k_data
 refine⟨hn,λσ' H'=>aE H H'/\∃ b:Int,σ'=[some (.int n),some (.int a),some (.int e),some (.int b),none,none]/\0<=b/\b<n/\Q (.int (b^e.natAbs%n)) H',?_,?_⟩
 ·k_data
  refine aL (λc=>?_) (λc=>?_)
  ·refine⟨n,a,rfl,hn,by omega,λg G=>⟨λe1 r H' r0 r1 r2 hs=>?_,λg1 x dx H' hs hx hX hd=>?_⟩⟩
   ·have:=(q2 c g G).1 e1 r H' r0 r1 r2 hs
    rw [show (-e).toNat=e.natAbs by omega] at this
    exact⟨hs,r,rfl,r0,r1,this⟩
   ·exact (q2 c g G).2 g1 x dx H' hs hx hX hd
  ·have:=q1 (by omega) H (aE.refl _)
   rw [show e.toNat=e.natAbs by omega,<- Pw.jH] at this
   exact⟨aE.refl _,Int.emod_nonneg _ (by omega),Int.emod_lt_of_pos _ hn,this⟩
 ·rintro σ' H' ⟨hs,b,rfl,hb0,hb1,q⟩
  k_data
  refine⟨hn,?_⟩
  have ee:(if e<0 then -e else e)=(e.natAbs:Int):=by split<;>omega
  rw [ee]
  refine bF (α:=Int × Nat × Int) (λx=>[some (.int n),some (.int a),some (.int e),some (.int x.1),some (.int x.2.1),some (.int x.2.2)]) (λx H1=>H1=H'/\0<=x.1/\x.1<n/\0<=x.2.2/\x.2.2<n/\x.2.2*x.1^x.2.1%n=b^e.natAbs%n) (λx=>x.2.1) (b,e.natAbs,1%n) rfl ⟨rfl,hb0,hb1,Int.emod_nonneg _ (by omega),Int.emod_lt_of_pos _ hn,?_⟩ ?_
  ·show 1%n*b^e.natAbs%n=_
   rw [Pw.qc,Int.one_mul]
  rintro⟨b',l,r⟩ H1 ⟨rfl,h1,h2,h3,h4,h5⟩
  replace h1:0<=b':=h1
  replace h2:b'<n:=h2
  replace h3:0<=r:=h3
  replace h4:r<n:=h4
  replace h5:r*b'^l%n=b^e.natAbs%n:=h5
  k_data
  refine aL (λc=>?_) (λc=>?_)
  ·refine⟨_,λ_ _ z=>z,λσ' H2=>H2=H1/\σ'=[some (.int n),some (.int a),some (.int e),some (.int b'),some (.int l),some (.int (if l%2=1 then r*b'%n else r))],?_,?_⟩
   ·k_data
    refine aL (λc=>?_) (λc=>?_)
    ·exact⟨Bd.of (by omega) (by omega),Bd.of (by omega) (by omega),hn,by rw [if_pos (by omega)]⟩
    ·rw [if_neg (by omega)]
   rintro σ' H2 ⟨rfl,rfl⟩
   k_data
   have r0:0<=(if l%2=1 then r*b'%n else r)/\(if l%2=1 then r*b'%n else r)<n:=by
    split
    ·exact⟨Int.emod_nonneg _ (by omega),Int.emod_lt_of_pos _ hn⟩
    ·exact⟨h3,h4⟩
   refine⟨Bd.of (by omega) (by omega),Bd.of (by omega) (by omega),hn,uP (by decide),(b'*b'%n,l/2,if l%2=1 then r*b'%n else r),rfl,(by show (l:Int)/2=((l/2:Nat):Int);omega),rfl,Int.emod_nonneg _ (by omega),Int.emod_lt_of_pos _ hn,r0.1,r0.2,?_,?_⟩
   ·show (if l%2=1 then r*b'%n else r)*(b'*b'%n)^(l/2)%n=_
    rw [Pw.step]
    exact h5
   ·show l/2<l
    omega
  ·have l0:l=0:=by omega
   subst l0
   rw [Int.pow_zero,Int.mul_one] at h5
   have h6:r%n=r:=Int.emod_eq_of_lt h3 h4
   rw [<- h5,h6] at q
   exact q
def pG:Sp:=λvs H Q _=>∃ n k:Int,vs=[.int n,.int k]/\2<=n/\n<=10^120/\k<=10^120/\Ld.Inv n k/\∀ r,Ld.eO n r->Q (.int r) H
theorem dj:aC ["n","start","number"] ["n","start"] (ao (top 37)):=dW
theorem vH (D:aA K mg "least_divisor_from" (top 37)):Callee P w K mg base aQ 1 "least_divisor_from" ["n","start"] pG:=by
 refine cO D dj (λf cdv A outer s H vs Q E hr h=>?_)
 obtain⟨n,k,rfl,hn,hn1,hk1,hk,q⟩:=h
 have nd:=dj.nd
 refine⟨_,(ag (cu (i:=2) nd (pv 1)) (ag (bE PassesOwn.never (aw nk (aq aX (pv 2) (pv 2)) (pv 0) (ar _)) (ag (aP (aw bj (aq aM (pv 0) (pv 2)) ah (ar _)) (aj (aB (pv 2))) aD) (aj (fw (i:=2) nd rfl (Or.inl rfl) (ig (aw bj (pv 2) ah (ar _)) ah ah) (gZ lD))))) (aj (aB (pv 0))))),?_⟩
 show cf _ _ _ [some (.int n),some (.int k),none] H
 k_data
 refine bF (α:=Int) (λx=>[some (.int n),some (.int k),some (.int x)]) (λx H1=>H1=H/\Ld.Inv n x/\x<=10^120+2) (λx=>(n+2-x).toNat) k rfl ⟨rfl,hk,by omega⟩ ?_
 rintro x H1 ⟨rfl,hx,hx1⟩
 have x2:=hx.two
 k_data
 refine⟨Bd.of (by omega) (by omega),Bd.of (by omega) (by omega),?_⟩
 refine aL (λc=>?_) (λc=>?_)
 ·have xn:x<=n:=by
   have:=Int.mul_le_mul_of_nonneg_left (show 1<=x by omega) (show 0<=x by omega)
   omega
  have st:=λz=>hx.step (k:=x) z
  refine⟨λσ' H'=>H'=H1/\∃ y,y=(x+if x=2 then 1 else 2)/\¬x∣n/\σ'=[some (V.int n),some (V.int k),some (V.int y)],?_,by omega,?_⟩
  ·rintro σ' H' ⟨rfl,y,hy,nd',rfl⟩
   refine⟨y,rfl,rfl,by rw [hy];exact st nd',?_,?_⟩
   ·split at hy<;>omega
   ·split at hy<;>omega
  refine aL (λc2=>?_) (λc2=>?_)
  ·exact q x (hx.found (Int.dvd_of_emod_eq_zero c2))
  have nd':¬x∣n:=λz=>c2 (Int.emod_eq_zero_of_dvd z)
  refine aL (λc3=>?_) (λc3=>?_)
  ·exact⟨rfl,_,by rw [if_pos c3],nd',rfl⟩
  ·exact⟨rfl,_,by rw [if_neg c3],nd',rfl⟩
 ·exact q n (hx.done hn (by omega))
def mf (c1 c2:Addr):Sp:=λvs H Q E=>∃ n:Int,vs=[.int n]/\(n<2->AD c1 H E)/\(10^9<n->AE c2 "part" (.int n) H E)/\(2<=n->n<=10^9->∀ r,Ld.eO n r->Q (.int r) H)
theorem fc:aC ["n"] ["n"] (ao (top 36)):=dW
theorem tK {c1 c2:Addr} (D:aA K mg "least_divisor" (top 36)) (c_least_divisor_from:Callee P w K mg base aQ 1 "least_divisor_from" ["n","start"] pG) (x_NoNumber:uW K mg "NoNumber" c1) (x_TooFar:oa P w K mg base "TooFar" c2 "part")
  (g_GREATEST:∃ t,mg "GREATEST"=some (.int 1000000000 t)):Callee P w K mg base (gq P w) 3 "least_divisor" ["n"] (mf c1 c2):=by
 refine cX D fc (λf cdv A outer s H vs Q E hr h=>?_)
 obtain⟨n,rfl,q1,q2,q3⟩:=h
 obtain⟨tk,g_GREATEST⟩:=g_GREATEST
 have nd:=fc.nd
 refine⟨_,(ag (aP (aw fE (pv 0) ah (ar _)) (aj (eW (tV x_NoNumber rfl))) aD) (ag (aP (aw cM (pv 0) (qu (v:=.int 1000000000) rfl g_GREATEST ⟨_,rfl⟩) (ar _)) (aj (eW (lU x_TooFar (hr.mono (by decide)) rfl (aa (pv 0) ae)))) aD) (ja.nY (aj (aB (bU c_least_divisor_from hr ay (aa (pv 0) (aa ah ae)))))))),?_⟩
 show cf _ _ _ [some (.int n)] H
 k_data
 refine aL (λc=>?_) (λc=>?_)
 ·exact λx hx=>ky x_NoNumber.cls (aE.refl _) hx (q1 c)
 refine aL (λc'=>?_) (λc'=>?_)
 ·exact λx dx hx hdx ne=>kz x_TooFar.cls (aE.refl _) hx hdx ne (q2 (by omega))
 exact⟨n,2,rfl,by omega,by omega,by omega,⟨by omega,.inl rfl,λd d0 d1=>by omega⟩,q3 (by omega) (by omega)⟩
def Ba (p:Int × Int):PyData:=.tuple [.int p.1,.int p.2]
def jU (K:PySem.W.Frag) (c1 c2:Addr):Sp:=λvs H Q E=>∃ n:Int,vs=[.int n]/\(n<1->AD c1 H E)/\(10^9<n->AE c2 "part" (.int n) H E)/\(1<=n->n<=10^9->∀ ps us p H',Num.Part n ps->ps.length<=29->aE H H'->H p=none->H' p=some (.lst us)->bh K H' (ps.map Ba) us->Q (.ref p) H')
theorem kM:aC ["n","parting","left","prime","many"] ["n"] (ao (top 38)):=dW
theorem rB {c1 c2:Addr} (D:aA K mg "parted" (top 38)) (c_least_divisor_from:Callee P w K mg base aQ 1 "least_divisor_from" ["n","start"] pG) (x_NoNumber:uW K mg "NoNumber" c1) (x_TooFar:oa P w K mg base "TooFar" c2 "part")
  (g_GREATEST:∃ t,mg "GREATEST"=some (.int 1000000000 t)):Callee P w K mg base (gq P w) 3 "parted" ["n"] (jU K c1 c2):=by
 refine cX D kM (λf cdv A outer s H vs Q E hr h=>?_)
 obtain⟨n,rfl,q1,q2,q3⟩:=h
 obtain⟨tk,g_GREATEST⟩:=g_GREATEST
 have nd:=kM.nd
 refine⟨_,(ag (aP (aw fE (pv 0) ah (ar _)) (aj (eW (tV x_NoNumber rfl))) aD) (ag (aP (aw cM (pv 0) (qu (v:=.int 1000000000) rfl g_GREATEST ⟨_,rfl⟩) (ar _)) (aj (eW (lU x_TooFar (hr.mono (by decide)) rfl (aa (pv 0) ae)))) aD) (ja.nY (ag (cu (i:=1) nd (bo ae)) (ag (cu (i:=2) nd (pv 0)) (ag (cu (i:=3) nd ah) (ag (bE PassesOwn.never (aw cM (pv 2) ah (ar _)) (ag (cu (i:=3) nd (bU c_least_divisor_from hr ay (aa (pv 2) (aa (pv 3) ae)))) (ag (cu (i:=4) nd ah) (ag (bE PassesOwn.never (aw bj (aq aM (pv 2) (pv 3)) ah (ar _)) (ag (fw (i:=2) nd rfl (Or.inl rfl) (pv 3) (gZ fH)) (aj (fw (i:=4) nd rfl (Or.inl rfl) ah (gZ lD))))) (aj (gi (jF PySem.F.plainAttrs_list PySem.F.slot_list_append PySem.F.type_list_append eV (pv 1) (aa (ax (aa (pv 3) (aa (pv 4) ae))) ae)))))))) (aj (aB (pv 1)))))))))),?_⟩
 show cf _ _ _ [some (.int n),none,none,none,none] H
 k_data
 refine aL (λc=>?_) (λc=>?_)
 ·exact λx hx=>ky x_NoNumber.cls (aE.refl _) hx (q1 c)
 refine aL (λc'=>?_) (λc'=>?_)
 ·exact λx dx hx hdx ne=>kz x_TooFar.cls (aE.refl _) hx hdx ne (q2 (by omega))
 refine⟨by decide,λpp hpp=>?_⟩
 have n1:n<=10^9:=by omega
 refine bF (α:=Int × Int × Option V) (λx=>[some (.int n),some (.ref pp),some (.int x.1),some (.int x.2.1),x.2.2]) (λx H1=>aE H H1/\∃(ps:List (Int × Int)) (us:List V),H1 pp=some (.lst us)/\bh K H1 (ps.map Ba) us/\Num.Way n ps x.1 x.2.1) (λx=>x.1.toNat) (n,2,none) rfl ⟨ai hpp,[],[],af,rfl,.start (by omega)⟩ ?_
 rintro⟨left,prime,o⟩ H1 ⟨hs,ps,us,epp,hd,W⟩
 replace W:Num.Way n ps left prime:=W
 have l1:=W.pos
 have ln:left<=n:=by
  have z:=W.two
  have p0:=Num.aW (show (0:Int)<2 by decide) ps.length
  have:=Int.mul_le_mul_of_nonneg_right (show (1:Int)<=2^ps.length by omega) (show 0<=left by omega)
  omega
 k_data
 refine aL (λc3=>?_) (λc3=>?_)
 ·have pl:prime<=10^120:=by
   rcases (by omega:prime<=left∨left<prime) with z | z
   ·omega
   ·exact absurd (Int.dvd_refl left) (W.inv.no left (by omega) z)
  refine⟨_,λ_ _ z=>z,left,prime,rfl,by omega,by omega,pl,W.inv,λr hL=>?_⟩
  have r2:=hL.two
  have rl:=hL.le (by omega)
  refine bF (α:=Int × Nat) (λx=>[some (.int n),some (.ref pp),some (.int x.1),some (.int r),some (.int (x.2:Int))]) (λx H2=>H2=H1/\left=r^x.2*x.1/\1<=x.1/\x.1<=left) (λx=>x.1.toNat) (left,0) rfl ⟨rfl,by rw [Int.pow_zero,Int.one_mul],by omega,Int.le_refl _⟩ ?_
  rintro⟨lf,k⟩ H2 ⟨rfl,e1,e2,e3⟩
  replace e1:left=r^k*lf:=e1
  replace e2:1<=lf:=e2
  replace e3:lf<=left:=e3
  k_data
  refine⟨by omega,?_⟩
  refine aL (λc4=>?_) (λc4=>?_)
  ·obtain⟨q,hq⟩:=Int.dvd_of_emod_eq_zero c4
   have ed:lf/r=q:=by rw [hq];exact Int.mul_ediv_cancel_left _ (by omega)
   have q1':1<=q:=by
    rcases (by omega:q<=0∨1<=q) with z | z
    ·have:=Int.mul_nonpos_of_nonneg_of_nonpos (show 0<=r by omega) z
     omega
    ·exact z
   have ql:q<lf:=by
    rw [hq]
    have:=Int.mul_le_mul_of_nonneg_right r2 (show 0<=q by omega)
    omega
   refine⟨_,λ_ _ z=>z,by omega,Bd.of (by omega) (by omega),(q,k+1),?_,rfl,?_,q1',?_,?_⟩
   ·rw [ed];rfl
   ·rw [e1,hq,Int.pow_succ,Int.mul_assoc]
   ·show q<=left
    omega
   ·show q.toNat<lf.toNat
    omega
  ·have ng:¬r∣lf:=λz=>c4 (Int.emod_eq_zero_of_dvd z)
   have k1:1<=k:=by
    cases k with
    | zero=>rw [Int.pow_zero,Int.one_mul] at e1;exact absurd (e1▸hL.dv) ng
    | succ k=>omega
   have W2:=W.step n1 c3 hL e1 e2 k1 ng
   have len:=W.len n1
   have ul:us.length=ps.length:=by rw [hd.length,List.length_map]
   have lt:lf<left:=by
    obtain⟨k',rfl⟩:∃ k',k=k'+1:=⟨k-1,by omega⟩
    have p0:=Num.aW (show 0<r by omega) k'
    have h1:r<=r^(k'+1):=by
     rw [Int.pow_succ]
     have:=Int.mul_le_mul_of_nonneg_right (show 1<=r^k' by omega) (show 0<=r by omega)
     omega
    have:=Int.mul_le_mul_of_nonneg_right (show 2<=r^(k'+1) by omega) (show 0<=lf by omega)
    omega
   refine⟨.inl ⟨rfl,_,aV.of epp⟩,by show 2<=sizeLine;decide,λpt hpt=>?_⟩
   have s2:=ai (o:=.tup [V.int r,V.int (k:Int)]) hpt
   have npt:pp≠pt:=λz=>by rw [<- z,epp] at hpt;cases hpt
   have el:=s2 _ _ epp
   have et:upd H2 pt (.tup [V.int r,V.int (k:Int)]) pt=some (.tup [V.int r,V.int (k:Int)]):=af
   have hd2:=bh.same s2 _ hd
   have S2:=hs.trans s2
   generalize upd H2 pt _=H3 at *
   refine⟨pp,us,.ref pt,rfl,rfl,el,Nat.lt_of_le_of_lt (show us.length<=29 by omega) (by decide),(lf,r,some (.int (k:Int))),rfl,rfl,rfl,S2.upd hpp,⟨ps++[(r,(k:Int))],us++[.ref pt],af,?_,W2⟩,?_⟩
   ·rw [List.map_append]
    refine bh.append (bh.but el (λb o ne h=>by rw [av ne];exact h) _ (mY (λ_=>rfl) ps) hd2) (.one (dv.tup (xs:=[V.int r,V.int (k:Int)]) ?_ ⟨_,_,rfl,rfl,.one rfl⟩))
    rw [av (Ne.symm npt)]
    exact et
   ·show lf.toNat<left.toNat
    omega
 ·have z:left=1:=by omega
  subst z
  exact q3 (by omega) n1 ps us pp H1 W.done (W.len n1) hs hpp epp hd
end
end K
namespace L2
open PySem PySem.Spec PyProof.Rows
theorem lE {X:Cx} (K:PySem.W.Frag) (h:X.K=K):Ar X (yG K):=h▸aS
theorem lV {X:Cx} {pos:Pos} {es:List Expr} {k:Nat} {t:wF} {n:Nat} (K:PySem.W.Frag) (e:X.K=K) (hc:X.calm=true) (h:zx X es t)
  (hn:(assignEach es X.env).length=n:=by rfl) (hst:(assignEach es X.env).findIdx? (·.1)=none:=by rfl):PG X (.Tuple es k pos) (qW K n t):=e▸dN hc h hn hst
end L2
namespace K
open PySem PySem.Spec PyProof.Rows L2
section
variable {P:Program} {w:World} {K:PySem.W.Frag} {mg:Str->Option Value} {base:Heap}
theorem cK {X:Cx}:Passes (gq P w) X E0:=by
 intro pins σ H1 s1 e s' I hq
 obtain⟨x,C,T,dd,H',_,_,_,_,_,_,_,_,_,_,z⟩:=hq
 exact z.elim
theorem cY {H:Hp} {q:Addr} {xs:List V} {k:Int} {v:V} {Q:VK} (t:aJ K H q xs) (e:pM xs k=some v) (h:Q v H):yG K (.ref q) (.int k) H Q:=⟨q,xs,k,v,rfl,rfl,t,e,h⟩
theorem nX {x:V} {r:List V}:pM (x::r) 0=some x:=by
 unfold pM uR
 simp
def BU (row:PyData) (q:Int):Prop:=∃ ds es,row=.tuple (.tuple (.int q::ds)::es)
def Aq (rows:List PyData) (qs:List Int):Prop:=rows.length=qs.length/\∀(i:Nat) (row:PyData),rows[i]?=some row->∃ q,qs[i]?=some q/\BU row q
def dA (K:PySem.W.Frag):Sp:=λvs H Q _=>∃ v rows qs,vs=[v]/\dv K H (.tuple rows) v/\Aq rows qs/\rows.length<=10^6/\∀ p H',aE H H'->H p=none->H' p=some (.lst (qs.map V.int))->Q (.ref p) H'
theorem iy:aC ["parts"] ["parts"] (ao (top 15)):=dW
theorem nh (D:aA K mg "primes_in" (top 15)):Callee P w K mg base aQ 1 "primes_in" ["parts"] (dA K):=by
 refine cO D iy (λf cdv A outer s H vs Q E hr h=>?_)
 obtain⟨v,rows,qs,rfl,hd,⟨hl,hq⟩,h6,q⟩:=h
 have nd:=iy.nd
 refine⟨_,(aj (aB (gE rfl (uQ (N':=["row"]) (js:=[none]) rfl rfl) (oX (pv 0)) (λ_ _ _ _=>(aH (i:=0) (show List.Nodup [("row":Str)] from by decide +kernel) rfl (Or.inl rfl) (.inr rfl))) (λ_ _ _ _=>dF) (λ_ _ _ _=>(aO (lE K rfl) (aO (lE K rfl) (pv 0) ah (λ_ _=>rfl)) ah (λ_ _=>rfl)))))),?_⟩
 show iC _ _ [some v] H
 obtain⟨p,xs,rfl,hS,ht⟩:=hd
 k_data
 have xl:=ht.length
 refine⟨⟨_,hS⟩,?_⟩
 refine ko (xs:=xs) (λi zs H3=>H3=H/\zs=(qs.take i).map V.int) ⟨rfl,rfl⟩ (Nat.le_trans (by omega) (show 10^6<=sizeLine by decide)) (λi zs H3 hi ⟨e1,e2⟩=>⟨by rw [e1];exact hS,by rw [e2];simp;omega⟩) ?_ ?_
 ·rintro i x zs H3 hx ⟨rfl,rfl⟩
  obtain⟨d,hd,hv⟩:=ht.get hx
  obtain⟨q',hq',ds,es,rfl⟩:=hq i d hd
  obtain⟨p1,x1,rfl,t1,u,r1,rfl,hv2,_⟩:=hv
  obtain⟨p2,x2,rfl,t2,u',r2,rfl,hv3,_⟩:=hv2
  cases hv3
  show eT 0 _ [none] _ _
  k_data
  refine⟨True.intro,cY t1 nX (cY t2 nX ⟨rfl,?_⟩)⟩
  rw [List.take_add_one,hq',List.map_append]
  rfl
 ·rintro zs H3 p3 ⟨rfl,rfl⟩ hp3
  rw [show xs.length=qs.length by omega,List.take_length]
  exact q p3 _ (ai hp3) hp3 af
def zt (n a e:Int) (qs:List Int):Prop:=a^e.toNat%n=1/\∀ q∈qs,a^(e/q).toNat%n≠1
def gj (K:PySem.W.Frag):Sp:=λvs H Q _=>∃(n a e:Int) (p:Addr) (qs:List Int),vs=[.int n,.int a,.int e,.ref p]/\0<n/\n<=10^120/\0<=e/\e<=10^120/\aV K H p (qs.map V.int)/\(∀ q∈qs,0<q/\q<=10^120)/\qs.length<=10^6/\∀ b H',(b=true↔zt n a e qs)->aE H H'->Q (.bl b) H'
theorem iV:aC ["n","a","e","primes"] ["n","a","e","primes"] (ao (top 18)):=dW
theorem oQ {C:Addr} (D:aA K mg "is_least" (top 18)) (c_power:Callee P w K mg base (gq P w) 4 "power" ["n","a","e"] (jk C)) (n_all:mg "all"=none):Callee P w K mg base aQ 5 "is_least" ["n","a","e","primes"] (gj K):=by
 refine cO D iV (λf cdv A outer s H vs Q E hr h=>?_)
 obtain⟨n,a,e,p,qs,rfl,hn,hn1,he,he1,hS,hq,hl,q⟩:=h
 have nd:=iV.nd
 refine⟨_,(aj (aB (bG (bC bj (bU c_power hr cK (aa (pv 0) (aa (pv 1) (aa (pv 2) ae)))) ah (ar _)) (cj (aG (jv rfl) rfl n_all L2.boot_all (aa (gE rfl (uQ (N':=["prime","n","a","e"]) (js:=[none,some 0,some 1,some 2]) rfl rfl) (gh (pv 3)) (λ_ _ _ _=>(aH (i:=0) (show List.Nodup [("prime":Str),("n":Str),("a":Str),("e":Str)] from by decide +kernel) rfl (Or.inl rfl) (.inr rfl))) (λ_ _ _ _=>dF) (λ_ _ _ _=>(bC kI (bU c_power hr cK (aa (pv 1) (aa (pv 2) (aa (aq cV (pv 3) (pv 0)) ae)))) ah (ar _)))) ae)))))),?_⟩
 show iC _ _ [some (.int n),some (.int a),some (.int e),some (.ref p)] H
 k_data
 refine⟨n,a,e,rfl,hn,hn1,λ_ H1 s1=>?_,λz=>absurd z (by omega)⟩
 have hS1:=hS.same s1
 k_data
 refine aL (λc=>?_) (λc=>?_)
 ·refine⟨⟨_,hS1⟩,?_⟩
  refine dk (xs:=qs.map V.int) (λi zs H3=>aE H H3/\zs=((qs.take i).map λq=>decide (a^(e/q).toNat%n≠1)).map V.bl) ⟨s1,rfl⟩ (by rw [List.length_map];exact Nat.le_trans hl (show 10^6<=sizeLine by decide)) (λi zs H3 hi ⟨e1,e2⟩=>⟨hS.same e1,by rw [e2];simp;omega⟩) ?_ ?_
  ·rintro i x zs H3 hx ⟨s3,rfl⟩
   rw [List.getElem?_map] at hx
   obtain⟨y,hy,rfl⟩:=Option.map_eq_some_iff.mp hx
   have my:=hq y (List.mem_of_getElem? hy)
   show eT 0 _ [none,some (.int n),some (.int a),some (.int e)] _ _
   k_data
   refine⟨⟨rfl,rfl,rfl,True.intro⟩,my.1,Bd.of (by omega) (by omega),n,a,e/y,rfl,hn,hn1,λ_ H4 s4=>⟨jj,?_⟩,λz=>absurd (Int.ediv_nonneg he (show 0<=y by omega)) (by omega)⟩
   refine⟨s3.trans s4,?_⟩
   rw [List.take_add_one,hy,List.map_append,List.map_append]
   simp
  ·rintro zs H3 p3 ⟨s3,rfl⟩ hp3
   rw [List.length_map,List.take_length]
   refine oi (bs:=qs.map λq=>decide (a^(e/q).toNat%n≠1)) (aV.of af) ?_
   refine q _ _ ?_ (s3.trans (ai hp3))
   rw [List.all_eq_true]
   constructor
   ·intro h
    refine⟨c,λy hy=>?_⟩
    have:=h _ (List.mem_map.mpr ⟨y,hy,rfl⟩)
    simpa using this
   ·intro h b hb
    obtain⟨y,hy,rfl⟩:=List.mem_map.mp hb
    simpa using h.2 y hy
 ·exact q false _ ⟨λz=>(by cases z),λz=>absurd z.1 c⟩ s1
theorem dJ {n x:Int} (hn:2<=n):x%n=1↔Num.Al n x 1:=by
 constructor
 ·intro h
  refine⟨x/n,?_⟩
  have:=Int.emod_add_mul_ediv x n
  omega
 ·rintro⟨k,hk⟩
  rw [show x=1+n*k by omega,Int.add_mul_emod_self_left]
  exact Int.emod_eq_of_lt (by omega) (by omega)
theorem lG {n a e:Int} {ps:List (Int × Int)} (hn:2<=n) (h:Num.Part e ps) (he:1<=e):zt n a e (ps.map (·.1))↔Num.Ord n a e.toNat:=by
 rw [<- Num.tQ h he]
 unfold zt
 rw [dJ hn]
 constructor
 ·exact fun⟨h1,h2⟩=>⟨h1,λq hq z=>h2 q hq ((dJ hn).mpr z)⟩
 ·exact fun⟨h1,h2⟩=>⟨h1,λq hq z=>h2 q hq ((dJ hn).mp z)⟩
theorem eU (P:Int->Prop) {g:Int} (h1:1<=g) (h:P g):∃ m,1<=m/\m<=g/\P m/\∀ a,1<=a->a<m->¬P a:=by
 have:∀(k:Nat) (g:Int),g.toNat=k->1<=g->P g->∃ m,1<=m/\m<=g/\P m/\∀ a,1<=a->a<m->¬P a:=by
  intro k
  induction k using Nat.strongRecOn with
  | ind k ih =>
   intro g hk h1 hg
   by_cases c:∃ a,1<=a/\a<g/\P a
   ·obtain⟨a,a1,a2,a3⟩:=c
    obtain⟨m,m1,m2,m3,m4⟩:=ih a.toNat (by omega) a rfl a1 a3
    exact⟨m,m1,by omega,m3,m4⟩
   ·exact⟨g,h1,Int.le_refl _,hg,λa a1 a2 a3=>c ⟨a,a1,a2,a3⟩⟩
 exact this _ g rfl h1 h
theorem zM {p:Int} (hp:Num.Pm p):∃ g,Num.LF p g:=by
 obtain⟨g,g1,g2,g3⟩:=Num.vc hp
 obtain⟨m,m1,m2,m3,m4⟩:=eU (λa=>Num.Ord p a (p-1).toNat) g1 g3
 exact⟨m,m1,by omega,m3,m4⟩
def fQ (K:PySem.W.Frag):Sp:=λvs H Q _=>∃(n:Int) (p:Addr) (ps:List (Int × Int)),vs=[.int n,.ref p]/\Num.Pm n/\n<=10^9/\Num.Part (n-1) ps/\ps.length<=29/\aV K H p (ps.map λx=>V.int x.1)/\∀ g H',Num.LF n g->aE H H'->Q (.int g) H'
theorem lT {n:Int} {ps:List (Int × Int)} (h:Num.Part n ps) (hn:1<=n):∀ q∈ps.map (·.1),2<=q/\q<=n:=λq hq=>by
 obtain⟨x,hx,rfl⟩:=List.mem_map.mp hq
 obtain⟨o1,o2,_⟩:=h.ok x hx
 have:=Num.bY hx o2
 rw [h.prod] at this
 exact⟨o1.two,Int.le_of_dvd (by omega) this⟩
theorem gJ:aC ["p","primes","full"] ["p","primes"] (ao (top 42)):=dW
theorem lK (D:aA K mg "least_full" (top 42)) (c_is_least:Callee P w K mg base aQ 5 "is_least" ["n","a","e","primes"] (gj K)):Callee P w K mg base aQ 6 "least_full" ["p","primes"] (fQ K):=by
 refine cO D gJ (λf cdv A outer s H vs Q E hr h=>?_)
 obtain⟨n,p,ps,rfl,hp,hn,hP,hl,hS,q⟩:=h
 have n2:=hp.two
 obtain⟨g,G⟩:=zM hp
 have g1:=G.one
 have g2:=G.lt
 have nd:=gJ.nd
 refine⟨_,(ag (cu (i:=2) nd ah) (ag (bE PassesOwn.never (dO (aR (bU c_is_least hr ay (aa (pv 0) (aa (pv 2) (aa (aq cZ (pv 0) ah) (aa (pv 1) ae))))) (λ_=>rfl))) (aj (fw (i:=2) nd rfl (Or.inl rfl) ah (gZ lD)))) (aj (aB (pv 2))))),?_⟩
 show cf _ _ _ [some (.int n),some (.ref p),none] H
 k_data
 refine bF (α:=Int) (λx=>[some (.int n),some (.ref p),some (.int x)]) (λx H1=>aE H H1/\1<=x/\x<=g) (λx=>(g-x).toNat) 1 rfl ⟨aE.refl _,Int.le_refl _,g1⟩ ?_
 rintro x H1 ⟨s1,x1,x2⟩
 replace x1:1<=x:=x1
 replace x2:x<=g:=x2
 k_data
 refine⟨n,x,n-1,p,ps.map (·.1),rfl,by omega,by omega,by omega,by omega,?_,λy hy=>?_,?_,λb H2 hb s2=>?_⟩
 ·rw [List.map_map];exact hS.same s1
 ·have:=lT hP (by omega) y hy
  omega
 ·rw [List.length_map];exact Nat.le_trans hl (by decide)
 rw [lG n2 hP (by omega)] at hb
 refine⟨b,aN.mpr rfl,?_⟩
 cases b
 ·have nx:¬Num.Ord n x (n-1).toNat:=λz=>by have:=hb.mpr z;cases this
  have ne:x≠g:=λz=>nx (z▸G.ord)
  refine⟨_,λ_ _ z=>z,x+1,rfl,s1.trans s2,by omega,by omega,by omega⟩
 ·have hx:=hb.mp rfl
  have xg:x=g:=by
   rcases (by omega:x=g∨x<g) with z | z
   ·exact z
   ·exact absurd hx (G.no x x1 z)
  rw [xg]
  exact q g H2 G (s1.trans s2)
theorem nL {ps:List (Int × Int)} {p:Int × Int} {ds ds':Nat->PyData} (h:∀ j,j<ps.length->ds' j=ds j):Num.rowsOf (ps++[p]) ds'=Num.rowsOf ps ds++[.tuple [ds' ps.length,.int p.2]]:=by
 unfold Num.rowsOf
 rw [List.length_append,List.length_singleton,List.range_succ,List.map_append]
 congr 1
 ·refine List.map_congr_left λj hj=>?_
  have:=List.mem_range.mp hj
  rw [h j this,List.getD_eq_getElem?_getD,List.getD_eq_getElem?_getD,List.getElem?_append_left this]
 ·simp
theorem gY {ps:List (Int × Int)} {ds:Nat->PyData} (h:∀ i q k,ps[i]?=some (q,k)->Num.gR q (ds i)):Aq (Num.rowsOf ps ds) (ps.map (·.1)):=by
 refine⟨by rw [Num.c5,List.length_map],λi row hi=>?_⟩
 have hl:=(List.getElem?_eq_some_iff.mp hi).1
 rw [Num.c5] at hl
 have hg:=List.getElem?_eq_getElem hl
 rw [Num.pE hg] at hi
 obtain⟨g,rows,e⟩:=(h i _ _ hg).head
 exact⟨ps[i].1,by rw [List.getElem?_map,hg];rfl,[.int g,.tuple rows],[.int ps[i].2],by rw [<- Option.some.inj hi,e];rfl⟩
theorem xV {H:Hp} {q k:Int} {v:V} (h:dv K H (Ba (q,k)) v):∃ p,v=.ref p/\aJ K H p [.int q,.int k]:=by
 obtain⟨p,xs,rfl,h1,x,r,rfl,d1,y,r',rfl,d2,h4⟩:=h
 cases h4
 cases d1
 cases d2
 exact⟨p,rfl,h1⟩
def gk (K:PySem.W.Frag) (L:Nat):Sp:=λvs H Q _=>∃ n:Int,vs=[.int n]/\Num.Pm n/\n<=10^9/\Num.Ht L n/\∀ d v H',Num.gR n d->aE H H'->dv K H' d v->Q v H'
def iN (K:PySem.W.Frag) (L:Nat):Sp:=λvs H Q _=>∃ n:Int,vs=[.int n]/\1<=n/\n<=10^9/\(∀ q,Num.Pm q->q∣n->Num.Ht L q)/\∀ ps ds v H',Num.Part n ps->ps.length<=29->(∀ i q k,ps[i]?=some (q,k)->Num.gR q (ds i))->aE H H'->dv K H' (.tuple (Num.rowsOf ps ds)) v->Q v H'
theorem d6:aC ["n","least","parts"] ["n"] (ao (top 40)):=dW
theorem rA {L:Nat} {c1 c2 c3:Addr} (D:aA K mg "prime_paper" (top 40)) (c_least_divisor:Callee P w K mg base (gq P w) 3 "least_divisor" ["n"] (mf c1 c2)) (c_parting_paper:Callee P w K mg base aQ (2*L+8) "parting_paper" ["n"] (iN K L)) (c_least_full:Callee P w K mg base aQ 6 "least_full" ["p","primes"] (fQ K)) (c_primes_in:Callee P w K mg base aQ 1 "primes_in" ["parts"] (dA K)) (x_NoPrime:oa P w K mg base "NoPrime" c3 "divisor"):Callee P w K mg base (gq P w) (2*L+9) "prime_paper" ["n"] (gk K (L+1)):=by
 refine cX D d6 (λf cdv A outer s H vs Q E hr h=>?_)
 obtain⟨n,rfl,hp,hn,hH,q⟩:=h
 have n2:=hp.two
 have nd:=d6.nd
 refine⟨_,(ag (cu (i:=1) nd (aF c_least_divisor (hr.mono (by omega)) rfl cK (aa (pv 0) ae))) (ag (aP (aw fE (pv 1) (pv 0) (ar _)) (aj (eW (lU x_NoPrime (hr.mono (by omega)) rfl (aa (pv 1) ae)))) aD) (ja.nY (ag (cu (i:=2) nd (aF c_parting_paper (hr.mono (by omega)) rfl ay (aa (aq cZ (pv 0) ah) ae))) (aj (aB (ax (aa (pv 0) (aa (aF c_least_full (hr.mono (by omega)) rfl ay (aa (pv 0) (aa (aF c_primes_in (hr.mono (by omega)) rfl ay (aa (pv 2) ae)) ae))) (aa (pv 2) ae)))))))))),?_⟩
 show cf _ _ _ [some (.int n),none,none] H
 k_data
 refine⟨n,rfl,λz=>absurd z (by omega),λz=>absurd z (by omega),λ_ _ r hL=>⟨r,rfl,?_⟩⟩
 have rn:r=n:=by
  have:=hL.le (by omega)
  rcases (by omega:r<n∨r=n) with z | z
  ·exact absurd hL.dv (hp.no r hL.two z)
  ·exact z
 rw [if_neg (by omega)]
 refine⟨n-1,rfl,by omega,by omega,hH,λps ds v H1 hP hl hds s1 hv=>?_⟩
 refine⟨v,Num.rowsOf ps ds,ps.map (·.1),rfl,hv,gY hds,by rw [Num.c5];exact Nat.le_trans hl (by decide),λp H2 s2 f2 h2=>?_⟩
 rw [List.map_map] at h2
 refine⟨n,p,ps,rfl,hp,hn,hP,hl,aV.of h2,λg H3 hg s3=>⟨by show 3<=sizeLine;decide,λp3 hp3=>?_⟩⟩
 have s4:=ai (o:=.tup [V.int n,V.int g,v]) hp3
 exact q _ _ _ (.mk n g ps ds hp hn hg hP hl hds) (((s1.trans s2).trans s3).trans s4) (dv.tup af ⟨_,_,rfl,rfl,_,_,rfl,rfl,.one (dv.same ((s2.trans s3).trans s4) _ hv)⟩)
theorem fe:aC ["n"] ["n"] (ao (top 41)):=dW
theorem iS {L:Nat} {c1 c2:Addr} (D:aA K mg "parting_paper" (top 41)) (c_parted:Callee P w K mg base (gq P w) 3 "parted" ["n"] (jU K c1 c2)) (c_prime_paper:Callee P w K mg base (gq P w) (2*L+7) "prime_paper" ["n"] (gk K L)) (n_tuple:mg "tuple"=none):Callee P w K mg base aQ (2*L+8) "parting_paper" ["n"] (iN K L):=by
 refine cO D fe (λf cdv A outer s H vs Q E hr h=>?_)
 obtain⟨n,rfl,n1,n9,hH,q⟩:=h
 have nd:=fe.nd
 refine⟨_,(aj (aB (cq cR rfl n_tuple L2.boot_tuple (aa (gE rfl (uQ (N':=["prime","many"]) (js:=[none,none]) rfl rfl) (gh (aF c_parted (hr.mono (by omega)) rfl cK (aa (pv 0) ae))) (λ_ _ _ _=>(lV K rfl (n:=2) rfl (aI (aH (i:=0) (show List.Nodup [("prime":Str),("many":Str)] from by decide +kernel) rfl (Or.inl rfl) (.inr rfl)) (aI (aH (i:=1) (show List.Nodup [("prime":Str),("many":Str)] from by decide +kernel) rfl (Or.inl rfl) (.inr rfl)) cG)))) (λ_ _ _ _=>dF) (λ_ _ _ _=>(ax (aa (aF c_prime_paper (hr.mono (by omega)) rfl cK (aa (pv 0) ae)) (aa (pv 1) ae))))) ae)))),?_⟩
 show iC _ _ [some (.int n)] H
 k_data
 refine⟨n,rfl,λz=>absurd z (by omega),λz=>absurd z (by omega),λ_ _ ps us p H1 hP hl s1 f1 h1 hd=>⟨p,rfl,⟨_,aV.of h1⟩,?_⟩⟩
 have ul:us.length=ps.length:=by rw [hd.length,List.length_map]
 refine dk (xs:=us) (λi zs H3=>aE H1 H3/\∃ ds,(∀ j q k,(ps.take i)[j]?=some (q,k)->Num.gR q (ds j))/\bh K H3 (Num.rowsOf (ps.take i) ds) zs) ⟨aE.refl _,λ_=>.none,λj q k z=>by simp at z,rfl⟩ (by rw [ul];exact Nat.le_trans hl (by decide)) (λi zs H3 hi ⟨e1,ds,e2,e3⟩=>⟨aV.of (e1 _ _ h1),by rw [e3.length,Num.c5,List.length_take];omega⟩) ?_ ?_
 ·rintro i x zs H3 hx ⟨s3,ds,hds,hz⟩
  obtain⟨d,hd',hv⟩:=hd.get hx
  rw [List.getElem?_map] at hd'
  obtain⟨⟨q',k'⟩,hy,rfl⟩:=Option.map_eq_some_iff.mp hd'
  obtain⟨pt,rfl,tt⟩:=xV hv
  have hok:=hP.ok _ (List.mem_of_getElem? hy)
  have hdv:q'∣n:=by
   have:=Num.bY (List.mem_of_getElem? hy) hok.2.1
   rwa [hP.prod] at this
  have ql:q'<=n:=Int.le_of_dvd (by omega) hdv
  show qW K 2 _ _ [none,none] _ _
  refine⟨pt,_,rfl,tt.same s3,rfl,?_⟩
  k_data
  refine⟨True.intro,q',rfl,hok.1,by omega,hH q' hok.1 hdv,λd v H4 hp4 s4 hv4=>⟨by show 2<=sizeLine;decide,λp5 hp5=>?_⟩⟩
  have s5:=ai (o:=.tup [v,V.int k']) hp5
  have tk:ps.take (i+1)=ps.take i++[(q',k')]:=by rw [List.take_add_one,hy];rfl
  have il:i<ps.length:=(List.getElem?_eq_some_iff.mp hy).1
  have tl:(ps.take i).length=i:=by rw [List.length_take];omega
  refine⟨(s3.trans s4).trans s5,λj=>if j=i then d else ds j,λj q k hj=>?_,?_⟩
  ·rw [tk] at hj
   rcases (by omega:j<i∨j=i∨i<j) with z | z | z
   ·rw [List.getElem?_append_left (by omega)] at hj
    show Num.gR q (if j=i then d else ds j)
    rw [if_neg (by omega)]
    exact hds j q k hj
   ·subst z
    rw [List.getElem?_append_right (by omega),tl,Nat.sub_self] at hj
    show Num.gR q (if j=j then d else ds j)
    rw [if_pos rfl]
    cases hj
    exact hp4
   ·rw [List.getElem?_eq_none (by simp;omega)] at hj
    cases hj
  ·rw [tk,nL (ds:=ds) (λj hj=>if_neg (by omega)),tl,if_pos rfl]
   exact bh.append (bh.same (s4.trans s5) _ hz) (.one (dv.tup af ⟨_,_,rfl,dv.same s5 _ hv4,.one rfl⟩))
 ·rintro zs H3 p3 ⟨s3,ds,hds,hz⟩ hp3
  rw [ul,List.take_length] at hds hz
  have s4:=ai (o:=.lst zs) hp3
  refine⟨p3,rfl,zs,.inl ⟨aV.of af,λl hl'=>?_⟩⟩
  generalize upd H3 p3 _=H4 at *
  have s5:=ai (o:=.tup zs) hl'
  exact q ps ds _ _ hP hl hds (((s1.trans s3).trans s4).trans s5) (dv.tup af (bh.same (s4.trans s5) _ hz))
theorem kG {L:Nat} (D:aA K mg "prime_paper" (top 40)):Callee P w K mg base (gq P w) 7 "prime_paper" ["n"] (gk K 0):=by
 refine cX D d6 (λf cdv A outer s H vs Q E hr h=>?_)
 obtain⟨n,rfl,hp,hn,hH,q⟩:=h
 exact hH.elim
theorem kH {c1 c2 c3:Addr} (D1:aA K mg "prime_paper" (top 40)) (D2:aA K mg "parting_paper" (top 41)) (c_least_divisor:Callee P w K mg base (gq P w) 3 "least_divisor" ["n"] (mf c1 c2)) (c_parted:Callee P w K mg base (gq P w) 3 "parted" ["n"] (jU K c1 c2)) (c_least_full:Callee P w K mg base aQ 6 "least_full" ["p","primes"] (fQ K)) (c_primes_in:Callee P w K mg base aQ 1 "primes_in" ["parts"] (dA K)) (x_NoPrime:oa P w K mg base "NoPrime" c3 "divisor") (n_tuple:mg "tuple"=none):∀ L:Nat,Callee P w K mg base (gq P w) (2*L+7) "prime_paper" ["n"] (gk K L)/\Callee P w K mg base aQ (2*L+8) "parting_paper" ["n"] (iN K L)
 | 0=>⟨kG (L:=0) D1,iS (L:=0) D2 c_parted (kG (L:=0) D1) n_tuple⟩
 | L+1=>by
  have h:=kH D1 D2 c_least_divisor c_parted c_least_full c_primes_in x_NoPrime n_tuple L
  have a:=rA D1 c_least_divisor h.2 c_least_full c_primes_in x_NoPrime
  have a':Callee P w K mg base (gq P w) (2*(L+1)+7) "prime_paper" ["n"] (gk K (L+1)):=a.mono (by omega)
  exact⟨a',iS D2 c_parted a' n_tuple⟩
def nN (K:PySem.W.Frag):Sp:=λvs H Q _=>∃ n:Int,vs=[.int n]/\Num.Pm n/\n<=10^9/\∀ d v H',Num.gR n d->aE H H'->dv K H' d v->Q v H'
theorem yx (h:Callee P w K mg base (gq P w) (2*30+7) "prime_paper" ["n"] (gk K 30)):Callee P w K mg base (gq P w) 67 "prime_paper" ["n"] (nN K) :=
 Callee.imp h λvs H Q E z=>by
  obtain⟨n,h1,h2,h3,q⟩:=z
  exact⟨n,h1,h2,h3,Num.sV h2 h3,q⟩
theorem jh {n:Int} {d:PyData} (h:Num.gR n d):∃ g ps ds,d=.tuple [.int n,.int g,.tuple (Num.rowsOf ps ds)]/\Num.LF n g/\Num.Part (n-1) ps/\ps.length<=29/\∀ i q k,ps[i]?=some (q,k)->Num.gR q (ds i):=by
 cases h with
 | mk _ g ps ds h1 h2 h3 h4 h5 h6=>exact⟨g,ps,ds,rfl,h3,h4,h5,h6⟩
theorem kJ {n:Int} {d:PyData} (h:Num.gR n d):Num.Pm n/\n<=10^9:=by
 cases h with
 | mk _ _ _ _ a b=>exact⟨a,b⟩
theorem lj {H:Hp} {d1 d2 d3:PyData} {v:V} (h:dv K H (.tuple [d1,d2,d3]) v):∃ p x1 x2 x3,v=.ref p/\aJ K H p [x1,x2,x3]/\dv K H d1 x1/\dv K H d2 x2/\dv K H d3 x3:=by
 obtain⟨p,xs,rfl,h1,x1,r1,rfl,e1,x2,r2,rfl,e2,x3,r3,rfl,e3,z⟩:=h
 cases z
 exact⟨p,x1,x2,x3,rfl,h1,e1,e2,e3⟩
def yP (K:PySem.W.Frag):Sp:=λvs H Q _=>∃ d v,vs=[v]/\dv K H d v/\Q (.bl (mS d)) H
theorem iY:aC ["thing"] ["thing"] (ao (top 10)):=dW
theorem A0 (D:aA K mg "is_whole" (top 10)) (n_isinstance:mg "isinstance"=none) (n_int:mg "int"=none) (n_bool:mg "bool"=none):Callee P w K mg base aQ 1 "is_whole" ["thing"] (yP K):=by
 refine cO D iY (λf cdv A outer s H vs Q E hr h=>?_)
 obtain⟨d,v,rfl,hd,q⟩:=h
 have nd:=iY.nd
 refine⟨_,(aj (aB (bG (aG aY rfl n_isinstance PyProof.Rows.boot_isinstance (aa (pv 0) (aa (bO (v:=.ty "int") rfl n_int L2.boot_int rfl) ae))) (cj (yz (aG aY rfl n_isinstance PyProof.Rows.boot_isinstance (aa (pv 0) (aa (bO (v:=.ty "bool") rfl n_bool L2.boot_bool rfl) ae)))))))),?_⟩
 show iC _ _ [some v] H
 k_data
 refine vo hd ?_
 k_data
 refine aL (λc=>?_) (λc=>?_)
 ·refine jz hd ?_
  k_data
  cases d<;>first | exact q | simp [mS,vm] at c
 ·cases d<;>first | exact q | exact absurd rfl c
def dP:PyData->Nat->Bool
 | .tuple ds,m=>decide (ds.length=m)
 | _,_=>false
def kQ (K:PySem.W.Frag):Sp:=λvs H Q _=>∃ d v,∃ m:Nat,vs=[v,.int m]/\dv K H d v/\Q (.bl (dP d m)) H
theorem fP:aC ["thing","many"] ["thing","many"] (ao (top 11)):=dW
theorem yp (D:aA K mg "is_tuple_of" (top 11)) (n_isinstance:mg "isinstance"=none) (n_tuple:mg "tuple"=none) (n_len:mg "len"=none):Callee P w K mg base aQ 1 "is_tuple_of" ["thing","many"] (kQ K):=by
 refine cO D fP (λf cdv A outer s H vs Q E hr h=>?_)
 obtain⟨d,v,m,rfl,hd,q⟩:=h
 have nd:=fP.nd
 refine⟨_,(aj (aB (bG (aG aY rfl n_isinstance PyProof.Rows.boot_isinstance (aa (pv 0) (aa (bO (v:=.ty "tuple") rfl n_tuple L2.boot_tuple rfl) ae))) (cj (bC bj (aG bf rfl n_len PySem.boot_len (aa (pv 0) ae)) (pv 1) (ar _)))))),?_⟩
 show iC _ _ [some v,some (.int m)] H
 k_data
 refine bM hd ?_
 k_data
 refine aL (λc=>?_) (λc=>?_)
 ·cases d with
  | tuple ds =>
   obtain⟨p,xs,rfl,hS,ht⟩:=hd
   refine fu hS ⟨jj,?_⟩
   have:decide (V.int (xs.length:Int)=V.int (m:Int))=dP (.tuple ds) m:=by
    show _=decide (ds.length=m)
    rw [ht.length]
    refine decide_eq_decide.mpr ⟨λz=>?_,λz=>by rw [z]⟩
    have:=V.int.inj z
    omega
   rw [this]
   exact q
  | _=>exact absurd c (by simp [zK])
 ·cases d<;>first | exact q | exact absurd rfl c
theorem fY {d:PyData} (h:mS d=true):∃ i,d=.int i:=by
 cases d<;>first | exact⟨_,rfl⟩ | cases h
theorem qa {d:PyData} (h:zK d=true):∃ i,d=.tuple i:=by
 cases d<;>first | exact⟨_,rfl⟩ | cases h
def PF (d:PyData):Prop:=∃(p g:Int) (rows:List PyData),d=.tuple [.int p,.int g,.tuple rows]/\2<=p
def yN (K:PySem.W.Frag):Sp:=λvs H Q _=>∃ d v,vs=[v]/\dv K H d v/\∀ b:Bool,(b=true↔PF d)->Q (.bl b) H
theorem Ay {H:Hp} {d1 d2 d3:PyData} {v:V} (h:dv K H (.tuple [d1,d2,d3]) v):∃ p x1 x2 x3,v=.ref p/\aJ K H p [x1,x2,x3]/\dv K H d1 x1/\dv K H d2 x2/\dv K H d3 x3:=by
 obtain⟨p,xs,rfl,h1,x1,r1,rfl,e1,x2,r2,rfl,e2,x3,r3,rfl,e3,z⟩:=h
 cases z
 exact⟨p,x1,x2,x3,rfl,h1,e1,e2,e3⟩
theorem AW {ds:List PyData} (h:ds.length=3):∃ a b c,ds=[a,b,c]:=by
 match ds,h with
 | [a,b,c],_=>exact⟨a,b,c,rfl⟩
theorem eZ:aC ["thing","p","full","parts"] ["thing"] (ao (top 24)):=dW
theorem zQ (D:aA K mg "is_paper_form" (top 24)) (c_is_whole:Callee P w K mg base aQ 1 "is_whole" ["thing"] (yP K)) (c_is_tuple_of:Callee P w K mg base aQ 1 "is_tuple_of" ["thing","many"] (kQ K)) (n_isinstance:mg "isinstance"=none) (n_tuple:mg "tuple"=none):Callee P w K mg base aQ 2 "is_paper_form" ["thing"] (yN K):=by
 refine cO D eZ (λf cdv A outer s H vs Q E hr h=>?_)
 obtain⟨d,v,rfl,hd,q⟩:=h
 have nd:=eZ.nd
 refine⟨_,(ag (aP (dO (aR (bU c_is_tuple_of hr ay (aa (pv 0) (aa ah ae))) (λ_=>rfl))) (aj (aB cP)) aD) (ag (dZ (pv 0) (dN (n:=3) rfl (aI (aH (i:=1) nd rfl (Or.inl rfl) (.inr rfl)) (aI (aH (i:=2) nd rfl (Or.inl rfl) (.inr rfl)) (aI (aH (i:=3) nd rfl (Or.inl rfl) (.inr rfl)) cG))))) (aj (aB (bG (bU c_is_whole hr ay (aa (pv 1) ae)) (bG (bC xf (pv 1) ah (ar _)) (bG (bU c_is_whole hr ay (aa (pv 2) ae)) (cj (aG aY rfl n_isinstance PyProof.Rows.boot_isinstance (aa (pv 3) (aa (bO (v:=.ty "tuple") rfl n_tuple L2.boot_tuple rfl) ae))))))))))),?_⟩
 show cf _ _ _ [some v,none,none,none] H
 k_data
 refine⟨d,v,3,rfl,hd,dP d 3,aN.mpr rfl,?_⟩
 refine aL (λc=>?_) (λc=>?_)
 ·refine q false ⟨λz=>(by cases z),fun⟨p,g,rows,e,_⟩=>?_⟩
  rw [e] at c
  cases c
 ·cases d with
  | tuple ds =>
   obtain⟨d1,d2,d3,rfl⟩:=AW (ds:=ds) (by simpa [dP] using c)
   obtain⟨p,x1,x2,x3,rfl,hS,e1,e2,e3⟩:=Ay hd
   refine⟨p,_,rfl,hS,rfl,?_⟩
   k_data
   refine⟨d1,x1,rfl,e1,mS d1,rfl,?_⟩
   refine aL (λc1=>?_) (λc1=>?_)
   ·obtain⟨i,rfl⟩:=fY c1
    cases e1
    refine⟨i,rfl,?_⟩
    refine aL (λc2=>?_) (λc2=>?_)
    ·refine⟨d2,x2,rfl,e2,mS d2,rfl,?_⟩
     refine aL (λc3=>?_) (λc3=>?_)
     ·obtain⟨j,rfl⟩:=fY c3
      refine bM e3 (q _ ⟨λz=>?_,λz=>?_⟩)
      ·obtain⟨rows,rfl⟩:=qa z
       exact⟨i,j,rows,rfl,c2⟩
      ·obtain⟨p,g,rows,e,_⟩:=z
       cases e
       rfl
     ·refine q false ⟨λz=>(by cases z),fun⟨p,g,rows,e,_⟩=>?_⟩
      cases e
      exact absurd rfl c3
    ·refine q false ⟨λz=>(by cases z),fun⟨p,g,rows,e,h2⟩=>?_⟩
     cases e
     exact absurd h2 c2
   ·refine q false ⟨λz=>(by cases z),fun⟨p,g,rows,e,_⟩=>?_⟩
    cases e
    exact absurd rfl c1
  | _=>exact absurd rfl c
def RF (width:Nat) (d:PyData):Prop:=∃(pd:PyData) (k:Int) (more:List PyData),d=.tuple (pd::.int k::more)/\more.length+2=width/\PF pd/\1<=k
def z6 (K:PySem.W.Frag):Sp:=λvs H Q _=>∃ d v,∃ m:Nat,vs=[v,.int m]/\2<=m/\dv K H d v/\∀ b:Bool,(b=true↔RF m d)->Q (.bl b) H
theorem wH {x y:V} {r:List V}:pM (x::y::r) 1=some y:=by
 unfold pM uR
 simp
 rw [if_pos (by omega)]
 rfl
theorem fO:aC ["thing","width"] ["thing","width"] (ao (top 26)):=dW
theorem zT (D:aA K mg "is_row_form" (top 26)) (c_is_whole:Callee P w K mg base aQ 1 "is_whole" ["thing"] (yP K)) (c_is_tuple_of:Callee P w K mg base aQ 1 "is_tuple_of" ["thing","many"] (kQ K)) (c_is_paper_form:Callee P w K mg base aQ 2 "is_paper_form" ["thing"] (yN K)):Callee P w K mg base aQ 3 "is_row_form" ["thing","width"] (z6 K):=by
 refine cO D fO (λf cdv A outer s H vs Q E hr h=>?_)
 obtain⟨d,v,m,rfl,hm,hd,q⟩:=h
 have nd:=fO.nd
 refine⟨_,(aj (aB (bG (bU c_is_tuple_of hr ay (aa (pv 0) (aa (pv 1) ae))) (bG (bU c_is_paper_form hr ay (aa (aO aS (pv 0) ah (λ_ _=>rfl)) ae)) (bG (bU c_is_whole hr ay (aa (aO aS (pv 0) ah (λ_ _=>rfl)) ae)) (cj (bC xf (aO aS (pv 0) ah (λ_ _=>rfl)) ah (ar _)))))))),?_⟩
 show iC _ _ [some v,some (.int m)] H
 k_data
 refine⟨d,v,m,rfl,hd,dP d m,rfl,?_⟩
 refine aL (λc=>?_) (λc=>?_)
 ·cases d with
  | tuple ds =>
   have hl:ds.length=m:=by simpa [dP] using c
   obtain⟨d1,d2,more,rfl⟩:∃ a b c,ds=a::b::c:=by
    match ds,hl with
    | [],h=>exact absurd h (by simp;omega)
    | [a],h=>exact absurd h (by simp;omega)
    | a::b::c,_=>exact⟨a,b,c,rfl⟩
   obtain⟨p,xs,rfl,hS,x1,r1,rfl,e1,x2,r2,rfl,e2,e3⟩:=hd
   refine cY hS nX ⟨d1,x1,rfl,e1,λb hb=>⟨b,rfl,?_⟩⟩
   refine aL (λc1=>?_) (λc1=>?_)
   ·have hPF:=hb.mp c1
    refine cY hS wH ⟨d2,x2,rfl,e2,mS d2,rfl,?_⟩
    refine aL (λc2=>?_) (λc2=>?_)
    ·obtain⟨k,rfl⟩:=fY c2
     cases e2
     refine cY hS wH ⟨k,rfl,?_⟩
     refine q _ ⟨λz=>⟨d1,k,more,rfl,by simpa using hl,hPF,of_decide_eq_true z⟩,fun⟨pd,k',more',e,_,_,hk⟩=>?_⟩
     cases e
     exact decide_eq_true hk
    ·refine q false ⟨λz=>(by cases z),fun⟨pd,k,more',e,_⟩=>?_⟩
     cases e
     exact absurd rfl c2
   ·refine q false ⟨λz=>(by cases z),fun⟨pd,k,more',e,_,h3,_⟩=>?_⟩
    cases e
    exact absurd (hb.mpr h3) c1
  | _=>exact absurd c (by simp [dP])
 ·refine q false ⟨λz=>(by cases z),fun⟨pd,k,more,e,h2,_⟩=>?_⟩
  rw [e] at c
  exact absurd (decide_eq_true (by simpa using h2)) c
def Wo (n q k r:Int):Prop:=(q^k.toNat∣n/\n=q^k.toNat*r)∨(¬q^k.toNat∣n/\r=0)
def z7:Sp:=λvs H Q _=>∃ n q k:Int,vs=[.int n,.int q,.int k]/\1<=n/\n<=10^110/\2<=q/\q<=10^110/\1<=k/\∀ r,Wo n q k r->0<=r->r<=n->Q (.int r) H
theorem jT:aC ["whole","prime","many","left","missing"] ["whole","prime","many"] (ao (top 27)):=dW
theorem zU (D:aA K mg "without" (top 27)):Callee P w K mg base aQ 1 "without" ["whole","prime","many"] z7:=by
 refine cO D jT (λf cdv A outer s H vs Q E hr h=>?_)
 obtain⟨n,q,k,rfl,n1,n9,q2,q9,k1,Qr⟩:=h
 have nd:=jT.nd
 refine⟨_,(ag (cu (i:=3) nd (pv 0)) (ag (cu (i:=4) nd (pv 2)) (ag (bE PassesOwn.never (PW.pt (df (aw cM (pv 4) ah (ar _)) (dB (aw bj (aq aM (pv 3) (pv 1)) ah (ar _))))) (ag (fw (i:=3) nd rfl (Or.inl rfl) (pv 1) (gZ fH)) (aj (fw (i:=4) nd rfl (Or.inl rfl) ah (gZ vj))))) (aj (aB (ig (aw bj (pv 4) ah (ar _)) (pv 3) ah)))))),?_⟩
 show cf _ _ _ [some (.int n),some (.int q),some (.int k),none,none] H
 k_data
 refine bF (α:=Int × Int) (λx=>[some (.int n),some (.int q),some (.int k),some (.int x.1),some (.int x.2)]) (λx H1=>H1=H/\1<=x.1/\x.1<=n/\0<=x.2/\x.2<=k/\n=q^(k-x.2).toNat*x.1) (λx=>x.1.toNat) (n,k) rfl ⟨rfl,n1,Int.le_refl _,by show 0<=k;omega,Int.le_refl _,by show n=q^(k-k).toNat*n;rw [Int.sub_self];show n=q^0*n;rw [Int.pow_zero,Int.one_mul]⟩ ?_
 rintro⟨l,m⟩ H1 ⟨rfl,l1,l2,m0,m1,e⟩
 replace l1:1<=l:=l1
 replace l2:l<=n:=l2
 replace m0:0<=m:=m0
 replace m1:m<=k:=m1
 replace e:n=q^(k-m).toNat*l:=e
 k_data
 refine aL (λc=>?_) (λc=>?_)
 ·refine⟨by omega,?_⟩
  refine aL (λc2=>?_) (λc2=>?_)
  ·obtain⟨y,hy⟩:=Int.dvd_of_emod_eq_zero c2
   have ey:l/q=y:=by rw [hy];exact Int.mul_ediv_cancel_left _ (by omega)
   have y1:1<=y:=by
    rcases (by omega:y<=0∨1<=y) with z | z
    ·have:=Int.mul_nonpos_of_nonneg_of_nonpos (show 0<=q by omega) z
     omega
    ·exact z
   have yl:y<l:=by
    rw [hy]
    have:=Int.mul_le_mul_of_nonneg_right q2 (show 0<=y by omega)
    omega
   refine⟨_,λ_ _ z=>z,by omega,Bd.of (by omega) (by omega),(y,m-1),by rw [ey],rfl,y1,by show y<=n;omega,by show 0<=m-1;omega,by show m-1<=k;omega,?_,by show y.toNat<l.toNat;omega⟩
   show n=q^(k-(m-1)).toNat*y
   rw [show (k-(m-1)).toNat=(k-m).toNat+1 by omega,Int.pow_succ,Int.mul_assoc,<- hy]
   exact e
  ·rw [if_neg (by omega)]
   refine Qr 0 (.inr ⟨λz=>?_,rfl⟩) (Int.le_refl _) (by omega)
   have pp:=Num.aW (show 0<q by omega) (k-m).toNat
   obtain⟨t,ht⟩:=z
   have e3:q^k.toNat=q^(k-m).toNat*q^m.toNat:=by rw [<- Pw.pow_add];congr 1;omega
   rw [e,e3,Int.mul_assoc] at ht
   have ht2:=Int.eq_of_mul_eq_mul_left (by omega) ht
   obtain⟨j,hj⟩:∃ j,m.toNat=j+1:=⟨m.toNat-1,by omega⟩
   rw [hj,Int.pow_succ,Int.mul_comm (q^j) q,Int.mul_assoc] at ht2
   exact c2 (Int.emod_eq_zero_of_dvd ⟨_,ht2⟩)
 ·have mz:m=0:=by omega
  rw [if_pos mz]
  rw [mz,Int.sub_zero] at e
  exact Qr l (.inl ⟨⟨l,e⟩,e⟩) (by omega) l2
def CT (width:Nat):Int->Int->List PyData->Prop
 | left,_,[]=>left=1
 | left,last,d::ds=>1<=left/\∃(p g k:Int) (rows more:List PyData),d=.tuple (.tuple [.int p,.int g,.tuple rows]::.int k::more)/\more.length+2=width/\2<=p/\1<=k/\last<p/\∃ r,Wo left p k r/\CT width r p ds
def z4 (K:PySem.W.Frag):Sp:=λvs H Q _=>∃(n:Int) (rows:List PyData) (v:V) (m:Nat),vs=[.int n,v,.int m]/\2<=m/\n<=10^110/\dv K H (.tuple rows) v/\(∀(p g k:Int) (rs more:List PyData),.tuple (.tuple [.int p,.int g,.tuple rs]::.int k::more)∈rows->p<=10^110)/\∀ b:Bool,(b=true↔CT m n 1 rows)->Q (.bl b) H
theorem Wo.one {n q k r r':Int} (h2:2<=q) (h:Wo n q k r) (h':Wo n q k r'):r=r':=by
 have pp:=Num.aW (show 0<q by omega) k.toNat
 rcases h with⟨h1,h2⟩|⟨h1,h2⟩<;>rcases h' with⟨h3,h4⟩|⟨h3,h4⟩
 ·exact Int.eq_of_mul_eq_mul_left (by omega) (h2.symm.trans h4)
 ·exact absurd h1 h3
 ·exact absurd h3 h1
 ·rw [h2,h4]
theorem jP:aC ["n","rows","width","left","last","row"] ["n","rows","width"] (ao (top 25)):=dW
theorem zP (D:aA K mg "come_to" (top 25)) (c_is_row_form:Callee P w K mg base aQ 3 "is_row_form" ["thing","width"] (z6 K)) (c_without:Callee P w K mg base aQ 1 "without" ["whole","prime","many"] z7):Callee P w K mg base aQ 4 "come_to" ["n","rows","width"] (z4 K):=by
 refine cO D jP (λf cdv A outer s H vs Q E hr h=>?_)
 obtain⟨n,rows,v,m,rfl,hm,n9,hd,hb9,q⟩:=h
 obtain⟨p,xs,rfl,hS,ht⟩:=hd
 have nd:=jP.nd
 refine⟨_,(ag (cu (i:=3) nd (pv 0)) (ag (cu (i:=4) nd ah) (ag (ub PassesOwn.never rfl (oX (pv 1)) (aH (i:=5) nd rfl (Or.inl rfl) (.inr rfl)) (ag (aP (PW.pt (jK (aw fE (pv 3) ah (ar _)) (jK (dO (aR (bU c_is_row_form hr ay (aa (pv 5) (aa (pv 2) ae))) (λ_=>rfl))) (iL (aw nk (aO aS (aO aS (pv 5) ah (λ_ _=>rfl)) ah (λ_ _=>rfl)) (pv 4) (ar _)))))) (aj (aB cP)) aD) (ag (cu (i:=4) nd (aO aS (aO aS (pv 5) ah (λ_ _=>rfl)) ah (λ_ _=>rfl))) (aj (cu (i:=3) nd (bU c_without hr ay (aa (pv 3) (aa (pv 4) (aa (aO aS (pv 5) ah (λ_ _=>rfl)) ae))))))))) (aj (aB (bC bj (pv 3) ah (ar _))))))),?_⟩
 show cf _ _ _ [some (.int n),some (.ref p),some (.int m),none,none,none] H
 k_data
 refine⟨⟨_,hS⟩,?_⟩
 refine sX (xs:=xs) (λi σ' H'=>H'=H/\∃(l t:Int) (o:Option V),σ'=[some (.int n),some (.ref p),some (.int m),some (.int l),some (.int t),o]/\l<=10^110/\(CT m n 1 rows↔CT m l t (rows.drop i))) ⟨rfl,n,1,none,rfl,n9,by rw [List.drop_zero]⟩ (λi σ' H' _ h=>by rw [h.1];exact hS) ?_ ?_
 ·rintro i x σ' H' hx ⟨rfl,l,t,o,rfl,l9,hc⟩
  obtain⟨d,hd,hv⟩:=ht.get hx
  have dr:rows.drop i=d::rows.drop (i+1):=by
   obtain⟨hi,e⟩:=List.getElem?_eq_some_iff.mp hd
   rw [List.drop_eq_getElem_cons hi,e]
  rw [dr] at hc
  k_data
  refine aL (λc=>?_) (λc=>?_)
  ·exact q false ⟨λz=>(by cases z),λz=>absurd (hc.mp z).1 (by omega)⟩
  refine⟨d,x,m,rfl,hm,hv,λb hb=>⟨b,aN.mpr rfl,?_⟩⟩
  refine aL (λc1=>?_) (λc1=>?_)
  ·refine q false ⟨λz=>(by cases z),λz=>?_⟩
   obtain⟨_,p',g',k',rs',more',e1,e2,e3,e4,_⟩:=hc.mp z
   have:=hb.mpr ⟨_,k',more',e1,e2,⟨p',g',rs',rfl,e3⟩,e4⟩
   rw [c1] at this
   cases this
  ·obtain⟨pd,k,more,rfl,f2,⟨p',g,rs,rfl,f3⟩,f4⟩:=hb.mp (by simpa using c1)
   obtain⟨a1,y1,rfl,t1,u1,r1,rfl,hv2,u2,r2,rfl,hk,hmr⟩:=hv
   obtain⟨a2,x1,x2,x3,rfl,t2,w1,w2,w3⟩:=Ay hv2
   cases w1
   cases hk
   refine cY t1 nX (cY t2 nX ⟨p',rfl,?_⟩)
   refine aL (λc2=>?_) (λc2=>?_)
   ·refine q false ⟨λz=>(by cases z),λz=>?_⟩
    obtain⟨_,p2,g2,k2,rs2,more2,e1,e2,e3,e4,e5,_⟩:=hc.mp z
    cases e1
    omega
   ·have p9:=hb9 p' g k rs more (List.mem_of_getElem? hd)
    refine cY t1 nX (cY t2 nX (cY t1 wH ⟨l,p',k,rfl,by omega,l9,f3,p9,f4,λr hr' r0 r1=>⟨rfl,r,rfl,p',rfl,by omega,?_⟩⟩))
    rw [hc]
    constructor
    ·rintro⟨_,p2,g2,k2,rs2,more2,e1,e2,e3,e4,e5,r',e6,e7⟩
     cases e1
     rw [hr'.one f3 e6]
     exact e7
    ·intro z
     exact⟨by omega,p',g,k,rs,more,rfl,f2,f3,f4,by omega,r,hr',z⟩
 ·rintro σ' H' ⟨rfl,l,t,o,rfl,l9,hc⟩
  k_data
  rw [ht.length,List.drop_length] at hc
  refine q _ ?_
  rw [hc]
  exact decide_eq_true_iff
end
end K
namespace K
open PySem PySem.Spec PyProof.Rows L2
mutual
def i8:PyData->Prop
 | .int i=>i<=10^110
 | .tuple ds=>fg ds
 | .list ds=>fg ds
 | _=>True
def fg:List PyData->Prop
 | []=>True
 | d::ds=>i8 d/\fg ds
end
mutual
def bJ:PyData->Nat
 | .tuple ds=>1+aK ds
 | .list ds=>1+aK ds
 | _=>1
def aK:List PyData->Nat
 | []=>0
 | d::ds=>bJ d+aK ds
end
theorem fh:∀{ds:List PyData} {d:PyData},fg ds->d∈ds->i8 d
 | a::r,d,⟨h1,h2⟩,h=>by
  rcases List.mem_cons.mp h with z | z
  ·rw [z];exact h1
  ·exact fh h2 z
theorem l8:∀{ds:List PyData},(∀ d∈ds,i8 d)->fg ds
 | [],_=>True.intro
 | a::r,h=>⟨h a (by simp),l8 λd hd=>h d (List.mem_cons_of_mem _ hd)⟩
theorem aZ:∀(xs ys:List PyData),aK (xs++ys)=aK xs+aK ys
 | [],ys=>by simp [aK]
 | a::r,ys=>by
  show bJ a+aK (r++ys)=bJ a+aK r+aK ys
  rw [aZ r ys]
  omega
theorem mh:∀ d:PyData,1<=bJ d
 | .tuple _=>by simp [bJ]
 | .list _=>by simp [bJ]
 | .none=>Nat.le_refl _
 | .bool _=>Nat.le_refl _
 | .int _=>Nat.le_refl _
 | .str _=>Nat.le_refl _
 | .dict _=>by simp [bJ]
theorem fU:∀ ds:List PyData,ds.length<=aK ds
 | []=>Nat.le_refl _
 | a::r=>by
  have:=mh a
  have:=fU r
  show r.length+1<=bJ a+aK r
  omega
def i3:PyData->PyData
 | .tuple (x::_)=>x
 | _=>.none
def qD:PyData->Int
 | .tuple (.tuple (.int q::_)::_)=>q
 | _=>0
def RA (d:PyData):Prop:=∃(p g:Int) (rows:List PyData),d=.tuple [.int p,.int g,.tuple rows]/\2<=p/\1<=g/\g<p/\CT 2 (p-1) 1 rows/\zt p g (p-1) (rows.map qD)
inductive PP:PyData->Prop
 | mk (p g:Int) (rows:List PyData):RA (.tuple [.int p,.int g,.tuple rows])->(∀ r∈rows,PP (i3 r))->PP (.tuple [.int p,.int g,.tuple rows])
theorem fW {w:Nat}:∀{rows:List PyData} {l t:Int},CT w l t rows->∀ r∈rows,∃(p g k:Int) (rs more:List PyData),r=.tuple (.tuple [.int p,.int g,.tuple rs]::.int k::more)/\2<=p/\1<=k/\more.length+2=w
 | d::ds,l,t,⟨_,p,g,k,rs,more,e1,e2,e3,e4,e5,r',e6,e7⟩,r,hr=>by
  rcases List.mem_cons.mp hr with z | z
  ·rw [z];exact⟨p,g,k,rs,more,e1,e3,e4,e2⟩
  ·exact fW e7 r z
theorem xT {w:Nat} {rows:List PyData} {l t:Int} (h:CT w l t rows):Aq rows (rows.map qD):=by
 refine⟨by rw [List.length_map],λi row hi=>?_⟩
 obtain⟨p,g,k,rs,more,e,_⟩:=fW h row (List.mem_of_getElem? hi)
 exact⟨p,by rw [List.getElem?_map,hi,e];rfl,[.int g,.tuple rs],.int k::more,e⟩
section
variable {P:Program} {w:World} {K:PySem.W.Frag} {mg:Str->Option Value} {base:Heap}
def z5 (K:PySem.W.Frag):Sp:=λvs H Q _=>∃ d v,vs=[v]/\dv K H d v/\i8 d/\bJ d<=10^6/\∀ b H',(b=true↔RA d)->aE H H'->Q (.bl b) H'
theorem eC:aC ["thing","p","full","parts"] ["thing"] (ao (top 23)):=dW
theorem zS (D:aA K mg "is_right_above" (top 23)) (c_is_paper_form:Callee P w K mg base aQ 2 "is_paper_form" ["thing"] (yN K)) (c_come_to:Callee P w K mg base aQ 4 "come_to" ["n","rows","width"] (z4 K)) (c_is_least:Callee P w K mg base aQ 5 "is_least" ["n","a","e","primes"] (gj K)) (c_primes_in:Callee P w K mg base aQ 1 "primes_in" ["parts"] (dA K)):Callee P w K mg base aQ 6 "is_right_above" ["thing"] (z5 K):=by
 refine cO D eC (λf cdv A outer s H vs Q E hr h=>?_)
 obtain⟨d,v,rfl,hd,hs,hz,q⟩:=h
 have nd:=eC.nd
 refine⟨_,(ag (aP (dO (aR (bU c_is_paper_form hr ay (aa (pv 0) ae)) (λ_=>rfl))) (aj (aB cP)) aD) (ag (dZ (pv 0) (dN (n:=3) rfl (aI (aH (i:=1) nd rfl (Or.inl rfl) (.inr rfl)) (aI (aH (i:=2) nd rfl (Or.inl rfl) (.inr rfl)) (aI (aH (i:=3) nd rfl (Or.inl rfl) (.inr rfl)) cG))))) (aj (aB (bG (nA nk fE ah (pv 2) (pv 1)) (bG (bU c_come_to hr ay (aa (aq cZ (pv 1) ah) (aa (pv 3) (aa ah ae)))) (cj (bU c_is_least hr ay (aa (pv 1) (aa (pv 2) (aa (aq cZ (pv 1) ah) (aa (bU c_primes_in hr ay (aa (pv 3) ae)) ae)))))))))))),?_⟩
 show cf _ _ _ [some v,none,none,none] H
 k_data
 refine⟨d,v,rfl,hd,λb hb=>⟨b,aN.mpr rfl,?_⟩⟩
 refine aL (λc=>?_) (λc=>?_)
 ·refine q false _ ⟨λz=>(by cases z),fun⟨p,g,rows,e,p2,_⟩=>?_⟩ (aE.refl _)
  have:=hb.mpr ⟨p,g,rows,e,p2⟩
  rw [c] at this
  cases this
 ·obtain⟨p,g,rows,rfl,p2⟩:=hb.mp (by simpa using c)
  obtain⟨pa,x1,x2,x3,rfl,hS,e1,e2,e3⟩:=Ay hd
  cases e1
  cases e2
  refine⟨pa,_,rfl,hS,rfl,?_⟩
  k_data
  simp only [pH,j8,tC,qA,List.getElem?_cons_zero,List.getElem?_cons_succ,Option.some.injEq,exists_eq_left',V.int.injEq,exists_and_left,V.bl.injEq]
  obtain⟨hp9,hrows⟩:p<=10^110/\fg rows:=by
   simp only [i8,fg,and_true] at hs
   exact⟨hs.1,hs.2.2⟩
  have hzr:aK rows<=10^6:=by
   simp only [bJ,aK] at hz
   omega
  have no:∀{b:Bool},b=false->¬RA (.tuple [.int p,.int g,.tuple rows])->(b=true↔RA (.tuple [.int p,.int g,.tuple rows])):=λe n=>⟨λz=>(by rw [e] at z;cases z),λz=>absurd z n⟩
  refine aL (λc1=>?_) (λc1=>?_)
  ·refine aL (λc2=>?_) (λc2=>?_)
   ·have g1:1<=g:=of_decide_eq_true c1
    have g2:g<p:=of_decide_eq_true c2
    refine⟨p-1,rows,x3,2,rfl,by decide,by omega,e3,λp' g' k' rs more hm=>?_,λb1 hb1=>⟨b1,rfl,?_⟩⟩
    ·have:=fh hrows hm
     simp only [i8,fg] at this
     exact this.1.1
    refine aL (λc3=>?_) (λc3=>?_)
    ·have hct:=hb1.mp c3
     have hh:=xT hct
     have rl:rows.length<=10^6:=Nat.le_trans (fU rows) hzr
     refine⟨x3,rows,rows.map qD,rfl,e3,hh,rl,λpq H1 s1 f1 h1=>?_⟩
     refine⟨p,g,p-1,pq,rows.map qD,rfl,by omega,by omega,by omega,by omega,aV.of h1,λy hy=>?_,by rw [List.length_map];exact rl,λb2 H2 hb2 s2=>?_⟩
     ·obtain⟨r,hr',rfl⟩:=List.mem_map.mp hy
      obtain⟨p',g',k',rs,more,e,h2,_⟩:=fW hct r hr'
      have:=fh hrows hr'
      rw [e] at this ⊢
      simp only [i8,fg] at this
      show 0<p'/\p'<=_
      omega
     ·refine q b2 H2 (hb2.trans ⟨λz=>⟨p,g,rows,rfl,p2,g1,g2,hct,z⟩,fun⟨p',g',rows',e,_,_,_,_,z⟩=>?_⟩) (s1.trans s2)
      cases e
      exact z
    ·refine q false _ (no rfl fun⟨p',g',rows',e,_,_,_,z,_⟩=>?_) (aE.refl _)
     cases e
     exact c3 (hb1.mpr z)
   ·refine q false _ (no rfl fun⟨p',g',rows',e,_,_,z,_⟩=>?_) (aE.refl _)
    cases e
    exact c2 (decide_eq_true z)
  ·refine q false _ (no rfl fun⟨p',g',rows',e,_,z,_⟩=>?_) (aE.refl _)
   cases e
   exact c1 (decide_eq_true z)
theorem mK {H:Hp}:∀{ds:List PyData} {us:List V},bh K H ds us->ds≠[]->∃ ds' d us' u,ds=ds'++[d]/\us=us'++[u]/\bh K H ds' us'/\dv K H d u
 | [d],us,⟨x,r,e,h,t⟩,_=>by
  cases t
  exact⟨[],d,[],x,rfl,e,rfl,h⟩
 | d::d2::ds,us,⟨x,r,e,h,t⟩,_=>by
  obtain⟨ds',d',us',u,e1,e2,h1,h2⟩:=mK t (by simp)
  exact⟨d::ds',d',x::us',u,by rw [e1];rfl,by rw [e,e2];rfl,⟨x,us',rfl,h,h1⟩,h2⟩
theorem jW:∀ rows:List PyData,aK (rows.map i3)<=aK rows
 | []=>Nat.le_refl _
 | a::r=>by
  have h1:=jW r
  have h2:bJ (i3 a)<=bJ a:=by
   match a with
   | .tuple (x::xs) =>
    show bJ x<=1+(bJ x+aK xs)
    omega
   | .tuple []=>exact Nat.le_refl _
   | .list ds=>exact mh (.list ds)
   | .none=>exact Nat.le_refl _
   | .bool _=>exact Nat.le_refl _
   | .int _=>exact Nat.le_refl _
   | .str _=>exact Nat.le_refl _
   | .dict ds=>exact mh (.dict ds)
  show bJ (i3 a)+aK (r.map i3)<=bJ a+aK r
  omega
def xr (K:PySem.W.Frag):Sp:=λvs H Q _=>∃(p:Addr) (ds:List PyData) (us:List V),vs=[.ref p]/\(aV K H p us∨aJ K H p us)/\bh K H ds us/\fg ds/\aK ds<=10^6/\∀ b H',(b=true↔∀ d∈ds,PP d)->aE H H'->Q (.bl b) H'
theorem dQ:aC ["things","waiting","paper"] ["things"] (ao (top 22)):=dW
theorem yo (D:aA K mg "are_prime_papers" (top 22)) (c_is_right_above:Callee P w K mg base aQ 6 "is_right_above" ["thing"] (z5 K)) (n_list:mg "list"=none):Callee P w K mg base aQ 7 "are_prime_papers" ["things"] (xr K):=by
 refine cO D dQ (λf cdv A outer s H vs Q E hr h=>?_)
 obtain⟨p,ds0,us0,rfl,hS,hd0,hsm0,hsz0,q⟩:=h
 have nd:=dQ.nd
 refine⟨_,(ag (cu (i:=1) nd (cq fo rfl n_list L2.boot_list (aa (pv 0) ae))) (ag (bE PassesOwn.never (aR (pv 1) (λ_=>rfl)) (ag (cu (i:=2) nd (yy PySem.F.plainAttrs_list PySem.F.slot_list_pop PySem.F.type_list_pop ye (pv 1))) (ag (aP (dO (aR (bU c_is_right_above hr ay (aa (pv 2) ae)) (λ_=>rfl))) (aj (aB cP)) aD) (aj (gi (jF PySem.F.plainAttrs_list PySem.F.slot_list_extend PySem.F.type_list_extend rj (pv 1) (aa (gE rfl (uQ (N':=["row"]) (js:=[none]) rfl rfl) (oX (aO aS (pv 2) ah (λ_ _=>rfl))) (λ_ _ _ _=>(aH (i:=0) (show List.Nodup [("row":Str)] from by decide +kernel) rfl (Or.inl rfl) (.inr rfl))) (λ_ _ _ _=>dF) (λ_ _ _ _=>(aO (lE K rfl) (pv 0) ah (λ_ _=>rfl)))) ae))))))) (aj (aB cP)))),?_⟩
 show cf _ _ _ [some (.ref p),none,none] H
 k_data
 refine⟨us0,hS,λpw hpw=>?_⟩
 refine bF (α:=List PyData × List V × Option V) (λx=>[some (.ref p),some (.ref pw),x.2.2]) (λx H1=>aE H H1/\H1 pw=some (.lst x.2.1)/\bh K H x.1 x.2.1/\fg x.1/\aK x.1<=10^6/\((∀ d∈ds0,PP d)↔∀ d∈x.1,PP d)) (λx=>aK x.1) (ds0,us0,none) rfl ⟨ai hpw,af,hd0,hsm0,hsz0,Iff.rfl⟩ ?_
 rintro⟨ds,us,o⟩ H1 ⟨s1,h1,hd,hsm,hsz,hPP⟩
 replace h1:H1 pw=some (.lst us):=h1
 replace hd:bh K H ds us:=hd
 replace hsm:fg ds:=hsm
 replace hsz:aK ds<=10^6:=hsz
 replace hPP:(∀ d∈ds0,PP d)↔∀ d∈ds,PP d:=hPP
 k_data
 refine⟨!us.isEmpty,.inl ⟨us,aV.of h1,rfl⟩,?_⟩
 by_cases hne:ds=[]
 ·subst hne
  have hu:us=[]:=hd
  subst hu
  rw [if_neg (by simp)]
  exact q true H1 ⟨λ_=>hPP.mpr λd z=>by simp at z,λ_=>rfl⟩ s1
 obtain⟨ds',d,us',u,rfl,rfl,hd',hdu⟩:=mK hd hne
 rw [if_pos (by simp)]
 have smd:i8 d:=fh hsm (by simp)
 have szd:aK (ds'++[d])=aK ds'+bJ d:=by
  rw [aZ]
  show aK ds'+(bJ d+0)=_
  omega
 refine⟨_,λ_ _ z=>z,.inl ⟨rfl,_,aV.of h1⟩,pw,us'++[u],u,rfl,rfl,h1,by simp,?_⟩
 rw [List.dropLast_concat]
 have S2:=s1.upd (o:=.lst us') hpw
 have e2:upd H1 pw (.lst us') pw=some (.lst us'):=af
 generalize upd H1 pw _=H2 at *
 refine⟨d,u,rfl,dv.same S2 _ hdu,smd,by omega,λb H3 hb s3=>⟨b,aN.mpr rfl,?_⟩⟩
 have S3:=S2.trans s3
 have e3:=s3 _ _ e2
 refine aL (λc=>?_) (λc=>?_)
 ·refine q false H3 ⟨λz=>(by cases z),λz=>?_⟩ S3
  have hp:=hPP.mp z d (by simp)
  cases hp with
  | mk _ _ _ hra _ =>
   have:=hb.mpr hra
   rw [c] at this
   cases this
 ·have hra:=hb.mp (by simpa using c)
  obtain⟨p',g,rows,rfl,p2,g1,g2,hct,hlst⟩:=hra
  have hra:=hb.mp (by simpa using c)
  obtain⟨pa,x1,x2,x3,rfl,hSu,f1,f2,f3⟩:=Ay hdu
  obtain⟨pr,xs,rfl,hSr,hdr⟩:=f3
  have xl:=hdr.length
  have szr:aK rows<bJ (.tuple [.int p',.int g,.tuple rows]):=by
   simp only [bJ,aK]
   omega
  have rl:=fU rows
  refine⟨.inl ⟨rfl,_,aV.of e3⟩,cY (hSu.same S3) rfl ⟨pr,rfl,⟨_,hSr.same S3⟩,?_⟩⟩
  refine ko (xs:=xs) (λi zs H4=>H4=H3/\bh K H ((rows.take i).map i3) zs) ⟨rfl,rfl⟩ (Nat.le_trans (show xs.length<=10^6 by omega) (by decide)) (λi zs H4 hi ⟨z1,z2⟩=>⟨by rw [z1];exact hSr.same S3,by rw [z2.length,List.length_map,List.length_take];omega⟩) ?_ ?_
  ·rintro i x zs H4 hx ⟨rfl,hz⟩
   obtain⟨r,hr',hv⟩:=hdr.get hx
   obtain⟨p4,g4,k4,rs,more,rfl,_⟩:=fW hct r (List.mem_of_getElem? hr')
   obtain⟨a1,y1,rfl,t1,u1,r1,rfl,hv2,_⟩:=hv
   show eT 0 _ [none] _ _
   k_data
   refine⟨True.intro,cY (t1.same S3) nX ⟨rfl,?_⟩⟩
   rw [List.take_add_one,hr',List.map_append]
   exact bh.append hz (.one hv2)
  ·rintro zs H4 p4 ⟨rfl,hz⟩ hp4
   rw [show xs.length=rows.length by omega,List.take_length] at hz
   have zl:zs.length=rows.length:=by rw [hz.length,List.length_map]
   have s5:=ai (o:=.lst zs) hp4
   have e5:upd H4 p4 (.lst zs) p4=some (.lst zs):=af
   have e6:=s5 _ _ e3
   have S5:=S3.trans s5
   generalize upd H4 p4 _=H5 at *
   have ul:=hd'.length
   have dl:=fU ds'
   refine⟨pw,p4,us',zs,rfl,rfl,e6,e5,Nat.le_trans (show us'.length+zs.length<=10^6 by omega) (by decide),(ds'++rows.map i3,us'++zs,some (.ref pa)),rfl,S5.upd hpw,af,bh.append hd' hz,?_,?_,?_,?_⟩
   ·refine l8 λx hx=>?_
    rcases List.mem_append.mp hx with z | z
    ·exact fh hsm (List.mem_append.mpr (.inl z))
    ·obtain⟨r,hr',rfl⟩:=List.mem_map.mp z
     obtain⟨p4,g4,k4,rs,more,rfl,_⟩:=fW hct r hr'
     simp only [i8,fg] at smd
     have:=fh smd.2.2.1 hr'
     simp only [i8,fg] at this
     simp only [i3,i8,fg]
     exact this.1
   ·show aK (ds'++rows.map i3)<=_
    rw [aZ]
    have:=jW rows
    omega
   ·rw [hPP]
    constructor
    ·intro z x hx
     rcases List.mem_append.mp hx with y | y
     ·exact z x (List.mem_append.mpr (.inl y))
     ·obtain⟨r,hr',rfl⟩:=List.mem_map.mp y
      have hp:=z (.tuple [.int p',.int g,.tuple rows]) (by simp)
      cases hp with
      | mk _ _ _ _ h=>exact h r hr'
    ·intro z x hx
     rcases List.mem_append.mp hx with y | y
     ·exact z x (List.mem_append.mpr (.inl y))
     ·rw [List.mem_singleton.mp y]
      exact .mk p' g rows hra λr hr'=>z _ (List.mem_append.mpr (.inr (List.mem_map.mpr ⟨r,hr',rfl⟩)))
   ·show aK (ds'++rows.map i3)<_
    rw [aZ,szd]
    have:=jW rows
    omega
def yO (K:PySem.W.Frag):Sp:=λvs H Q _=>∃ d v,vs=[v]/\dv K H d v/\i8 d/\bJ d<=10^6/\∀ b H',(b=true↔PP d)->aE H H'->Q (.bl b) H'
theorem eB:aC ["thing"] ["thing"] (ao (top 20)):=dW
theorem zR (D:aA K mg "is_prime_paper" (top 20)) (c_are_prime_papers:Callee P w K mg base aQ 7 "are_prime_papers" ["things"] (xr K)):Callee P w K mg base aQ 8 "is_prime_paper" ["thing"] (yO K):=by
 refine cO D eB (λf cdv A outer s H vs Q E hr h=>?_)
 obtain⟨d,v,rfl,hd,hs,hz,q⟩:=h
 have nd:=eB.nd
 refine⟨_,(aj (aB (bU c_are_prime_papers hr ay (aa (bo (aa (pv 0) ae)) ae)))),?_⟩
 show iC _ _ [some v] H
 k_data
 refine⟨by show 1<=sizeLine;decide,λpl hpl=>?_⟩
 have s1:=ai (o:=.lst [v]) hpl
 refine⟨pl,[d],[v],rfl,.inl (aV.of af),.one (dv.same s1 _ hd),⟨hs,True.intro⟩,by show bJ d+0<=_;omega,λb H' hb s2=>?_⟩
 exact q b H' (hb.trans ⟨λz=>z d (by simp),λz x hx=>by rw [List.mem_singleton.mp hx];exact z⟩) (s1.trans s2)
end
end K
namespace K
open PySem PySem.Spec PyProof.Rows L2
theorem d8 {p:Int × Int} {ps:List (Int × Int)} {ds:Nat->PyData}:Num.rowsOf (p::ps) ds=.tuple [ds 0,.int p.2]::Num.rowsOf ps (λi=>ds (i+1)):=by
 unfold Num.rowsOf
 rw [List.length_cons,List.range_succ_eq_map,List.map_cons,List.map_map]
 rfl
theorem nF:∀{ps:List (Int × Int)},(∀ p∈ps,2<=p.1)->1<=Num.bQ ps
 | [],_=>Int.le_refl _
 | p::ps,h=>by
  have h1:=nF (ps:=ps) λq hq=>h q (List.mem_cons_of_mem _ hq)
  have h2:=Num.aW (show 0<p.1 by have:=h p (by simp);omega) p.2.toNat
  have:=Int.mul_pos h2 (show 0<Num.bQ ps by omega)
  show 1<=p.1^p.2.toNat*Num.bQ ps
  omega
theorem wI:∀{ps:List (Int × Int)} {ds:Nat->PyData} {t:Int},(∀ p∈ps,2<=p.1/\1<=p.2/\t<p.1)->ps.Pairwise (λa b=>a.1<b.1)->(∀ i q k,ps[i]?=some (q,k)->∃ g rows,ds i=.tuple [.int q,.int g,.tuple rows])->CT 2 (Num.bQ ps) t (Num.rowsOf ps ds)
 | [],_,_,_,_,_=>rfl
 | p::ps,ds,t,h,hw,hd=>by
  rw [d8]
  obtain⟨g,rows,e⟩:=hd 0 p.1 p.2 rfl
  obtain⟨p2,k1,tp⟩:=h p (by simp)
  obtain⟨w1,w2⟩:=List.pairwise_cons.mp hw
  refine⟨nF λq hq=>(h q hq).1,p.1,g,p.2,rows,[],by rw [e],rfl,p2,k1,tp,Num.bQ ps,.inl ⟨⟨_,rfl⟩,rfl⟩,?_⟩
  exact wI (λq hq=>⟨(h q (List.mem_cons_of_mem _ hq)).1,(h q (List.mem_cons_of_mem _ hq)).2.1,w1 q hq⟩) w2 λi q k hi=>hd (i+1) q k (by simpa using hi)
theorem vR {n:Int} {ps:List (Int × Int)} {ds:Nat->PyData} (h:Num.Part n ps) (hd:∀ i q k,ps[i]?=some (q,k)->Num.gR q (ds i)):CT 2 n 1 (Num.rowsOf ps ds):=by
 have:=wI (t:=1) (ds:=ds) (λp hp=>⟨(h.ok p hp).1.two,(h.ok p hp).2.1,by have:=(h.ok p hp).1.two;omega⟩) h.rise λi q k hi=>(hd i q k hi).head
 rwa [h.prod] at this
theorem uj:∀{ps:List (Int × Int)} {ds:Nat->PyData},(∀ i q k,ps[i]?=some (q,k)->∃ g rows,ds i=.tuple [.int q,.int g,.tuple rows])->(Num.rowsOf ps ds).map qD=ps.map (·.1)
 | [],_,_=>rfl
 | p::ps,ds,hd=>by
  rw [d8]
  obtain⟨g,rows,e⟩:=hd 0 p.1 p.2 rfl
  rw [List.map_cons,List.map_cons,uj λi q k hi=>hd (i+1) q k (by simpa using hi),e]
  rfl
theorem fL {ps:List (Int × Int)} {ds:Nat->PyData} {r:PyData} (h:r∈Num.rowsOf ps ds):∃ i q k,ps[i]?=some (q,k)/\r=.tuple [ds i,.int k]:=by
 unfold Num.rowsOf at h
 obtain⟨i,hi,e⟩:=List.mem_map.mp h
 have hi':=List.mem_range.mp hi
 have g:=List.getElem?_eq_getElem hi'
 refine⟨i,ps[i].1,ps[i].2,g,?_⟩
 rw [<- e,List.getD_eq_getElem?_getD,g]
 rfl
theorem uf {n a:Int} {ps:List (Int × Int)} {ds:Nat->PyData} (n2:2<=n) (h:Num.Part (n-1) ps) (hd:∀ i q k,ps[i]?=some (q,k)->Num.gR q (ds i)):RA (.tuple [.int n,.int a,.tuple (Num.rowsOf ps ds)])↔1<=a/\a<n/\Num.Ord n a (n-1).toNat:=by
 have hq:=uj (ps:=ps) (ds:=ds) λi q k hi=>(hd i q k hi).head
 constructor
 ·rintro⟨p,g,rows,e,p2,g1,g2,c,l⟩
  cases e
  rw [hq,lG n2 h (by omega)] at l
  exact⟨g1,g2,l⟩
 ·rintro⟨a1,a2,o⟩
  exact⟨n,a,_,rfl,n2,a1,a2,vR h hd,by rw [hq,lG n2 h (by omega)];exact o⟩
theorem yu {n:Int} {d:PyData} (h:Num.gR n d):PP d:=by
 induction h with
 | mk p g ps ds hp h9 hl hP hn hds ih =>
  refine .mk p g _ ((uf hp.two hP hds).mpr ⟨hl.one,hl.lt,hl.ord⟩) λr hr=>?_
  obtain⟨i,q,k,hi,rfl⟩:=fL hr
  exact ih i q k hi
theorem lW {n a:Int} {ps:List (Int × Int)} {ds:Nat->PyData} (n2:2<=n) (h:Num.Part (n-1) ps) (hd:∀ i q k,ps[i]?=some (q,k)->Num.gR q (ds i)):PP (.tuple [.int n,.int a,.tuple (Num.rowsOf ps ds)])↔1<=a/\a<n/\Num.Ord n a (n-1).toNat:=by
 rw [<- uf n2 h hd]
 constructor
 ·intro z
  cases z with
  | mk _ _ _ h1 _=>exact h1
 ·intro z
  refine .mk n a _ z λr hr=>?_
  obtain⟨i,q,k,hi,rfl⟩:=fL hr
  exact yu (hd i q k hi)
theorem yv {n:Int} {d:PyData} (h:Num.gR n d):i8 d:=by
 induction h with
 | mk p g ps ds hp h9 hl hP hn hds ih =>
  have:=hl.lt
  simp only [i8,fg,and_true]
  refine⟨by omega,by omega,l8 λr hr=>?_⟩
  obtain⟨i,q,k,hi,rfl⟩:=fL hr
  have hk:=(hP.ok _ (List.mem_of_getElem? hi)).2.2
  simp only [i8,fg,and_true]
  exact⟨ih i q k hi,by show k<=_;have:k<=30:=hk;omega⟩
theorem qB:∀{ps:List (Int × Int)} {ds:Nat->PyData},(∀ p∈ps,2<=p.1/\1<=p.2)->(∀ i q k,ps[i]?=some (q,k)->2^(bJ (ds i)+2)<=q.natAbs^12)->2^aK (Num.rowsOf ps ds)<=(Num.bQ ps).natAbs^12
 | [],_,_,_=>by show 2^0<=1^12;decide
 | p::ps,ds,h,hd=>by
  rw [d8]
  have h1:=hd 0 p.1 p.2 rfl
  have h2:=qB (ps:=ps) (ds:=λi=>ds (i+1)) (λq hq=>h q (List.mem_cons_of_mem _ hq)) λi q k hi=>hd (i+1) q k (by simpa using hi)
  obtain⟨p2,k1⟩:=h p (by simp)
  have e:aK (.tuple [ds 0,.int p.2]::Num.rowsOf ps (λi=>ds (i+1)))=(bJ (ds 0)+2)+aK (Num.rowsOf ps (λi=>ds (i+1))):=by
   simp only [aK,bJ]
   omega
  rw [e,Nat.pow_add]
  have h3:=Nat.mul_le_mul h1 h2
  rw [<- Nat.mul_pow] at h3
  refine Nat.le_trans h3 (Nat.pow_le_pow_left ?_ 12)
  show _<=(p.1^p.2.toNat*Num.bQ ps).natAbs
  rw [Int.natAbs_mul,Int.natAbs_pow]
  exact Nat.mul_le_mul_right _ (Nat.le_self_pow (by omega) _)
theorem yw {n:Int} {d:PyData} (h:Num.gR n d):2^(bJ d+2)<=n.natAbs^12/\(n=2->bJ d=4):=by
 induction h with
 | mk p g ps ds hp h9 hl hP hn hds ih =>
  have p2:=hp.two
  have esz:bJ (.tuple [.int p,.int g,.tuple (Num.rowsOf ps ds)])=4+aK (Num.rowsOf ps ds):=by
   simp only [bJ,aK]
   omega
  have nil2:p=2->ps=[]:=λe=>by
   cases ps with
   | nil=>rfl
   | cons x r =>
    exfalso
    obtain⟨o1,o2,_⟩:=hP.ok x (by simp)
    have:=Num.bY (ps:=x::r) (p:=x) (by simp) o2
    rw [hP.prod,e] at this
    have:=Int.le_of_dvd (by decide) this
    have:=o1.two
    omega
  refine⟨?_,λe=>by rw [esz,nil2 e];rfl⟩
  rw [esz]
  by_cases c:p=2
  ·rw [nil2 c,c]
   show 2^(4+0+2)<=2^12
   decide
  ·have podd:p%2=1:=by
    rcases (by omega:p%2=1∨p%2=0) with z | z
    ·exact z
    ·exact absurd (Int.dvd_of_emod_eq_zero z) (hp.no 2 (by decide) (by omega))
   have pm2:Num.Pm 2:=⟨by decide,λd d2 dn=>by omega⟩
   obtain⟨x,hx,ex⟩:=Num.cS pm2 (λx z=>(hP.ok x z).1) (by rw [hP.prod];exact⟨(p-1)/2,by omega⟩)
   cases ps with
   | nil=>simp at hx
   | cons y r =>
    have ey:y.1=2:=by
     have:=(hP.ok y (by simp)).1.two
     rcases List.mem_cons.mp hx with z | z
     ·rw [<- z];exact ex
     ·have:=(List.pairwise_cons.mp hP.rise).1 x z
      omega
    have s0:=(ih 0 y.1 y.2 rfl).2 ey
    have hr:=qB (ps:=r) (ds:=λi=>ds (i+1)) (λq hq=>⟨(hP.ok q (List.mem_cons_of_mem _ hq)).1.two,(hP.ok q (List.mem_cons_of_mem _ hq)).2.1⟩) λi q k hi=>(ih (i+1) q k (by simpa using hi)).1
    rw [d8]
    have e:4+aK (.tuple [ds 0,.int y.2]::Num.rowsOf r (λi=>ds (i+1)))+2=12+aK (Num.rowsOf r (λi=>ds (i+1))):=by
     simp only [aK,bJ,s0]
     omega
    rw [e,Nat.pow_add]
    have h3:=Nat.mul_le_mul_left (2^12) hr
    rw [<- Nat.mul_pow] at h3
    refine Nat.le_trans h3 (Nat.pow_le_pow_left ?_ 12)
    have hpr:Num.bQ (y::r)=p-1:=hP.prod
    have k1:=(hP.ok y (by simp)).2.1
    have:(Num.bQ (y::r)).natAbs=2^y.2.toNat*(Num.bQ r).natAbs:=by
     show (y.1^y.2.toNat*Num.bQ r).natAbs=_
     rw [Int.natAbs_mul,Int.natAbs_pow,ey]
     rfl
    rw [hpr] at this
    have h5:2*(Num.bQ r).natAbs<=2^y.2.toNat*(Num.bQ r).natAbs:=Nat.mul_le_mul_right _ (Nat.le_self_pow (by omega) _)
    omega
theorem gf {n:Int} {d:PyData} (h:Num.gR n d):bJ d<=358:=by
 have h1:=(yw h).1
 have h9:n<=10^9/\2<=n:=by
  cases h with
  | mk _ _ _ _ a b=>exact⟨b,a.two⟩
 have e30:(2:Nat)^30=1073741824:=by decide
 have h2:n.natAbs^12<=(2^30)^12:=Nat.pow_le_pow_left (show n.natAbs<=2^30 by omega) 12
 rw [<- Nat.pow_mul] at h2
 have:=(Nat.pow_le_pow_iff_right (by decide:1<2)).mp (Nat.le_trans h1 h2)
 omega
end K
namespace K
open PySem PySem.Spec PyProof.Rows L2
section
variable {P:Program} {w:World} {K:PySem.W.Frag} {mg:Str->Option Value} {base:Heap}
theorem uU {p a:Int} {e:Nat} (hp:Num.Pm p) (h:Num.Ord p a e):e∣(p-1).toNat:=by
 refine h.dv _ (Num.jx hp λz=>?_)
 have h0:Num.Al p (a^e) 0:=by
  obtain⟨k,hk⟩:∃ k,e=k+1:=⟨e-1,by have:=h.pos;omega⟩
  rw [hk,Int.pow_succ]
  show p∣a^k*a-0
  rw [Int.sub_zero]
  exact Int.dvd_mul_of_dvd_right z
 exact hp.qg (h0.symm.trans h.one)
theorem sY {p a e:Int} {ps:List (Int × Int)} (hp:Num.Pm p) (h:Num.Part (p-1) ps) (he:1<=e) (hd:e∣p-1):zt p a e ((ps.map (·.1)).filter λq=>decide (e%q=0))↔Num.Ord p a e.toNat:=by
 have p2:=hp.two
 constructor
 ·rintro⟨h1,h2⟩
  refine Num.tO (by omega) ((dJ p2).mp h1) λq hq hq' z=>?_
  have hd':(q:Int)∣e:=by
   have:=Int.natCast_dvd_natCast.mpr hq'
   rwa [show (e.toNat:Int)=e by omega] at this
  obtain⟨x,hx,ex⟩:=Num.cS (Num.xi hq) (λx z=>(h.ok x z).1) (by rw [h.prod];exact Int.dvd_trans hd' hd)
  refine h2 q (List.mem_filter.mpr ⟨List.mem_map.mpr ⟨x,hx,ex⟩,decide_eq_true (Int.emod_eq_zero_of_dvd hd')⟩) ((dJ p2).mpr ?_)
  rwa [show (e/(q:Int)).toNat=e.toNat/q by
   have:e/(q:Int)=((e.toNat/q:Nat):Int):=by rw [Int.natCast_ediv];congr 1;omega
   rw [this,Int.toNat_natCast]]
 ·intro h1
  refine⟨(dJ p2).mpr h1.one,λq hq z=>?_⟩
  obtain⟨m1,m2⟩:=List.mem_filter.mp hq
  obtain⟨x,hx,rfl⟩:=List.mem_map.mp m1
  obtain⟨o1,o2,_⟩:=h.ok x hx
  have d:x.1∣e:=Int.dvd_of_emod_eq_zero (of_decide_eq_true m2)
  have t:=o1.two
  refine h1.Bu (Num.mX o1) (by
   have:(x.1.toNat:Int)∣(e.toNat:Int):=by rw [show (x.1.toNat:Int)=x.1 by omega,show (e.toNat:Int)=e by omega];exact d
   exact Int.natCast_dvd_natCast.mp this) ?_
  rw [show e.toNat/x.1.toNat=(e/x.1).toNat by
   have:e/x.1=((e.toNat/x.1.toNat:Nat):Int):=by rw [Int.natCast_ediv];congr 1<;>omega
   rw [this,Int.toNat_natCast]]
  exact (dJ p2).mp z
def iM (K:PySem.W.Frag):Sp:=λvs H Q _=>∃(v:V) (p a e:Int) (g:PyData) (rows:List PyData) (ps:List (Int × Int)),vs=[v,.int a,.int e]/\dv K H (.tuple [.int p,g,.tuple rows]) v/\Aq rows (ps.map (·.1))/\Num.Pm p/\Num.Part (p-1) ps/\p<=10^100/\ps.length<=10^5 /\ -(10^100)<=e/\e<=10^100/\∀ b H',(b=true↔1<=e/\Num.Ord p a e.toNat)->aE H H'->Q (.bl b) H'
theorem iW:aC ["paper","a","e","p","full","parts"] ["paper","a","e"] (ao (top 21)):=dW
theorem oR (D:aA K mg "is_order" (top 21)) (c_is_least:Callee P w K mg base aQ 5 "is_least" ["n","a","e","primes"] (gj K)) (c_primes_in:Callee P w K mg base aQ 1 "primes_in" ["parts"] (dA K)):Callee P w K mg base aQ 6 "is_order" ["paper","a","e"] (iM K):=by
 refine cO D iW (λf cdv A outer s H vs Q E hr h=>?_)
 obtain⟨v,p,a,e,g,rows,ps,rfl,hd,hq,hp,hP,p1,hl,e0,e1,q⟩:=h
 have p2:=hp.two
 obtain⟨pa,xs,rfl,hS,x0,r0,rfl,d0,vg,r1,rfl,dg,vr,r2,rfl,dr,z⟩:=hd
 cases z
 cases d0
 have nd:=iW.nd
 refine⟨_,(ag (dZ (pv 0) (dN (n:=3) rfl (aI (aH (i:=3) nd rfl (Or.inl rfl) (.inr rfl)) (aI (aH (i:=4) nd rfl (Or.inl rfl) (.inr rfl)) (aI (aH (i:=5) nd rfl (Or.inl rfl) (.inr rfl)) cG))))) (ag (aP (PW.pt (jK (aw fE (pv 2) ah (ar _)) (iL (aw kI (aq aM (aq cZ (pv 3) ah) (pv 2)) ah (ar _))))) (aj (aB cP)) aD) (aj (aB (bU c_is_least hr ay (aa (pv 3) (aa (pv 1) (aa (pv 2) (aa (gE rfl (uQ (N':=["prime","e"]) (js:=[none,some 2]) rfl rfl) (gh (bU c_primes_in hr ay (aa (pv 5) ae))) (λ_ _ _ _=>(aH (i:=0) (show List.Nodup [("prime":Str),("e":Str)] from by decide +kernel) rfl (Or.inl rfl) (.inr rfl))) (λ_ _ _ _=>(nB (aw bj (aq aM (pv 1) (pv 0)) ah (ar _)))) (λ_ _ _ _=>(pv 0))) ae))))))))),?_⟩
 show cf _ _ _ [some (.ref pa),some (.int a),some (.int e),none,none,none] H
 k_data
 refine⟨pa,_,rfl,hS,rfl,?_⟩
 k_data
 refine aL (λc=>?_) (λc=>?_)
 ·exact q false _ ⟨λz=>(by cases z),λz=>absurd z.1 (by omega)⟩ (aE.refl _)
 refine⟨by omega,?_⟩
 refine aL (λc2=>?_) (λc2=>?_)
 ·refine q false _ ⟨λz=>(by cases z),λz=>?_⟩ (aE.refl _)
  have h1:=Int.natCast_dvd_natCast.mpr (uU hp z.2)
  rw [show (e.toNat:Int)=e by omega,show ((p-1).toNat:Int)=p-1 by omega] at h1
  exact absurd (Int.emod_eq_zero_of_dvd h1) (by simpa using c2)
 refine⟨vr,rows,ps.map (·.1),rfl,dr,hq,by rw [hq.1,List.length_map];omega,λpq H1 s1 f1 h1=>⟨pq,rfl,⟨_,aV.of h1⟩,?_⟩⟩
 have d0:e∣p-1:=Int.dvd_of_emod_eq_zero (by simpa using c2)
 refine dk (xs:=(ps.map (·.1)).map V.int) (λi zs H3=>H3=H1/\zs=(((ps.map (·.1)).take i).filter λq=>decide (e%q=0)).map V.int) ⟨rfl,rfl⟩ (by rw [List.length_map,List.length_map];exact Nat.le_trans hl (by decide)) (λi zs H3 hi ⟨z1,z2⟩=>⟨by rw [z1];exact aV.of h1,by rw [z2,List.length_map];exact Nat.le_trans (List.length_filter_le _ _) (by rw [List.length_take];omega)⟩) ?_ ?_
 ·rintro i x zs H3 hx ⟨rfl,rfl⟩
  rw [List.getElem?_map] at hx
  obtain⟨y,hy,rfl⟩:=Option.map_eq_some_iff.mp hx
  have my:=lT hP (by omega) y (List.mem_of_getElem? hy)
  show eT 0 _ [none,some (.int e)] _ _
  k_data
  refine⟨⟨rfl,True.intro⟩,by omega,?_⟩
  rw [List.take_add_one,hy,List.filter_append]
  refine aL (λc3=>?_) (λc3=>?_)
  ·simp [c3]
  ·simp [c3]
 ·rintro zs H3 p3 ⟨rfl,rfl⟩ hp3
  rw [List.length_map,List.take_length]
  refine⟨p,a,e,p3,_,rfl,by omega,by omega,by omega,by omega,aV.of af,λy hy=>?_,?_,λb H4 hb s4=>?_⟩
  ·have:=lT hP (by omega) y (List.mem_filter.mp hy).1
   omega
  ·exact Nat.le_trans (List.length_filter_le _ _) (by rw [List.length_map];omega)
  ·rw [sY hp hP (by omega) d0] at hb
   exact q b H4 (hb.trans ⟨λz=>⟨by omega,z⟩,λz=>z.2⟩) ((s1.trans (ai hp3)).trans s4)
mutual
def rD:Nat->PyData->Prop
 | 0,_=>False
 | _+1,.int _=>True
 | _+1,.str x=>PyData.canLay0 (.str x)=true
 | L+1,.list ds=>ds.length<=10^6/\pB L ds
 | L+1,.tuple ds=>ds.length<=10^6/\pB L ds
 | _+1,_=>False
def pB:Nat->List PyData->Prop
 | _,[]=>True
 | L,d::ds=>rD L d/\pB L ds
end
theorem ue:∀{L:Nat} {ds:List PyData} {i:Nat} {d:PyData},pB L ds->ds[i]?=some d->rD L d
 | L,[],i,d,_,h=>by simp at h
 | L,e::ds,0,d,h,z=>by
  simp only [pB] at h
  cases z
  exact h.1
 | L,e::ds,i+1,d,h,z=>by
  simp only [pB] at h
  exact ue h.2 (by simpa using z)
theorem fV:∀{ds:List PyData} {i:Nat} {d:PyData},PyData.canLayAll0 ds=true->ds[i]?=some d->d.canLay0=true
 | [],i,d,_,h=>by simp at h
 | e::ds,0,d,h,z=>by
  cases z
  have h':e.canLay0=true/\PyData.canLayAll0 ds=true:=by simpa [PyData.canLayAll0] using h
  exact h'.1
 | e::ds,i+1,d,h,z=>by
  have h':e.canLay0=true/\PyData.canLayAll0 ds=true:=by simpa [PyData.canLayAll0] using h
  exact fV h'.2 (by simpa using z)
def gO (K:PySem.W.Frag) (L:Nat):Sp:=λvs H Q _=>∃(u v:V) (d r:PyData),vs=[u,v]/\dv K H d u/\dv K H r v/\d.canLay0=true/\rD L r/\∀ b H',(b=true↔d=r)->aE H H'->Q (.bl b) H'
def qE (K:PySem.W.Frag) (L:Nat):Sp:=λvs H Q _=>∃(k:Sd) (a c:Addr) (us vs':List V) (ds rs:List PyData),vs=[.ref a,.ref c]/\jt k K H a us/\jt k K H c vs'/\bh K H ds us/\bh K H rs vs'/\PyData.canLayAll0 ds=true/\pB L rs/\rs.length<=10^6/\∀ b H',(b=true↔ds=rs)->aE H H'->Q (.bl b) H'
theorem kg {k:Sd} {H H':Hp} {a:Addr} {xs:List V} (h:jt k K H a xs) (s:aE H H'):jt k K H' a xs:=by
 cases k
 ·exact aV.same h s
 ·exact aJ.same h s
theorem zL {k:Sd} {H:Hp} {a:Addr} {xs:List V} {Q:VK} (h:jt k K H a xs) (q:Q (.int xs.length) H):v7 K [.ref a] H Q:=by
 cases k
 ·exact c9 h q
 ·exact fu h q
theorem iU:aC ["things","rights"] ["things","rights"] (ao (top 14)):=dW
theorem tJ {L:Nat} (D:aA K mg "are_just" (top 14)) (c_is_just:Callee P w K mg base aQ (2*L+1) "is_just" ["thing","right"] (gO K L)) (n_len:mg "len"=none) (n_zip:mg "zip"=none) (n_all:mg "all"=none):Callee P w K mg base aQ (2*L+2) "are_just" ["things","rights"] (qE K L):=by
 refine cO D iU (λf cdv A outer s H vs Q E hr h=>?_)
 obtain⟨k,a,c,us,vs',ds,rs,rfl,hS,hR,dd,dr,cl,hr',hl,q⟩:=h
 have nd:=iU.nd
 refine⟨_,(aj (aB (bG (bC bj (aG bf rfl n_len PySem.boot_len (aa (pv 0) ae)) (aG bf rfl n_len PySem.boot_len (aa (pv 1) ae)) (ar _)) (cj (aG (jv rfl) rfl n_all L2.boot_all (aa (gE rfl (uQ (N':=["thing","right"]) (js:=[none,none]) rfl rfl) (qv rfl n_zip (aa (pv 0) (aa (pv 1) ae))) (λ_ _ _ _=>(lV K rfl (n:=2) rfl (aI (aH (i:=0) (show List.Nodup [("thing":Str),("right":Str)] from by decide +kernel) rfl (Or.inl rfl) (.inr rfl)) (aI (aH (i:=1) (show List.Nodup [("thing":Str),("right":Str)] from by decide +kernel) rfl (Or.inl rfl) (.inr rfl)) cG)))) (λ_ _ _ _=>dF) (λ_ _ _ _=>(aF c_is_just (hr.mono (by omega)) rfl ay (aa (pv 0) (aa (pv 1) ae))))) ae)))))),?_⟩
 show iC _ _ [some (.ref a),some (.ref c)] H
 have ul:=dd.length
 have vl:=dr.length
 k_data
 refine zL hS (zL hR ⟨jj,?_⟩)
 by_cases ln:us.length=vs'.length
 ·rw [if_pos (by rw [ln])]
  refine⟨k,⟨_,hS⟩,k,⟨_,hR⟩,?_⟩
  refine kq (xs:=us) (ys:=vs') (λi zs H3=>aE H H3/\∃ bs:List Bool,zs=bs.map V.bl/\bs.length=i/\(bs.all id=true↔ds.take i=rs.take i)) ⟨aE.refl _,[],rfl,rfl,by simp⟩ (by omega) (Nat.le_trans (by omega) (show 10^6<=sizeLine by decide)) (λi zs H3 hi ⟨z1,bs,z2,z3,_⟩=>⟨kg hS z1,kg hR z1,by rw [z2,List.length_map,z3];exact Nat.le_refl _⟩) ?_ ?_
  ·rintro i x y zs H3 p3 hx hy ⟨s3,bs,rfl,bl,hb⟩ hp3
   obtain⟨d1,e1,v1⟩:=dd.get hx
   obtain⟨r1,e2,v2⟩:=dr.get hy
   have s4:=ai (o:=.tup [x,y]) hp3
   show qW K 2 _ _ [none,none] _ _
   refine⟨p3,_,rfl,aJ.of af,rfl,?_⟩
   generalize upd H3 p3 _=H4 at *
   k_data
   refine⟨True.intro,x,y,d1,r1,rfl,dv.same (s3.trans s4) _ v1,dv.same (s3.trans s4) _ v2,fV cl e1,ue hr' e2,λb H5 hb1 s5=>⟨(s3.trans s4).trans s5,bs++[b],by rw [List.map_append];rfl,by rw [List.length_append,bl];rfl,?_⟩⟩
   rw [List.all_append,Bool.and_eq_true,hb,List.take_add_one,List.take_add_one,e1,e2]
   have l1:(ds.take i).length=(rs.take i).length:=by
    have:=(List.getElem?_eq_some_iff.mp e1).1
    have:=(List.getElem?_eq_some_iff.mp e2).1
    rw [List.length_take,List.length_take]
    omega
   constructor
   ·rintro⟨h1,h2⟩
    have:b=true:=by simpa using h2
    rw [h1,hb1.mp this]
   ·intro h
    obtain⟨h1,h2⟩:=List.append_inj h l1
    have:d1=r1:=by simpa using h2
    exact⟨h1,by simp [hb1.mpr this]⟩
  ·rintro zs H3 p3 ⟨s3,bs,rfl,bl,hb⟩ hp3
   refine oi (bs:=bs) (aV.of af) ?_
   rw [show us.length=ds.length from ul,List.take_length,show ds.length=rs.length by omega,List.take_length] at hb
   exact q _ _ hb (s3.trans (ai hp3))
 ·rw [if_neg (by intro z;have:=V.int.inj z;omega)]
  exact q false H ⟨(λz=>by cases z),λz=>by rw [z] at ul;omega⟩ (aE.refl _)
theorem kx {d:PyData} {i:Int}:(PyData.eqv d (.int i)=true/\mS d=true)↔d=.int i:=by
 constructor
 ·rintro⟨h1,h2⟩
  cases d with
  | int j =>
   have:j=i:=by simpa [PyData.eqv] using h1
   rw [this]
  | _=>simp [mS] at h2
 ·rintro rfl
  exact⟨by simp [PyData.eqv],rfl⟩
theorem gL:aC ["thing","right"] ["thing","right"] (ao (top 13)):=dW
theorem tF (D:aA K mg "is_just" (top 13)):Callee P w K mg base aQ 1 "is_just" ["thing","right"] (gO K 0):=by
 refine cO D gL (λf cdv A outer s H vs Q E hr h=>?_)
 obtain⟨u,v,d,r,rfl,hu,hv,cl,hs,q⟩:=h
 simp only [rD] at hs
theorem tH {L:Nat} (D:aA K mg "is_just" (top 13)) (c_are_just:Callee P w K mg base aQ (2*L+2) "are_just" ["things","rights"] (qE K L)) (c_is_whole:Callee P w K mg base aQ 1 "is_whole" ["thing"] (yP K)) (n_isinstance:mg "isinstance"=none) (n_list:mg "list"=none) (n_tuple:mg "tuple"=none):Callee P w K mg base aQ (2*L+3) "is_just" ["thing","right"] (gO K (L+1)):=by
 refine cO D gL (λf cdv A outer s H vs Q E hr h=>?_)
 obtain⟨u,v,d,r,rfl,hu,hv,cl,hs,q⟩:=h
 have nd:=gL.nd
 refine⟨_,(ag (aP (aR (aG aY rfl n_isinstance PyProof.Rows.boot_isinstance (aa (pv 1) (aa (bO (v:=.ty "tuple") rfl n_tuple L2.boot_tuple rfl) ae))) (λ_=>rfl)) (aj (aB (bG (aG aY rfl n_isinstance PyProof.Rows.boot_isinstance (aa (pv 0) (aa (bO (v:=.ty "tuple") rfl n_tuple L2.boot_tuple rfl) ae))) (cj (aF c_are_just (hr.mono (by omega)) rfl ay (aa (pv 0) (aa (pv 1) ae))))))) aD) (ag (aP (aR (aG aY rfl n_isinstance PyProof.Rows.boot_isinstance (aa (pv 1) (aa (bO (v:=.ty "list") rfl n_list L2.boot_list rfl) ae))) (λ_=>rfl)) (aj (aB (bG (aG aY rfl n_isinstance PyProof.Rows.boot_isinstance (aa (pv 0) (aa (bO (v:=.ty "list") rfl n_list L2.boot_list rfl) ae))) (cj (aF c_are_just (hr.mono (by omega)) rfl ay (aa (pv 0) (aa (pv 1) ae))))))) aD) (aj (aB (bG (bC (lO hr.units) (pv 0) (pv 1) (ar _)) (cj (bC bj (aF c_is_whole (hr.mono (by omega)) rfl ay (aa (pv 0) ae)) (aF c_is_whole (hr.mono (by omega)) rfl ay (aa (pv 1) ae)) (ar _)))))))),?_⟩
 show cf _ _ _ [some u,some v] H
 k_data
 cases r with
 | tuple rs =>
  simp only [rD] at hs
  refine bM hv ⟨true,aN.mpr rfl,?_⟩
  rw [if_pos rfl]
  refine bM hu ⟨_,rfl,?_⟩
  cases d with
  | tuple ds =>
   rw [if_pos (show zK (.tuple ds)=true from rfl)]
   obtain⟨a,us,rfl,hS,dd⟩:=hu
   obtain⟨c,vs',rfl,hR,dr⟩:=hv
   exact⟨.t,a,c,us,vs',ds,rs,rfl,hS,hR,dd,dr,cl,hs.2,hs.1,λb H' hb s'=>q b H' (hb.trans (by rw [PyData.tuple.injEq])) s'⟩
  | _ =>
   rw [if_neg (by simp [zK])]
   exact q false H ⟨(λz=>by cases z),λz=>by cases z⟩ (aE.refl _)
 | list rs =>
  simp only [rD] at hs
  refine bM hv ⟨false,aN.mpr rfl,?_⟩
  rw [if_neg (by decide)]
  refine cD hv ⟨true,aN.mpr rfl,?_⟩
  rw [if_pos rfl]
  refine cD hu ⟨_,rfl,?_⟩
  cases d with
  | list ds =>
   rw [if_pos (show Az (.list ds)=true from rfl)]
   obtain⟨a,us,rfl,hS,dd⟩:=hu
   obtain⟨c,vs',rfl,hR,dr⟩:=hv
   exact⟨.l,a,c,us,vs',ds,rs,rfl,hS,hR,dd,dr,cl,hs.2,hs.1,λb H' hb s'=>q b H' (hb.trans (by rw [PyData.list.injEq])) s'⟩
  | _ =>
   rw [if_neg (by simp [Az])]
   exact q false H ⟨(λz=>by cases z),λz=>by cases z⟩ (aE.refl _)
 | int i =>
  refine bM hv ⟨false,aN.mpr rfl,?_⟩
  rw [if_neg (by decide)]
  refine cD hv ⟨false,aN.mpr rfl,?_⟩
  rw [if_neg (by decide)]
  refine⟨d,.int i,hu,hv,cl,rfl,by simp [PyData.depth],⟨_,rfl,?_⟩⟩
  refine aL (λc=>?_) (λc=>?_)
  ·refine⟨d,u,rfl,hu,⟨.int i,v,rfl,hv,⟨rfl,?_⟩⟩⟩
   refine q _ H ?_ (aE.refl _)
   rw [<- kx]
   have c':PyData.eqv d (.int i)=true:=by simpa using c
   rw [c']
   cases hw:mS d<;>simp [mS]
  ·refine q false H ⟨(λz=>by cases z),λz=>?_⟩ (aE.refl _)
   have:=(kx.mpr z).1
   exact absurd this (by simpa using c)
 | str z =>
  refine bM hv ⟨false,aN.mpr rfl,?_⟩
  rw [if_neg (by decide)]
  refine cD hv ⟨false,aN.mpr rfl,?_⟩
  rw [if_neg (by decide)]
  simp only [rD] at hs
  refine⟨d,.str z,hu,hv,cl,hs,by simp [PyData.depth],⟨_,rfl,?_⟩⟩
  have es:PyData.eqv d (.str z)=true↔d=.str z:=by cases d<;>simp [PyData.eqv]
  refine aL (λc=>?_) (λc=>?_)
  ·refine⟨d,u,rfl,hu,⟨.str z,v,rfl,hv,⟨rfl,?_⟩⟩⟩
   refine q _ H ?_ (aE.refl _)
   have c':d=.str z:=es.mp (by simpa using c)
   rw [c']
   simp
  ·exact q false H ⟨(λz=>by cases z),λz=>absurd (es.mpr z) (by simpa using c)⟩ (aE.refl _)
 | _=>simp only [rD] at hs
theorem qt {fi:Addr} (D:aA K mg "is_just" (top 13)) (D2:aA K mg "are_just" (top 14)) (c_is_whole:Callee P w K mg base aQ 1 "is_whole" ["thing"] (yP K)) (n_isinstance:mg "isinstance"=none) (n_list:mg "list"=none) (n_tuple:mg "tuple"=none) (n_len:mg "len"=none) (n_zip:mg "zip"=none) (n_all:mg "all"=none):∀ L:Nat,Callee P w K mg base aQ (2*L+1) "is_just" ["thing","right"] (gO K L)
 | 0=>tF D
 | L+1=>tH D (tJ D2 (qt (fi:=fi) D D2 c_is_whole n_isinstance n_list n_tuple n_len n_zip n_all L) n_len n_zip n_all) c_is_whole n_isinstance n_list n_tuple
theorem zW {n d:Int} (hn:1<n) (d2:2<=d) (no:∀ k,2<=k->k<d->¬k∣n) (h:n<d*d):Num.Pm n:=⟨by omega,λe e2 en hd=>by
 rcases (by omega:e<d∨d<=e) with z | z
 ·exact no e e2 z hd
 ·obtain⟨c,hc⟩:=hd
  have c2:2<=c:=by
   rcases (by omega:c<=0∨c=1∨2<=c) with y | y | y
   ·have:=Int.mul_nonpos_of_nonneg_of_nonpos (show 0<=e by omega) y
    omega
   ·rw [y] at hc
    omega
   ·exact y
  have cd:c<d:=by
   rcases (by omega:c<d∨d<=c) with y | y
   ·exact y
   ·have:=Int.mul_le_mul z y (by omega) (by omega)
    omega
  exact no c c2 cd ⟨e,by rw [hc,Int.mul_comm]⟩⟩
def kP:Sp:=λvs H Q _=>∃ n:Int,vs=[.int n]/\0<=n/\n<=10^60/\∀ b:Bool,(b=true↔Num.Pm n)->Q (.bl b) H
theorem eY:aC ["_law_n","_law_d"] ["_law_n"] (ao (top 44)):=dW
theorem rq (D:aA K mg "_law_is_prime" (top 44)) (n_int:mg "int"=none):Callee P w K mg base aQ 1 "_law_is_prime" ["_law_n"] kP:=by
 refine cO D eY (λf cdv A outer s H vs Q E hr h=>?_)
 obtain⟨n,rfl,n0,hn,q⟩:=h
 have nd:=eY.nd
 refine⟨_,(ag (cu (i:=1) nd ah) (ag (bE PassesOwn.never (aw nk (aq aX (pv 1) (pv 1)) (pv 0) (ar _)) (ag (aP (aw bj (aq aM (pv 0) (pv 1)) ah (ar _)) (aj (aB cP)) aD) (aj (cu (i:=1) nd (aq bB (aq bB (pv 1) ah) (cq qP rfl n_int L2.boot_int (aa (bC cM (pv 1) ah (ar _)) ae))))))) (aj (aB (bC cM (pv 0) ah (ar _)))))),?_⟩
 show cf _ _ _ [some (.int n),none] H
 k_data
 refine bF (α:=Int) (λx=>[some (.int n),some (.int x)]) (λx H1=>H1=H/\2<=x/\x<=10^60+3/\(x=2∨x%2=1)/\∀ k,2<=k->k<x->¬k∣n) (λx=>(n+3-x).toNat) 2 rfl ⟨rfl,by decide,by decide,.inl rfl,λk k1 (k2:k<2) hk=>by omega⟩ ?_
 rintro x H1 ⟨rfl,x2,x9,xo,no⟩
 replace x2:2<=x:=x2
 replace x9:x<=10^60+3:=x9
 replace xo:x=2∨x%2=1:=xo
 replace no:∀ k,2<=k->k<x->¬k∣n:=no
 k_data
 refine⟨Bd.of (by omega) (by omega),Bd.of (by omega) (by omega),aL (λc=>?_) (λc=>?_)⟩
 ·have xx:x*2<=x*x:=Int.mul_le_mul_of_nonneg_left x2 (by omega)
  refine⟨_,λ_ _ z=>z,by omega,aL (λc1=>?_) (λc1=>?_)⟩
  ·refine q false ⟨λz=>(by cases z),λz=>absurd (Int.dvd_of_emod_eq_zero c1) (z.no x x2 (by omega))⟩
  ·have nx:¬x∣n:=λz=>c1 (Int.emod_eq_zero_of_dvd z)
   rcases xo with rfl | xo
   ·refine⟨3,rfl,rfl,by decide,by decide,.inr (by decide),λk k2 (k3:k<3)=>?_,by omega⟩
    rw [show k=2 by omega]
    exact nx
   ·have x3:2<x:=by omega
    rw [if_pos x3]
    refine⟨x+2,by rw [Int.add_assoc];rfl,rfl,by omega,by omega,.inr (by omega),λk k2 k3=>?_,by omega⟩
    rcases (by omega:k<x∨k=x∨k=x+1) with z | z | z
    ·exact no k k2 z
    ·rw [z];exact nx
    ·intro hk
     exact no 2 (by decide) x3 (Int.dvd_trans (show (2:Int)∣k by omega) hk)
 ·refine q _ ?_
  rw [decide_eq_true_iff]
  exact⟨λz=>zW z x2 no (by omega),λz=>by have:=z.two;omega⟩
def nO:Sp:=λvs H Q _=>∃ n p0:Int,vs=[.int n]/\0<=n/\n<=p0/\Num.Pm p0/\p0<=10^60/\∀ r,Num.Pm r->n<=r->r<=p0->(∀ k,n<=k->k<r->¬Num.Pm k)->Q (.int r) H
theorem gG:aC ["_law_n"] ["_law_n"] (ao (top 45)):=dW
theorem rC (D:aA K mg "_law_prime" (top 45)) (c__law_is_prime:Callee P w K mg base aQ 1 "_law_is_prime" ["_law_n"] kP):Callee P w K mg base aQ 2 "_law_prime" ["_law_n"] nO:=by
 refine cO D gG (λf cdv A outer s H vs Q E hr h=>?_)
 obtain⟨n,p0,rfl,n0,np,pm,p9,q⟩:=h
 have nd:=gG.nd
 refine⟨_,(ag (bE PassesOwn.never (dO (aR (bU c__law_is_prime hr ay (aa (pv 0) ae)) (λ_=>rfl))) (aj (cu (i:=0) nd (aq bB (pv 0) ah)))) (aj (aB (pv 0)))),?_⟩
 show cf _ _ _ [some (.int n)] H
 k_data
 refine bF (α:=Int) (λx=>[some (.int x)]) (λx H1=>H1=H/\n<=x/\x<=p0/\∀ k,n<=k->k<x->¬Num.Pm k) (λx=>(p0-x).toNat) n rfl ⟨rfl,Int.le_refl _,np,λk k1 k2=>by omega⟩ ?_
 rintro x H1 ⟨rfl,x1,x2,no⟩
 replace x1:n<=x:=x1
 replace x2:x<=p0:=x2
 replace no:∀ k,n<=k->k<x->¬Num.Pm k:=no
 k_data
 refine⟨x,rfl,by omega,by omega,λb hb=>⟨b,aN.mpr rfl,?_⟩⟩
 cases b with
 | true=>exact q x (hb.mp rfl) x1 x2 no
 | false =>
  have nx:¬Num.Pm x:=λz=>by cases hb.mpr z
  have ne:x≠p0:=λz=>nx (z▸pm)
  refine⟨_,λ_ _ z=>z,x+1,rfl,rfl,by omega,by omega,λk k1 k2=>?_,by omega⟩
  rcases (by omega:k<x∨k=x) with z | z
  ·exact no k k1 z
  ·rw [z];exact nx
def me:Sp:=λvs H Q _=>∃(n a:Int) (e:Int),vs=[.int n,.int a,.int e]/\0<n/\n<=10^100 /\ -(10^100)<=a/\a<=10^100/\0<=e/\Q (.int (a^e.toNat%n)) H
theorem gF:aC ["_law_n","_law_a","_law_e","_law_found"] ["_law_n","_law_a","_law_e"] (ao (top 49)):=dW
theorem vI (D:aA K mg "_law_power" (top 49)):Callee P w K mg base aQ 1 "_law_power" ["_law_n","_law_a","_law_e"] me:=by
 refine cO D gF (λf cdv A outer s H vs Q E hr h=>?_)
 obtain⟨n,a,e,rfl,hn,hn1,a0,a1,he,q⟩:=h
 have nd:=gF.nd
 refine⟨_,(ag (cu (i:=3) nd (aq aM ah (pv 0))) (ag (bE PassesOwn.never (aw cM (pv 2) ah (ar _)) (ag (bL (aP (aw bj (aq aM (pv 2) ah) ah (ar _)) (aj (cu (i:=3) nd (aq aM (aq aX (pv 3) (pv 1)) (pv 0)))) aD)) (ag (cu (i:=1) nd (aq aM (aq aX (pv 1) (pv 1)) (pv 0))) (aj (cu (i:=2) nd (aq cV (pv 2) ah)))))) (aj (aB (pv 3))))),?_⟩
 show cf _ _ _ [some (.int n),some (.int a),some (.int e),none] H
 k_data
 refine⟨hn,?_⟩
 have r0:=λx:Int=>Int.emod_nonneg x (show n≠0 by omega)
 have r1:=λx:Int=>Int.emod_lt_of_pos x hn
 refine bF (α:=Nat × Int × Int) (λx=>[some (.int n),some (.int x.2.2),some (.int (x.1:Int)),some (.int x.2.1)]) (λx H1=>H1=H /\ -(10^100)<=x.2.2/\x.2.2<=10^100/\0<=x.2.1/\x.2.1<n/\x.2.1*x.2.2^x.1%n=a^e.toNat%n) (λx=>x.1) (e.toNat,1%n,a) (by rw [show ((e.toNat:Nat):Int)=e by omega]) ⟨rfl,a0,a1,r0 1,r1 1,?_⟩ ?_
 ·show 1%n*a^e.toNat%n=_
  rw [Pw.qc,Int.one_mul]
 rintro⟨l,r,b⟩ H1 ⟨rfl,h1,h2,h3,h4,h5⟩
 replace h1:-(10^100)<=b:=h1
 replace h2:b<=10^100:=h2
 replace h3:0<=r:=h3
 replace h4:r<n:=h4
 replace h5:r*b^l%n=a^e.toNat%n:=h5
 k_data
 refine aL (λc=>?_) (λc=>?_)
 ·refine⟨_,λ_ _ z=>z,λσ' H2=>H2=H1/\σ'=[some (.int n),some (.int b),some (.int (l:Int)),some (.int (if l%2=1 then r*b%n else r))],?_,?_⟩
  ·k_data
   refine aL (λc=>?_) (λc=>?_)
   ·exact⟨Bd.of (by omega) (by omega),Bd.of (by omega) (by omega),hn,by rw [if_pos (by omega)]⟩
   ·rw [if_neg (by omega)]
  rintro σ' H2 ⟨rfl,rfl⟩
  k_data
  have z0:0<=(if l%2=1 then r*b%n else r)/\(if l%2=1 then r*b%n else r)<n:=by
   split
   ·exact⟨r0 _,r1 _⟩
   ·exact⟨h3,h4⟩
  have b0:=r0 (b*b)
  have b1:=r1 (b*b)
  refine⟨Bd.of (by omega) (by omega),Bd.of (by omega) (by omega),hn,uP (by decide),(l/2,(if l%2=1 then r*b%n else r),b*b%n),rfl,(by show (l:Int)/2=((l/2:Nat):Int);omega),rfl,by show -(10^100)<=b*b%n;omega,by show b*b%n<=10^100;omega,z0.1,z0.2,?_,?_⟩
  ·show (if l%2=1 then r*b%n else r)*(b*b%n)^(l/2)%n=_
   rw [Pw.step]
   exact h5
  ·show l/2<l
   omega
 ·have l0:l=0:=by omega
  subst l0
  rw [Int.pow_zero,Int.mul_one,Int.emod_eq_of_lt h3 h4] at h5
  rw [h5]
  exact q
theorem nK:∀{l m:List Int},l.Pairwise (·<·)->m.Pairwise (·<·)->(∀ a,a∈l↔a∈m)->l=m
 | [],[],_,_,_=>rfl
 | [],y::m,_,_,h=>by cases (h y).mpr (List.mem_cons_self ..)
 | x::l,[],_,_,h=>by cases (h x).mp (List.mem_cons_self ..)
 | x::l,y::m,h1,h2,h=>by
  obtain⟨a1,a2⟩:=List.pairwise_cons.mp h1
  obtain⟨b1,b2⟩:=List.pairwise_cons.mp h2
  have e:x=y:=by
   rcases List.mem_cons.mp ((h x).mp (List.mem_cons_self ..)) with z | z
   ·exact z
   ·rcases List.mem_cons.mp ((h y).mpr (List.mem_cons_self ..)) with z' | z'
    ·exact z'.symm
    ·have:=b1 x z;have:=a1 y z';omega
  subst e
  rw [nK a2 b2 λa=>?_]
  constructor
  ·intro z
   rcases List.mem_cons.mp ((h a).mp (List.mem_cons_of_mem _ z)) with y | y
   ·have:=a1 a z;omega
   ·exact y
  ·intro z
   rcases List.mem_cons.mp ((h a).mpr (List.mem_cons_of_mem _ z)) with y | y
   ·have:=b1 a z;omega
   ·exact y
def jL (ps:List (Int × Int)) (e:Nat):List Int:=(ps.map (·.1)).filter λq=>decide ((e:Int)%q=0)
theorem rN {n:Int} {e:Nat} {ps pl:List (Int × Int)} (h:Num.Part n ps) (h':Num.Part e pl) (hd:(e:Int)∣n):jL ps e=pl.map (·.1):=by
 refine nK ?_ ?_ λa=>?_
 ·exact List.Pairwise.sublist List.filter_sublist (List.pairwise_map.mpr h.rise)
 ·exact List.pairwise_map.mpr h'.rise
 ·unfold jL
  rw [List.mem_filter]
  constructor
  ·rintro⟨h1,h2⟩
   obtain⟨y,hy,rfl⟩:=List.mem_map.mp h1
   obtain⟨z,hz,ez⟩:=Num.cS (h.ok y hy).1 (λz hz=>(h'.ok z hz).1) (by rw [h'.prod];exact Int.dvd_of_emod_eq_zero (of_decide_eq_true h2))
   exact List.mem_map.mpr ⟨z,hz,ez⟩
  ·intro h1
   obtain⟨y,hy,rfl⟩:=List.mem_map.mp h1
   have d1:y.1∣(e:Int):=by rw [<- h'.prod];exact Num.bY hy (h'.ok y hy).2.1
   obtain⟨z,hz,ez⟩:=Num.cS (h'.ok y hy).1 (λz hz=>(h.ok z hz).1) (by rw [h.prod];exact Int.dvd_trans d1 hd)
   exact⟨List.mem_map.mpr ⟨z,hz,ez⟩,decide_eq_true (Int.emod_eq_zero_of_dvd d1)⟩
end
end K
namespace Num
theorem jG {p:Int} (hp:2<=p):∀{k l:Nat} {R T:Int},¬p∣R->¬p∣T->p^k*R=p^l*T->k=l/\R=T
 | 0,0,R,T,_,_,e=>by rw [Int.pow_zero,Int.one_mul,Int.one_mul] at e;exact⟨rfl,e⟩
 | 0,l+1,R,T,h,_,e=>by
  rw [Int.pow_zero,Int.one_mul,Int.pow_succ,Int.mul_comm (p^l),Int.mul_assoc] at e
  exact absurd ⟨_,e⟩ h
 | k+1,0,R,T,_,h,e=>by
  rw [Int.pow_zero,Int.one_mul,Int.pow_succ,Int.mul_comm (p^k),Int.mul_assoc] at e
  exact absurd ⟨_,e.symm⟩ h
 | k+1,l+1,R,T,h,h',e=>by
  rw [Int.pow_succ,Int.pow_succ,Int.mul_comm (p^k),Int.mul_comm (p^l),Int.mul_assoc,Int.mul_assoc] at e
  obtain⟨e1,e2⟩:=jG hp h h' (Int.eq_of_mul_eq_mul_left (by omega) e)
  exact⟨by rw [e1],e2⟩
theorem Part.tail {n:Int} {x:Int × Int} {r:List (Int × Int)} (h:Part n (x::r)):Part (bQ r) r:=⟨λp hp=>h.ok p (List.mem_cons_of_mem _ hp),(List.pairwise_cons.mp h.rise).2,rfl⟩
theorem Part.nd {n:Int} {x:Int × Int} {r:List (Int × Int)} (h:Part n (x::r)):¬x.1∣bQ r:=λz=>by
 obtain⟨y,hy,e⟩:=cS (h.ok x (List.mem_cons_self ..)).1 (λp hp=>(h.ok p (List.mem_cons_of_mem _ hp)).1) z
 have:=(List.pairwise_cons.mp h.rise).1 y hy
 omega
theorem Part.hd {n:Int} {x:Int × Int} {r:List (Int × Int)} (h:Part n (x::r)) {q:Int} (hq:Pm q) (hd:q∣n):x.1<=q:=by
 obtain⟨y,hy,e⟩:=cS hq (λp hp=>(h.ok p hp).1) (h.prod▸hd)
 rcases List.mem_cons.mp hy with rfl | hy
 ·omega
 ·have:=(List.pairwise_cons.mp h.rise).1 y hy
  omega
theorem Part.dv {n:Int} {ps:List (Int × Int)} (h:Part n ps) {x:Int × Int} (hx:x∈ps):x.1∣n:=h.prod▸bY hx (h.ok x hx).2.1
theorem Part.one:∀{ps qs:List (Int × Int)} {n:Int},Part n ps->Part n qs->ps=qs
 | [],[],_,_,_=>rfl
 | [],y::t,n,h,h'=>by
  exfalso
  have e:n=1:=h.prod.symm
  have:=(h'.ok y (List.mem_cons_self ..)).1.two
  have:=Int.le_of_dvd (by decide) (e▸h'.dv (List.mem_cons_self ..))
  omega
 | x::r,[],n,h,h'=>by
  exfalso
  have e:n=1:=h'.prod.symm
  have:=(h.ok x (List.mem_cons_self ..)).1.two
  have:=Int.le_of_dvd (by decide) (e▸h.dv (List.mem_cons_self ..))
  omega
 | (p,k)::r,(q,l)::t,n,h,h'=>by
  have hp:=h.ok _ (List.mem_cons_self ..)
  have hq:=h'.ok _ (List.mem_cons_self ..)
  have e1:p<=q:=h.hd hq.1 (h'.dv (List.mem_cons_self ..))
  have e2:q<=p:=h'.hd hp.1 (h.dv (List.mem_cons_self ..))
  obtain rfl:p=q:=by omega
  obtain⟨a,b⟩:=jG hp.1.two h.nd h'.nd (h.prod.trans h'.prod.symm)
  have:k=l:=by have:=hp.2.1;have:=hq.2.1;simp only at *;omega
  subst this
  rw [Part.one h.tail (b▸h'.tail)]
end Num
namespace Num
theorem kS {r:Int} (r2:2<=r):∀(f:Nat) (n:Int),1<=n->n.toNat<=f->∃(k:Nat) (m:Int),n=r^k*m/\1<=m/\¬r∣m/\m<=n
 | 0,n,h,hf=>by omega
 | f+1,n,h,hf=>by
  rcases Classical.em (r∣n) with⟨c,hc⟩ | z
  ·have c1:1<=c:=by
    rcases (by omega:c<=0∨1<=c) with z | z
    ·have:=Int.mul_nonpos_of_nonneg_of_nonpos (show 0<=r by omega) z
     omega
    ·exact z
   have cl:c<n:=by
    have:=Int.mul_le_mul_of_nonneg_right r2 (show 0<=c by omega)
    omega
   obtain⟨k,m,e,m1,nd,ml⟩:=kS r2 f c c1 (by omega)
   exact⟨k+1,m,by rw [hc,e,Int.pow_succ,Int.mul_comm (r^k) r,Int.mul_assoc],m1,nd,by omega⟩
  ·exact⟨0,n,by rw [Int.pow_zero,Int.one_mul],h,z,Int.le_refl _⟩
theorem nW {n:Int} (hn:n<=10^9):∀(f:Nat) (ps:List (Int × Int)) (left prime:Int),Way n ps left prime->left.toNat<=f->∃ qs,Part n qs
 | 0,ps,left,prime,w,hf=>by have:=w.pos;omega
 | f+1,ps,left,prime,w,hf=>by
  have l1:=w.pos
  rcases (by omega:left=1∨1<left) with z | z
  ·subst z
   exact⟨ps,w.done⟩
  ·obtain⟨m,⟨m2,md⟩,no⟩:=eU (P:=λd=>2<=d/\d∣left.toNat) left.toNat ⟨by omega,Nat.dvd_refl _⟩
   have hL:Ld.eO left (m:Int):=by
    refine⟨by omega,?_,λd d2 dm hd=>?_⟩
    ·have:=Int.natCast_dvd_natCast.mpr md
     rwa [show ((left.toNat:Nat):Int)=left by omega] at this
    ·refine no d.toNat (by omega) ⟨by omega,?_⟩
     refine Int.natCast_dvd_natCast.mp ?_
     rwa [show ((left.toNat:Nat):Int)=left by omega,show ((d.toNat:Nat):Int)=d by omega]
   obtain⟨k,lf,e,lf1,nd,lfl⟩:=kS (r:=(m:Int)) (by omega) left.toNat left l1 (Nat.le_refl _)
   have k1:1<=k:=by
    cases k with
    | zero=>rw [Int.pow_zero,Int.one_mul] at e;exact absurd (e▸hL.dv) nd
    | succ k=>omega
   have lt:lf<left:=by
    rcases (by omega:lf<left∨lf=left) with y | y
    ·exact y
    ·exact absurd (y▸hL.dv) nd
   exact nW hn f _ lf _ (w.step hn z hL e lf1 k1 nd) (by omega)
theorem vS {n:Int} (h:1<=n) (hn:n<=10^9):∃ ps,Part n ps:=nW hn n.toNat [] n 2 (.start h) (Nat.le_refl _)
end Num
namespace K
open PySem PySem.Spec PyProof.Rows L2
section
variable {P:Program} {w:World} {K:PySem.W.Frag} {mg:Str->Option Value} {base:Heap} {C:Addr}
theorem lx:∀{ps:List (Int × Int)} {y:Int × Int},y∈ps->y.1.toNat^y.2.toNat∣Num.eN ps
 | p::r,y,h=>by
  show _∣p.1.toNat^p.2.toNat*Num.eN r
  rcases List.mem_cons.mp h with rfl | h
  ·exact Nat.dvd_mul_right _ _
  ·exact Nat.dvd_trans (lx h) (Nat.dvd_mul_left _ _)
theorem ia:∀{ps:List (Int × Int)} {y:Int × Int},(∀ z∈ps,Num.Pm z.1)->ps.Pairwise (λa b=>a.1<b.1)->y∈ps->¬y.1.toNat^(y.2.toNat+1)∣Num.eN ps
 | p::r,y,hp,hr,hy,hd=>by
  obtain⟨r1,r2⟩:=List.pairwise_cons.mp hr
  have q2:=(hp y hy).two
  replace hd:y.1.toNat^(y.2.toNat+1)∣p.1.toNat^p.2.toNat*Num.eN r:=hd
  rcases List.mem_cons.mp hy with rfl | hy'
  ·have nd:¬y.1.toNat∣Num.eN r:=Num.wK (hp y hy) (λz hz=>hp z (List.mem_cons_of_mem _ hz)) λz hz=>by have:=r1 z hz;omega
   rw [Nat.pow_succ] at hd
   exact nd (Nat.dvd_of_mul_dvd_mul_left (Nat.pow_pos (by omega)) hd)
  ·have co:=Num.sO (b:=[y]) (λz hz=>by rw [List.mem_singleton.mp hz];exact hp y hy) [p] (λz hz=>by rw [List.mem_singleton.mp hz];exact hp p (List.mem_cons_self ..)) λx hx z hz=>by
    rw [List.mem_singleton.mp hx,List.mem_singleton.mp hz]
    have:=r1 y hy'
    omega
   have e1:Num.eN [p]=p.1.toNat^p.2.toNat:=Nat.mul_one _
   have nq:=Num.mX (hp y hy)
   have co2:Nat.Coprime (y.1.toNat^(y.2.toNat+1)) (p.1.toNat^p.2.toNat):=by
    refine Num.su nq (λz=>?_) _
    have h3:(y.1:Int)∣p.1^p.2.toNat:=by
     have:=Int.natCast_dvd_natCast.mpr z
     rwa [Int.natCast_pow,show ((y.1.toNat:Nat):Int)=y.1 by omega,show ((p.1.toNat:Nat):Int)=p.1 by have:=(hp p (List.mem_cons_self ..)).two;omega] at this
    have:=Num.oZ (hp p (List.mem_cons_self ..)) (hp y hy) _ h3
    have:=r1 y hy'
    omega
   exact ia (λz hz=>hp z (List.mem_cons_of_mem _ hz)) r2 hy' (co2.dvd_of_dvd_mul_left hd)
def dS (x:Nat) (y:Int × Int):PyData:=.tuple [.int y.1,.tuple (((Num.eR x y.1.toNat y.2.toNat).map λd:Nat=>(d:Int)).map PyData.int)]
def pC (x e:Nat) (ps:List (Int × Int)):PyData:=.tuple [.int x,.tuple [.str "is",.int e,.tuple (ps.map (dS x))]]
def asc:Nat->Nat->Nat
 | _,0=>1
 | lo,n+1=>lo*asc (lo+1) n
theorem ny:∀{ps:List (Int × Int)} {lo:Nat},(∀ y∈ps,(lo:Int)<=y.1/\2<=y.1/\1<=y.2)->ps.Pairwise (λa b=>a.1<b.1)->asc lo ps.length<=Num.eN ps
 | [],_,_,_=>Nat.le_refl _
 | p::r,lo,h,hr=>by
  obtain⟨h1,h2,h3⟩:=h p (List.mem_cons_self ..)
  obtain⟨r1,r2⟩:=List.pairwise_cons.mp hr
  show lo*asc (lo+1) r.length<=p.1.toNat^p.2.toNat*Num.eN r
  refine Nat.mul_le_mul ?_ (ny (λy hy=>?_) r2)
  ·exact Nat.le_trans (show lo<=p.1.toNat by omega) (Nat.le_self_pow (by omega) _)
  ·have:=h y (List.mem_cons_of_mem _ hy)
   have:=r1 y hy
   omega
theorem mx:∀(n:Nat) {m lo:Nat},0<lo->n<=m->asc lo n<=asc lo m
 | 0,m,lo,l0,_=>by
  have:∀(m lo:Nat),0<lo->1<=asc lo m:=by
   intro m
   induction m with
   | zero=>intro _ _;exact Nat.le_refl _
   | succ m ih=>intro lo l0;exact Nat.mul_pos l0 (ih (lo+1) (by omega))
  exact this m lo l0
 | n+1,0,_,_,h=>absurd h (by omega)
 | n+1,m+1,lo,l0,h=>Nat.mul_le_mul_left lo (mx n (by omega) (by omega))
theorem hZ {e:Nat} {ps:List (Int × Int)} (h:Num.Part e ps) (e9:e<=10^9):ps.length<=12:=by
 have h1:=ny (lo:=2) (λy hy=>⟨(h.ok y hy).1.two,(h.ok y hy).1.two,(h.ok y hy).2.1⟩) h.rise
 have h2:Num.eN ps=e:=by
  have:=Num.fX ps λy hy=>(h.ok y hy).1
  rw [h.prod] at this
  omega
 rcases Nat.lt_or_ge 12 ps.length with z | z
 ·have h3:asc 2 13<=asc 2 ps.length:=mx 13 (by decide) z
  exact absurd (Nat.le_trans h3 (Nat.le_trans h1 (by rw [h2];exact e9))) (by decide)
 ·exact z
def m9 (e:Nat) (r:Int):PyData:=.tuple [.none,.tuple [.str "none",.int e,.int r]]
theorem xh {p b:Int} {e:Nat} (pm:Num.Pm p) (o:Num.Ord p b e):(e:Int)∣p-1/\(e:Int)<p:=by
 have p2:=pm.two
 have h:=o.dv _ (Num.jx pm (pm.unit o.co))
 have h1:(e:Int)∣p-1:=by
  have:=Int.natCast_dvd_natCast.mpr h
  rwa [show (((p-1).toNat:Nat):Int)=p-1 by omega] at this
 exact⟨h1,by have:=Int.le_of_dvd (by omega) h1;omega⟩
structure r8 (p g:Int) (ps:List (Int × Int)) (ds:Nat->PyData):Prop where
 pm:Num.Pm p
 p9:p<=10^9
 hP:Num.Part (p-1) ps
 l29:ps.length<=29
 hds:∀ i q k,ps[i]?=some (q,k)->Num.gR q (ds i)
 g1:1<=g
 gp:g<p
 o:Num.Ord p g (p-1).toNat
 sm:i8 (.tuple [.int p,.int g,.tuple (Num.rowsOf ps ds)])
 sz:bJ (.tuple [.int p,.int g,.tuple (Num.rowsOf ps ds)])<=10^6
def ur (K:PySem.W.Frag):Sp:=λvs H Q _=>∃ x q e t:Nat,vs=[.int e,.int q,.int x]/\2<=q/\q<=10^60/\1<=e/\q^t∣e/\¬q^(t+1)∣e/\t<=1000/\∀ p H',aE H H'->aJ K H' p ((Num.eR x q t).map λd=>V.int (d:Nat))->Q (.ref p) H'
theorem iw:aC ["e","q","x","found","left","number"] ["e","q","x"] (ao (top 33)):=dW
theorem qj (D:aA K mg "digits_by" (top 33)) (n_tuple:mg "tuple"=none):Callee P w K mg base aQ 1 "digits_by" ["e","q","x"] (ur K):=by
 refine cO D iw (λf cdv A outer s H vs Q E hr h=>?_)
 obtain⟨x,q',e,t,rfl,q2,q9,e1,dt,nt,t9,q⟩:=h
 have nd:=iw.nd
 refine⟨_,(ag (cu (i:=3) nd (bo ae)) (ag (cu (i:=4) nd (pv 0)) (ag (cu (i:=5) nd (pv 2)) (ag (bE PassesOwn.never (aw bj (aq aM (pv 4) (pv 1)) ah (ar _)) (ag (gi (jF PySem.F.plainAttrs_list PySem.F.slot_list_append PySem.F.type_list_append eV (pv 3) (aa (aq aM (pv 5) (pv 1)) ae))) (ag (fw (i:=4) nd rfl (Or.inl rfl) (pv 1) (gZ fH)) (aj (fw (i:=5) nd rfl (Or.inl rfl) (pv 1) (gZ fH)))))) (aj (aB (cq cR rfl n_tuple L2.boot_tuple (aa (pv 3) ae)))))))),?_⟩
 show cf _ _ _ [some (.int (e:Int)),some (.int (q':Int)),some (.int (x:Int)),none,none,none] H
 k_data
 refine⟨by decide,λp0 hp0=>?_⟩
 refine bF (α:=Nat) (λi=>[some (.int (e:Int)),some (.int (q':Int)),some (.int (x:Int)),some (.ref p0),some (.int ((e/q'^i:Nat):Int)),some (.int ((x/q'^i:Nat):Int))]) (λi H1=>aE H H1/\i<=t/\H1 p0=some (.lst ((Num.eR x q' i).map λd:Nat=>V.int (d:Int)))) (λi=>t+1-i) 0 (by rw [Nat.pow_zero,Nat.div_one,Nat.div_one]) ⟨ai hp0,Nat.zero_le _,af⟩ ?_
 rintro i H1 ⟨s1,it,ha⟩
 replace it:i<=t:=it
 k_data
 have di:q'^i∣e:=Nat.dvd_trans (Nat.pow_dvd_pow q' it) dt
 obtain⟨f0,hf⟩:=di
 have qi:0<q'^i:=Nat.pow_pos (by omega)
 have ef:e/q'^i=f0:=by rw [hf];exact Nat.mul_div_cancel_left f0 qi
 have key:(((e/q'^i:Nat):Int)%(q':Int)=0)↔i<t:=by
  rw [<- Int.natCast_emod,ef]
  constructor
  ·intro z
   have z':f0%q'=0:=by omega
   rcases (by omega:i<t∨i=t) with h | h
   ·exact h
   ·subst h
    obtain⟨c,hc⟩:=Nat.dvd_of_mod_eq_zero z'
    exact absurd ⟨c,by rw [Nat.pow_succ,hf,hc,Nat.mul_assoc]⟩ nt
  ·intro h
   obtain⟨c,hc⟩:=Nat.dvd_trans (Nat.pow_dvd_pow q' h) dt
   have:f0=q'*c:=by
    rw [hf,Nat.pow_succ,Nat.mul_assoc] at hc
    exact Nat.eq_of_mul_eq_mul_left qi hc
   rw [this,Nat.mul_mod_right]
   rfl
 have dl:=Num.eS (x:=x) (q:=q') (n:=i)
 refine⟨by omega,aL (λc=>?_) (λc=>?_)⟩
 ·have lt:=key.mp c
  refine⟨_,λ_ _ z=>z,.inl ⟨rfl,_,aV.of ha⟩,by omega,p0,_,_,rfl,rfl,ha,by rw [List.length_map,dl];exact Nat.lt_of_le_of_lt (show i<=1000 by omega) (by decide),by omega,Bd.of (by omega) (by omega),by omega,Bd.of (by omega) (by omega),i+1,?_,s1.upd hp0,lt,?_,by show t+1-(i+1)<t+1-i;omega⟩
  ·show _=[_,_,_,_,some (V.int ((e/q'^(i+1):Nat):Int)),some (V.int ((x/q'^(i+1):Nat):Int))]
   rw [Nat.pow_succ,<- Nat.div_div_eq_div_mul,<- Nat.div_div_eq_div_mul,Int.natCast_ediv (x/q'^i),Int.natCast_ediv (e/q'^i)]
  ·rw [af,Num.kr,List.map_append,<- Int.natCast_emod]
   rfl
 ·have:i=t:=by have:=mt key.mpr c;omega
  subst this
  refine⟨_,.inl ⟨aV.of ha,λp1 hp1=>?_⟩⟩
  exact q p1 _ (s1.trans (ai hp1)) (aJ.of af)
def tq (pl:List (Int × Int)) (q:Int):Int:=((pl.find? λy=>decide (y.1=q)).map (·.2)).getD 0
theorem uG:∀{pl:List (Int × Int)} {y:Int × Int},pl.Pairwise (λa b=>a.1<b.1)->y∈pl->tq pl y.1=y.2
 | z::r,y,h,hy=>by
  obtain⟨h1,h2⟩:=List.pairwise_cons.mp h
  rcases List.mem_cons.mp hy with rfl | hy'
  ·unfold tq
   rw [List.find?_cons_of_pos (by simp)]
   rfl
  ·have:=h1 y hy'
   have e:tq (z::r) y.1=tq r y.1:=by
    unfold tq
    rw [List.find?_cons_of_neg (by simp;omega)]
   rw [e]
   exact uG h2 hy'
theorem v9 {pl:List (Int × Int)} {x:Nat} (h:pl.Pairwise (λa b=>a.1<b.1)):pl.map (dS x)=(pl.map (·.1)).map λq=>dS x (q,tq pl q):=by
 rw [List.map_map]
 refine List.map_congr_left λy hy=>?_
 show dS x y=dS x (y.1,tq pl y.1)
 rw [uG h hy]
def pF (K:PySem.W.Frag):Sp:=λvs H Q _=>∃(v:V) (p g:Int) (ps pl:List (Int × Int)) (ds:Nat->PyData) (x e:Nat),vs=[v,.int e,.int x]/\dv K H (.tuple [.int p,.int g,.tuple (Num.rowsOf ps ds)]) v/\r8 p g ps ds/\1<=e/\(e:Int)∣p-1/\e<=10^9/\Num.Part e pl/\pl.length<=12/\∀ u H',aE H H'->dv K H' (.tuple (pl.map (dS x))) u->Q u H'
theorem gH:aC ["paper","e","x"] ["paper","e","x"] (ao (top 32)):=dW
theorem qr (D:aA K mg "digit_rows" (top 32)) (c_digits_by:Callee P w K mg base aQ 1 "digits_by" ["e","q","x"] (ur K)) (c_primes_in:Callee P w K mg base aQ 1 "primes_in" ["parts"] (dA K)) (n_tuple:mg "tuple"=none):Callee P w K mg base aQ 2 "digit_rows" ["paper","e","x"] (pF K):=by
 refine cO D gH (λf cdv A outer s H vs Q E hr h=>?_)
 obtain⟨v,p,g,ps,pl,ds,x,e,rfl,hd,R,e1,ed,e9,hpl,few,q⟩:=h
 have nd:=gH.nd
 refine⟨_,(aj (aB (cq cR rfl n_tuple L2.boot_tuple (aa (gE rfl (uQ (N':=["q","e","x"]) (js:=[none,some 1,some 2]) rfl rfl) (gh (bU c_primes_in hr ay (aa (aO aS (pv 0) ah (λ_ _=>rfl)) ae))) (λ_ _ _ _=>(aH (i:=0) (show List.Nodup [("q":Str),("e":Str),("x":Str)] from by decide +kernel) rfl (Or.inl rfl) (.inr rfl))) (λ_ _ _ _=>(nB (aw bj (aq aM (pv 1) (pv 0)) ah (ar _)))) (λ_ _ _ _=>(ax (aa (pv 0) (aa (bU c_digits_by hr ay (aa (pv 1) (aa (pv 0) (aa (pv 2) ae)))) ae))))) ae)))),?_⟩
 show iC _ _ [some v,some (.int (e:Int)),some (.int (x:Int))] H
 obtain⟨pp,y1,y2,vr,rfl,tS,e0,eg,dr⟩:=lj hd
 cases e0
 cases eg
 k_data
 refine cY tS rfl ⟨_,_,ps.map (·.1),rfl,dr,gY R.hds,by rw [Num.c5];exact Nat.le_trans R.l29 (by decide),λl H1 s1 fl el=>⟨l,rfl,⟨_,aV.of el⟩,?_⟩⟩
 have eE:Num.eN pl=e:=by
  have:=Num.fX pl λy hy=>(hpl.ok y hy).1
  rw [hpl.prod] at this
  omega
 have qlen:∀ i,(jL (ps.take i) e).length<=i:=λi=>by
  unfold jL
  exact Nat.le_trans (List.length_filter_le _ _) (by rw [List.length_map,List.length_take];omega)
 refine dk (xs:=(ps.map (·.1)).map V.int) (λi zs H5=>aE H1 H5/\bh K H5 ((jL (ps.take i) e).map λq=>dS x (q,tq pl q)) zs) ⟨aE.refl _,rfl⟩ (by rw [List.length_map,List.length_map];exact Nat.le_trans R.l29 (by decide)) (λi zs H5 hi ⟨z1,z2⟩=>⟨aV.of (z1 _ _ el),by rw [z2.length,List.length_map];exact qlen i⟩) ?_ ?_
 ·rintro i w' zs H5 hx ⟨s5,hz⟩
  rw [List.getElem?_map,List.getElem?_map] at hx
  obtain⟨q',hx1,rfl⟩:=Option.map_eq_some_iff.mp hx
  obtain⟨⟨q'',k'⟩,hy,rfl⟩:=Option.map_eq_some_iff.mp hx1
  have pq:=(R.hP.ok _ (List.mem_of_getElem? hy)).1
  replace pq:Num.Pm q'':=pq
  have q2:=pq.two
  have et:ps.take (i+1)=ps.take i++[(q'',k')]:=by rw [List.take_add_one,hy];rfl
  show eT 0 _ [none,some (.int (e:Int)),some (.int (x:Int))] _ _
  k_data
  refine⟨⟨rfl,rfl,True.intro⟩,by omega,aL (λc=>?_) (λc=>?_)⟩
  ·obtain⟨y,hy1,ey⟩:=Num.cS pq (λz hz=>(hpl.ok z hz).1) (by rw [hpl.prod];exact Int.dvd_of_emod_eq_zero c)
   obtain⟨_,t1,t9⟩:=hpl.ok y hy1
   have dE:=lx hy1
   have nE:=ia (λz hz=>(hpl.ok z hz).1) hpl.rise hy1
   have qe:=Int.le_of_dvd (by omega) (Int.dvd_of_emod_eq_zero c)
   rw [eE,ey] at dE nE
   have tt:=uG hpl.rise hy1
   rw [ey] at tt
   obtain⟨qn,rfl⟩:∃ n:Nat,q''=n:=⟨q''.toNat,by omega⟩
   obtain⟨tn,htn⟩:∃ n:Nat,y.2=n:=⟨y.2.toNat,by omega⟩
   rw [htn] at dE nE tt t9
   replace dE:qn^tn∣e:=dE
   replace nE:¬qn^(tn+1)∣e:=nE
   refine⟨x,qn,e,tn,rfl,by omega,by omega,by omega,dE,nE,by omega,λpd H6 s6 hSd=>⟨by show 2<=sizeLine;decide,λp7 hp7=>?_⟩⟩
   have s7:=ai (o:=.tup [V.int (qn:Int),V.ref pd]) hp7
   refine⟨(s5.trans s6).trans s7,?_⟩
   have eq1:jL (ps.take (i+1)) e=jL (ps.take i) e++[(qn:Int)]:=by
    rw [et]
    unfold jL
    rw [List.map_append,List.filter_append]
    simp [c]
   rw [eq1,List.map_append]
   refine bh.append (bh.same (s6.trans s7) _ hz) (.one ?_)
   show dv K _ (dS x ((qn:Int),tq pl (qn:Int))) _
   rw [tt]
   refine dv.tup af ⟨_,_,rfl,rfl,.one ⟨pd,_,rfl,hSd.same s7,?_⟩⟩
   have:=bh.ints (K:=K) (H:=upd H6 p7 (.tup [V.int (qn:Int),V.ref pd])) ((Num.eR x qn tn).map λd:Nat=>(d:Int))
   rw [List.map_map (f:=λd:Nat=>(d:Int)) (g:=V.int)] at this
   exact this
  ·refine⟨s5,?_⟩
   have eq1:jL (ps.take (i+1)) e=jL (ps.take i) e:=by
    rw [et]
    unfold jL
    rw [List.map_append,List.filter_append]
    simp [c]
   rw [eq1]
   exact hz
 ·rintro zs H5 p5 ⟨s5,hz⟩ hp5
  rw [List.length_map,List.length_map,List.take_length,rN R.hP hpl ed,<- v9 hpl.rise] at hz
  have s6:=ai (o:=.lst zs) hp5
  refine⟨p5,rfl,zs,.inl ⟨aV.of af,λpt hpt=>?_⟩⟩
  have s7:=ai (o:=.tup zs) hpt
  exact q _ _ (s1.trans (s5.trans (s6.trans s7))) (dv.tup af (bh.same (s6.trans s7) _ hz))
theorem l5:∀{L:Nat} {ds:List PyData},(∀ d∈ds,rD L d)->pB L ds
 | L,[],_=>by simp only [pB]
 | L,d::ds,h=>by
  simp only [pB]
  exact⟨h d (List.mem_cons_self ..),l5 λe z=>h e (List.mem_cons_of_mem _ z)⟩
theorem zY {x e:Nat} {pl:List (Int × Int)} (hpl:Num.Part e pl) (few:pl.length<=12):rD 7 (.tuple [.str "is",.int e,.tuple (pl.map (dS x))]):=by
 have cs:PyData.canLay0 (.str "is")=true:=by decide +kernel
 have hrow:pB 5 (pl.map (dS x)):=l5 λd hd=>by
  obtain⟨y,hy,rfl⟩:=List.mem_map.mp hd
  have t30:=(hpl.ok y hy).2.2
  have hin:pB 3 (((Num.eR x y.1.toNat y.2.toNat).map λd:Nat=>(d:Int)).map PyData.int):=l5 λd hd=>by
   obtain⟨i,_,rfl⟩:=List.mem_map.mp hd
   simp [rD]
  have hl:(Num.eR x y.1.toNat y.2.toNat).length<=10^6:=by rw [Num.eS];omega
  simp only [dS,rD,pB,List.length_cons,List.length_nil,List.length_map,and_true,true_and]
  exact⟨by decide,hl,hin⟩
 simp only [rD,pB,List.length_cons,List.length_nil,List.length_map,and_true,true_and]
 exact⟨by decide,cs,by omega,hrow⟩
def bI (d:PyData):Prop:=∀ i:Int,d=.int i -> -(10^99)<=i/\i<=10^99
def qG (K:PySem.W.Frag):Sp:=λvs H Q _=>∃(t:Addr) (x1 x2:V) (d1 d2:PyData),vs=[.ref t]/\aJ K H t [x1,x2]/\dv K H d1 x1/\dv K H d2 x2/\Q (.bl (mS d1 && mS d2)) H
theorem jS:aC ["thing"] ["thing"] (ao (top 12)):=dW
theorem nc (D:aA K mg "is_pair" (top 12)) (c_is_tuple_of:Callee P w K mg base aQ 1 "is_tuple_of" ["thing","many"] (kQ K)) (c_is_whole:Callee P w K mg base aQ 1 "is_whole" ["thing"] (yP K)):Callee P w K mg base aQ 2 "is_pair" ["thing"] (qG K):=by
 refine cO D jS (λf cdv A outer s H vs Q E hr h=>?_)
 obtain⟨t,x1,x2,d1,d2,rfl,hS,h1,h2,q⟩:=h
 have nd:=jS.nd
 refine⟨_,(aj (aB (bG (bU c_is_tuple_of hr ay (aa (pv 0) (aa ah ae))) (bG (bU c_is_whole hr ay (aa (aO aS (pv 0) ah (λ_ _=>rfl)) ae)) (cj (bU c_is_whole hr ay (aa (aO aS (pv 0) ah (λ_ _=>rfl)) ae))))))),?_⟩
 show iC _ _ [some (.ref t)] H
 k_data
 refine⟨.tuple [d1,d2],_,2,rfl,⟨t,_,rfl,hS,_,_,rfl,h1,.one h2⟩,⟨true,rfl,?_⟩⟩
 rw [if_pos rfl]
 refine cY hS nX ⟨d1,_,rfl,h1,_,rfl,?_⟩
 cases c:mS d1 with
 | false =>
  rw [c] at q
  rw [if_neg (by decide)]
  exact q
 | true =>
  rw [c] at q
  rw [if_pos rfl]
  exact cY hS wH ⟨d2,_,rfl,h2,q⟩
def gN (K:PySem.W.Frag):Sp:=λvs H Q _=>∃(v:V) (t:Addr) (x1 x2:V) (d1 d2:PyData) (p g b a:Int) (ps:List (Int × Int)) (ds:Nat->PyData),vs=[v,.int b,.int a,.ref t]/\dv K H (.tuple [.int p,.int g,.tuple (Num.rowsOf ps ds)]) v/\r8 p g ps ds/\aJ K H t [x1,x2]/\dv K H d1 x1/\dv K H d2 x2/\bI d1/\bI d2 /\
 ∀ bb H',(bb=true↔∃ e x:Nat,d1=.int e/\d2=.int x/\Num.Ord p b e/\x<e/\Num.Al p a (b^x))->aE H H'->Q (.bl bb) H'
theorem iX:aC ["paper","b","a","place","p","e","x"] ["paper","b","a","place"] (ao (top 31)):=dW
theorem iR {C0:Addr} (D:aA K mg "is_which" (top 31)) (c_is_pair:Callee P w K mg base aQ 2 "is_pair" ["thing"] (qG K)) (c_is_order:Callee P w K mg base aQ 6 "is_order" ["paper","a","e"] (iM K)) (c_power:Callee P w K mg base (gq P w) 4 "power" ["n","a","e"] (jk C0)):Callee P w K mg base aQ 7 "is_which" ["paper","b","a","place"] (gN K):=by
 refine cO D iX (λf cdv A outer s H vs Q E hr h=>?_)
 obtain⟨v,t,x1,x2,d1,d2,p,g,b,a,ps,ds,rfl,hd,R,hS,h1,h2,i1,i2,q⟩:=h
 have p2:=R.pm.two
 have p9:=R.p9
 have nd:=iX.nd
 refine⟨_,(ag (aP (dO (PW.pt (df (aR (bU c_is_pair hr ay (aa (pv 3) ae)) (λ_=>rfl)) (dB (aR (bU c_is_order hr ay (aa (pv 0) (aa (pv 1) (aa (aO aS (pv 3) ah (λ_ _=>rfl)) ae)))) (λ_=>rfl)))))) (aj (aB cP)) aD) (ag (cu (i:=4) nd (aO aS (pv 0) ah (λ_ _=>rfl))) (ag (dZ (pv 3) (dN (n:=2) rfl (aI (aH (i:=5) nd rfl (Or.inl rfl) (.inr rfl)) (aI (aH (i:=6) nd rfl (Or.inl rfl) (.inr rfl)) cG)))) (aj (aB (bG (nA nk fE ah (pv 6) (pv 5)) (cj (bC bj (bU c_power hr cK (aa (pv 4) (aa (pv 1) (aa (pv 6) ae)))) (aq aM (pv 2) (pv 4)) (ar _))))))))),?_⟩
 show cf _ _ _ [some v,some (.int b),some (.int a),some (.ref t),none,none,none] H
 obtain⟨pp,y1,y2,vr,rfl,tS,e0,eg,dr⟩:=lj hd
 cases e0
 cases eg
 k_data
 refine⟨t,_,_,_,_,rfl,hS,h1,h2,_,aN.mpr rfl,?_⟩
 cases c:mS d1 && mS d2 with
 | false =>
  rw [if_neg (by decide)]
  refine q false H ⟨nofun,fun⟨e,x,z1,z2,_⟩=>?_⟩ (aE.refl _)
  rw [z1,z2] at c
  cases c
 | true =>
  rw [if_pos rfl]
  obtain⟨c1,c2⟩:=Bool.and_eq_true_iff.mp c
  obtain⟨e,rfl⟩:=fY c1
  obtain⟨x,rfl⟩:=fY c2
  cases h1
  cases h2
  obtain⟨e0,e1⟩:=i1 e rfl
  obtain⟨x0,x1⟩:=i2 x rfl
  refine cY hS nX ⟨.ref pp,p,b,e,.int g,_,ps,rfl,hd,gY R.hds,R.pm,R.hP,by omega,Nat.le_trans R.l29 (by decide),by omega,by omega,λbb H1 hb s1=>⟨_,aN.mpr rfl,?_⟩⟩
  cases bb with
  | false =>
   rw [if_pos (by rfl)]
   refine q false H1 ⟨nofun,fun⟨e',x',z1,z2,o,_⟩=>?_⟩ s1
   cases z1
   have:=hb.mpr ⟨by have:=o.pos;omega,by rw [Int.toNat_natCast];exact o⟩
   cases this
  | true =>
   rw [if_neg (by decide)]
   obtain⟨e1',o⟩:=hb.mp rfl
   obtain⟨en,rfl⟩:∃ n:Nat,e=n:=⟨e.toNat,by omega⟩
   rw [Int.toNat_natCast] at o
   refine cY (tS.same s1) nX ⟨t,_,rfl,hS.same s1,rfl,?_⟩
   k_data
   unfold pH
   k_data
   by_cases c3:0<=x
   ·rw [if_pos c3]
    by_cases c4:x<en
    ·rw [if_pos c4]
     obtain⟨xn,rfl⟩:∃ n:Nat,x=n:=⟨x.toNat,by omega⟩
     refine⟨p,b,_,rfl,by omega,by omega,λ_ H2 s2=>⟨by omega,rfl,?_⟩,λz=>absurd z (by omega)⟩
     rw [Int.toNat_natCast]
     refine q _ H2 ?_ (s1.trans s2)
     rw [decide_eq_true_iff]
     constructor
     ·intro z
      exact⟨en,xn,rfl,rfl,o,by omega,(Num.Al.iff.mpr (V.int.inj z)).symm⟩
     ·rintro⟨e',x',z1,z2,o',_,al⟩
      have z2':xn=x':=by injection z2 with h;omega
      subst z2'
      exact congrArg V.int (Num.Al.iff.mp al.symm)
    ·rw [if_neg c4]
     refine q false H1 ⟨nofun,fun⟨e',x',z1,z2,_,xe,_⟩=>?_⟩ s1
     injection z1 with z1
     injection z2 with z2
     omega
   ·rw [if_neg c3]
    refine q false H1 ⟨nofun,fun⟨e',x',z1,z2,_,xe,_⟩=>?_⟩ s1
    injection z2 with z2
    omega
def kf (p b a:Int) (d:PyData):Prop:=∃ e:Nat,Num.Ord p b e/\((¬Num.Al p (a^e) 1/\d=m9 e (a^e%p))∨∃ x pl,x<e/\Num.Al p a (b^x)/\Num.Part e pl/\d=pC x e pl)
def gP (K:PySem.W.Frag):Sp:=λvs H Q _=>∃(v u:V) (s0 de s2:PyData) (p g b a:Int) (ps:List (Int × Int)) (ds:Nat->PyData),vs=[v,.int b,.int a,u]/\dv K H (.tuple [.int p,.int g,.tuple (Num.rowsOf ps ds)]) v/\r8 p g ps ds/\dv K H (.tuple [s0,de,s2]) u/\PyData.canLay0 (.tuple [s0,de,s2])=true/\bI de /\
 ∀ bb H',(bb=true↔¬p∣a/\∃ e:Nat,Num.Ord p b e/\¬Num.Al p (a^e) 1/\PyData.tuple [s0,de,s2]=.tuple [.str "none",.int e,.int (a^e%p)])->aE H H'->Q (.bl bb) H'
theorem eF:aC ["paper","b","a","shown","p","e","rest"] ["paper","b","a","shown"] (ao (top 30)):=dW
theorem iT {C0:Addr} (D:aA K mg "shows_no_power" (top 30)) (c_is_whole:Callee P w K mg base aQ 1 "is_whole" ["thing"] (yP K)) (c_is_order:Callee P w K mg base aQ 6 "is_order" ["paper","a","e"] (iM K)) (c_power:Callee P w K mg base (gq P w) 4 "power" ["n","a","e"] (jk C0)) (c_is_just:Callee P w K mg base aQ 15 "is_just" ["thing","right"] (gO K 7)):Callee P w K mg base aQ 16 "shows_no_power" ["paper","b","a","shown"] (gP K):=by
 refine cO D eF (λf cdv A outer s H vs Q E hr h=>?_)
 obtain⟨v,u,s0,de,s2,p,g,b,a,ps,ds,rfl,hd,R,hu,lay,ie,q⟩:=h
 have p2:=R.pm.two
 have p9:=R.p9
 have nd:=eF.nd
 refine⟨_,(ag (cu (i:=4) nd (aO aS (pv 0) ah (λ_ _=>rfl))) (ag (cu (i:=5) nd (aO aS (pv 3) ah (λ_ _=>rfl))) (ag (aP (PW.pt (jK (aw bj (aq aM (pv 2) (pv 4)) ah (ar _)) (iL (dO (PW.pt (df (aR (bU c_is_whole hr ay (aa (pv 5) ae)) (λ_=>rfl)) (dB (aR (bU c_is_order hr ay (aa (pv 0) (aa (pv 1) (aa (pv 5) ae)))) (λ_=>rfl))))))))) (aj (aB cP)) aD) (ag (cu (i:=6) nd (bU c_power hr cK (aa (pv 4) (aa (pv 2) (aa (pv 5) ae))))) (aj (aB (bG (bC kI (pv 6) ah (ar _)) (cj (bU c_is_just hr ay (aa (pv 3) (aa (ax (aa ba (aa (pv 5) (aa (pv 6) ae)))) ae))))))))))),?_⟩
 show cf _ _ _ [some v,some (.int b),some (.int a),some u,none,none,none] H
 obtain⟨pp,y1,y2,vr,rfl,tS,e0,eg,dr⟩:=lj hd
 cases e0
 cases eg
 obtain⟨pu,z1,z2,z3,rfl,tU,u0,u1,u2⟩:=lj hu
 k_data
 refine cY tS nX (cY tU wH ⟨p,rfl,by omega,?_⟩)
 refine aL (λc0=>q false H ⟨nofun,λz=>absurd (Int.dvd_of_emod_eq_zero c0) z.1⟩ (aE.refl _)) (λc0=>?_)
 have na:¬p∣a:=λz=>c0 (Int.emod_eq_zero_of_dvd z)
 refine⟨de,_,rfl,u1,_,aN.mpr rfl,?_⟩
 cases c:mS de with
 | false =>
  rw [if_neg (by decide)]
  refine q false H ⟨nofun,fun⟨_,e,_,_,z⟩=>?_⟩ (aE.refl _)
  injection z with z
  injection z with _ z
  injection z with z
  rw [z] at c
  cases c
 | true =>
  rw [if_pos rfl]
  obtain⟨e,rfl⟩:=fY c
  cases u1
  obtain⟨e0,e1⟩:=ie e rfl
  refine⟨.ref pp,p,b,e,.int g,_,ps,rfl,hd,gY R.hds,R.pm,R.hP,by omega,Nat.le_trans R.l29 (by decide),by omega,by omega,λbb H1 hb s1=>⟨_,aN.mpr rfl,?_⟩⟩
  cases bb with
  | false =>
   rw [if_pos (by rfl)]
   refine q false H1 ⟨nofun,fun⟨_,e',o,_,z⟩=>?_⟩ s1
   injection z with z
   injection z with _ z
   injection z with z
   injection z with z
   have:=hb.mpr ⟨by have:=o.pos;omega,by rw [z,Int.toNat_natCast];exact o⟩
   cases this
  | true =>
   rw [if_neg (by decide)]
   obtain⟨e1',o⟩:=hb.mp rfl
   obtain⟨en,rfl⟩:∃ n:Nat,e=n:=⟨e.toNat,by omega⟩
   rw [Int.toNat_natCast] at o
   refine⟨p,a,_,rfl,by omega,by omega,λ_ H2 s2'=>?_,λz=>absurd z (by omega)⟩
   rw [Int.toNat_natCast]
   refine⟨rfl,aL (λc1=>?_) (λc1=>?_)⟩
   ·have n1:¬Num.Al p (a^en) 1:=λz=>c1 (congrArg V.int ((dJ p2).mpr z))
    refine⟨by show 3<=sizeLine;decide,λp3 hp3=>?_⟩
    have s3:=ai (o:=.tup [V.str "none",V.int (en:Int),V.int (a^en%p)]) hp3
    refine⟨_,_,.tuple [s0,.int en,s2],.tuple [.str "none",.int en,.int (a^en%p)],rfl,dv.same (s1.trans (s2'.trans s3)) _ hu,dv.tup af ⟨_,_,rfl,rfl,_,_,rfl,rfl,.one rfl⟩,lay,?_,λb' H' hb' s'=>?_⟩
    ·simp only [rD,pB,List.length_cons,List.length_nil,and_true]
     exact⟨by decide,by decide +kernel⟩
    ·refine q b' H' ?_ ((s1.trans (s2'.trans s3)).trans s')
     rw [hb']
     constructor
     ·intro z
      exact⟨na,en,o,n1,z⟩
     ·rintro⟨_,e',o',_,z⟩
      rw [z,o.lM o']
   ·have a1:Num.Al p (a^en) 1:=(dJ p2).mp (V.int.inj (Classical.not_not.mp c1))
    refine q false H2 ⟨nofun,fun⟨_,e',o',n1,_⟩=>?_⟩ (s1.trans s2')
    rw [o'.lM o] at n1
    exact absurd a1 n1
theorem u5 {H:Hp} {d1 d2:PyData} {v:V} (h:dv K H (.tuple [d1,d2]) v):∃ p x1 x2,v=.ref p/\aJ K H p [x1,x2]/\dv K H d1 x1/\dv K H d2 x2:=by
 obtain⟨p,xs,rfl,h1,x1,r1,rfl,e1,x2,r2,rfl,e2,z⟩:=h
 cases z
 exact⟨p,x1,x2,rfl,h1,e1,e2⟩
theorem xU {H:Hp} {d:PyData} (h:dv K H d .bw):d=.none:=by
 cases d with
 | none=>rfl
 | tuple ds=>obtain⟨p,xs,z,_⟩:=h;cases z
 | list ds=>obtain⟨p,xs,z,_⟩:=h;cases z
 | dict ds=>exact h.elim
 | _=>cases h
theorem ku {p b a:Int} {d:PyData} (h:kf p b a d):∃ dx s0 de s2,d=.tuple [dx,.tuple [s0,de,s2]]:=by
 obtain⟨e,_,⟨_,rfl⟩|⟨x,pl,_,_,_,rfl⟩⟩:=h
 ·exact⟨_,_,_,_,rfl⟩
 ·exact⟨_,_,_,_,rfl⟩
theorem AZ {p b a:Int} {e x:Nat} (pm:Num.Pm p) (o:Num.Ord p b e) (al:Num.Al p a (b^x)) (na:p∣a):False:=by
 have nb:¬p∣b:=pm.unit o.co
 have h1:p∣b^x:=by
  have:=Int.dvd_sub na al
  rwa [show a-(a-b^x)=b^x by omega] at this
 clear al
 induction x with
 | zero =>
  rw [Int.pow_zero] at h1
  have:=Int.le_of_dvd (by decide) h1
  have:=pm.two
  omega
 | succ k ih =>
  rw [Int.pow_succ,Int.mul_comm] at h1
  exact ih (pm.or h1 nb)
theorem Bp {d:PyData} (h:dP d 2=true):∃ d1 d2,d=.tuple [d1,d2]:=by
 cases d with
 | tuple ds =>
  match ds,h with
  | [d1,d2],_=>exact⟨d1,d2,rfl⟩
  | [],h=>exact absurd h (by decide)
  | [_],h=>exact absurd h (by simp [dP])
  | _::_::_::_,h=>exact absurd h (by simp [dP])
 | _=>cases h
theorem Bq {d:PyData} (h:dP d 3=true):∃ d1 d2 d3,d=.tuple [d1,d2,d3]:=by
 cases d with
 | tuple ds =>
  match ds,h with
  | [d1,d2,d3],_=>exact⟨d1,d2,d3,rfl⟩
  | [],h=>exact absurd h (by decide)
  | [_],h=>exact absurd h (by simp [dP])
  | [_,_],h=>exact absurd h (by simp [dP])
  | _::_::_::_::_,h=>exact absurd h (by simp [dP])
 | _=>cases h
def nP (K:PySem.W.Frag):Sp:=λvs H Q _=>∃(v u:V) (d:PyData) (p g b a:Int) (ps:List (Int × Int)) (ds:Nat->PyData),vs=[v,.int b,.int a,u]/\dv K H (.tuple [.int p,.int g,.tuple (Num.rowsOf ps ds)]) v/\r8 p g ps ds/\dv K H d u/\d.canLay0=true/\(∀ dx s0 de s2,d=.tuple [dx,.tuple [s0,de,s2]]->bI dx/\bI de)/\∀ bb H',(bb=true↔¬p∣a/\kf p b a d)->aE H H'->Q (.bl bb) H'
theorem dh:aC ["paper","b","a","thing","x","shown","e"] ["paper","b","a","thing"] (ao (top 29)):=dW
theorem rH (D:aA K mg "shows_which" (top 29)) (c_is_prime_paper:Callee P w K mg base aQ 8 "is_prime_paper" ["thing"] (yO K)) (c_is_tuple_of:Callee P w K mg base aQ 1 "is_tuple_of" ["thing","many"] (kQ K)) (c_shows_no_power:Callee P w K mg base aQ 16 "shows_no_power" ["paper","b","a","shown"] (gP K)) (c_is_which:Callee P w K mg base aQ 7 "is_which" ["paper","b","a","place"] (gN K)) (c_is_just:Callee P w K mg base aQ 15 "is_just" ["thing","right"] (gO K 7)) (c_digit_rows:Callee P w K mg base aQ 2 "digit_rows" ["paper","e","x"] (pF K)):Callee P w K mg base aQ 17 "shows_which" ["paper","b","a","thing"] (nP K):=by
 refine cO D dh (λf cdv A outer s H vs Q E hr h=>?_)
 obtain⟨v,u,d,p,g,b,a,ps,ds,rfl,hd,R,hu,lay,hB,q⟩:=h
 have p2:=R.pm.two
 have p9:=R.p9
 have nd:=dh.nd
 refine⟨_,(ag (aP (dO (PW.pt (df (aR (bU c_is_prime_paper hr ay (aa (pv 0) ae)) (λ_=>rfl)) (df (aR (bU c_is_tuple_of hr ay (aa (pv 3) (aa ah ae))) (λ_=>rfl)) (dB (aR (bU c_is_tuple_of hr ay (aa (aO aS (pv 3) ah (λ_ _=>rfl)) (aa ah ae))) (λ_=>rfl))))))) (aj (aB cP)) aD) (ag (dZ (pv 3) (dN (n:=2) rfl (aI (aH (i:=4) nd rfl (Or.inl rfl) (.inr rfl)) (aI (aH (i:=5) nd rfl (Or.inl rfl) (.inr rfl)) cG)))) (ag (cu (i:=6) nd (aO aS (pv 5) ah (λ_ _=>rfl))) (ag (aP (aw tN (pv 4) dc (ar _)) (aj (aB (bU c_shows_no_power hr ay (aa (pv 0) (aa (pv 1) (aa (pv 2) (aa (pv 5) ae))))))) aD) (aj (aB (bG (bU c_is_which hr ay (aa (pv 0) (aa (pv 1) (aa (pv 2) (aa (ax (aa (pv 6) (aa (pv 4) ae))) ae))))) (cj (bU c_is_just hr ay (aa (pv 5) (aa (ax (aa ba (aa (pv 6) (aa (bU c_digit_rows hr ay (aa (pv 0) (aa (pv 6) (aa (pv 4) ae)))) ae)))) ae))))))))))),?_⟩
 show cf _ _ _ [some v,some (.int b),some (.int a),some u,none,none,none] H
 k_data
 have pp:=(lW p2 R.hP R.hds).mpr ⟨R.g1,R.gp,R.o⟩
 refine⟨_,v,rfl,hd,R.sm,R.sz,λbb H1 hb s1=>?_⟩
 have hbb:bb=true:=hb.mpr pp
 subst hbb
 refine⟨true,aN.mpr rfl,?_⟩
 rw [if_pos rfl]
 have hd1:=dv.same s1 _ hd
 have hu1:=dv.same s1 _ hu
 refine⟨d,u,2,rfl,hu1,_,aN.mpr rfl,?_⟩
 cases c:dP d 2 with
 | false =>
  rw [if_neg (by decide)]
  refine q false H1 ⟨nofun,λz=>?_⟩ s1
  obtain⟨_,_,_,_,rfl⟩:=ku z.2
  cases c
 | true =>
  rw [if_pos rfl]
  obtain⟨dx,dsh,rfl⟩:=Bp c
  obtain⟨pf,v1,v2,rfl,hSf,hf1,hf2⟩:=u5 hu1
  refine cY hSf wH ⟨dsh,_,3,rfl,hf2,_,aN.mpr rfl,?_⟩
  cases c2:dP dsh 3 with
  | false =>
   rw [if_pos (by rfl)]
   refine q false H1 ⟨nofun,λz=>?_⟩ s1
   obtain⟨_,_,_,_,z⟩:=ku z.2
   cases z
   cases c2
  | true =>
   rw [if_neg (by decide)]
   obtain⟨s0,de,s2,rfl⟩:=Bq c2
   obtain⟨bx,be⟩:=hB _ _ _ _ rfl
   obtain⟨pg,w1,w2,w3,rfl,tG,u0,u1,u2⟩:=lj hf2
   have lay2:PyData.canLay0 (.tuple [s0,de,s2])=true:=by
    simp only [PyData.canLay0,PyData.canLayAll0,Bool.and_true,Bool.and_eq_true] at lay ⊢
    exact lay.2
   refine⟨pf,_,rfl,hSf,rfl,?_⟩
   k_data
   refine cY tG wH ?_
   k_data
   refine aL (λc3=>?_) (λc3=>?_)
   ·subst c3
    obtain rfl:=xU hf1
    refine⟨v,_,s0,de,s2,p,g,b,a,ps,ds,rfl,hd1,R,hf2,lay2,be,λbb H' hb' s'=>q bb H' ?_ (s1.trans s')⟩
    rw [hb']
    constructor
    ·rintro⟨na,e,o,n1,z⟩
     exact⟨na,e,o,.inl ⟨n1,by rw [z];rfl⟩⟩
    ·rintro⟨na,e,o,⟨n1,z⟩|⟨x,pl,_,_,_,z⟩⟩
     ·refine⟨na,e,o,n1,?_⟩
      unfold m9 at z
      injection z with z
      injection z with _ z
      injection z with z
     ·unfold pC at z
      injection z with z
      injection z with z
      cases z
   ·have ndx:dx≠.none:=λz=>by subst z;exact c3 hf1
    refine⟨by show 2<=sizeLine;decide,λt ht=>?_⟩
    have s2':=ai (o:=.tup [w2,v1]) ht
    refine⟨v,t,w2,v1,de,dx,p,g,b,a,ps,ds,rfl,dv.same s2' _ hd1,R,aJ.of af,dv.same s2' _ u1,dv.same s2' _ hf1,be,bx,λbb H3 hb3 s3=>⟨_,rfl,?_⟩⟩
    generalize upd H1 t _=H2 at *
    have S3:=s2'.trans s3
    cases bb with
    | false =>
     rw [if_neg (by decide)]
     refine q false H3 ⟨nofun,?_⟩ (s1.trans S3)
     rintro⟨_,e,o,⟨n1,z⟩|⟨x,pl,xe,al,_,z⟩⟩
     ·unfold m9 at z
      injection z with z
      injection z with z
      exact absurd z ndx
     ·unfold pC at z
      injection z with z
      injection z with z1 z
      injection z with z
      injection z with z
      injection z with _ z
      injection z with z2
      exact hb3.mpr ⟨e,x,z2,z1,o,xe,al⟩
    | true =>
     rw [if_pos rfl]
     obtain⟨e,x,rfl,rfl,o,xe,al⟩:=hb3.mp rfl
     cases u1
     cases hf1
     obtain⟨ed,ep⟩:=xh R.pm o
     have e0':=o.pos
     obtain⟨pl,hpl⟩:=Num.vS (n:=(e:Int)) (by omega) (by omega)
     have few:=hZ hpl (by omega)
     refine⟨v,p,g,ps,pl,ds,x,e,rfl,dv.same S3 _ hd1,R,by omega,ed,by omega,hpl,few,λw' H4 s4 hw=>⟨by show 3<=sizeLine;decide,λp5 hp5=>?_⟩⟩
     have s5:=ai (o:=.tup [V.str "is",V.int (e:Int),w']) hp5
     have S5:=S3.trans (s4.trans s5)
     refine⟨_,_,.tuple [s0,.int e,s2],.tuple [.str "is",.int e,.tuple (pl.map (dS x))],rfl,dv.same S5 _ hf2,dv.tup af ⟨_,_,rfl,rfl,_,_,rfl,rfl,.one (dv.same s5 _ hw)⟩,lay2,zY hpl few,λb' H' hb' s'=>q b' H' ?_ (s1.trans (S5.trans s'))⟩
     rw [hb']
     constructor
     ·intro z
      exact⟨λna=>AZ R.pm o al na,e,o,.inr ⟨x,pl,xe,al,hpl,by rw [z];rfl⟩⟩
     ·rintro⟨_,e',o',⟨_,z⟩|⟨x',pl',xe',al',hpl',z⟩⟩
      ·unfold m9 at z
       injection z with z
       injection z with z
       cases z
      ·obtain rfl:=o.lM o'
       obtain rfl:=Num.kK o xe xe' al al'
       obtain rfl:=hpl.one hpl'
       unfold pC at z
       injection z with z
       injection z with _ z
       injection z with z
end
end K
namespace K
open PySem PySem.Spec PyProof.Rows L2
section
variable {P:Program} {w:World} {K:PySem.W.Frag} {mg:Str->Option Value} {base:Heap}
mutual
def sT:Nat->PyData->Prop
 | 0,_=>False
 | _+1,.none=>True
 | _+1,.bool _=>True
 | _+1,.int _=>True
 | _+1,.str _=>True
 | L+1,.list ds=>ds.length<=10^6/\rP L ds
 | L+1,.tuple ds=>ds.length<=10^6/\rP L ds
 | _+1,_=>False
def rP:Nat->List PyData->Prop
 | _,[]=>True
 | L,d::ds=>sT L d/\rP L ds
end
theorem uk:∀{L:Nat} {ds:List PyData} {i:Nat} {d:PyData},rP L ds->ds[i]?=some d->sT L d
 | L,[],i,d,_,h=>by simp at h
 | L,e::ds,0,d,h,z=>by
  simp only [rP] at h
  cases z
  exact h.1
 | L,e::ds,i+1,d,h,z=>by
  simp only [rP] at h
  exact uk h.2 (by simpa using z)
theorem l6:∀{L:Nat} {ds:List PyData},(∀ d∈ds,sT L d)->rP L ds
 | L,[],_=>by simp only [rP]
 | L,d::ds,h=>by
  simp only [rP]
  exact⟨h d (List.mem_cons_self ..),l6 λe z=>h e (List.mem_cons_of_mem _ z)⟩
theorem mw {k:Sd} {H H':Hp} {a:Addr} {xs:List V} (h:jt k K H a xs) (s:aE H H'):jt k K H' a xs:=by
 cases k
 ·exact aV.same h s
 ·exact aJ.same h s
def Bv:PyData->Prop
 | .none=>True
 | .bool _=>True
 | .int _=>True
 | .str _=>True
 | _=>False
theorem sP {d r:PyData} (hr:Bv r):(vm d=vm r/\PyData.eqv d r=true)↔d=r:=by
 cases r with
 | none=>cases d<;>simp [PyData.eqv,vm]
 | bool x=>cases d<;>simp [PyData.eqv,vm]
 | int x=>cases d<;>simp [PyData.eqv,vm]
 | str x=>cases d<;>simp [PyData.eqv,vm]
 | _=>cases hr
theorem vn {d:PyData} (h:Az d=true):∃ ds,d=.list ds:=by cases d<;>first | exact⟨_,rfl⟩ | cases h
def fB (K:PySem.W.Frag) (L:Nat):Sp:=λvs H Q _=>∃(u v:V) (d r:PyData),vs=[u,v]/\dv K H d u/\dv K H r v/\d.canLay0=true/\r.canLay0=true/\sT L r/\∀ b H',(b=true↔d=r)->aE H H'->Q (.bl b) H'
theorem fz:aC ["_law_found","_law_due"] ["_law_found","_law_due"] (ao (top 53)):=dW
theorem rE (D:aA K mg "_law_same" (top 53)):Callee P w K mg base aQ 1 "_law_same" ["_law_found","_law_due"] (fB K 0):=by
 refine cO D fz (λf cdv A outer s H vs Q E hr h=>?_)
 obtain⟨u,v,d,r,rfl,hu,hv,_,_,hs,q⟩:=h
 simp only [sT] at hs
theorem rF {L:Nat} (D:aA K mg "_law_same" (top 53)) (c__law_same:Callee P w K mg base aQ (L+1) "_law_same" ["_law_found","_law_due"] (fB K L)) (n_isinstance:mg "isinstance"=none) (n_bool:mg "bool"=none) (n_list:mg "list"=none) (n_tuple:mg "tuple"=none) (n_len:mg "len"=none) (n_zip:mg "zip"=none) (n_all:mg "all"=none):Callee P w K mg base aQ (L+2) "_law_same" ["_law_found","_law_due"] (fB K (L+1)):=by
 refine cO D fz (λf cdv A outer s H vs Q E hr h=>?_)
 obtain⟨u,v,d,r,rfl,hu,hv,ld,lr,hs,q⟩:=h
 have nd:=fz.nd
 refine⟨_,(ag (aP (PW.pt (jK (aR (aG aY rfl n_isinstance PyProof.Rows.boot_isinstance (aa (pv 1) (aa (bO (v:=.ty "tuple") rfl n_tuple L2.boot_tuple rfl) ae))) (λ_=>rfl)) (iL (aR (aG aY rfl n_isinstance PyProof.Rows.boot_isinstance (aa (pv 1) (aa (bO (v:=.ty "list") rfl n_list L2.boot_list rfl) ae))) (λ_=>rfl))))) (ag (aP (PW.pt (jK (aw kI (aG aY rfl n_isinstance PyProof.Rows.boot_isinstance (aa (pv 0) (aa (bO (v:=.ty "tuple") rfl n_tuple L2.boot_tuple rfl) ae))) (aG aY rfl n_isinstance PyProof.Rows.boot_isinstance (aa (pv 1) (aa (bO (v:=.ty "tuple") rfl n_tuple L2.boot_tuple rfl) ae))) (ar _)) (iL (aw kI (aG aY rfl n_isinstance PyProof.Rows.boot_isinstance (aa (pv 0) (aa (bO (v:=.ty "list") rfl n_list L2.boot_list rfl) ae))) (aG aY rfl n_isinstance PyProof.Rows.boot_isinstance (aa (pv 1) (aa (bO (v:=.ty "list") rfl n_list L2.boot_list rfl) ae))) (ar _))))) (aj (aB cP)) aD) (aj (aB (bG (bC bj (aG bf rfl n_len PySem.boot_len (aa (pv 0) ae)) (aG bf rfl n_len PySem.boot_len (aa (pv 1) ae)) (ar _)) (cj (aG (jv rfl) rfl n_all L2.boot_all (aa (gE rfl (uQ (N':=["_law_one","_law_other"]) (js:=[none,none]) rfl rfl) (qv rfl n_zip (aa (pv 0) (aa (pv 1) ae))) (λ_ _ _ _=>(lV K rfl (n:=2) rfl (aI (aH (i:=0) (show List.Nodup [("_law_one":Str),("_law_other":Str)] from by decide +kernel) rfl (Or.inl rfl) (.inr rfl)) (aI (aH (i:=1) (show List.Nodup [("_law_one":Str),("_law_other":Str)] from by decide +kernel) rfl (Or.inl rfl) (.inr rfl)) cG)))) (λ_ _ _ _=>dF) (λ_ _ _ _=>(aF c__law_same (hr.mono (by omega)) rfl ay (aa (pv 0) (aa (pv 1) ae))))) ae))))))) aD) (aj (aB (bG (bC bj (aG aY rfl n_isinstance PyProof.Rows.boot_isinstance (aa (pv 0) (aa (bO (v:=.ty "bool") rfl n_bool L2.boot_bool rfl) ae))) (aG aY rfl n_isinstance PyProof.Rows.boot_isinstance (aa (pv 1) (aa (bO (v:=.ty "bool") rfl n_bool L2.boot_bool rfl) ae))) (ar _)) (cj (bC (lO hr.units) (pv 0) (pv 1) (ar _))))))),?_⟩
 show cf _ _ _ [some u,some v] H
 have sq:∀(k:Sd) (a b:Addr) (us vs:List V) (ds rs:List PyData),jt k K H a us->jt k K H b vs->bh K H ds us->bh K H rs vs->PyData.canLayAll0 ds=true->PyData.canLayAll0 rs=true->rP L rs->rs.length<=10^6->us.length=vs.length->(∀ b H',(b=true↔ds=rs)->aE H H'->Q (.bl b) H') ->
   mr (zo k k K a b) [none,none] (qW K 2 (pY (eT 0) (pY (eT 1) xX))) uB (nQ (fB K L) [] E0 (qI (j8 0) (qI (j8 1) yV))) [some (.ref a),some (.ref b)] (λx H1=>yD K [x] H1 Q) H:=by
  intro k a b us vs ds rs ha hb dd dr cl cr hs hl ln q
  have ul:=dd.length
  have vl:=dr.length
  refine kq (xs:=us) (ys:=vs) (λi zs H3=>aE H H3/\∃ bs:List Bool,zs=bs.map V.bl/\bs.length=i/\(bs.all id=true↔ds.take i=rs.take i)) ⟨aE.refl _,[],rfl,rfl,by simp⟩ (by omega) (Nat.le_trans (by omega) (show 10^6<=sizeLine by decide)) (λi zs H3 hi ⟨z1,bs,z2,z3,_⟩=>⟨mw ha z1,mw hb z1,by rw [z2,List.length_map,z3];exact Nat.le_refl _⟩) ?_ ?_
  ·rintro i x y zs H3 p3 hx hy ⟨s3,bs,rfl,bl,hbb⟩ hp3
   obtain⟨d1,e1,v1⟩:=dd.get hx
   obtain⟨r1,e2,v2⟩:=dr.get hy
   have s4:=ai (o:=.tup [x,y]) hp3
   show qW K 2 _ _ [none,none] _ _
   refine⟨p3,_,rfl,aJ.of af,rfl,?_⟩
   generalize upd H3 p3 _=H4 at *
   k_data
   refine⟨True.intro,x,y,d1,r1,rfl,dv.same (s3.trans s4) _ v1,dv.same (s3.trans s4) _ v2,fV cl e1,fV cr e2,uk hs e2,λb H5 hb1 s5=>⟨(s3.trans s4).trans s5,bs++[b],by rw [List.map_append];rfl,by rw [List.length_append,bl];rfl,?_⟩⟩
   rw [List.all_append,Bool.and_eq_true,hbb,List.take_add_one,List.take_add_one,e1,e2]
   have l1:(ds.take i).length=(rs.take i).length:=by
    have:=(List.getElem?_eq_some_iff.mp e1).1
    have:=(List.getElem?_eq_some_iff.mp e2).1
    rw [List.length_take,List.length_take]
    omega
   constructor
   ·rintro⟨h1,h2⟩
    have:b=true:=by simpa using h2
    rw [h1,hb1.mp this]
   ·intro h
    obtain⟨h1,h2⟩:=List.append_inj h l1
    have:d1=r1:=by simpa using h2
    exact⟨h1,by simp [hb1.mpr this]⟩
  ·rintro zs H3 p3 ⟨s3,bs,rfl,bl,hbb⟩ hp3
   refine oi (bs:=bs) (aV.of af) ?_
   rw [show us.length=ds.length from ul,List.take_length,show ds.length=rs.length by omega,List.take_length] at hbb
   exact q _ _ hbb (s3.trans (ai hp3))
 have flat:Bv r->r.depth<=60->(jM K [u,V.ty "bool"] H λx H1=>jM K [v,V.ty "bool"] H1 λy H2=>i7 x y=true/\if x=y then yE K false u v H2 Q else Q (V.bl false) H2):=by
  intro hf dp
  refine jz hu (jz hv ⟨rfl,?_⟩)
  have ef:=sP (d:=d) hf
  refine aL (λc=>?_) (λc=>?_)
  ·refine⟨d,r,hu,hv,ld,lr,Nat.le_trans (Nat.min_le_right _ _) dp,q _ H ?_ (aE.refl _)⟩
   rw [if_neg (by decide),<- ef]
   exact⟨λz=>⟨V.bl.inj c,z⟩,λz=>z.2⟩
  ·exact q false H ⟨nofun,λz=>absurd (by rw [z]) c⟩ (aE.refl _)
 k_data
 cases r with
 | none =>
  refine bM hv ⟨false,aN.mpr rfl,?_⟩
  rw [if_neg (by decide)]
  refine cD hv ⟨false,aN.mpr rfl,?_⟩
  rw [if_neg (by decide)]
  exact flat True.intro (by simp [PyData.depth])
 | bool y =>
  refine bM hv ⟨false,aN.mpr rfl,?_⟩
  rw [if_neg (by decide)]
  refine cD hv ⟨false,aN.mpr rfl,?_⟩
  rw [if_neg (by decide)]
  exact flat True.intro (by simp [PyData.depth])
 | int y =>
  refine bM hv ⟨false,aN.mpr rfl,?_⟩
  rw [if_neg (by decide)]
  refine cD hv ⟨false,aN.mpr rfl,?_⟩
  rw [if_neg (by decide)]
  exact flat True.intro (by simp [PyData.depth])
 | str y =>
  refine bM hv ⟨false,aN.mpr rfl,?_⟩
  rw [if_neg (by decide)]
  refine cD hv ⟨false,aN.mpr rfl,?_⟩
  rw [if_neg (by decide)]
  exact flat True.intro (by simp [PyData.depth])
 | list rs =>
  simp only [sT] at hs
  refine bM hv ⟨false,aN.mpr rfl,?_⟩
  rw [if_neg (by decide)]
  refine cD hv ⟨true,aN.mpr rfl,?_⟩
  rw [if_pos rfl]
  refine bM hu (bM hv ⟨rfl,?_⟩)
  refine aL (λc=>?_) (λc=>?_)
  ·exact q false H ⟨nofun,λz=>absurd (by rw [z]) c⟩ (aE.refl _)
  refine cD hu (cD hv ⟨rfl,?_⟩)
  refine aL (λc'=>?_) (λc'=>?_)
  ·exact q false H ⟨nofun,λz=>absurd (by rw [z]) c'⟩ (aE.refl _)
  obtain⟨ds,rfl⟩:=vn (V.bl.inj (Classical.not_not.mp c'))
  obtain⟨pa,us,rfl,hSu,du⟩:=hu
  obtain⟨pb,vs,rfl,hSv,dw⟩:=hv
  have ul:=du.length
  have vl:=dw.length
  refine c9 hSu (c9 hSv ⟨rfl,?_⟩)
  refine aL (λc2=>?_) (λc2=>?_)
  ·have ln:us.length=vs.length:=by have:=V.int.inj c2;omega
   exact⟨pa,rfl,pb,rfl,.l,⟨_,hSu⟩,.l,⟨_,hSv⟩,sq .l pa pb us vs ds rs hSu hSv du dw (by simpa [PyData.canLay0] using ld) (by simpa [PyData.canLay0] using lr) hs.2 hs.1 ln λb H' hb s'=>q b H' (by rw [hb];exact⟨λz=>by rw [z],λz=>by injection z⟩) s'⟩
  ·refine q false H ⟨nofun,λz=>absurd ?_ c2⟩ (aE.refl _)
   injection z with z
   rw [ul,vl,z]
 | tuple rs =>
  simp only [sT] at hs
  refine bM hv ⟨true,aN.mpr rfl,?_⟩
  rw [if_pos rfl]
  refine bM hu (bM hv ⟨rfl,?_⟩)
  refine aL (λc=>?_) (λc=>?_)
  ·exact q false H ⟨nofun,λz=>absurd (by rw [z]) c⟩ (aE.refl _)
  refine cD hu (cD hv ⟨rfl,?_⟩)
  refine aL (λc'=>?_) (λc'=>?_)
  ·exact q false H ⟨nofun,λz=>absurd (by rw [z]) c'⟩ (aE.refl _)
  obtain⟨ds,rfl⟩:=qa (V.bl.inj (Classical.not_not.mp c))
  obtain⟨pa,us,rfl,hSu,du⟩:=hu
  obtain⟨pb,vs,rfl,hSv,dw⟩:=hv
  have ul:=du.length
  have vl:=dw.length
  refine fu hSu (fu hSv ⟨rfl,?_⟩)
  refine aL (λc2=>?_) (λc2=>?_)
  ·have ln:us.length=vs.length:=by have:=V.int.inj c2;omega
   exact⟨pa,rfl,pb,rfl,.t,⟨_,hSu⟩,.t,⟨_,hSv⟩,sq .t pa pb us vs ds rs hSu hSv du dw (by simpa [PyData.canLay0] using ld) (by simpa [PyData.canLay0] using lr) hs.2 hs.1 ln λb H' hb s'=>q b H' (by rw [hb];exact⟨λz=>by rw [z],λz=>by injection z⟩) s'⟩
  ·refine q false H ⟨nofun,λz=>absurd ?_ c2⟩ (aE.refl _)
   injection z with z
   rw [ul,vl,z]
 | _=>simp only [sT] at hs
theorem nj (D:aA K mg "_law_same" (top 53)) (n_isinstance:mg "isinstance"=none) (n_bool:mg "bool"=none) (n_list:mg "list"=none) (n_tuple:mg "tuple"=none) (n_len:mg "len"=none) (n_zip:mg "zip"=none) (n_all:mg "all"=none):∀ L:Nat,Callee P w K mg base aQ (L+1) "_law_same" ["_law_found","_law_due"] (fB K L)
 | 0=>rE D
 | L+1=>rF D (nj D n_isinstance n_bool n_list n_tuple n_len n_zip n_all L) n_isinstance n_bool n_list n_tuple n_len n_zip n_all
end
end K
namespace K
open PySem PySem.Spec PyProof.Rows L2
section
variable {P:Program} {w:World} {K:PySem.W.Frag} {mg:Str->Option Value} {base:Heap} {C:Addr}
theorem bR.kt {p:Addr} {n:Nat} {H H':Hp} (h:bR p H H') (t:Tp p n H):∀ a xs,aJ K H a xs->aJ K H' a xs:=by
 intro a xs z
 rcases z with (z | ⟨o,z⟩) | z
 ·exact .inl (.inl (h _ _ (t.ne z (by intro kvs c;cases c)) z))
 ·exact .inl (.inr ⟨o,h _ _ (t.ne z (by intro kvs c;cases c)) z⟩)
 ·exact .inr z
theorem bR.kl {p:Addr} {n:Nat} {H H':Hp} (h:bR p H H') (t:Tp p n H):∀ a xs,aV K H a xs->aV K H' a xs:=by
 intro a xs z
 rcases z with (z | ⟨o,z⟩) | z
 ·exact .inl (.inl (h _ _ (t.ne z (by intro kvs c;cases c)) z))
 ·exact .inl (.inr ⟨o,h _ _ (t.ne z (by intro kvs c;cases c)) z⟩)
 ·exact .inr z
theorem GV.bS {p:Addr} {n:Nat} {H H':Hp} {x:V} (g:GV K H x) (h:bR p H H') (t:Tp p n H):GV K H' x:=g.keep (h.kt t) (h.kl t)
theorem cp.bS {p:Addr} {n:Nat} {H H':Hp} {x:List V} (g:cp K H x) (h:bR p H H') (t:Tp p n H):cp K H' x:=g.keep (h.kt t) (h.kl t)
def xq (K:PySem.W.Frag):Sp:=λvs H Q _=>∃(p:Addr) (n:Nat),vs=[.ref p]/\Tp p n H/\n<=10^50/\∀ x H',bR p H H'->Tp p (n+1) H'->GV K H' x->Q x H'
theorem ei:aC ["_law_tape_here","_law_some"] ["_law_tape_here"] (ao (top 54)):=dW
theorem yn (D:aA K mg "_law_odd" (top 54)) (c__law_draw:Callee P w K mg base aQ 1 "_law_draw" ["_law_tape_here","_law_many"] dz) (n_len:mg "len"=none):Callee P w K mg base aQ 2 "_law_odd" ["_law_tape_here"] (xq K):=by
 refine cO D ei (λf cdv A outer s H vs Q E hr h=>?_)
 obtain⟨p,n,rfl,t,n9,q⟩:=h
 have nd:=ei.nd
 refine⟨_,(@ag _ _ _ _ _ (@bT _ _ 1 _ _ _ _ nd rfl (Or.inl rfl) (@bo _ _ _ _ (@aa _ _ _ _ _ dc (@aa _ _ _ _ _ cP (@aa _ _ _ _ _ cP (@aa _ _ _ _ _ ah (@aa _ _ _ _ _ ah (@aa _ _ _ _ _ (ik fC ah) (@aa _ _ _ _ _ (@aq _ _ _ _ _ _ _ _ lR ah ah) (@aa _ _ _ _ _ ba (@aa _ _ _ _ _ ba (@aa _ _ _ _ _ (@ax _ _ _ _ _ ae) (@aa _ _ _ _ _ (@bo _ _ _ _ ae) (@aa _ _ _ _ _ (@ax _ _ _ _ _ (@aa _ _ _ _ _ ah ae (by rfl))) (@aa _ _ _ _ _ (@bo _ _ _ _ (@aa _ _ _ _ _ ah ae (by rfl))) (@aa _ _ _ _ _ (@ax _ _ _ _ _ (@aa _ _ _ _ _ ba ae (by rfl))) (@aa _ _ _ _ _ (@ax _ _ _ _ _ (@aa _ _ _ _ _ (@ax _ _ _ _ _ ae) (@aa _ _ _ _ _ (@ax _ _ _ _ _ ae) ae (by rfl)) (by rfl))) (@aa _ _ _ _ _ (@ax _ _ _ _ _ (@aa _ _ _ _ _ ah (@aa _ _ _ _ _ ah ae (by rfl)) (by rfl))) ae (by rfl)) (by rfl)) (by rfl)) (by rfl)) (by rfl)) (by rfl)) (by rfl)) (by rfl)) (by rfl)) (by rfl)) (by rfl)) (by rfl)) (by rfl)) (by rfl)) (by rfl)) (by rfl))) (by rfl) (by first | exact .inl rfl | exact .inr rfl | assumption)) (@aj _ _ _ (@aB _ _ _ _ (@aO _ _ _ _ _ _ _ bW (pv 1) (@aF _ _ _ _ _ _ _ _ _ _ _ _ c__law_draw (hr.mono (by decide)) rfl ay (@aa _ _ _ _ _ (pv 0) (@aa _ _ _ _ _ (@aG _ _ _ _ _ _ _ _ _ bf rfl n_len PySem.boot_len (@aa _ _ _ _ _ (pv 1) ae (by rfl)) (by decide) (by decide) (by rfl) (by rfl)) ae (by rfl)) (by rfl)) (by decide) (by rfl) (by rfl)) (λ_ _=>rfl))))),?_⟩
 show cf _ _ _ [some (.ref p),none] H
 k_data
 refine⟨by show 0<=sizeLine;decide,λp1 hp1=>?_⟩
 have s1:=ai (o:=.tup []) hp1
 have g1:GV K (upd H p1 (.tup [])) (.ref p1):=GV.tup (aJ.of af) cp.nil
 have S:=s1
 generalize upd H p1 _=H1 at *
 refine⟨by show 0<=sizeLine;decide,λp2 hp2=>?_⟩
 have s2:=ai (o:=.lst []) hp2
 have g2:GV K (upd H1 p2 (.lst [])) (.ref p2):=GV.lst (aV.of af) cp.nil
 replace g1:=g1.same s2
 replace S:=S.trans s2
 generalize upd H1 p2 _=H2 at *
 refine⟨by show 1<=sizeLine;decide,λp3 hp3=>?_⟩
 have s3:=ai (o:=.tup [V.int 1]) hp3
 have g3:GV K (upd H2 p3 (.tup [V.int 1])) (.ref p3):=GV.tup (aJ.of af) (cp.cons (GV.int (by decide) (by decide)) cp.nil)
 replace g1:=g1.same s3
 replace g2:=g2.same s3
 replace S:=S.trans s3
 generalize upd H2 p3 _=H3 at *
 refine⟨by show 1<=sizeLine;decide,λp4 hp4=>?_⟩
 have s4:=ai (o:=.lst [V.int 0]) hp4
 have g4:GV K (upd H3 p4 (.lst [V.int 0])) (.ref p4):=GV.lst (aV.of af) (cp.cons (GV.int (by decide) (by decide)) cp.nil)
 replace g1:=g1.same s4
 replace g2:=g2.same s4
 replace g3:=g3.same s4
 replace S:=S.trans s4
 generalize upd H3 p4 _=H4 at *
 refine⟨by show 1<=sizeLine;decide,λp5 hp5=>?_⟩
 have s5:=ai (o:=.tup [V.str "nought"]) hp5
 have g5:GV K (upd H4 p5 (.tup [V.str "nought"])) (.ref p5):=GV.tup (aJ.of af) (cp.cons (GV.str (by decide +kernel)) cp.nil)
 replace g1:=g1.same s5
 replace g2:=g2.same s5
 replace g3:=g3.same s5
 replace g4:=g4.same s5
 replace S:=S.trans s5
 generalize upd H4 p5 _=H5 at *
 refine⟨by show 0<=sizeLine;decide,λp6 hp6=>?_⟩
 have s6:=ai (o:=.tup []) hp6
 have g6:GV K (upd H5 p6 (.tup [])) (.ref p6):=GV.tup (aJ.of af) cp.nil
 replace g1:=g1.same s6
 replace g2:=g2.same s6
 replace g3:=g3.same s6
 replace g4:=g4.same s6
 replace g5:=g5.same s6
 replace S:=S.trans s6
 generalize upd H5 p6 _=H6 at *
 refine⟨by show 0<=sizeLine;decide,λp7 hp7=>?_⟩
 have s7:=ai (o:=.tup []) hp7
 have g7:GV K (upd H6 p7 (.tup [])) (.ref p7):=GV.tup (aJ.of af) cp.nil
 replace g1:=g1.same s7
 replace g2:=g2.same s7
 replace g3:=g3.same s7
 replace g4:=g4.same s7
 replace g5:=g5.same s7
 replace g6:=g6.same s7
 replace S:=S.trans s7
 generalize upd H6 p7 _=H7 at *
 refine⟨by show 2<=sizeLine;decide,λp8 hp8=>?_⟩
 have s8:=ai (o:=.tup [V.ref p6,V.ref p7]) hp8
 have g8:GV K (upd H7 p8 (.tup [V.ref p6,V.ref p7])) (.ref p8):=GV.tup (aJ.of af) (cp.cons (g6.same s8) (cp.cons (g7.same s8) cp.nil))
 replace g1:=g1.same s8
 replace g2:=g2.same s8
 replace g3:=g3.same s8
 replace g4:=g4.same s8
 replace g5:=g5.same s8
 replace g6:=g6.same s8
 replace g7:=g7.same s8
 replace S:=S.trans s8
 generalize upd H7 p8 _=H8 at *
 refine⟨by show 2<=sizeLine;decide,λp9 hp9=>?_⟩
 have s9:=ai (o:=.tup [V.int 0,V.int 0]) hp9
 have g9:GV K (upd H8 p9 (.tup [V.int 0,V.int 0])) (.ref p9):=GV.tup (aJ.of af) (cp.cons (GV.int (by decide) (by decide)) (cp.cons (GV.int (by decide) (by decide)) cp.nil))
 replace g1:=g1.same s9
 replace g2:=g2.same s9
 replace g3:=g3.same s9
 replace g4:=g4.same s9
 replace g5:=g5.same s9
 replace g6:=g6.same s9
 replace g7:=g7.same s9
 replace g8:=g8.same s9
 replace S:=S.trans s9
 generalize upd H8 p9 _=H9 at *
 refine⟨by show 16<=sizeLine;decide,λpa hpa=>?_⟩
 have gl:cp K H9 [V.bw,V.bl true,V.bl false,V.int 0,V.int 1,V.int (-1),V.int 100000000000000000000000000000000000000000000000000000000000,V.str "none",V.str "",V.ref p1,V.ref p2,V.ref p3,V.ref p4,V.ref p5,V.ref p8,V.ref p9]:=.cons .bw (.cons .bl (.cons .bl (.cons (.int (by decide) (by decide)) (.cons (.int (by decide) (by decide)) (.cons (.int (by decide) (by decide)) (.cons (.int (by decide) (by decide)) (.cons (.str (by decide +kernel)) (.cons (.str (by decide +kernel)) (.cons g1 (.cons g2 (.cons g3 (.cons g4 (.cons g5 (.cons g8 (.cons g9 .nil)))))))))))))))
 have sa:=ai (o:=.lst [V.bw,V.bl true,V.bl false,V.int 0,V.int 1,V.int (-1),V.int 100000000000000000000000000000000000000000000000000000000000,V.str "none",V.str "",V.ref p1,V.ref p2,V.ref p3,V.ref p4,V.ref p5,V.ref p8,V.ref p9]) hpa
 have ea:upd H9 pa (.lst [V.bw,V.bl true,V.bl false,V.int 0,V.int 1,V.int (-1),V.int 100000000000000000000000000000000000000000000000000000000000,V.str "none",V.str "",V.ref p1,V.ref p2,V.ref p3,V.ref p4,V.ref p5,V.ref p8,V.ref p9]) pa=some (.lst [V.bw,V.bl true,V.bl false,V.int 0,V.int 1,V.int (-1),V.int 100000000000000000000000000000000000000000000000000000000000,V.str "none",V.str "",V.ref p1,V.ref p2,V.ref p3,V.ref p4,V.ref p5,V.ref p8,V.ref p9]):=af
 have ln:([V.bw,V.bl true,V.bl false,V.int 0,V.int 1,V.int (-1),V.int 100000000000000000000000000000000000000000000000000000000000,V.str "none",V.str "",V.ref p1,V.ref p2,V.ref p3,V.ref p4,V.ref p5,V.ref p8,V.ref p9]).length=16:=rfl
 generalize [V.bw,V.bl true,V.bl false,V.int 0,V.int 1,V.int (-1),V.int 100000000000000000000000000000000000000000000000000000000000,V.str "none",V.str "",V.ref p1,V.ref p2,V.ref p3,V.ref p4,V.ref p5,V.ref p8,V.ref p9]=L at *
 replace gl:=gl.same sa
 have Sa:=S.trans sa
 generalize upd H9 pa _=Ha at *
 k_data
 refine c9 (aV.of ea) ?_
 rw [ln]
 have ta:=t.same Sa
 refine⟨p,16,n,rfl,ta,by omega,by decide,by decide,λr Hb r0 r1 ob tb=>?_⟩
 have npa:pa≠p:=ta.ne ea (by intro kvs c;cases c)
 have eb:Hb pa=some (.lst L):=by rw [ob pa npa];exact ea
 exact cE (aV.of eb) r0 (by rw [ln];exact r1) λv hv=>q v Hb ((bR.of Sa).trans ob.bS) tb ((cp.bS gl ob.bS ta).all v hv)
def fj (K:PySem.W.Frag):Sp:=λvs H Q _=>∃(p pr:Addr) (n:Nat) (us:List V),vs=[.ref p,.ref pr]/\Tp p n H/\n<=10^49/\aJ K H pr us/\cp K H us/\us.length<=1000/\∀ x H',bR p H H'->Tp p (n+5) H'->GV K H' x->Q x H'
theorem sh {H8:Hp} {pr:Addr} {us:List V} {x:V} {at' lo:Int} {Q:VK} (hS8:aJ K H8 pr us) (g8:cp K H8 us) (gx8:GV K H8 x) (ul:us.length<=1000) (q:∀ y H',aE H8 H'->GV K H' y->Q y H'):v8 K (V.ref pr) none (some at') H8 λx_1 H1=>[x].length<=sizeLine/\∀ p_1,H1 p_1=none->nI K x_1 (V.ref p_1) (upd H1 p_1 (HO.tup [x])) λx_2 H1=>v8 K (V.ref pr) (some lo) none H1 λy H2=>nI K x_2 y H2 Q:=by
 have cz:∀ lo hi,(eQ us lo hi).length<=1000:=λlo hi=>Nat.le_trans (dD _ _ _) ul
 have sz:3000<=sizeLine:=by decide
 have c1:=cz none (some at')
 have c2:=cz (some lo) none
 refine⟨pr,us,rfl,hS8,λp1 H1 s1 h1=>⟨by show 1<=sizeLine;decide,λp2 hp2=>?_⟩⟩
 have s2:=ai (o:=.tup [x]) hp2
 refine⟨p1,p2,_,_,rfl,rfl,h1.same s2,aJ.of af,by rw [List.length_singleton];omega,λp3 H3 s3 h3=>⟨pr,us,rfl,hS8.same (s1.trans (s2.trans s3)),λp4 H4 s4 h4=>⟨p3,p4,_,_,rfl,rfl,h3.same s4,h4,by rw [List.length_append,List.length_singleton];omega,λp5 H5 s5 h5=>?_⟩⟩⟩
 have S:=s1.trans (s2.trans (s3.trans (s4.trans s5)))
 exact q _ _ S (GV.tup h5 (.app (.app ((g8.same S).cut _ _) (.cons (gx8.same S) .nil)) ((g8.same S).cut _ _)))
def BQ (K:PySem.W.Frag) (H:Hp) (p pr:Addr) (n:Nat) (at':Int) (x:V) (p8:Addr) (σ':L2.St) (H':Hp):Prop:=∃ po ys,σ'=[some (.ref p),some (.ref pr),some (.int at'),some x,some (.ref p8),some (.ref po)]/\H' po=some (.lst ys)/\cp K H' ys/\ys.length=5/\GV K H' x/\bR p H H'/\Tp p (n+4) H'
theorem eX:aC ["_law_tape_here","_law_row","_law_at","_law_odd_here","_law_other","_law_some"] ["_law_tape_here","_law_row"] (ao (top 57)):=dW
theorem oN (D:aA K mg "_law_bent_row" (top 57)) (c__law_draw:Callee P w K mg base aQ 1 "_law_draw" ["_law_tape_here","_law_many"] dz) (c__law_odd:Callee P w K mg base aQ 2 "_law_odd" ["_law_tape_here"] (xq K)) (n_len:mg "len"=none) (n_isinstance:mg "isinstance"=none) (n_list:mg "list"=none):Callee P w K mg base aQ 3 "_law_bent_row" ["_law_tape_here","_law_row"] (fj K):=by
 refine cO D eX (λf cdv A outer s H vs Q E hr h=>?_)
 obtain⟨p,pr,n,us,rfl,t,n9,hS,g,ul,q⟩:=h
 have nd:=eX.nd
 refine⟨_,(@ag _ _ _ _ _ (@bT _ _ 2 _ _ _ _ nd rfl (Or.inl rfl) (@aF _ _ _ _ _ _ _ _ _ _ _ _ c__law_draw (hr.mono (by decide)) rfl ay (@aa _ _ _ _ _ (pv 0) (@aa _ _ _ _ _ (@aq _ _ _ _ _ _ _ _ bB (@aG _ _ _ _ _ _ _ _ _ bf rfl n_len PySem.boot_len (@aa _ _ _ _ _ (pv 1) ae (by rfl)) (by decide) (by decide) (by rfl) (by rfl)) ah) ae (by rfl)) (by rfl)) (by decide) (by rfl) (by rfl)) (by rfl) (by first | exact .inl rfl | exact .inr rfl | assumption)) (@ag _ _ _ _ _ (@bT _ _ 3 _ _ _ _ nd rfl (Or.inl rfl) (@aO _ _ _ _ _ _ _ bW (@bo _ _ _ _ (@aa _ _ _ _ _ (@aF _ _ _ _ _ _ _ _ _ _ _ _ c__law_odd (hr.mono (by decide)) rfl ay (@aa _ _ _ _ _ (pv 0) ae (by rfl)) (by decide) (by rfl) (by rfl)) (@aa _ _ _ _ _ (@aF _ _ _ _ _ _ _ _ _ _ _ _ c__law_draw (hr.mono (by decide)) rfl ay (@aa _ _ _ _ _ (pv 0) (@aa _ _ _ _ _ ah ae (by rfl)) (by rfl)) (by decide) (by rfl) (by rfl)) (@aa _ _ _ _ _ cP ae (by rfl)) (by rfl)) (by rfl))) (@aF _ _ _ _ _ _ _ _ _ _ _ _ c__law_draw (hr.mono (by decide)) rfl ay (@aa _ _ _ _ _ (pv 0) (@aa _ _ _ _ _ ah ae (by rfl)) (by rfl)) (by decide) (by rfl) (by rfl)) (λ_ _=>rfl)) (by rfl) (by first | exact .inl rfl | exact .inr rfl | assumption)) (@ag _ _ _ _ _ (@bT _ _ 4 _ _ _ _ nd rfl (Or.inl rfl) (@aq _ _ _ _ _ _ _ _ cF (bP cL (pv 1) cH (cn (pv 2))) (bP cL (pv 1) (cn (@aq _ _ _ _ _ _ _ _ bB (pv 2) ah)) cH)) (by rfl) (by first | exact .inl rfl | exact .inr rfl | assumption)) (@ag _ _ _ _ _ (bL (@aP _ _ _ _ _ _ _ _ (aR (@aG _ _ _ _ _ _ _ _ _ aY rfl n_isinstance PyProof.Rows.boot_isinstance (@aa _ _ _ _ _ (pv 1) (@aa _ _ _ _ _ (bO (v:=.ty "list") rfl n_list L2.boot_list rfl) ae (by rfl)) (by rfl)) (by decide) (by decide) (by rfl) (by rfl)) (λ_=>rfl)) uc (@aj _ _ _ (@bT _ _ 5 _ _ _ _ nd rfl (Or.inl rfl) (@bo _ _ _ _ (@aa _ _ _ _ _ (@aq _ _ _ _ _ _ _ _ cF (@aq _ _ _ _ _ _ _ _ cF (bP cL (pv 1) cH (cn (pv 2))) (@ax _ _ _ _ _ (@aa _ _ _ _ _ (pv 3) ae (by rfl)))) (bP cL (pv 1) (cn (pv 2)) cH)) (@aa _ _ _ _ _ (@aq _ _ _ _ _ _ _ _ cF (@aq _ _ _ _ _ _ _ _ cF (bP cL (pv 1) cH (cn (pv 2))) (@ax _ _ _ _ _ (@aa _ _ _ _ _ (pv 3) ae (by rfl)))) (bP cL (pv 1) (cn (@aq _ _ _ _ _ _ _ _ bB (pv 2) ah)) cH)) (@aa _ _ _ _ _ (pv 4) (@aa _ _ _ _ _ (vV (pv 1) (cn (ik fC ah))) (@aa _ _ _ _ _ (@cq _ _ _ _ _ _ _ _ _ fo rfl n_list L2.boot_list (@aa _ _ _ _ _ (pv 1) ae (by rfl)) (by decide) (by decide) (by rfl) (by rfl)) ae (by rfl)) (by rfl)) (by rfl)) (by rfl)) (by rfl))) (by rfl) (by first | exact .inl rfl | exact .inr rfl | assumption))))) (@aj _ _ _ (@aB _ _ _ _ (@aO _ _ _ _ _ _ _ bW (@aq _ _ _ _ _ _ _ _ lN (pv 5) (@bo _ _ _ _ (@aa _ _ _ _ _ (pv 3) ae (by rfl)))) (@aF _ _ _ _ _ _ _ _ _ _ _ _ c__law_draw (hr.mono (by decide)) rfl ay (@aa _ _ _ _ _ (pv 0) (@aa _ _ _ _ _ ah ae (by rfl)) (by rfl)) (by decide) (by rfl) (by rfl)) (λ_ _=>rfl)))))))),?_⟩
 show cf _ _ _ [some (.ref p),some (.ref pr),none,none,none,none] H
 have cz:∀ lo hi,(eQ us lo hi).length<=1000:=λlo hi=>Nat.le_trans (dD _ _ _) ul
 have sz:3000<=sizeLine:=by decide
 k_data
 refine fu hS ⟨_,rfl,?_⟩
 refine⟨p,_,n,rfl,t,by omega,by omega,by omega,λat' H1 a0 a1 o1 t1=>?_⟩
 have O1:=o1.bS
 refine⟨p,n+1,rfl,t1,by omega,λxo H2 O2' t2 go=>?_⟩
 have O2:=O1.trans O2'
 refine⟨p,99,n+2,rfl,t2,by omega,by decide,by decide,λr3 H3 r30 r31 o3 t3=>?_⟩
 have O3:=O2.trans o3.bS
 have go3:=GV.bS go o3.bS t2
 refine⟨by show 3<=sizeLine;decide,λp4 hp4=>?_⟩
 have s4:=ai (o:=.lst [xo,V.int r3,V.bl true]) hp4
 have e4:upd H3 p4 (.lst [xo,V.int r3,V.bl true]) p4=some (.lst [xo,V.int r3,V.bl true]):=af
 have gl:cp K (upd H3 p4 (.lst [xo,V.int r3,V.bl true])) [xo,V.int r3,V.bl true]:=.cons (go3.same s4) (.cons (.int (by omega) (by omega)) (.cons .bl .nil))
 generalize upd H3 p4 _=H4 at *
 have O4:=O3.trans (bR.of s4)
 have t4:=t3.same s4
 refine⟨p,3,n+3,rfl,t4,by omega,by decide,by decide,λr5 H5 r50 r51 o5 t5=>?_⟩
 have O5:=O4.trans o5.bS
 have e5:H5 p4=_:=(o5 p4 (t4.ne e4 (by intro kvs c;cases c))).trans e4
 refine cE (aV.of e5) r50 (by show r5<(3:Int);exact r51) λx hx=>?_
 have gx:GV K H5 x:=(cp.bS gl o5.bS t4).all x hx
 have hS5:=O5.kt t pr us hS
 have g5:=cp.bS g O5 t
 refine⟨_,rfl,pr,us,rfl,hS5,λp6 H6 s6 h6=>⟨_,rfl,pr,us,rfl,hS5.same s6,λp7 H7 s7 h7=>?_⟩⟩
 have S7:=s6.trans s7
 refine⟨p6,p7,_,_,rfl,rfl,h6.same s7,h7,by have:=cz none (some at');have:=cz (some (at'+1)) none;omega,λp8 H8 s8 h8=>?_⟩
 have S8:=S7.trans s8
 have g8:=g5.same S8
 have go8:GV K H8 (.ref p8):=GV.tup h8 (.app (g8.cut _ _) (g8.cut _ _))
 have hS8:=hS5.same S8
 have gx8:=gx.same S8
 refine⟨λσ' H'=>BQ K H p pr n at' x p8 σ' H',?_,?_⟩
 ·k_data
  refine cD (d:=.tuple _) ⟨pr,us,rfl,hS8,(g8.choose_spec).1⟩ ⟨false,aN.mpr rfl,?_⟩
  rw [if_neg (by decide)]
  refine sh hS8 g8 gx8 ul λy1 Ha sa ga=>?_
  refine sh (hS8.same sa) (g8.same sa) (gx8.same sa) ul λy2 Hb sb gb=>?_
  have Sb:=sa.trans sb
  unfold xD
  k_data
  refine⟨us,hS8.same Sb,λpc hpc=>?_⟩
  have sc:=ai (o:=.tup us.reverse) hpc
  have gc:GV K (upd Hb pc (.tup us.reverse)) (.ref pc):=GV.tup (aJ.of af) ((g8.same (Sb.trans sc)).rev)
  generalize upd Hb pc _=Hc at *
  have Sc:=Sb.trans sc
  refine⟨us,.inr (hS8.same Sc),λpd hpd=>?_⟩
  have sd:=ai (o:=.lst us) hpd
  have gd':GV K (upd Hc pd (.lst us)) (.ref pd):=GV.lst (aV.of af) (g8.same (Sc.trans sd))
  generalize upd Hc pd _=Hd at *
  have Sd:=Sc.trans sd
  refine⟨by show 5<=sizeLine;decide,λpe hpe=>?_⟩
  have se:=ai (o:=.lst [y1,y2,V.ref p8,V.ref pc,V.ref pd]) hpe
  have Se:=Sd.trans se
  refine⟨pe,_,rfl,af,?_,rfl,gx8.same Se,?_,?_⟩
  ·exact .cons (ga.same (sb.trans (sc.trans (sd.trans se)))) (.cons (gb.same (sc.trans (sd.trans se))) (.cons (go8.same Se) (.cons (gc.same (sd.trans se)) (.cons (gd'.same se) .nil))))
  ·exact O5.trans (bR.of (S8.trans Se))
  ·exact t5.same (S8.trans Se)
 ·rintro σ' H9 ⟨po,ys,rfl,e9,g9,l9,gx9,O9,t9⟩
  k_data
  refine⟨by show 1<=sizeLine;decide,λpb hpb=>?_⟩
  have sb:=ai (o:=.lst [x]) hpb
  refine⟨po,pb,_,_,rfl,rfl,sb _ _ e9,af,Nat.le_trans (show ys.length+1<=6 by omega) (by decide),λpd hpd=>?_⟩
  have sd:=ai (o:=.lst (ys++[x])) hpd
  have ed:upd (upd H9 pb (.lst [x])) pd (.lst (ys++[x])) pd=some (.lst (ys++[x])):=af
  generalize upd (upd H9 pb (.lst [x])) pd _=Hd at *
  have Sd:=sb.trans sd
  have td:=t9.same Sd
  have gd':cp K Hd (ys++[x]):=.app (g9.same Sd) (.cons (gx9.same Sd) .nil)
  refine⟨p,6,n+4,rfl,td,by omega,by decide,by decide,λr6 He r60 r61 oe te=>?_⟩
  have ee:He pd=_:=(oe pd (td.ne ed (by intro kvs c;cases c))).trans ed
  exact cE (aV.of ee) r60 (by rw [List.length_append,List.length_singleton,l9];exact r61) λv hv=>q v He ((O9.trans (bR.of Sd)).trans oe.bS) te ((cp.bS gd' oe.bS td).all v hv)
theorem mR {H:Hp}:∀{ns:List Int} {ds:List V},bh K H (ns.map PyData.int) ds->ds=ns.map V.int
 | [],_,h=>h
 | n::ns,_,⟨x,r,e,h,t⟩=>by
  subst e
  rw [mR t,show x=V.int n from h]
  rfl
theorem Tp.mono {p:Addr} {n m:Nat} {H:Hp} (h:Tp p n H) (l:n<=m):Tp p m H:=by
 obtain⟨a,i,j,ns,h1,h2,h3,h4,h5⟩:=h
 exact⟨a,i,j,ns,h1,h2,h3,h4,by omega⟩
theorem dv.bS {p:Addr} {n:Nat} {H H':Hp} {d:PyData} {x:V} (h:dv K H d x) (o:bR p H H') (t:Tp p n H):dv K H' d x:=dv.fD (o.kt t) (o.kl t) d h
theorem pV {x q n k:Nat} (q1:1<=q) (h:k∈Num.eR x q n):k<q:=by
 unfold Num.eR at h
 obtain⟨i,_,rfl⟩:=List.mem_map.mp h
 exact Nat.mod_lt _ q1
theorem vd {x:Nat} {y:Int × Int} (y0:1<=y.1) (y1:y.1<=10^9):gd (dS x y):=by
 unfold dS
 simp only [gd,bV,and_true]
 refine⟨⟨by omega,by omega⟩,cU.mpr λd hd=>?_⟩
 obtain⟨i,hi,rfl⟩:=List.mem_map.mp hd
 obtain⟨k,hk,rfl⟩:=List.mem_map.mp hi
 have:=pV (show 1<=y.1.toNat by omega) hk
 simp only [gd]
 omega
theorem gW {x e:Nat} {pl:List (Int × Int)} (h:Num.Part e pl) (e1:1<=e) (e9:e<=10^9):bV (pl.map (dS x)):=cU.mpr λd hd=>by
 obtain⟨y,hy,rfl⟩:=List.mem_map.mp hd
 have h2:=(h.ok y hy).1.two
 have h3:=Num.bY hy (h.ok y hy).2.1
 rw [h.prod] at h3
 have:=Int.le_of_dvd (by omega) h3
 exact vd (by omega) (by omega)
def iZ (K:PySem.W.Frag):Sp:=λvs H Q _=>∃(p:Addr) (v:V) (n x e:Nat) (pl:List (Int × Int)),vs=[.ref p,v]/\Tp p n H/\n<=10^48/\dv K H (.tuple (pl.map (dS x))) v/\Num.Part e pl/\pl.length<=12/\e<=10^9/\1<=e/\∀ y H',bR p H H'->Tp p (n+20) H'->GV K H' y->Q y H'
def BO (K:PySem.W.Frag) (H:Hp) (p pv:Addr) (at':Int) (n:Nat) (σ':L2.St) (H':Hp):Prop:=∃ one,σ'=[some (.ref p),some (.ref pv),some (.int at'),some one]/\GV K H' one/\bR p H H'/\Tp p n H'
theorem d5:aC ["_law_tape_here","_law_parts","_law_at","_law_one"] ["_law_tape_here","_law_parts"] (ao (top 58)):=dW
theorem lJ (D:aA K mg "_law_bent_parts" (top 58)) (c__law_draw:Callee P w K mg base aQ 1 "_law_draw" ["_law_tape_here","_law_many"] dz) (c__law_bent_row:Callee P w K mg base aQ 3 "_law_bent_row" ["_law_tape_here","_law_row"] (fj K)) (n_len:mg "len"=none):Callee P w K mg base aQ 4 "_law_bent_parts" ["_law_tape_here","_law_parts"] (iZ K):=by
 refine cO D d5 (λf cdv A outer s H vs Q E hr h=>?_)
 obtain⟨p,v,n,x,e,pl,rfl,t,n9,hv,hpl,l12,e9,e1,q⟩:=h
 have nd:=d5.nd
 refine⟨_,(ag (aP (PW.pt (jK (aw (lO hr.units) (pv 1) (ax ae) (ar _)) (iL (aw bj (bU c__law_draw hr ay (aa (pv 0) (aa ah ae))) ah (ar _))))) (aj (aB (bU c__law_bent_row hr ay (aa (pv 0) (aa (pv 1) ae))))) aD) (ag (cu (i:=2) nd (bU c__law_draw hr ay (aa (pv 0) (aa (aG bf rfl n_len PySem.boot_len (aa (pv 1) ae)) ae)))) (ag (cu (i:=3) nd (bU c__law_bent_row hr ay (aa (pv 0) (aa (aO aS (pv 1) (pv 2) (λ_ _=>rfl)) ae)))) (ag (bL (aP (aw bj (bU c__law_draw hr ay (aa (pv 0) (aa ah ae))) ah (ar _)) (aj (cu (i:=3) nd (ax (aa (aO aS (aO aS (pv 1) (pv 2) (λ_ _=>rfl)) ah (λ_ _=>rfl)) (aa (bU c__law_bent_row hr ay (aa (pv 0) (aa (aO aS (aO aS (pv 1) (pv 2) (λ_ _=>rfl)) ah (λ_ _=>rfl)) ae))) ae))))) aD)) (aj (aB (aq cF (aq cF (bP cL (pv 1) cH (cn (pv 2))) (ax (aa (pv 3) ae))) (bP cL (pv 1) (cn (aq bB (pv 2) ah)) cH)))))))),?_⟩
 show cf _ _ _ [some (.ref p),some v,none,none] H
 have hv':=hv
 obtain⟨pv,us,rfl,hS,hd⟩:=hv
 have ul:us.length=pl.length:=by rw [hd.length,List.length_map]
 have gu:cp K H us:=⟨_,hd,gW hpl e1 e9⟩
 have at_:∀{k:Nat},k<us.length->∃(pr pd:Addr) (q:Int) (ds:List Int),us[k]?=some (.ref pr)/\aJ K H pr [.int q,.ref pd]/\aJ K H pd (ds.map V.int)/\ds≠[]/\ds.length<=30/\2<=q/\q<=10^9/\(∀ i∈ds,0<=i/\i<q):=by
  intro k hk
  have hx:=List.getElem?_eq_getElem hk
  obtain⟨d,ed,hv⟩:=hd.get hx
  rw [List.getElem?_map] at ed
  obtain⟨y,hy,rfl⟩:=Option.map_eq_some_iff.mp ed
  obtain⟨pm,t1,t30⟩:=hpl.ok y (List.mem_of_getElem? hy)
  have h2:=pm.two
  have h3:=Num.bY (List.mem_of_getElem? hy) t1
  rw [hpl.prod] at h3
  have h4:=Int.le_of_dvd (by omega) h3
  obtain⟨pr,x1,x2,er,tr,d1,d2⟩:=u5 hv
  cases d1
  obtain⟨pd,xs,rfl,td,dx⟩:=d2
  refine⟨pr,pd,y.1,(Num.eR x y.1.toNat y.2.toNat).map λd:Nat=>(d:Int),by rw [hx,er],tr,?_,?_,?_,h2,by omega,λi hi=>?_⟩
  ·rw [<- mR dx];exact td
  ·intro z
   have:=congrArg List.length z
   rw [List.length_map,Num.eS,List.length_nil] at this
   omega
  ·rw [List.length_map,Num.eS];omega
  ·obtain⟨j,hj,rfl⟩:=List.mem_map.mp hi
   have:=pV (show 1<=y.1.toNat by omega) hj
   omega
 have row:∀{H2:Hp} {n2:Nat} {E':XK} {pr:Addr} {xs:List V} {Q':VK},Tp p n2 H2->n2<=10^49->aJ K H2 pr xs->cp K H2 xs->xs.length<=1000->(∀ y H',bR p H2 H'->Tp p (n2+5) H'->GV K H' y->Q' y H')->fj K [.ref p,.ref pr] H2 Q' E':=λh1 h2 h3 h4 h5 h6=>⟨p,_,_,_,rfl,h1,h2,h3,h4,h5,h6⟩
 k_data
 refine⟨by show 0<=sizeLine;decide,λp1 hp1=>?_⟩
 have s1:=ai (o:=.tup []) hp1
 have O1:bR p H (upd H p1 (.tup [])):=bR.of s1
 have t1:=t.same s1
 refine⟨_,_,dv.same s1 _ hv',dv.tup (ds:=[]) af rfl,bV.lay _ (gW hpl e1 e9),rfl,Nat.le_trans (Nat.min_le_right _ _) (by decide),_,rfl,?_⟩
 generalize upd H p1 _=H1 at *
 have fin:∀{H2:Hp} {n2:Nat} {E':XK},bR p H H2->Tp p n2 H2->n2<=n+1->fj K [.ref p,.ref pv] H2 Q E':=λO2 t2 hn=>row t2 (by omega) (O2.kt t _ _ hS) (cp.bS gu O2 t) (by omega) λy H' O' t' g'=>q y H' (O2.trans O') (t'.mono (by omega)) g'
 refine aL (λ_=>fin O1 t1 (by omega)) (λne=>?_)
 refine⟨p,3,n,rfl,t1,by omega,by decide,by decide,λr2 H2 r20 r21 o2 t2=>⟨rfl,?_⟩⟩
 have O2:=O1.trans o2.bS
 refine aL (λ_=>fin O2 t2 (by omega)) (λ_=>?_)
 have ul0:0<us.length:=by
  rcases Nat.eq_zero_or_pos us.length with z | z
  ·refine absurd ?_ ne
   have:pl=[]:=List.length_eq_zero_iff.mp (by omega)
   rw [this]
   rfl
  ·exact z
 refine fu (O2.kt t _ _ hS) ⟨p,_,n+1,rfl,t2,by omega,by omega,by omega,λat' H3 a0 a1 o3 t3=>?_⟩
 have O3:=O2.trans o3.bS
 obtain⟨an,rfl⟩:∃ k:Nat,at'=k:=⟨at'.toNat,by omega⟩
 obtain⟨pr,pd,qq,ds,hx,tr,td,dne,d30,q2,q9,hds⟩:=at_ (show an<us.length by omega)
 have gI:∀{H':Hp} {ns:List Int},(∀ i∈ns,0<=i/\i<qq)->cp K H' (ns.map V.int):=λh=>cp.of λz hz=>by
  obtain⟨i,hi,rfl⟩:=List.mem_map.mp hz
  exact .int (by have:=h i hi;omega) (by have:=h i hi;omega)
 refine⟨pv,us,_,_,rfl,rfl,O3.kt t _ _ hS,fk hx,row t3 (by omega) (O3.kt t _ _ tr) ((cp.bS gu O3 t).all _ (List.mem_of_getElem? hx) |> λ_=>.cons (.int (by omega) (by omega)) (.cons (GV.tup (O3.kt t _ _ td) (gI hds)) .nil)) (by show 2<=1000;decide) λone H4 O4' t4 g4=>?_⟩
 have O4:=O3.trans O4'
 refine⟨λσ' H'=>BO K H p pv (an:Int) (n+13) σ' H',?_,?_⟩
 ·k_data
  refine⟨p,2,n+7,rfl,t4.mono (by omega),by omega,by decide,by decide,λr5 H5 r50 r51 o5 t5=>⟨rfl,?_⟩⟩
  have O5:=O4.trans o5.bS
  refine aL (λ_=>?_) (λ_=>?_)
  ·refine⟨pv,us,_,_,rfl,rfl,O5.kt t _ _ hS,fk hx,cY (O5.kt t _ _ tr) nX ⟨pv,us,_,_,rfl,rfl,O5.kt t _ _ hS,fk hx,cY (O5.kt t _ _ tr) rfl (row t5 (by omega) (O5.kt t _ _ td) (gI hds) (by rw [List.length_map];omega) λy H6 O6' t6 g6=>⟨by show 2<=sizeLine;decide,λp7 hp7=>?_⟩)⟩⟩
   have s7:=ai (o:=.tup [V.int qq,y]) hp7
   exact⟨_,rfl,GV.tup (aJ.of af) (.cons (.int (by omega) (by omega)) (.cons (g6.same s7) .nil)),(O5.trans O6').trans (bR.of s7),(t6.same s7).mono (by omega)⟩
  ·exact⟨_,rfl,GV.bS g4 o5.bS t4,O5,t5.mono (by omega)⟩
 rintro σ' H8 ⟨one8,rfl,g8,O8,t8⟩
 k_data
 exact sh (O8.kt t _ _ hS) (cp.bS gu O8 t) g8 (by omega) λy H9 s9 g9=>q y H9 (O8.trans (bR.of s9)) ((t8.same s9).mono (by omega)) g9
end
end K
namespace K
open PySem PySem.Spec PyProof.Rows L2
section
variable {P:Program} {w:World} {K:PySem.W.Frag} {mg:Str->Option Value} {base:Heap}
def uq (K:PySem.W.Frag):Sp:=λvs H Q _=>∃ x q e t:Nat,vs=[.int x,.int q,.int e]/\2<=q/\q<=10^60/\1<=e/\q^t∣e/\¬q^(t+1)∣e/\t<=1000/\∀ p H',aE H H'->aJ K H' p ((Num.eR x q t).map λd=>V.int (d:Nat))->Q (.ref p) H'
theorem fM:aC ["_law_x","_law_q","_law_e","_law_digits_here"] ["_law_x","_law_q","_law_e"] (ao (top 50)):=dW
theorem yi (D:aA K mg "_law_digits" (top 50)):Callee P w K mg base aQ 1 "_law_digits" ["_law_x","_law_q","_law_e"] (uq K):=by
 refine cO D fM (λf cdv A outer s H vs Q E hr h=>?_)
 obtain⟨x,q',e,t,rfl,q2,q9,e1,dt,nt,t9,q⟩:=h
 have nd:=fM.nd
 refine⟨_,(ag (cu (i:=3) nd (ax ae)) (ag (bE PassesOwn.never (aw bj (aq aM (pv 2) (pv 1)) ah (ar _)) (ag (cu (i:=3) nd (aq cF (pv 3) (ax (aa (aq aM (pv 0) (pv 1)) ae)))) (ag (cu (i:=0) nd (aq cV (pv 0) (pv 1))) (aj (cu (i:=2) nd (aq cV (pv 2) (pv 1))))))) (aj (aB (pv 3))))),?_⟩
 show cf _ _ _ [some (.int (x:Int)),some (.int (q':Int)),some (.int (e:Int)),none] H
 k_data
 refine⟨by decide,λp0 hp0=>?_⟩
 refine bF (α:=Nat × Addr) (λz=>[some (.int ((x/q'^z.1:Nat):Int)),some (.int (q':Int)),some (.int ((e/q'^z.1:Nat):Int)),some (.ref z.2)]) (λz H1=>aE H H1/\z.1<=t/\aJ K H1 z.2 ((Num.eR x q' z.1).map λd:Nat=>V.int (d:Int))) (λz=>t+1-z.1) (0,p0) (by rw [Nat.pow_zero,Nat.div_one,Nat.div_one]) ⟨ai hp0,Nat.zero_le _,aJ.of af⟩ ?_
 rintro⟨i,a⟩ H1 ⟨s1,it,ha⟩
 replace it:i<=t:=it
 replace ha:aJ K H1 a ((Num.eR x q' i).map λd:Nat=>V.int (d:Int)):=ha
 k_data
 have di:q'^i∣e:=Nat.dvd_trans (Nat.pow_dvd_pow q' it) dt
 obtain⟨f0,hf⟩:=di
 have qi:0<q'^i:=Nat.pow_pos (by omega)
 have ef:e/q'^i=f0:=by rw [hf];exact Nat.mul_div_cancel_left f0 qi
 have key:(((e/q'^i:Nat):Int)%(q':Int)=0)↔i<t:=by
  rw [<- Int.natCast_emod,ef]
  constructor
  ·intro z
   have z':f0%q'=0:=by omega
   rcases (by omega:i<t∨i=t) with h | h
   ·exact h
   ·subst h
    obtain⟨c,hc⟩:=Nat.dvd_of_mod_eq_zero z'
    exact absurd ⟨c,by rw [Nat.pow_succ,hf,hc,Nat.mul_assoc]⟩ nt
  ·intro h
   obtain⟨c,hc⟩:=Nat.dvd_trans (Nat.pow_dvd_pow q' h) dt
   have:f0=q'*c:=by
    rw [hf,Nat.pow_succ,Nat.mul_assoc] at hc
    exact Nat.eq_of_mul_eq_mul_left qi hc
   rw [this,Nat.mul_mod_right]
   rfl
 refine⟨by omega,aL (λc=>?_) (λc=>?_)⟩
 ·have lt:=key.mp c
  have dl:=Num.eS (x:=x) (q:=q') (n:=i)
  refine⟨_,λ_ _ z=>z,by omega,by show 1<=sizeLine;decide,λp1 hp1=>?_⟩
  have s2:=ai (o:=.tup [V.int (((x/q'^i:Nat):Int)%(q':Int))]) hp1
  refine⟨a,p1,_,_,rfl,rfl,ha.same s2,aJ.of af,by rw [List.length_map,dl];exact Nat.le_of_lt (rR (by show i+1<=1000;omega)),λp2 H2 s3 h2=>⟨by omega,Bd.of (by omega) (by omega),by omega,Bd.of (by omega) (by omega),(i+1,p2),?_,(s1.trans s2).trans s3,lt,?_,by show t+1-(i+1)<t+1-i;omega⟩⟩
  ·show _=[some (V.int ((x/q'^(i+1):Nat):Int)),_,some (V.int ((e/q'^(i+1):Nat):Int)),_]
   rw [Nat.pow_succ,<- Nat.div_div_eq_div_mul,<- Nat.div_div_eq_div_mul,Int.natCast_ediv (x/q'^i),Int.natCast_ediv (e/q'^i)]
  ·show aJ K H2 p2 ((Num.eR x q' (i+1)).map λd:Nat=>V.int (d:Int))
   rw [Num.kr,List.map_append]
   rw [<- Int.natCast_emod] at h2
   exact h2
 ·have:i=t:=by have:=mt key.mpr c;omega
  subst this
  exact q a H1 s1 ha
structure jr (n d:Int):Prop where
 two:2<=d
 no:∀ e:Int,2<=e->e<d->¬e∣n
theorem jr.step {n d:Int} (h:jr n d) (hk:¬d∣n):jr n (d+1):=⟨by have:=h.two;omega,λe e2 ed=>by
 rcases (by omega:e<d∨e=d) with z | z
 ·exact h.no e e2 z
 ·rw [z];exact hk⟩
theorem jr.top {n d:Int} (h:jr n d) (hn:1<n) (hd:n<d*d):jr n n:=⟨by omega,λe e2 ed=>by
 rintro⟨c,hc⟩
 have h2:=h.two
 have c1:1<c:=by
  rcases (by omega:c<=1∨1<c) with z | z
  ·have:=Int.mul_le_mul_of_nonneg_left z (show 0<=e by omega)
   omega
  ·exact z
 have ed':d<=e:=by
  rcases (by omega:d<=e∨e<d) with z | z
  ·exact z
  ·exact absurd ⟨c,hc⟩ (h.no e e2 z)
 have cd':d<=c:=by
  rcases (by omega:d<=c∨c<d) with z | z
  ·exact z
  ·exact absurd ⟨e,by rw [hc,Int.mul_comm]⟩ (h.no c (by omega) z)
 have:=Int.mul_le_mul ed' cd' (by omega) (by omega)
 omega⟩
def fA:Sp:=λvs H Q _=>∃ n:Int,vs=[.int n]/\1<=n/\n<=10^9/\∀ ps p H',Num.Part n ps->ps.length<=29->aE H H'->H p=none->H' p=some (.lst ((ps.map (·.1)).map V.int))->Q (.ref p) H'
theorem eA:aC ["_law_n","_law_found","_law_d"] ["_law_n"] (ao (top 51)):=dW
theorem ni (D:aA K mg "_law_primes_of" (top 51)):Callee P w K mg base aQ 1 "_law_primes_of" ["_law_n"] fA:=by
 refine cO D eA (λf cdv A outer s H vs Q E hr h=>?_)
 obtain⟨n,rfl,n1,n9,q⟩:=h
 have nd:=eA.nd
 refine⟨_,(ag (cu (i:=1) nd (bo ae)) (ag (cu (i:=2) nd ah) (ag (bE PassesOwn.never (aw cM (pv 0) ah (ar _)) (ag (bL (aP (aw cM (aq aX (pv 2) (pv 2)) (pv 0) (ar _)) (aj (cu (i:=2) nd (pv 0))) aD)) (ag (bL (aP (aw bj (aq aM (pv 0) (pv 2)) ah (ar _)) (aj (gi (jF PySem.F.plainAttrs_list PySem.F.slot_list_append PySem.F.type_list_append eV (pv 1) (aa (pv 2) ae)))) aD)) (ag (bE PassesOwn.never (aw bj (aq aM (pv 0) (pv 2)) ah (ar _)) (aj (cu (i:=0) nd (aq cV (pv 0) (pv 2))))) (aj (cu (i:=2) nd (aq bB (pv 2) ah))))))) (aj (aB (pv 1)))))),?_⟩
 show cf _ _ _ [some (.int n),none,none] H
 k_data
 refine⟨by decide,λpp hpp=>?_⟩
 refine bF (α:=Int × Int) (λx=>[some (.int x.1),some (.ref pp),some (.int x.2)]) (λx H1=>aE H H1/\∃(ps:List (Int × Int)) (pr:Int),H1 pp=some (.lst ((ps.map (·.1)).map V.int))/\Num.Way n ps x.1 pr/\jr x.1 x.2/\x.2<=10^9+10) (λx=>(10^9+20-x.2).toNat+x.1.toNat*10^10) (n,2) rfl ⟨ai hpp,[],2,af,.start (by omega),⟨by show (2:Int)<=2;decide,λd d0 (d1:d<2)=>by omega⟩,by show (2:Int)<=10^9+10;decide⟩ ?_
 rintro⟨left,d⟩ H1 ⟨hs,ps,pr,epp,W,Ie,d9⟩
 replace W:Num.Way n ps left pr:=W
 replace Ie:jr left d:=Ie
 replace d9:d<=10^9+10:=d9
 have l1:=W.pos
 have d2:=Ie.two
 have ln:left<=n:=by
  have z:=W.two
  have p0:=Num.aW (show (0:Int)<2 by decide) ps.length
  have:=Int.mul_le_mul_of_nonneg_right (show (1:Int)<=2^ps.length by omega) (show 0<=left by omega)
  omega
 have len:=W.len n9
 k_data
 refine aL (λc3=>?_) (λc3=>?_)
 ·refine⟨_,λ_ _ z=>z,λσ' H'=>∃ e:Int,σ'=[some (.int left),some (.ref pp),some (.int e)]/\H'=H1/\jr left e/\e<=left/\(e=d∨e∣left),?_,?_⟩
  ·k_data
   refine⟨Bd.of (by omega) (by omega),Bd.of (by omega) (by omega),aL (λc=>?_) (λc=>?_)⟩
   ·exact⟨Ie.top (by omega) (by omega),Int.le_refl _,.inr (Int.dvd_refl _)⟩
   ·have:=Int.mul_le_mul_of_nonneg_right (show 1<=d by omega) (show 0<=d by omega)
    exact⟨Ie,by omega,.inl True.intro⟩
  rintro σ' H' ⟨e,rfl,rfl,Je,el,ed⟩
  have e2:=Je.two
  k_data
  refine⟨λσ' H2=>σ'=[some (.int left),some (.ref pp),some (.int e)]/\aE H H2/\H2 pp=some (.lst (((ps.map (·.1))++if left%e=0 then [e] else []).map V.int)),?_,?_⟩
  ·k_data
   refine⟨by omega,aL (λc=>?_) (λc=>?_)⟩
   ·refine⟨.inl ⟨rfl,_,aV.of epp⟩,pp,_,_,rfl,rfl,epp,by rw [List.length_map,List.length_map];exact Nat.lt_of_le_of_lt (show ps.length<=29 by omega) (by decide),hs.upd hpp,?_⟩
    rw [af,if_pos c,List.map_append (f:=V.int)]
    rfl
   ·rw [if_neg c,List.append_nil]
    exact⟨hs,epp⟩
  rintro σ' H2 ⟨rfl,s2,ep2⟩
  k_data
  refine bF (α:=Int × Nat) (λx=>[some (.int x.1),some (.ref pp),some (.int e)]) (λx H3=>H3=H2/\left=e^x.2*x.1/\1<=x.1/\x.1<=left) (λx=>x.1.toNat) (left,0) rfl ⟨rfl,by rw [Int.pow_zero,Int.one_mul],by omega,Int.le_refl _⟩ ?_
  rintro⟨lf,k⟩ H3 ⟨rfl,f1,f2,f3⟩
  replace f1:left=e^k*lf:=f1
  replace f2:1<=lf:=f2
  replace f3:lf<=left:=f3
  k_data
  refine⟨by omega,?_⟩
  refine aL (λc4=>?_) (λc4=>?_)
  ·obtain⟨y,hy⟩:=Int.dvd_of_emod_eq_zero c4
   have ey:lf/e=y:=by rw [hy];exact Int.mul_ediv_cancel_left _ (by omega)
   have y1:1<=y:=by
    rcases (by omega:y<=0∨1<=y) with z | z
    ·have:=Int.mul_nonpos_of_nonneg_of_nonpos (show 0<=e by omega) z
     omega
    ·exact z
   have yl:y<lf:=by
    rw [hy]
    have:=Int.mul_le_mul_of_nonneg_right e2 (show 0<=y by omega)
    omega
   refine⟨_,λ_ _ z=>z,by omega,Bd.of (by omega) (by omega),(y,k+1),?_,rfl,?_,y1,by show y<=left;omega,by show y.toNat<lf.toNat;omega⟩
   ·rw [ey]
   ·show left=e^(k+1)*y
    rw [f1,hy,Int.pow_succ,Int.mul_assoc]
  ·have ng:¬e∣lf:=λz=>c4 (Int.emod_eq_zero_of_dvd z)
   have Jl:jr lf (e+1):=jr.step ⟨e2,λd d2 de z=>Je.no d d2 de (by rw [f1];exact Int.dvd_mul_of_dvd_right z)⟩ ng
   rcases Nat.eq_zero_or_pos k with z | k1
   ·subst z
    rw [Int.pow_zero,Int.one_mul] at f1
    subst f1
    have:e=d:=ed.elim id λz=>absurd z ng
    subst this
    rw [if_neg c4,List.append_nil] at ep2
    refine⟨(left,e+1),rfl,rfl,s2,⟨ps,ep2,pr,W,Jl,by show e+1<=10^9+10;omega⟩,?_⟩
    show (10^9+20-(e+1)).toNat+left.toNat*10^10<(10^9+20-e).toNat+left.toNat*10^10
    omega
   ·have el':e∣left:=by
     obtain⟨k',rfl⟩:∃ k',k=k'+1:=⟨k-1,by omega⟩
     rw [f1,Int.pow_succ]
     exact Int.dvd_mul_of_dvd_left ⟨e^k',Int.mul_comm _ _⟩
    have hL:Ld.eO left e:=⟨e2,el',Je.no⟩
    have W2:=W.step n9 c3 hL f1 f2 k1 ng
    have lt:lf<left:=by
     obtain⟨k',rfl⟩:∃ k',k=k'+1:=⟨k-1,by omega⟩
     have p0:=Num.aW (show 0<e by omega) k'
     have h1:e<=e^(k'+1):=by
      rw [Int.pow_succ]
      have:=Int.mul_le_mul_of_nonneg_right (show 1<=e^k' by omega) (show 0<=e by omega)
      omega
     have:=Int.mul_le_mul_of_nonneg_right (show 2<=e^(k'+1) by omega) (show 0<=lf by omega)
     omega
    rw [if_pos (Int.emod_eq_zero_of_dvd el')] at ep2
    refine⟨(lf,e+1),rfl,rfl,s2,⟨ps++[(e,(k:Int))],by rw [List.map_append];exact ep2,e,W2,Jl,by show e+1<=10^9+10;omega⟩,?_⟩
    show (10^9+20-(e+1)).toNat+lf.toNat*10^10<(10^9+20-d).toNat+left.toNat*10^10
    omega
 ·have z:left=1:=by omega
  subst z
  exact q ps pp H1 W.done (W.len n9) hs hpp epp
def pA (p b:Int) (i:Nat):List V:=(List.range i).map λj=>V.int (b^j%p)
theorem nH {p b:Int} {i:Nat}:pA p b (i+1)=pA p b i++[V.int (b^i%p)]:=by
 unfold pA
 rw [List.range_succ,List.map_append]
 rfl
theorem lY {p b:Int} {i:Nat}:(pA p b i).length=i:=by
 unfold pA
 rw [List.length_map,List.length_range]
theorem nG {p b:Int} {i:Nat}:(pA p b i).all dY=true:=by
 unfold pA
 rw [List.all_eq_true]
 intro x hx
 obtain⟨j,_,rfl⟩:=List.mem_map.mp hx
 rfl
theorem yC {p b:Int} {i j:Nat} {z:V} (h:(pA p b i)[j]?=some z):j<i/\z=V.int (b^j%p):=by
 have hj:j<i:=by
  have:=(List.getElem?_eq_some_iff.mp h).1
  rwa [lY] at this
 refine⟨hj,?_⟩
 unfold pA at h
 rw [List.getElem?_map,List.getElem?_range hj] at h
 cases h
 rfl
theorem ud {p b c:Int} {i:Nat}:zJ (.int c) (pA p b i)=true↔∃ j,j<i/\b^j%p=c:=by
 unfold zJ pA
 rw [List.any_eq_true]
 constructor
 ·rintro⟨x,hx,e⟩
  obtain⟨j,hj,rfl⟩:=List.mem_map.mp hx
  exact⟨j,List.mem_range.mp hj,by simpa [mM] using e⟩
 ·rintro⟨j,hj,e⟩
  exact⟨_,List.mem_map.mpr ⟨j,List.mem_range.mpr hj,rfl⟩,by simpa [mM] using e⟩
def xm (K:PySem.W.Frag):Sp:=λvs H Q _=>∃(p b a:Int) (e:Nat),vs=[.int p,.int b,.int a]/\Num.Pm p/\p<=1000 /\ -(10^60)<=b/\b<=10^60 /\ -(10^60)<=a/\a<=10^60/\Num.Ord p b e/\(e:Int)<p/\(∀ u H',(∀ x,x<e->¬Num.Al p a (b^x))->aE H H'->dv K H' (m9 e (a^e%p)) u->Q u H')/\∀ x ps u H',x<e->Num.Al p a (b^x)->Num.Part e ps->aE H H'->dv K H' (pC x e ps) u->Q u H'
theorem eh:aC ["_law_p","_law_b","_law_a","_law_powers","_law_e","_law_x"] ["_law_p","_law_b","_law_a"] (ao (top 52)):=dW
theorem yj (D:aA K mg "_law_due_power" (top 52)) (c__law_power:Callee P w K mg base aQ 1 "_law_power" ["_law_n","_law_a","_law_e"] me) (c__law_digits:Callee P w K mg base aQ 1 "_law_digits" ["_law_x","_law_q","_law_e"] (uq K)) (c__law_primes_of:Callee P w K mg base aQ 1 "_law_primes_of" ["_law_n"] fA) (n_tuple:mg "tuple"=none) (n_len:mg "len"=none):Callee P w K mg base aQ 2 "_law_due_power" ["_law_p","_law_b","_law_a"] (xm K):=by
 refine cO D eh (λf cdv A outer s H vs Q E hr h=>?_)
 obtain⟨p,b,a,e,rfl,pm,p9,b0,b1,a0,a1,o,ep,qn,qi⟩:=h
 have p2:=pm.two
 have e0:=o.pos
 have nd:=eh.nd
 refine⟨_,(ag (cu (i:=3) nd (bo (aa ah ae))) (ag (bE PassesOwn.never (aw kI (aq aM (aq aX (aO bW (pv 3) (ik fC ah) (λ_ _=>rfl)) (pv 1)) (pv 0)) ah (ar _)) (aj (gi (jF PySem.F.plainAttrs_list PySem.F.slot_list_append PySem.F.type_list_append eV (pv 3) (aa (aq aM (aq aX (aO bW (pv 3) (ik fC ah) (λ_ _=>rfl)) (pv 1)) (pv 0)) ae))))) (ag (bT (i:=4) nd rfl (Or.inr rfl) (aG bf rfl n_len PySem.boot_len (aa (pv 3) ae))) (ag (aP (aw lP (aq aM (pv 2) (pv 0)) (pv 3) (by with_unfolding_all rfl)) (aj (aB (ax (aa dc (aa (ax (aa ba (aa (pv 4) (aa (bU c__law_power hr ay (aa (pv 0) (aa (pv 2) (aa (pv 4) ae)))) ae)))) ae))))) aD) (ag (bT (i:=5) nd rfl (Or.inr rfl) (jF PySem.F.plainAttrs_list PySem.F.slot_list_index PySem.F.type_list_index sZ (pv 3) (aa (aq aM (pv 2) (pv 0)) ae))) (aj (aB (ax (aa (pv 5) (aa (ax (aa ba (aa (pv 4) (aa (cq cR rfl n_tuple L2.boot_tuple (aa (gE rfl (uQ (N':=["_law_q","_law_x","_law_e"]) (js:=[none,some 5,some 4]) rfl rfl) (gh (bU c__law_primes_of hr ay (aa (pv 4) ae))) (λ_ _ _ _=>(aH (i:=0) (show List.Nodup [("_law_q":Str),("_law_x":Str),("_law_e":Str)] from by decide +kernel) rfl (Or.inl rfl) (.inr rfl))) (λ_ _ _ _=>dF) (λ_ _ _ _=>(ax (aa (pv 0) (aa (bU c__law_digits hr ay (aa (pv 1) (aa (pv 0) (aa (pv 2) ae)))) ae))))) ae)) ae)))) ae)))))))))),?_⟩
 show cf _ _ _ [some (.int p),some (.int b),some (.int a),none,none,none] H
 k_data
 have r0:=λx:Int=>Int.emod_nonneg x (show p≠0 by omega)
 have r1:=λx:Int=>Int.emod_lt_of_pos x (show 0<p by omega)
 refine⟨by decide,λpl hpl=>?_⟩
 refine bF (α:=Nat) (λ_=>[some (.int p),some (.int b),some (.int a),some (.ref pl),none,none]) (λi H1=>aE H H1/\i<e/\H1 pl=some (.lst (pA p b (i+1)))) (λi=>e-i) 0 rfl ⟨ai hpl,e0,?_⟩ ?_
 ·rw [af]
  show _=some (HO.lst [V.int (b^0%p)])
  rw [Int.pow_zero,Int.emod_eq_of_lt (by decide) (by omega)]
 rintro i H1 ⟨s1,ie,hl⟩
 replace ie:i<e:=ie
 have ix:∀{Q:VK},Q (V.int (b^i%p)) H1->v5 K (.ref pl) (.int (-1)) H1 Q:=λ{Q} h=>⟨pl,_,-1,_,rfl,rfl,aV.of hl,by rw [nH];exact sg _ _,h⟩
 have nx:b^i%p*b%p=b^(i+1)%p:=by rw [Pw.qc,Int.pow_succ]
 have h0:=r0 (b^i)
 have h1:=r1 (b^i)
 have bx:Bd (b^i%p):=Bd.of (by omega) (by omega)
 have bb:Bd b:=Bd.of (by omega) (by omega)
 k_data
 refine ix ⟨_,rfl,bx,bb,by omega,?_⟩
 rw [nx]
 refine aL (λc=>?_) (λc=>?_)
 ·have ie':i+1<e:=by
   rcases (by omega:i+1<e∨i+1=e) with z | z
   ·exact z
   ·subst z
    exact absurd ((dJ p2).mpr o.one) c
  refine⟨_,λ_ _ z=>z,.inl ⟨rfl,_,aV.of hl⟩,ix ⟨_,rfl,bx,bb,by omega,?_⟩⟩
  rw [nx]
  refine⟨pl,_,_,rfl,rfl,hl,by rw [lY];exact Nat.lt_of_le_of_lt (show i+1<=1000 by omega) (by decide),rfl,s1.upd hpl,i+1,ie',?_,by show e-(i+1)<e-i;omega⟩
  rw [af,<- nH]
 ·have ie':i+1=e:=by
   have h3:b^(i+1)%p=1:=by
    rcases (by omega:b^(i+1)%p=1∨b^(i+1)%p≠1) with z | z
    ·exact z
    ·exact absurd z c
   have:=Nat.le_of_dvd (by omega) (o.dv _ ((dJ p2).mp h3))
   omega
  rw [ie'] at hl
  refine c9 (aV.of hl) ?_
  rw [lY]
  refine⟨by omega,pl,_,rfl,.inl (aV.of hl),rfl,nG,_,rfl,?_⟩
  cases hin:zJ (V.int (a%p)) (pA p b e) with
  | false =>
   rw [if_pos (by rfl)]
   refine⟨p,a,_,rfl,by omega,by omega,by omega,by omega,by omega,?_⟩
   rw [Int.toNat_natCast]
   refine⟨by show 3<=sizeLine;decide,λp3 hp3=>⟨by show 2<=sizeLine;decide,λp4 hp4=>?_⟩⟩
   have s3:=ai (o:=.tup [V.str "none",V.int (e:Int),V.int (a^e%p)]) hp3
   have s4:=ai (o:=.tup [V.bw,V.ref p3]) hp4
   refine qn _ _ (λx xe al=>?_) (s1.trans (s3.trans s4)) (dv.tup af ⟨_,_,rfl,rfl,.one (dv.tup (s4 _ _ af) ⟨_,_,rfl,rfl,_,_,rfl,rfl,.one rfl⟩)⟩)
   have:=ud.mpr ⟨x,xe,Num.Al.iff.mp al.symm⟩
   rw [hin] at this
   cases this
  | true =>
   rw [if_neg (by decide)]
   obtain⟨x,xe,hx⟩:=ud.mp hin
   have al:Num.Al p a (b^x):=(Num.Al.iff.mpr hx).symm
   have hat:(pA p b e)[x]?=some (V.int (b^x%p)):=by
    unfold pA
    rw [List.getElem?_map,List.getElem?_range xe]
    rfl
   refine⟨.inl ⟨rfl,_,aV.of hl⟩,by omega,pl,_,_,x,rfl,rfl,hl,rfl,nG,⟨_,hat,by simp [mM,hx]⟩,λj z hj hz=>?_,e,rfl,by omega,by omega,λps ql H2 hps p29 s2 fql eql=>⟨ql,rfl,⟨_,aV.of eql⟩,?_⟩⟩
   ·obtain⟨je,rfl⟩:=yC hz
    rcases hc:mM (V.int (b^j%p)) (V.int (a%p)) with _ | _
    ·rfl
    ·have h3:b^j%p=a%p:=by simpa [mM] using hc
     have:=o.uh je xe (h3.trans hx.symm)
     omega
   have eE:Num.eN ps=e:=by
    have:=Num.fX ps λy hy=>(hps.ok y hy).1
    rw [hps.prod] at this
    omega
   refine dk (xs:=(ps.map (·.1)).map V.int) (λi zs H5=>aE H2 H5/\bh K H5 ((ps.take i).map (dS x)) zs) ⟨aE.refl _,rfl⟩ (by rw [List.length_map,List.length_map];exact Nat.le_trans p29 (by decide)) (λi zs H5 hi ⟨z1,z2⟩=>⟨aV.of (z1 _ _ eql),by rw [z2.length,List.length_map,List.length_take];omega⟩) ?_ ?_
   ·rintro i w' zs H5 hx ⟨s5,hz⟩
    rw [List.getElem?_map,List.getElem?_map] at hx
    obtain⟨q',hx1,rfl⟩:=Option.map_eq_some_iff.mp hx
    obtain⟨⟨q'',t'⟩,hy,rfl⟩:=Option.map_eq_some_iff.mp hx1
    obtain⟨pq,t1,t9⟩:=hps.ok _ (List.mem_of_getElem? hy)
    have dE:=lx (List.mem_of_getElem? hy)
    have nE:=ia (λz hz=>(hps.ok z hz).1) hps.rise (List.mem_of_getElem? hy)
    rw [eE] at dE nE
    replace pq:Num.Pm q'':=pq
    replace t1:1<=t':=t1
    replace t9:t'<=30:=t9
    have q2:=pq.two
    have qe:q''∣(e:Int):=by
     rw [<- hps.prod]
     exact Num.bY (List.mem_of_getElem? hy) t1
    have qe':=Int.le_of_dvd (by omega) qe
    obtain⟨qn',rfl⟩:∃ n:Nat,q''=n:=⟨q''.toNat,by omega⟩
    obtain⟨tn,rfl⟩:∃ n:Nat,t'=n:=⟨t'.toNat,by omega⟩
    replace dE:qn'^tn∣e:=dE
    replace nE:¬qn'^(tn+1)∣e:=nE
    show eT 0 _ [none,some (.int (x:Int)),some (.int (e:Int))] _ _
    k_data
    refine⟨⟨rfl,rfl,True.intro⟩,x,qn',e,tn,rfl,by omega,by omega,by omega,dE,nE,by omega,λpd H6 s6 hSd=>⟨by show 2<=sizeLine;decide,λp7 hp7=>?_⟩⟩
    have s7:=ai (o:=.tup [V.int (qn':Int),V.ref pd]) hp7
    refine⟨(s5.trans s6).trans s7,?_⟩
    rw [List.take_add_one,hy,List.map_append]
    refine bh.append (bh.same (s6.trans s7) _ hz) (.one (dv.tup af ⟨_,_,rfl,rfl,.one ⟨pd,_,rfl,hSd.same s7,?_⟩⟩))
    have:=bh.ints (K:=K) (H:=upd H6 p7 (.tup [V.int (qn':Int),V.ref pd])) ((Num.eR x qn' tn).map λd:Nat=>(d:Int))
    rw [List.map_map (f:=λd:Nat=>(d:Int)) (g:=V.int)] at this
    exact this
   ·rintro zs H5 p5 ⟨s5,hz⟩ hp5
    rw [List.length_map,List.length_map,List.take_length] at hz
    have s6:=ai (o:=.lst zs) hp5
    refine⟨p5,rfl,zs,.inl ⟨aV.of af,λpt hpt=>⟨by show 3<=sizeLine;decide,λp7 hp7=>⟨by show 2<=sizeLine;decide,λp8 hp8=>?_⟩⟩⟩⟩
    have s7:=ai (o:=.tup zs) hpt
    have s8:=ai (o:=.tup [V.str "is",V.int (e:Int),V.ref pt]) hp7
    have s9:=ai (o:=.tup [V.int (x:Int),V.ref p7]) hp8
    have S9:=s6.trans (s7.trans (s8.trans s9))
    exact qi x ps _ _ xe al hps (s1.trans (s2.trans (s5.trans S9))) (dv.tup af ⟨_,_,rfl,rfl,.one (dv.tup (s9 _ _ af) ⟨_,_,rfl,rfl,_,_,rfl,rfl,.one (dv.tup ((s8.trans s9) _ _ af) (bh.same S9 _ hz))⟩)⟩)
def qF:Sp:=λvs H Q _=>∃(p0:Addr) (p:Int) (n:Nat),vs=[.ref p0,.int p]/\Tp p0 n H/\n<=10^40/\2<=p/\p<=10^9/\∀ r H',-(10^60)<=r->r<=10^60->bR p0 H H'->Tp p0 (n+5) H'->Q (.int r) H'
theorem fN:aC ["_law_tape_here","_law_p","_law_a"] ["_law_tape_here","_law_p"] (ao (top 48)):=dW
theorem tL (D:aA K mg "_law_number" (top 48)) (c__law_draw:Callee P w K mg base aQ 1 "_law_draw" ["_law_tape_here","_law_many"] dz) (n_int:mg "int"=none):Callee P w K mg base aQ 2 "_law_number" ["_law_tape_here","_law_p"] qF:=by
 refine cO D fN (λf cdv A outer s H vs Q E hr h=>?_)
 obtain⟨p0,p,n,rfl,tp,n9,p2,p9,q⟩:=h
 have nd:=fN.nd
 refine⟨_,(ag (cu (i:=2) nd (aq aX (bU c__law_draw hr ay (aa (pv 0) (aa (pv 1) ae))) (cq kn rfl n_int L2.boot_int (aa (bC cM (bU c__law_draw hr ay (aa (pv 0) (aa ah ae))) ah (ar _)) ae)))) (aj (aB (aq bB (pv 2) (aq aX (pv 1) (aO bW (bo (aa ah (aa ah (aa (aq bB ah (bU c__law_draw hr ay (aa (pv 0) (aa ah ae)))) (aa (aq cZ (ik fC ah) (bU c__law_draw hr ay (aa (pv 0) (aa ah ae)))) (aa (aq lR ah ah) (aa (ik fC (aq lR ah ah)) ae))))))) (bU c__law_draw hr ay (aa (pv 0) (aa ah ae))) (λ_ _=>rfl))))))),?_⟩
 show cf _ _ _ [some (.ref p0),some (.int p),none] H
 k_data
 refine⟨p0,p,n,rfl,tp,by omega,by omega,by omega,λr1 H1 r10 r11 o1 t1=>⟨p0,8,n+1,rfl,t1,by omega,by decide,by decide,λr2 H2 r20 r21 o2 t2=>?_⟩⟩
 refine⟨r2,rfl,.inr ⟨r1,rfl,Bd.of (by omega) (by omega),?_⟩⟩
 generalize hz:(if 0<r2 then (1:Int) else 0)=z
 have z0:0<=z/\z<=1:=by subst hz;split<;>omega
 have rz0:0<=r1*z:=Int.mul_nonneg r10 z0.1
 have rz1:r1*z<=r1*1:=Int.mul_le_mul_of_nonneg_left z0.2 r10
 refine⟨Bd.of (by omega) (by omega),p0,50,n+2,rfl,t2,by omega,by decide,by decide,λx H3 x0 x1 o3 t3=>⟨x,rfl,p0,50,n+3,rfl,t3,by omega,by decide,by decide,λy H4 y0 y1 o4 t4=>⟨y,rfl,by show 6<=sizeLine;decide,λpl hpl=>?_⟩⟩⟩
 have s5:=ai (o:=.lst [V.int 0,V.int 0,V.int (1+x),V.int (-1-y),V.int 10000000000000000000000000000000000000000000000000,V.int (-10000000000000000000000000000000000000000000000000)]) hpl
 have e5:upd H4 pl (.lst [V.int 0,V.int 0,V.int (1+x),V.int (-1-y),V.int 10000000000000000000000000000000000000000000000000,V.int (-10000000000000000000000000000000000000000000000000)]) pl=some (.lst [V.int 0,V.int 0,V.int (1+x),V.int (-1-y),V.int 10000000000000000000000000000000000000000000000000,V.int (-10000000000000000000000000000000000000000000000000)]):=af
 generalize upd H4 pl _=H5 at *
 have t5:=t4.same s5
 refine⟨p0,6,n+4,rfl,t5,by omega,by decide,by decide,λj H6 j0 j1 o6 t6=>?_⟩
 have e6:=o6.bS _ _ (t5.ne e5 (by intro _ z;cases z)) e5
 refine cE (aV.of e6) j0 j1 λv hv=>?_
 have of:bR p0 H H6:=(((o1.trans o2).trans (o3.trans o4)).bS.trans (.of s5)).trans o6.bS
 have fin:∀ c:Int,-(10^50)<=c->c<=10^50->∃ x_3,V.int c=V.int x_3/\Bd p/\Bd x_3/\Q (V.int (r1*z+p*x_3)) H6:=λc c0 c1=>by
  have h1:p*c<=p*10^50:=Int.mul_le_mul_of_nonneg_left c1 (by omega)
  have h2:p * -(10^50)<=p*c:=Int.mul_le_mul_of_nonneg_left c0 (by omega)
  exact⟨c,rfl,Bd.of (by omega) (by omega),Bd.of (by omega) (by omega),q _ _ (by omega) (by omega) of t6⟩
 simp only [List.mem_cons,List.not_mem_nil,or_false] at hv
 rcases hv with rfl | rfl | rfl | rfl | rfl | rfl
 ·exact fin _ (by omega) (by omega)
 ·exact fin _ (by omega) (by omega)
 ·exact fin _ (by omega) (by omega)
 ·exact fin _ (by omega) (by omega)
 ·exact fin _ (by omega) (by omega)
 ·exact fin _ (by omega) (by omega)
end
end K
namespace K
open PySem PySem.Spec PyProof.Rows L2
section
variable {P:Program} {w:World} {K:PySem.W.Frag} {mg:Str->Option Value} {base:Heap} {C:Addr}
def uu (K:PySem.W.Frag):Sp:=λvs H Q _=>∃(x e:Nat),vs=[.int x,.int e]/\1<=e/\e<=10^9/\∀ pl u H',Num.Part e pl->aE H H'->dv K H' (pC x e pl) u->Q u H'
theorem jO:aC ["_law_x","_law_e"] ["_law_x","_law_e"] (ao (top 60)):=dW
theorem yk (D:aA K mg "_law_is" (top 60)) (c__law_primes_of:Callee P w K mg base aQ 1 "_law_primes_of" ["_law_n"] fA) (c__law_digits:Callee P w K mg base aQ 1 "_law_digits" ["_law_x","_law_q","_law_e"] (uq K)) (n_tuple:mg "tuple"=none):Callee P w K mg base aQ 2 "_law_is" ["_law_x","_law_e"] (uu K):=by
 refine cO D jO (λf cdv A outer s H vs Q E hr h=>?_)
 obtain⟨x,e,rfl,e1,e9,q⟩:=h
 have nd:=jO.nd
 refine⟨_,(aj (aB (ax (aa (pv 0) (aa (ax (aa ba (aa (pv 1) (aa (cq cR rfl n_tuple L2.boot_tuple (aa (gE rfl (uQ (N':=["_law_q","_law_x","_law_e"]) (js:=[none,some 0,some 1]) rfl rfl) (gh (bU c__law_primes_of hr ay (aa (pv 1) ae))) (λ_ _ _ _=>(aH (i:=0) (show List.Nodup [("_law_q":Str),("_law_x":Str),("_law_e":Str)] from by decide +kernel) rfl (Or.inl rfl) (.inr rfl))) (λ_ _ _ _=>dF) (λ_ _ _ _=>(ax (aa (pv 0) (aa (bU c__law_digits hr ay (aa (pv 1) (aa (pv 0) (aa (pv 2) ae)))) ae))))) ae)) ae)))) ae))))),?_⟩
 show iC _ _ [some (.int (x:Int)),some (.int (e:Int))] H
 k_data
 refine⟨e,rfl,by omega,by omega,λpl ql H2 hpl p29 s2 fql eql=>⟨ql,rfl,⟨_,aV.of eql⟩,?_⟩⟩
 have few:=hZ hpl (by omega)
 have eE:Num.eN pl=e:=by
  have:=Num.fX pl λy hy=>(hpl.ok y hy).1
  rw [hpl.prod] at this
  omega
 refine dk (xs:=(pl.map (·.1)).map V.int) (λi zs H5=>aE H2 H5/\bh K H5 ((pl.take i).map (dS x)) zs) ⟨aE.refl _,rfl⟩ (by rw [List.length_map,List.length_map];exact Nat.le_trans few (by decide)) (λi zs H5 hi ⟨z1,z2⟩=>⟨aV.of (z1 _ _ eql),by rw [z2.length,List.length_map,List.length_take];omega⟩) ?_ ?_
 ·rintro i w' zs H5 hx ⟨s5,hz⟩
  rw [List.getElem?_map,List.getElem?_map] at hx
  obtain⟨q',hx1,rfl⟩:=Option.map_eq_some_iff.mp hx
  obtain⟨⟨q'',t'⟩,hy,rfl⟩:=Option.map_eq_some_iff.mp hx1
  obtain⟨pq,t1,t9⟩:=hpl.ok _ (List.mem_of_getElem? hy)
  have dE:=lx (List.mem_of_getElem? hy)
  have nE:=ia (λz hz=>(hpl.ok z hz).1) hpl.rise (List.mem_of_getElem? hy)
  rw [eE] at dE nE
  replace pq:Num.Pm q'':=pq
  replace t1:1<=t':=t1
  replace t9:t'<=30:=t9
  have q2:=pq.two
  have qe:q''∣(e:Int):=by
   rw [<- hpl.prod]
   exact Num.bY (List.mem_of_getElem? hy) t1
  have qe':=Int.le_of_dvd (by omega) qe
  obtain⟨qn',rfl⟩:∃ n:Nat,q''=n:=⟨q''.toNat,by omega⟩
  obtain⟨tn,rfl⟩:∃ n:Nat,t'=n:=⟨t'.toNat,by omega⟩
  replace dE:qn'^tn∣e:=dE
  replace nE:¬qn'^(tn+1)∣e:=nE
  show eT 0 _ [none,some (.int (x:Int)),some (.int (e:Int))] _ _
  k_data
  refine⟨⟨rfl,rfl,True.intro⟩,x,qn',e,tn,rfl,by omega,by omega,by omega,dE,nE,by omega,λpd H6 s6 hSd=>⟨by show 2<=sizeLine;decide,λp7 hp7=>?_⟩⟩
  have s7:=ai (o:=.tup [V.int (qn':Int),V.ref pd]) hp7
  refine⟨(s5.trans s6).trans s7,?_⟩
  rw [List.take_add_one,hy,List.map_append]
  refine bh.append (bh.same (s6.trans s7) _ hz) (.one (dv.tup af ⟨_,_,rfl,rfl,.one ⟨pd,_,rfl,hSd.same s7,?_⟩⟩))
  have:=bh.ints (K:=K) (H:=upd H6 p7 (.tup [V.int (qn':Int),V.ref pd])) ((Num.eR x qn' tn).map λd:Nat=>(d:Int))
  rw [List.map_map (f:=λd:Nat=>(d:Int)) (g:=V.int)] at this
  exact this
 ·rintro zs H5 p5 ⟨s5,hz⟩ hp5
  rw [List.length_map,List.length_map,List.take_length] at hz
  have s6:=ai (o:=.lst zs) hp5
  refine⟨p5,rfl,zs,.inl ⟨aV.of af,λpt hpt=>⟨by show 3<=sizeLine;decide,λp6 hp6=>⟨by show 2<=sizeLine;decide,λp7 hp7=>?_⟩⟩⟩⟩
  have s7:=ai (o:=.tup zs) hpt
  have s8:=ai (o:=.tup [V.str "is",V.int (e:Int),V.ref pt]) hp6
  have s9:=ai (o:=.tup [V.int (x:Int),V.ref p6]) hp7
  exact q pl _ _ hpl (s2.trans (s5.trans (s6.trans (s7.trans (s8.trans s9))))) (dv.tup af ⟨_,_,rfl,rfl,.one (dv.tup (s9 _ _ af) ⟨_,_,rfl,rfl,_,_,rfl,rfl,.one (dv.tup (s9 _ _ (s8 _ _ af)) (bh.same (s6.trans (s7.trans (s8.trans s9))) _ hz))⟩)⟩)
def uv (K:PySem.W.Frag):Sp:=λvs H Q _=>∃(p b a:Int),vs=[.int p,.int b,.int a]/\Num.Pm p/\p<=10^9 /\ -(10^60)<=b/\b<=10^60 /\ -(10^60)<=a/\a<=10^60/\∀ u H',aE H H'->GV K H' u->Q u H'
theorem ir:aC ["_law_p","_law_b","_law_a","_law_e","_law_here"] ["_law_p","_law_b","_law_a"] (ao (top 59)):=dW
theorem vJ (D:aA K mg "_law_none" (top 59)) (c__law_power:Callee P w K mg base aQ 1 "_law_power" ["_law_n","_law_a","_law_e"] me):Callee P w K mg base aQ 2 "_law_none" ["_law_p","_law_b","_law_a"] (uv K):=by
 refine cO D ir (λf cdv A outer s H vs Q E hr h=>?_)
 obtain⟨p,b,a,rfl,pm,p9,b0,b1,a0,a1,q⟩:=h
 have p2:=pm.two
 have nd:=ir.nd
 refine⟨_,(ag (cu (i:=3) nd ah) (ag (cu (i:=4) nd (aq aM (pv 1) (pv 0))) (ag (bE PassesOwn.never (aw cM (pv 4) ah (ar _)) (ag (cu (i:=4) nd (aq aM (aq aX (pv 4) (pv 1)) (pv 0))) (aj (cu (i:=3) nd (aq bB (pv 3) ah))))) (aj (aB (ax (aa dc (aa (ax (aa ba (aa (pv 3) (aa (bU c__law_power hr ay (aa (pv 0) (aa (pv 2) (aa (pv 3) ae)))) ae)))) ae)))))))),?_⟩
 show cf _ _ _ [some (.int p),some (.int b),some (.int a),none,none] H
 k_data
 have r0:=λx:Int=>Int.emod_nonneg x (show p≠0 by omega)
 have r1:=λx:Int=>Int.emod_lt_of_pos x (show 0<p by omega)
 refine⟨by omega,?_⟩
 refine bF (α:=Nat) (λk=>[some (.int p),some (.int b),some (.int a),some (.int (k:Int)),some (.int (b^k%p))]) (λk H1=>H1=H/\1<=k/\(k:Int)<=p-1) (λk=>p.toNat-k) 1 (by rw [Int.pow_succ,Int.pow_zero,Int.one_mul];rfl) ⟨rfl,Nat.le_refl _,by show (1:Int)<=p-1;omega⟩ ?_
 rintro k H1 ⟨eH,k1,kp⟩
 replace k1:1<=k:=k1
 replace kp:(k:Int)<=p-1:=kp
 rw [eH]
 have h0:=r0 (b^k)
 have h1:=r1 (b^k)
 k_data
 refine aL (λc=>?_) (λc=>?_)
 ·have kp':(k:Int)<p-1:=by
   rcases (by omega:(k:Int)<p-1∨(k:Int)=p-1) with z | z
   ·exact z
   ·by_cases hb:p∣b
    ·have:p∣b^k:=by
      obtain⟨m,rfl⟩:∃ m,k=m+1:=⟨k-1,by omega⟩
      rw [Int.pow_succ]
      exact Int.dvd_trans hb (Int.dvd_mul_left _ _)
     rw [Int.emod_eq_zero_of_dvd this] at c
     omega
    ·have:=(dJ p2).mpr (Num.jx pm hb)
     rw [show (p-1).toNat=k by omega] at this
     omega
  exact⟨_,λ_ _ z=>z,Bd.of (by omega) (by omega),Bd.of (by omega) (by omega),by omega,k+1,by rw [Pw.qc,<- Int.pow_succ];rfl,rfl,by omega,by show ((k+1:Nat):Int)<=p-1;omega,by show p.toNat-(k+1)<p.toNat-k;omega⟩
 ·have m0:=r0 (a^k)
  have m1:=r1 (a^k)
  refine⟨p,a,_,rfl,by omega,by omega,by omega,by omega,by omega,?_⟩
  rw [Int.toNat_natCast]
  refine⟨by show 3<=sizeLine;decide,λa2 ha2=>⟨by show 2<=sizeLine;decide,λa3 ha3=>?_⟩⟩
  have b2:=ai (o:=.tup [V.str "none",V.int (k:Int),V.int (a^k%p)]) ha2
  have b3:=ai (o:=.tup [V.bw,V.ref a2]) ha3
  exact q _ _ (b2.trans b3) (GV.tup (aJ.of af) (.cons .bw (.cons (GV.tup (aJ.of (b3 _ _ af)) (.cons (.str (by decide +kernel)) (.cons (.int (by omega) (by omega)) (.cons (.int (by omega) (by omega)) .nil)))) .nil)))
def uS (e:Nat) (dx d2:PyData):Prop:=(dx=.none/\∃ r:Int,d2=.int r/\0<=r/\r<=10^9)∨∃(x:Nat) (pl:List (Int × Int)),dx=.int x/\d2=.tuple (pl.map (dS x))/\x<e/\Num.Part e pl
def qC (K:PySem.W.Frag):Sp:=λvs H Q _=>∃(t:Addr) (v:V) (n e:Nat) (dx d2:PyData) (s0:Str) (p:Int),vs=[.ref t,v,.int p]/\Tp t n H/\n<=10^47/\dv K H (.tuple [dx,.tuple [.str s0,.int e,d2]]) v/\PyData.canLay0 (.str s0)=true/\uS e dx d2/\p<=10^9/\1<=e/\(e:Int)∣p-1/\2<=p/\∀ y H',bR t H H'->Tp t (n+40) H'->GV K H' y->Q y H'
def wD (K:PySem.W.Frag) (H:Hp) (t pv pw:Addr) (vx:V) (p:Int) (e:Nat) (way:Int) (n:Nat) (σ':L2.St) (H':Hp):Prop:=∃ o8 o9 o10,σ'=[some (.ref t),some (.ref pv),some (.int p),some vx,some (.ref pw),some (.int (e:Int)),some (.int way),o8,o9,o10]/\bR t H H'/\Tp t n H'
theorem ip:aC ["_law_tape_here","_law_due","_law_p","_law_x","_law_shown","_law_e","_law_way","_law_some","_law_q","_law_last"] ["_law_tape_here","_law_due","_law_p"] (ao (top 61)):=dW
theorem tE (D:aA K mg "_law_bent" (top 61)) (c__law_draw:Callee P w K mg base aQ 1 "_law_draw" ["_law_tape_here","_law_many"] dz) (c__law_is:Callee P w K mg base aQ 2 "_law_is" ["_law_x","_law_e"] (uu K)) (c__law_primes_of:Callee P w K mg base aQ 1 "_law_primes_of" ["_law_n"] fA) (c__law_bent_row:Callee P w K mg base aQ 3 "_law_bent_row" ["_law_tape_here","_law_row"] (fj K)) (c__law_bent_parts:Callee P w K mg base aQ 4 "_law_bent_parts" ["_law_tape_here","_law_parts"] (iZ K)) (n_len:mg "len"=none):Callee P w K mg base aQ 5 "_law_bent" ["_law_tape_here","_law_due","_law_p"] (qC K):=by
 refine cO D ip (λf cdv A outer s H vs Q E hr h=>?_)
 obtain⟨t,v,n,e,dx,d2,s0,p,rfl,tt,n9,hv,c0,hD,p9,e1,ed,p2,q⟩:=h
 have ep:=Int.le_of_dvd (by omega) ed
 have nd:=ip.nd
 refine⟨_,(@ag _ _ _ _ _ (dZ (pv 1) (dN (n:=2) rfl (aI (aH (i:=3) nd rfl (Or.inl rfl) (.inr rfl)) (aI (aH (i:=4) nd rfl (Or.inl rfl) (.inr rfl)) cG)))) (@ag _ _ _ _ _ (@bT _ _ 5 _ _ _ _ nd rfl (Or.inl rfl) (@aO _ _ _ _ _ _ _ aS (pv 4) ah (λ_ _=>rfl)) (by rfl) (by first | exact .inl rfl | exact .inr rfl | assumption)) (@ag _ _ _ _ _ (@bT _ _ 6 _ _ _ _ nd rfl (Or.inl rfl) (@aF _ _ _ _ _ _ _ _ _ _ _ _ c__law_draw (hr.mono (by decide)) rfl ay (@aa _ _ _ _ _ (pv 0) (@aa _ _ _ _ _ ah ae (by rfl)) (by rfl)) (by decide) (by rfl) (by rfl)) (by rfl) (by first | exact .inl rfl | exact .inr rfl | assumption)) (@ag _ _ _ _ _ (bL (@aP _ _ _ _ _ _ _ _ (@aw _ _ _ _ _ _ _ _ bj (pv 6) ah (ar _)) (@aj _ _ _ (@aB _ _ _ _ (@aF _ _ _ _ _ _ _ _ _ _ _ _ c__law_is (hr.mono (by decide)) rfl ay (@aa _ _ _ _ _ (@aF _ _ _ _ _ _ _ _ _ _ _ _ c__law_draw (hr.mono (by decide)) rfl ay (@aa _ _ _ _ _ (pv 0) (@aa _ _ _ _ _ (pv 5) ae (by rfl)) (by rfl)) (by decide) (by rfl) (by rfl)) (@aa _ _ _ _ _ (pv 5) ae (by rfl)) (by rfl)) (by decide) (by rfl) (by rfl)))) aD)) (@ag _ _ _ _ _ (@bT _ _ 7 _ _ _ _ nd rfl (Or.inl rfl) (@aF _ _ _ _ _ _ _ _ _ _ _ _ c__law_primes_of (hr.mono (by decide)) rfl ay (@aa _ _ _ _ _ (@aq _ _ _ _ _ _ _ _ cV (@aq _ _ _ _ _ _ _ _ cZ (pv 2) ah) (pv 5)) ae (by rfl)) (by decide) (by rfl) (by rfl)) (by rfl) (by first | exact .inl rfl | exact .inr rfl | assumption)) (@ag _ _ _ _ _ (bL (@aP _ _ _ _ _ _ _ _ (PW.pt (df (@aw _ _ _ _ _ _ _ _ cM (pv 6) ah (ar _)) (df (@aw _ _ _ _ _ _ _ _ lQ (pv 3) dc (ar _)) (dB (@aw _ _ _ _ _ _ _ _ (yr hr.units) (pv 7) (@bo _ _ _ _ ae) (ar _)))))) (@ag _ _ _ _ _ (@bT _ _ 8 _ _ _ _ nd rfl (Or.inl rfl) (@aO _ _ _ _ _ _ _ bW (pv 7) (@aF _ _ _ _ _ _ _ _ _ _ _ _ c__law_draw (hr.mono (by decide)) rfl ay (@aa _ _ _ _ _ (pv 0) (@aa _ _ _ _ _ (@aG _ _ _ _ _ _ _ _ _ bf rfl n_len PySem.boot_len (@aa _ _ _ _ _ (pv 7) ae (by rfl)) (by decide) (by decide) (by rfl) (by rfl)) ae (by rfl)) (by rfl)) (by decide) (by rfl) (by rfl)) (λ_ _=>rfl)) (by rfl) (by first | exact .inl rfl | exact .inr rfl | assumption)) (@aj _ _ _ (@aB _ _ _ _ (@aF _ _ _ _ _ _ _ _ _ _ _ _ c__law_is (hr.mono (by decide)) rfl ay (@aa _ _ _ _ _ (@aq _ _ _ _ _ _ _ _ bB (pv 3) (@aq _ _ _ _ _ _ _ _ aX (pv 5) (@aF _ _ _ _ _ _ _ _ _ _ _ _ c__law_draw (hr.mono (by decide)) rfl ay (@aa _ _ _ _ _ (pv 0) (@aa _ _ _ _ _ (pv 8) ae (by rfl)) (by rfl)) (by decide) (by rfl) (by rfl)))) (@aa _ _ _ _ _ (@aq _ _ _ _ _ _ _ _ aX (pv 8) (pv 5)) ae (by rfl)) (by rfl)) (by decide) (by rfl) (by rfl))))) aD)) (@ag _ _ _ _ _ (bL (@aP _ _ _ _ _ _ _ _ (@aw _ _ _ _ _ _ _ _ bj (pv 6) ah (ar _)) (@aj _ _ _ (@aB _ _ _ _ (@aF _ _ _ _ _ _ _ _ _ _ _ _ c__law_bent_row (hr.mono (by decide)) rfl ay (@aa _ _ _ _ _ (pv 0) (@aa _ _ _ _ _ (pv 1) ae (by rfl)) (by rfl)) (by decide) (by rfl) (by rfl)))) aD)) (@ag _ _ _ _ _ (bL (@aP _ _ _ _ _ _ _ _ (PW.pt (df (@aw _ _ _ _ _ _ _ _ bj (pv 6) ah (ar _)) (dB (@aw _ _ _ _ _ _ _ _ lQ (pv 3) dc (ar _))))) (@aj _ _ _ (@aB _ _ _ _ (@ax _ _ _ _ _ (@aa _ _ _ _ _ (@aO _ _ _ _ _ _ _ bW (@bo _ _ _ _ (@aa _ _ _ _ _ (@aq _ _ _ _ _ _ _ _ bB (pv 3) (pv 5)) (@aa _ _ _ _ _ (@aq _ _ _ _ _ _ _ _ cZ (pv 3) (pv 5)) (@aa _ _ _ _ _ (@aq _ _ _ _ _ _ _ _ bB (pv 3) ah) (@aa _ _ _ _ _ dc (@aa _ _ _ _ _ (@ax _ _ _ _ _ (@aa _ _ _ _ _ (pv 3) ae (by rfl))) (@aa _ _ _ _ _ (@bC _ _ _ _ _ _ _ _ bj (pv 3) ah (ar _)) ae (by rfl)) (by rfl)) (by rfl)) (by rfl)) (by rfl)) (by rfl))) (@aF _ _ _ _ _ _ _ _ _ _ _ _ c__law_draw (hr.mono (by decide)) rfl ay (@aa _ _ _ _ _ (pv 0) (@aa _ _ _ _ _ ah ae (by rfl)) (by rfl)) (by decide) (by rfl) (by rfl)) (λ_ _=>rfl)) (@aa _ _ _ _ _ (pv 4) ae (by rfl)) (by rfl))))) aD)) (@ag _ _ _ _ _ (bL (@aP _ _ _ _ _ _ _ _ (@aw _ _ _ _ _ _ _ _ bj (pv 6) ah (ar _)) (@aj _ _ _ (@aB _ _ _ _ (@ax _ _ _ _ _ (@aa _ _ _ _ _ (pv 3) (@aa _ _ _ _ _ (@aF _ _ _ _ _ _ _ _ _ _ _ _ c__law_bent_row (hr.mono (by decide)) rfl ay (@aa _ _ _ _ _ (pv 0) (@aa _ _ _ _ _ (pv 4) ae (by rfl)) (by rfl)) (by decide) (by rfl) (by rfl)) ae (by rfl)) (by rfl))))) aD)) (@ag _ _ _ _ _ (bL (@aP _ _ _ _ _ _ _ _ (@aw _ _ _ _ _ _ _ _ bj (pv 6) ah (ar _)) (@aj _ _ _ (@aB _ _ _ _ (@ax _ _ _ _ _ (@aa _ _ _ _ _ (pv 3) (@aa _ _ _ _ _ (@ax _ _ _ _ _ (@aa _ _ _ _ _ (@aO _ _ _ _ _ _ _ aS (pv 4) ah (λ_ _=>rfl)) (@aa _ _ _ _ _ (@aO _ _ _ _ _ _ _ bW (@bo _ _ _ _ (@aa _ _ _ _ _ (@aq _ _ _ _ _ _ _ _ aX ah (pv 5)) (@aa _ _ _ _ _ (@aq _ _ _ _ _ _ _ _ aX ah (pv 5)) (@aa _ _ _ _ _ (@aq _ _ _ _ _ _ _ _ bB (pv 5) ah) (@aa _ _ _ _ _ (@aq _ _ _ _ _ _ _ _ cZ (pv 5) ah) (@aa _ _ _ _ _ ah (@aa _ _ _ _ _ (@aq _ _ _ _ _ _ _ _ cZ ah (pv 5)) (@aa _ _ _ _ _ (@bC _ _ _ _ _ _ _ _ bj (pv 5) ah (ar _)) ae (by rfl)) (by rfl)) (by rfl)) (by rfl)) (by rfl)) (by rfl)) (by rfl))) (@aF _ _ _ _ _ _ _ _ _ _ _ _ c__law_draw (hr.mono (by decide)) rfl ay (@aa _ _ _ _ _ (pv 0) (@aa _ _ _ _ _ ah ae (by rfl)) (by rfl)) (by decide) (by rfl) (by rfl)) (λ_ _=>rfl)) (@aa _ _ _ _ _ (@aO _ _ _ _ _ _ _ aS (pv 4) ah (λ_ _=>rfl)) ae (by rfl)) (by rfl)) (by rfl))) ae (by rfl)) (by rfl))))) aD)) (@ag _ _ _ _ _ (bL (@aP _ _ _ _ _ _ _ _ (@aw _ _ _ _ _ _ _ _ bj (pv 6) ah (ar _)) (@ag _ _ _ _ _ (@bT _ _ 9 _ _ _ _ nd rfl (Or.inl rfl) (@aO _ _ _ _ _ _ _ bW (@bo _ _ _ _ (@aa _ _ _ _ _ (@aO _ _ _ _ _ _ _ aS (pv 4) ah (λ_ _=>rfl)) (@aa _ _ _ _ _ ah (@aa _ _ _ _ _ ah ae (by rfl)) (by rfl)) (by rfl))) (@aF _ _ _ _ _ _ _ _ _ _ _ _ c__law_draw (hr.mono (by decide)) rfl ay (@aa _ _ _ _ _ (pv 0) (@aa _ _ _ _ _ ah ae (by rfl)) (by rfl)) (by decide) (by rfl) (by rfl)) (λ_ _=>rfl)) (by rfl) (by first | exact .inl rfl | exact .inr rfl | assumption)) (@aj _ _ _ (@aB _ _ _ _ (@ax _ _ _ _ _ (@aa _ _ _ _ _ (@aO _ _ _ _ _ _ _ bW (@bo _ _ _ _ (@aa _ _ _ _ _ (pv 3) (@aa _ _ _ _ _ dc (@aa _ _ _ _ _ dc (@aa _ _ _ _ _ ah ae (by rfl)) (by rfl)) (by rfl)) (by rfl))) (@aF _ _ _ _ _ _ _ _ _ _ _ _ c__law_draw (hr.mono (by decide)) rfl ay (@aa _ _ _ _ _ (pv 0) (@aa _ _ _ _ _ ah ae (by rfl)) (by rfl)) (by decide) (by rfl) (by rfl)) (λ_ _=>rfl)) (@aa _ _ _ _ _ (@ax _ _ _ _ _ (@aa _ _ _ _ _ (@aO _ _ _ _ _ _ _ bW (@bo _ _ _ _ (@aa _ _ _ _ _ ba (@aa _ _ _ _ _ ba (@aa _ _ _ _ _ ba ae (by rfl)) (by rfl)) (by rfl))) (@aF _ _ _ _ _ _ _ _ _ _ _ _ c__law_draw (hr.mono (by decide)) rfl ay (@aa _ _ _ _ _ (pv 0) (@aa _ _ _ _ _ ah ae (by rfl)) (by rfl)) (by decide) (by rfl) (by rfl)) (λ_ _=>rfl)) (@aa _ _ _ _ _ (pv 5) (@aa _ _ _ _ _ (pv 9) ae (by rfl)) (by rfl)) (by rfl))) ae (by rfl)) (by rfl)))))) aD)) (@ag _ _ _ _ _ (bL (@aP _ _ _ _ _ _ _ _ (PW.pt (df (@aw _ _ _ _ _ _ _ _ fE (pv 6) ah (ar _)) (dB (@aw _ _ _ _ _ _ _ _ lQ (pv 3) dc (ar _))))) (@aj _ _ _ (@aB _ _ _ _ (@ax _ _ _ _ _ (@aa _ _ _ _ _ (pv 3) (@aa _ _ _ _ _ (@ax _ _ _ _ _ (@aa _ _ _ _ _ ba (@aa _ _ _ _ _ (pv 5) (@aa _ _ _ _ _ (@aF _ _ _ _ _ _ _ _ _ _ _ _ c__law_bent_parts (hr.mono (by decide)) rfl ay (@aa _ _ _ _ _ (pv 0) (@aa _ _ _ _ _ (@aO _ _ _ _ _ _ _ aS (pv 4) ah (λ_ _=>rfl)) ae (by rfl)) (by rfl)) (by decide) (by rfl) (by rfl)) ae (by rfl)) (by rfl)) (by rfl))) ae (by rfl)) (by rfl))))) aD)) (@aj _ _ _ (@aB _ _ _ _ (pv 1))))))))))))))),?_⟩
 show cf _ _ _ [some (.ref t),some v,some (.int p),none,none,none,none,none,none,none] H
 have hv':=hv
 obtain⟨pv,vx,vs,rfl,hS,h1,h2⟩:=u5 hv
 have h2':=h2
 obtain⟨pw,w1,w2,w3,rfl,tW,f0,f1,f2⟩:=lj h2
 cases f0
 cases f1
 have hx:vx=.bw∨∃(x:Nat) (pl:List (Int × Int)),vx=.int x/\dv K H (.tuple (pl.map (dS x))) w3/\x<e/\Num.Part e pl:=by
  rcases hD with⟨rfl,r,rfl,r0,r1⟩|⟨x,pl,rfl,rfl,xe,hpl⟩
  ·cases h1;exact .inl rfl
  ·cases h1;exact .inr ⟨x,pl,rfl,f2,xe,hpl⟩
 have gx:∀{H':Hp},GV K H' vx:=λ{H'}=>by
  rcases hx with rfl | ⟨x,pl,rfl,_,xe,_⟩
  ·exact .bw
  ·exact .int (by omega) (by omega)
 have g3:GV K H w3:=by
  rcases hD with⟨rfl,r,rfl,r0,r1⟩|⟨x,pl,rfl,rfl,xe,hpl⟩
  ·cases f2;exact .int (by omega) (by omega)
  ·exact⟨_,f2,by simp only [gd];exact gW hpl (by omega) (by omega)⟩
 k_data
 refine⟨pv,_,rfl,hS,rfl,?_⟩
 k_data
 refine cY tW wH ⟨t,11,n,rfl,tt,by omega,by decide,by decide,λway H1 wy0 wy1 o1 t1=>?_⟩
 have O1:=o1.bS
 have W1:∀{H':Hp},bR t H H'->aJ K H' pw [.str s0,.int e,w3]:=λO=>O.kt tt _ _ tW
 have G3:∀{H':Hp},bR t H H'->GV K H' w3:=λO=>GV.bS g3 O tt
 have gS:∀{H':Hp},bR t H H'->GV K H' (.ref pw):=λO=>GV.tup (W1 O) (.cons (.str c0) (.cons (.int (by omega) (by omega)) (.cons (G3 O) .nil)))
 have is_:∀{H2:Hp} {E':XK} {x' e':Nat} {n2:Nat},bR t H H2->Tp t n2 H2->n2<=n+40->1<=e'->e'<=10^9->x'<10^80->uu K [.int (x':Nat),.int (e':Nat)] H2 Q E':=by
  intro H2 E' x' e' n2 O2 t2 hn h1' h2' h3'
  refine⟨x',e',rfl,h1',h2',λpl u H' hpl s' hu=>q u H' (O2.trans (bR.of s')) ((t2.same s').mono hn) ⟨_,hu,?_⟩⟩
  unfold pC
  simp only [gd,bV,and_true]
  exact⟨⟨by omega,by omega⟩,by decide +kernel,⟨by omega,by omega⟩,gW hpl h1' (by omega)⟩
 have done:∀{H2:Hp} {n2:Nat} {y:V},bR t H H2->Tp t n2 H2->n2<=n+40->GV K H2 y->Q y H2:=λO2 t2 hn gy=>q _ _ O2 (t2.mono hn) gy
 refine⟨λσ' H'=>wD K H t pv pw vx p e way (n+1) σ' H',?_,?_⟩
 ·k_data
  refine aL (λ_=>?_) (λ_=>⟨_,_,_,rfl,O1,t1⟩)
  refine⟨t,_,n+1,rfl,t1,by omega,by omega,by omega,λr H' r0 r1 o' t'=>?_⟩
  obtain⟨rn,rfl⟩:∃ k:Nat,r=k:=⟨r.toNat,by omega⟩
  exact is_ (O1.trans o'.bS) t' (by omega) e1 (by omega) (by omega)
 rintro σ' H2 ⟨o8,o9,o10,rfl,O2,t2⟩
 k_data
 refine⟨by omega,Bd.of (by omega) (by omega),?_⟩
 obtain⟨m,hm⟩:=ed
 have m0:0<m:=by
  rcases (by omega:0<m∨m<=0) with z | z
  ·exact z
  ·have:(e:Int)*m<=0:=Int.mul_nonpos_of_nonneg_of_nonpos (by omega) z
   omega
 have em:(p-1)/(e:Int)=m:=by rw [hm];exact Int.mul_ediv_cancel_left _ (by omega)
 rw [em]
 have mp:=Int.le_of_dvd (by omega) (show m∣p-1 from ⟨e,by rw [hm,Int.mul_comm]⟩)
 refine⟨m,rfl,by omega,by omega,λqp l H3 hqp lq s3 f3 e3=>?_⟩
 have O3:=O2.trans (bR.of s3)
 have t3:=t2.same s3
 have hq:∀ q'∈qp.map (·.1),2<=q'/\q'∣m:=λq' hq'=>by
  obtain⟨y,hy,rfl⟩:=List.mem_map.mp hq'
  refine⟨(hqp.ok y hy).1.two,?_⟩
  have:=Num.bY hy (hqp.ok y hy).2.1
  rwa [hqp.prod] at this
 have lq':(qp.map (·.1)).length<=29:=by rw [List.length_map];exact lq
 generalize qp.map (·.1)=qs at *
 refine⟨λσ' H'=>wD K H t pv pw vx p e way (n+1) σ' H',?_,?_⟩
 ·k_data
  refine aL (λ_=>?_) (λ_=>⟨_,_,_,rfl,O3,t3⟩)
  refine aL (λnx=>?_) (λ_=>⟨_,_,_,rfl,O3,t3⟩)
  obtain⟨x,pl,rfl,hw,xe,hpl⟩:=hx.resolve_left nx
  refine⟨by show 0<=sizeLine;decide,λa1 ha1=>?_⟩
  have b1:=ai (o:=.lst []) ha1
  have e3b:=b1 _ _ e3
  refine⟨.list (qs.map PyData.int),.list [],⟨l,_,rfl,aV.of e3b,bh.ints _⟩,dv.lst (ds:=[]) af rfl,bV.lay _ (cU.mpr λd hd'=>?_),rfl,Nat.le_trans (Nat.min_le_right _ _) (by decide),_,rfl,?_⟩
  ·obtain⟨i,hi,rfl⟩:=List.mem_map.mp hd'
   have h1':=hq i hi
   have:=Int.le_of_dvd (by omega) h1'.2
   simp only [gd]
   omega
  generalize upd H3 a1 _=J1 at *
  have O4:=O3.trans (bR.of b1)
  have t4:=t3.same b1
  refine aL (λc=>?_) (λ_=>⟨_,_,_,rfl,O4,t4⟩)
  have qp0:0<qs.length:=by
   rcases Nat.eq_zero_or_pos qs.length with z | z
   ·rw [List.length_eq_zero_iff.mp z] at c
    exact absurd c (by decide)
   ·exact z
  refine c9 (aV.of e3b) ⟨t,_,n+1,rfl,t4,by omega,by rw [List.length_map];omega,by rw [List.length_map];omega,λr5 H5 r50 r51 o5 t5=>?_⟩
  have O5:=O4.trans o5.bS
  have e5:H5 l=_:=(o5 l (t4.ne e3b (by intro kvs c;cases c))).trans e3b
  rw [List.length_map] at r51
  refine vt e5 r50 r51 λq' hq'=>?_
  obtain⟨q2',qd⟩:=hq q' hq'
  have qm:=Int.le_of_dvd (by omega) qd
  obtain⟨qn,rfl⟩:∃ k:Nat,q'=k:=⟨q'.toNat,by omega⟩
  refine⟨t,_,n+2,rfl,t5,by omega,by omega,by omega,λr6 H6 r60 r61 o6 t6=>?_⟩
  obtain⟨rn,rfl⟩:∃ k:Nat,r6=k:=⟨r6.toNat,by omega⟩
  have qe1:1<=qn*e:=Nat.mul_pos (by omega) (by omega)
  have er:e*rn<=10^9*10^9:=Nat.mul_le_mul (by omega) (by omega)
  have qep:((qn*e:Nat):Int)∣p-1:=by
   obtain⟨c',hc'⟩:=qd
   exact⟨c',by rw [Int.natCast_mul,hm,hc'];grind⟩
  have qe9:=Int.le_of_dvd (by omega) qep
  refine⟨_,rfl,Bd.of (by omega) (by omega),Bd.of (by omega) (by omega),_,rfl,_,rfl,Bd.of (by omega) (by omega),Bd.of (by omega) (by omega),?_⟩
  rw [show (x:Int)+(e:Int)*(rn:Int)=((x+e*rn:Nat):Int) by rw [Int.natCast_add,Int.natCast_mul],show (qn:Int)*(e:Int)=((qn*e:Nat):Int) by rw [Int.natCast_mul]]
  exact is_ (O5.trans o6.bS) t6 (by omega) qe1 (by omega) (by omega)
 rintro σ' H4 ⟨o8,o9,o10,rfl,O4,t4⟩
 k_data
 refine⟨λσ' H'=>wD K H t pv pw vx p e way (n+1) σ' H',?_,?_⟩
 ·k_data
  refine aL (λ_=>?_) (λ_=>⟨_,_,_,rfl,O4,t4⟩)
  exact⟨t,pv,n+1,_,rfl,t4,by omega,O4.kt tt _ _ hS,.cons gx (.cons (gS O4) .nil),by show 2<=1000;decide,λy H' O' t' g'=>done (O4.trans O') t' (by omega) g'⟩
 rintro σ' H5 ⟨o8,o9,o10,rfl,O5,t5⟩
 k_data
 refine⟨λσ' H'=>wD K H t pv pw vx p e way (n+1) σ' H',?_,?_⟩
 ·k_data
  refine aL (λ_=>?_) (λ_=>⟨_,_,_,rfl,O5,t5⟩)
  refine aL (λnx=>?_) (λ_=>⟨_,_,_,rfl,O5,t5⟩)
  obtain⟨x,pl,rfl,hw,xe,hpl⟩:=hx.resolve_left nx
  refine⟨_,rfl,_,rfl,_,rfl,?_⟩
  refine⟨by show 1<=sizeLine;decide,λa0 ha0=>⟨rfl,?_⟩⟩
  have b0:=ai (o:=.tup [V.int (x:Int)]) ha0
  have g0:GV K (upd H5 a0 (.tup [V.int (x:Int)])) (.ref a0):=GV.tup (aJ.of af) (.cons (.int (by omega) (by omega)) .nil)
  generalize upd H5 a0 _=J0 at *
  have O5b:=O5.trans (bR.of b0)
  have t5b:=t5.same b0
  refine⟨by show 6<=sizeLine;decide,λaz haz=>?_⟩
  have bz:=ai (o:=.lst [V.int ((x:Int)+(e:Int)),V.int ((x:Int)-(e:Int)),V.int ((x:Int)+1),V.bw,V.ref a0,V.bl (decide (V.int (x:Int)=V.int 1))]) haz
  have ez:upd J0 az (.lst [V.int ((x:Int)+(e:Int)),V.int ((x:Int)-(e:Int)),V.int ((x:Int)+1),V.bw,V.ref a0,V.bl (decide (V.int (x:Int)=V.int 1))]) az=some (.lst [V.int ((x:Int)+(e:Int)),V.int ((x:Int)-(e:Int)),V.int ((x:Int)+1),V.bw,V.ref a0,V.bl (decide (V.int (x:Int)=V.int 1))]):=af
  have lz:cp K (upd J0 az (.lst [V.int ((x:Int)+(e:Int)),V.int ((x:Int)-(e:Int)),V.int ((x:Int)+1),V.bw,V.ref a0,V.bl (decide (V.int (x:Int)=V.int 1))])) [V.int ((x:Int)+(e:Int)),V.int ((x:Int)-(e:Int)),V.int ((x:Int)+1),V.bw,V.ref a0,V.bl (decide (V.int (x:Int)=V.int 1))]:=(.cons (.int (by omega) (by omega)) (.cons (.int (by omega) (by omega)) (.cons (.int (by omega) (by omega)) (.cons .bw (.cons (g0.same bz) (.cons .bl .nil))))))
  generalize upd J0 az _=Jz at *
  have tbz:=t5b.same bz
  refine⟨t,6,n+1,rfl,tbz,by omega,by decide,by decide,λrz Hbz r0z r1z obz tcz=>?_⟩
  have Obz:=(O5b.trans (bR.of bz)).trans obz.bS
  have ebz:Hbz az=_:=(obz az (tbz.ne ez (by intro kvs c;cases c))).trans ez
  refine cE (aV.of ebz) r0z (by show rz<(6:Int);exact r1z) λvz hvz=>?_
  have gvz:=(cp.bS lz obz.bS tbz).all vz hvz
  refine⟨by show 2<=sizeLine;decide,λa2 ha2=>?_⟩
  have b2:=ai (o:=.tup [vz,V.ref pw]) ha2
  exact done (Obz.trans (bR.of b2)) (tcz.same b2) (by omega) (GV.tup (aJ.of af) (.cons (gvz.same b2) (.cons ((gS Obz).same b2) .nil)))
 rintro σ' H6 ⟨o8,o9,o10,rfl,O6,t6⟩
 k_data
 refine⟨λσ' H'=>wD K H t pv pw vx p e way (n+1) σ' H',?_,?_⟩
 ·k_data
  refine aL (λ_=>?_) (λ_=>⟨_,_,_,rfl,O6,t6⟩)
  refine⟨t,pw,n+1,_,rfl,t6,by omega,W1 O6,.cons (.str c0) (.cons (.int (by omega) (by omega)) (.cons (G3 O6) .nil)),by show 3<=1000;decide,λy H8 O8 t8 g8=>⟨by show 2<=sizeLine;decide,λa1 ha1=>?_⟩⟩
  have b1:=ai (o:=.tup [vx,y]) ha1
  exact done ((O6.trans O8).trans (bR.of b1)) (t8.same b1) (by omega) (GV.tup (aJ.of af) (.cons gx (.cons (g8.same b1) .nil)))
 rintro σ' H7 ⟨o8,o9,o10,rfl,O7,t7⟩
 k_data
 refine⟨λσ' H'=>wD K H t pv pw vx p e way (n+1) σ' H',?_,?_⟩
 ·k_data
  refine aL (λ_=>?_) (λ_=>⟨_,_,_,rfl,O7,t7⟩)
  refine cY (W1 O7) nX ⟨uP (by decide),Bd.of (by omega) (by omega),uP (by decide),Bd.of (by omega) (by omega),?_⟩
  refine⟨by show 7<=sizeLine;decide,λaz haz=>?_⟩
  have bz:=ai (o:=.lst [V.int (2*(e:Int)),V.int (3*(e:Int)),V.int ((e:Int)+1),V.int ((e:Int)-1),V.int 0,V.int (0-(e:Int)),V.bl (decide ((e:Int)=1))]) haz
  have ez:upd H7 az (.lst [V.int (2*(e:Int)),V.int (3*(e:Int)),V.int ((e:Int)+1),V.int ((e:Int)-1),V.int 0,V.int (0-(e:Int)),V.bl (decide ((e:Int)=1))]) az=some (.lst [V.int (2*(e:Int)),V.int (3*(e:Int)),V.int ((e:Int)+1),V.int ((e:Int)-1),V.int 0,V.int (0-(e:Int)),V.bl (decide ((e:Int)=1))]):=af
  have lz:cp K (upd H7 az (.lst [V.int (2*(e:Int)),V.int (3*(e:Int)),V.int ((e:Int)+1),V.int ((e:Int)-1),V.int 0,V.int (0-(e:Int)),V.bl (decide ((e:Int)=1))])) [V.int (2*(e:Int)),V.int (3*(e:Int)),V.int ((e:Int)+1),V.int ((e:Int)-1),V.int 0,V.int (0-(e:Int)),V.bl (decide ((e:Int)=1))]:=(.cons (.int (by omega) (by omega)) (.cons (.int (by omega) (by omega)) (.cons (.int (by omega) (by omega)) (.cons (.int (by omega) (by omega)) (.cons (.int (by omega) (by omega)) (.cons (.int (by omega) (by omega)) (.cons .bl .nil)))))))
  generalize upd H7 az _=Jz at *
  have tbz:=t7.same bz
  refine⟨t,7,n+1,rfl,tbz,by omega,by decide,by decide,λrz Hbz r0z r1z obz tcz=>?_⟩
  have Obz:=(O7.trans (bR.of bz)).trans obz.bS
  have ebz:Hbz az=_:=(obz az (tbz.ne ez (by intro kvs c;cases c))).trans ez
  refine cE (aV.of ebz) r0z (by show rz<(7:Int);exact r1z) λvz hvz=>?_
  have gvz:=(cp.bS lz obz.bS tbz).all vz hvz
  refine cY (W1 Obz) rfl ?_
  refine⟨by show 3<=sizeLine;decide,λa2 ha2=>⟨by show 2<=sizeLine;decide,λa3 ha3=>?_⟩⟩
  have b2:=ai (o:=.tup [V.str s0,vz,w3]) ha2
  have b3:=ai (o:=.tup [vx,V.ref a2]) ha3
  have B:=b2.trans b3
  exact done (Obz.trans (bR.of B)) (tcz.same B) (by omega) (GV.tup (aJ.of af) (.cons gx (.cons (GV.tup (aJ.of (b3 _ _ af)) (.cons (.str c0) (.cons (gvz.same B) (.cons ((G3 Obz).same B) .nil)))) .nil)))
 rintro σ' H8 ⟨o8,o9,o10,rfl,O8,t8⟩
 k_data
 refine⟨λσ' H'=>wD K H t pv pw vx p e way (n+1) σ' H',?_,?_⟩
 ·k_data
  refine aL (λ_=>?_) (λ_=>⟨_,_,_,rfl,O8,t8⟩)
  refine cY (W1 O8) rfl ?_
  refine⟨by show 3<=sizeLine;decide,λaz haz=>?_⟩
  have bz:=ai (o:=.lst [w3,V.int 1,V.int 1]) haz
  have ez:upd H8 az (.lst [w3,V.int 1,V.int 1]) az=some (.lst [w3,V.int 1,V.int 1]):=af
  have lz:cp K (upd H8 az (.lst [w3,V.int 1,V.int 1])) [w3,V.int 1,V.int 1]:=(.cons ((G3 O8).same bz) (.cons (.int (by omega) (by omega)) (.cons (.int (by omega) (by omega)) .nil)))
  generalize upd H8 az _=Jz at *
  have tbz:=t8.same bz
  refine⟨t,3,n+1,rfl,tbz,by omega,by decide,by decide,λrz Hbz r0z r1z obz tcz=>?_⟩
  have Obz:=(O8.trans (bR.of bz)).trans obz.bS
  have ebz:Hbz az=_:=(obz az (tbz.ne ez (by intro kvs c;cases c))).trans ez
  refine cE (aV.of ebz) r0z (by show rz<(3:Int);exact r1z) λvz hvz=>?_
  have gvz:=(cp.bS lz obz.bS tbz).all vz hvz
  refine⟨by show 4<=sizeLine;decide,λak hak=>?_⟩
  have bk:=ai (o:=.lst [vx,V.bw,V.bw,V.int 0]) hak
  have ek:upd Hbz ak (.lst [vx,V.bw,V.bw,V.int 0]) ak=some (.lst [vx,V.bw,V.bw,V.int 0]):=af
  have lk:cp K (upd Hbz ak (.lst [vx,V.bw,V.bw,V.int 0])) [vx,V.bw,V.bw,V.int 0]:=(.cons gx (.cons .bw (.cons .bw (.cons (.int (by omega) (by omega)) .nil))))
  generalize upd Hbz ak _=Jk at *
  have tbk:=tcz.same bk
  refine⟨t,4,n+2,rfl,tbk,by omega,by decide,by decide,λrk Hbk r0k r1k obk tck=>?_⟩
  have Obk:=(Obz.trans (bR.of bk)).trans obk.bS
  have ebk:Hbk ak=_:=(obk ak (tbk.ne ek (by intro kvs c;cases c))).trans ek
  refine cE (aV.of ebk) r0k (by show rk<(4:Int);exact r1k) λvk hvk=>?_
  have gvk:=(cp.bS lk obk.bS tbk).all vk hvk
  have gvzk:=GV.bS (gvz.same bk) obk.bS tbk
  refine⟨by show 3<=sizeLine;decide,λau hau=>?_⟩
  have bu:=ai (o:=.lst [V.str "none",V.str "none",V.str "is"]) hau
  have eu:upd Hbk au (.lst [V.str "none",V.str "none",V.str "is"]) au=some (.lst [V.str "none",V.str "none",V.str "is"]):=af
  have lu:cp K (upd Hbk au (.lst [V.str "none",V.str "none",V.str "is"])) [V.str "none",V.str "none",V.str "is"]:=(.cons (.str (by decide +kernel)) (.cons (.str (by decide +kernel)) (.cons (.str (by decide +kernel)) .nil)))
  generalize upd Hbk au _=Ju at *
  have tbu:=tck.same bu
  refine⟨t,3,n+3,rfl,tbu,by omega,by decide,by decide,λru Hbu r0u r1u obu tcu=>?_⟩
  have Obu:=(Obk.trans (bR.of bu)).trans obu.bS
  have ebu:Hbu au=_:=(obu au (tbu.ne eu (by intro kvs c;cases c))).trans eu
  refine cE (aV.of ebu) r0u (by show ru<(3:Int);exact r1u) λvu hvu=>?_
  have gvu:=(cp.bS lu obu.bS tbu).all vu hvu
  have gvzku:=GV.bS (gvzk.same bu) obu.bS tbu
  have gvku:=GV.bS (gvk.same bu) obu.bS tbu
  refine⟨by show 3<=sizeLine;decide,λa2 ha2=>⟨by show 2<=sizeLine;decide,λa3 ha3=>?_⟩⟩
  have b2:=ai (o:=.tup [vu,V.int (e:Int),vz]) ha2
  have b3:=ai (o:=.tup [vk,V.ref a2]) ha3
  have B:=b2.trans b3
  exact done (Obu.trans (bR.of B)) (tcu.same B) (by omega) (GV.tup (aJ.of af) (.cons (gvku.same B) (.cons (GV.tup (aJ.of (b3 _ _ af)) (.cons (gvu.same B) (.cons (.int (by omega) (by omega)) (.cons (gvzku.same B) .nil)))) .nil)))
 rintro σ' H9 ⟨o8,o9,o10,rfl,O9,t9⟩
 k_data
 refine⟨λσ' H'=>wD K H t pv pw vx p e way (n+1) σ' H',?_,?_⟩
 ·k_data
  refine aL (λ_=>?_) (λ_=>⟨_,_,_,rfl,O9,t9⟩)
  refine aL (λnx=>?_) (λ_=>⟨_,_,_,rfl,O9,t9⟩)
  obtain⟨x,pl,rfl,hw,xe,hpl⟩:=hx.resolve_left nx
  refine cY (W1 O9) rfl ⟨t,w3,n+1,x,e,pl,rfl,t9,by omega,dv.bS hw O9 tt,hpl,hZ hpl (by omega),by omega,by omega,λy Hb Ob' tb gb=>?_⟩
  refine⟨by show 3<=sizeLine;decide,λa2 ha2=>⟨by show 2<=sizeLine;decide,λa3 ha3=>?_⟩⟩
  have b2:=ai (o:=.tup [V.str "is",V.int (e:Int),y]) ha2
  have b3:=ai (o:=.tup [V.int (x:Int),V.ref a2]) ha3
  have B:=b2.trans b3
  exact done ((O9.trans Ob').trans (bR.of B)) (tb.same B) (by omega) (GV.tup (aJ.of af) (.cons (.int (by omega) (by omega)) (.cons (GV.tup (aJ.of (b3 _ _ af)) (.cons (.str (by decide +kernel)) (.cons (.int (by omega) (by omega)) (.cons (gb.same B) .nil)))) .nil)))
 rintro σ' HA ⟨o8,o9,o10,rfl,OA,tA⟩
 k_data
 exact done OA tA (by omega) (GV.tup (OA.kt tt _ _ hS) (.cons gx (.cons (gS OA) .nil)))
def iA (K:PySem.W.Frag):Sp:=λvs H Q _=>∃(v u:V) (d:PyData) (b a:Int),vs=[v,.int b,.int a,u]/\dv K H d v/\i8 d/\bJ d<=10^6/\¬PP d/\∀ H',aE H H'->Q (.bl false) H'
theorem rG (D:aA K mg "shows_which" (top 29)) (c_is_prime_paper:Callee P w K mg base aQ 8 "is_prime_paper" ["thing"] (yO K)) (c_is_tuple_of:Callee P w K mg base aQ 1 "is_tuple_of" ["thing","many"] (kQ K)) (c_shows_no_power:Callee P w K mg base aQ 16 "shows_no_power" ["paper","b","a","shown"] (gP K)) (c_is_which:Callee P w K mg base aQ 7 "is_which" ["paper","b","a","place"] (gN K)) (c_is_just:Callee P w K mg base aQ 15 "is_just" ["thing","right"] (gO K 7)) (c_digit_rows:Callee P w K mg base aQ 2 "digit_rows" ["paper","e","x"] (pF K)):Callee P w K mg base aQ 17 "shows_which" ["paper","b","a","thing"] (iA K):=by
 refine cO D dh (λf cdv A outer s H vs Q E hr h=>?_)
 obtain⟨v,u,d,b,a,rfl,hd,sm,sz,np,q⟩:=h
 have nd:=dh.nd
 refine⟨_,(ag (aP (dO (PW.pt (df (aR (bU c_is_prime_paper hr ay (aa (pv 0) ae)) (λ_=>rfl)) (df (aR (bU c_is_tuple_of hr ay (aa (pv 3) (aa ah ae))) (λ_=>rfl)) (dB (aR (bU c_is_tuple_of hr ay (aa (aO aS (pv 3) ah (λ_ _=>rfl)) (aa ah ae))) (λ_=>rfl))))))) (aj (aB cP)) aD) (ag (dZ (pv 3) (dN (n:=2) rfl (aI (aH (i:=4) nd rfl (Or.inl rfl) (.inr rfl)) (aI (aH (i:=5) nd rfl (Or.inl rfl) (.inr rfl)) cG)))) (ag (cu (i:=6) nd (aO aS (pv 5) ah (λ_ _=>rfl))) (ag (aP (aw tN (pv 4) dc (ar _)) (aj (aB (bU c_shows_no_power hr ay (aa (pv 0) (aa (pv 1) (aa (pv 2) (aa (pv 5) ae))))))) aD) (aj (aB (bG (bU c_is_which hr ay (aa (pv 0) (aa (pv 1) (aa (pv 2) (aa (ax (aa (pv 6) (aa (pv 4) ae))) ae))))) (cj (bU c_is_just hr ay (aa (pv 5) (aa (ax (aa ba (aa (pv 6) (aa (bU c_digit_rows hr ay (aa (pv 0) (aa (pv 6) (aa (pv 4) ae)))) ae)))) ae))))))))))),?_⟩
 show cf _ _ _ [some v,some (.int b),some (.int a),some u,none,none,none] H
 k_data
 refine⟨_,v,rfl,hd,sm,sz,λbb H1 hb s1=>⟨bb,aN.mpr rfl,?_⟩⟩
 have hbb:bb=false:=by
  cases bb
  ·rfl
  ·exact absurd (hb.mp rfl) np
 subst hbb
 rw [if_neg (by decide)]
 exact q H1 s1
theorem PP.ra {d:PyData} (h:PP d):RA d:=by
 cases h with
 | mk p g rows h1 h2=>exact h1
theorem PP.BV {p g:Int} {rows:List PyData} (h:PP (.tuple [.int p,.int g,.tuple rows])):∀ r∈rows,PP (i3 r):=by
 cases h with
 | mk p g rows h1 h2=>exact h2
theorem PP.AR {d:PyData} (h:PP d):∃(p g:Int) (rows:List PyData),d=.tuple [.int p,.int g,.tuple rows]:=by
 cases h with
 | mk p g rows h1 h2=>exact⟨p,g,rows,rfl⟩
theorem vB {p g g':Int} {ps:List (Int × Int)} {ds:Nat->PyData} (p2:2<=p) (hP:Num.Part (p-1) ps) (hds:∀ i q k,ps[i]?=some (q,k)->Num.gR q (ds i)) (h:g'<1∨p<=g'∨¬Num.Ord p g' (p-1).toNat):¬PP (.tuple [.int p,.int g',.tuple (Num.rowsOf ps ds)]):=λz=>by
 obtain⟨h1,h2,h3⟩:=(lW p2 hP hds).mp z
 rcases h with y | y | y
 ·omega
 ·omega
 ·exact y h3
theorem z9 {p g:Int} (pm:Num.Pm p) (p3:2<p) (ng:¬p∣g):¬Num.Ord p (g*g%p) (p-1).toNat:=λo=>by
 have podd:(p-1)%2=0:=by
  rcases (by omega:p%2=0∨p%2=1) with z | z
  ·exact absurd (Int.dvd_of_emod_eq_zero z) (pm.no 2 (by decide) p3)
  ·omega
 have fm:=Num.jx pm ng
 have h1:Num.Al p ((g*g%p)^((p-1)/2).toNat) 1:=by
  have e1:Num.Al p (g*g%p) (g*g):=Num.Al.iff.mpr (Int.emod_emod _ _)
  refine (e1.pow _).trans ?_
  have:g*g=g^2:=by rw [Int.pow_succ,Int.pow_succ,Int.pow_zero,Int.one_mul]
  rw [this,<- Int.pow_mul,show 2*((p-1)/2).toNat=(p-1).toNat by omega]
  exact fm
 have:=Nat.le_of_dvd (by omega) (o.dv _ h1)
 omega
theorem sy {m:Nat}:∀{rows:List PyData} {e t:Int},CT m e t rows->1<=e
 | [],e,t,h=>by
  have h1:e=1:=h
  omega
 | d::ds,e,t,h=>h.1
theorem pR:∀{rows:List PyData} {l l' t:Int},CT 2 l t rows->CT 2 l' t rows->l=l'
 | [],l,l',t,h,h'=>by
  have h1:l=1:=h
  have h2:l'=1:=h'
  omega
 | d::ds,l,l',t,⟨_,p,g,k,rs,more,e1,e2,e3,e4,e5,r,e6,e7⟩,⟨_,p',g',k',rs',more',f1,f2,f3,f4,f5,r',f6,f7⟩=>by
  rw [e1] at f1
  simp only [PyData.tuple.injEq,List.cons.injEq,PyData.int.injEq] at f1
  obtain⟨⟨rfl,rfl,rfl,_⟩,rfl,rfl⟩:=f1
  obtain rfl:=pR e7 f7
  have r1:=sy e7
  have h1:l=p^k.toNat*r:=by
   rcases e6 with⟨_,z⟩|⟨_,z⟩
   ·exact z
   ·omega
  have h2:l'=p^k.toNat*r:=by
   rcases f6 with⟨_,z⟩|⟨_,z⟩
   ·exact z
   ·omega
  rw [h1,h2]
theorem eP {p g:Int} {rows:List PyData} (h:PP (.tuple [.int p,.int g,.tuple rows])):CT 2 (p-1) 1 rows:=by
 obtain⟨p',g',rows',e,_,_,_,h1,_⟩:=h.ra
 simp only [PyData.tuple.injEq,List.cons.injEq,PyData.int.injEq] at e
 obtain⟨rfl,rfl,rfl,_⟩:=e
 exact h1
theorem m6 {p p' g g':Int} {rows:List PyData} (h:CT 2 (p-1) 1 rows) (ne:p'≠p):¬PP (.tuple [.int p',.int g',.tuple rows]):=λz=>ne (by have:=pR h (eP z);omega)
theorem qz {q:Int} (h:2<=q) {m n:Nat} (l:m<n):q^m<q^n:=by
 obtain⟨j,rfl⟩:∃ j,n=m+1+j:=⟨n-m-1,by omega⟩
 clear l
 induction j with
 | zero =>
  rw [Nat.add_zero,Int.pow_succ]
  have h1:=Num.aW (show 0<q by omega) m
  have h2:q^m*2<=q^m*q:=Int.mul_le_mul_of_nonneg_left h (by omega)
  omega
 | succ j ih =>
  rw [show m+1+(j+1)=m+1+j+1 by omega,Int.pow_succ]
  have h1:=Num.aW (show 0<q by omega) (m+1+j)
  have h2:q^(m+1+j)*2<=q^(m+1+j)*q:=Int.mul_le_mul_of_nonneg_left h (by omega)
  omega
theorem qy {q:Int} (h:1<=q):∀{k:Nat},1<=k->q^k<(q+1)^k
 | 0,z=>by omega
 | 1,_=>by
  rw [Int.pow_succ,Int.pow_zero,Int.pow_succ,Int.pow_zero]
  omega
 | k+2,_=>by
  have ih:=qy h (k:=k+1) (by omega)
  rw [Int.pow_succ q,Int.pow_succ (q+1)]
  have h1:=Num.aW (show 0<q by omega) (k+1)
  have h2:q^(k+1)*q<=(q+1)^(k+1)*q:=Int.mul_le_mul_of_nonneg_right (by omega) (by omega)
  have h3:(q+1)^(k+1)*(q+1)=(q+1)^(k+1)*q+(q+1)^(k+1):=by rw [Int.mul_add,Int.mul_one]
  omega
theorem c8 {l t:Int} {d:PyData} {ds:List PyData} (h:CT 2 l t (d::ds)):∃(p g k r:Int) (rs:List PyData),d=.tuple [.tuple [.int p,.int g,.tuple rs],.int k]/\2<=p/\1<=k/\t<p/\1<=r/\l=p^k.toNat*r/\CT 2 r p ds:=by
 obtain⟨_,p,g,k,rs,more,e1,e2,e3,e4,e5,r,e6,e7⟩:=h
 have m0:more=[]:=List.length_eq_zero_iff.mp (by omega)
 subst m0
 have r1:=sy e7
 refine⟨p,g,k,r,rs,e1,e3,e4,e5,r1,?_,e7⟩
 rcases e6 with⟨_,z⟩|⟨_,z⟩
 ·exact z
 ·omega
theorem dC {p g k p' g' k':Int} {rs rs':List PyData} (h:PyData.tuple [.tuple [.int p,.int g,.tuple rs],.int k]=.tuple [.tuple [.int p',.int g',.tuple rs'],.int k']):p=p'/\g=g'/\k=k'/\rs=rs':=by
 simp only [PyData.tuple.injEq,List.cons.injEq,PyData.int.injEq,and_true] at h
 obtain⟨⟨rfl,rfl,rfl⟩,rfl⟩:=h
 exact⟨rfl,rfl,rfl,rfl⟩
theorem lg:∀{rows:List PyData} {l l' t t':Int},CT 2 l t rows->CT 2 l' t' rows->l=l'
 | [],l,l',t,t',h,h'=>by
  have h1:l=1:=h
  have h2:l'=1:=h'
  omega
 | d::ds,l,l',t,t',h,h'=>by
  obtain⟨p,g,k,r,rs,e1,p2,k1,tp,r1,el,hc⟩:=c8 h
  obtain⟨p',g',k',r',rs',e1',p2',k1',tp',r1',el',hc'⟩:=c8 h'
  rw [e1] at e1'
  obtain⟨rfl,rfl,rfl,rfl⟩:=dC e1'
  rw [el,el',lg hc hc']
theorem sx:∀{l1 m m':List PyData} {l t:Int},CT 2 l t (l1++m)->CT 2 l t (l1++m')->∃ l' t',CT 2 l' t' m/\CT 2 l' t' m'
 | [],m,m',l,t,h,h'=>⟨l,t,h,h'⟩
 | d::l1,m,m',l,t,h,h'=>by
  obtain⟨p,g,k,r,rs,e1,p2,k1,tp,r1,el,hc⟩:=c8 h
  obtain⟨p',g',k',r',rs',e1',p2',k1',tp',r1',el',hc'⟩:=c8 h'
  rw [e1] at e1'
  obtain⟨rfl,rfl,rfl,rfl⟩:=dC e1'
  have pp:=Num.aW (show 0<p by omega) k.toNat
  have:r=r':=Int.eq_of_mul_eq_mul_left (show p^k.toNat≠0 by omega) (by rw [<- el,el'])
  subst this
  exact sx hc hc'
section
variable {q g k l t:Int} {rs l2:List PyData}
theorem m7 (h:CT 2 l t (.tuple [.tuple [.int q,.int g,.tuple rs],.int k]::l2)) {k':Int} (ne:k'≠k):¬CT 2 l t (.tuple [.tuple [.int q,.int g,.tuple rs],.int k']::l2):=λh'=>by
 obtain⟨p,g1,k1,r,rs1,e1,p2,kp,tp,r1,el,hc⟩:=c8 h
 obtain⟨p',g1',k1',r',rs1',e1',p2',kp',tp',r1',el',hc'⟩:=c8 h'
 obtain⟨rfl,rfl,rfl,rfl⟩:=dC e1
 obtain⟨rfl,rfl,rfl,_⟩:=dC e1'
 have:=lg hc hc'
 subst this
 have hp:q^k.toNat=q^k'.toNat:=Int.eq_of_mul_eq_mul_right (show r≠0 by omega) (by rw [<- el,el'])
 have:k.toNat=k'.toNat:=by
  rcases Nat.lt_trichotomy k.toNat k'.toNat with z | z | z
  ·have:=qz (show 2<=q by omega) z;omega
  ·exact z
  ·have:=qz (show 2<=q by omega) z;omega
 omega
theorem vC (h:CT 2 l t (.tuple [.tuple [.int q,.int g,.tuple rs],.int k]::l2)):¬CT 2 l t l2:=λh'=>by
 obtain⟨p,g1,k1,r,rs1,e1,p2,kp,tp,r1,el,hc⟩:=c8 h
 obtain⟨rfl,rfl,rfl,rfl⟩:=dC e1
 have:=lg hc h'
 subst this
 have h1:q^0<q^k.toNat:=qz (show 2<=q by omega) (show 0<k.toNat by omega)
 rw [Int.pow_zero] at h1
 have h2:2*r<=q^k.toNat*r:=Int.mul_le_mul_of_nonneg_right (by omega) (by omega)
 omega
theorem tu (h:CT 2 l t (.tuple [.tuple [.int q,.int g,.tuple rs],.int k]::l2)):¬CT 2 l t (.tuple [.tuple [.int q,.int g,.tuple rs],.int k]::.tuple [.tuple [.int q,.int g,.tuple rs],.int k]::l2):=λh'=>by
 obtain⟨p',g1',k1',r',rs1',e1',p2',kp',tp',r1',el',hc'⟩:=c8 h'
 obtain⟨rfl,rfl,rfl,rfl⟩:=dC e1'
 obtain⟨p,g1,k1,r,rs1,e1,p2,kp,tp,r1,el,hc⟩:=c8 hc'
 obtain⟨rfl,rfl,rfl,rfl⟩:=dC e1
 omega
theorem vD (h:CT 2 l t (.tuple [.tuple [.int q,.int g,.tuple rs],.int k]::l2)):¬CT 2 l t (.tuple [.tuple [.int (q+1),.int g,.tuple rs],.int k]::l2):=λh'=>by
 obtain⟨p,g1,k1,r,rs1,e1,p2,kp,tp,r1,el,hc⟩:=c8 h
 obtain⟨p',g1',k1',r',rs1',e1',p2',kp',tp',r1',el',hc'⟩:=c8 h'
 obtain⟨rfl,rfl,rfl,rfl⟩:=dC e1
 obtain⟨rfl,rfl,rfl,_⟩:=dC e1'
 have:=lg hc hc'
 subst this
 have hp:q^k.toNat=(q+1)^k.toNat:=Int.eq_of_mul_eq_mul_right (show r≠0 by omega) (by rw [<- el,el'])
 have:=qy (show 1<=q by omega) (show 1<=k.toNat by omega)
 omega
end
end
end K
namespace K
open PySem PySem.Spec PyProof.Rows L2
section
variable {P:Program} {w:World} {K:PySem.W.Frag} {mg:Str->Option Value} {base:Heap} {C:Addr}
theorem hW {p g:Int} {l1 l2 m:List PyData} {row:PyData} (hc:CT 2 (p-1) 1 (l1++row::l2)) (hno:∀ l t,CT 2 l t (row::l2)->¬CT 2 l t (m++l2)):¬PP (.tuple [.int p,.int g,.tuple (l1++m++l2)]):=λz=>by
 have h1:=eP z
 rw [List.append_assoc] at h1
 obtain⟨l,t,h2,h3⟩:=sx hc h1
 exact hno l t h2 h3
theorem mZ {p g:Int} {rows:List PyData} {row:PyData} (hr:row∈rows) (hn:¬PP (i3 row)):¬PP (.tuple [.int p,.int g,.tuple rows]):=λz=>hn (z.BV row hr)
theorem qf {p g:Int} {rows:List PyData} {row:PyData} (hr:row∈rows) (hn:∀ q g' k rs,row≠.tuple [.tuple [.int q,.int g',.tuple rs],.int k]):¬PP (.tuple [.int p,.int g,.tuple rows]):=λz=>by
 obtain⟨q,g',k,rs,more,e,_,_,hm⟩:=fW (eP z) row hr
 have m0:more=[]:=List.length_eq_zero_iff.mp (by omega)
 subst m0
 exact hn q g' k rs e
theorem tj {p g:Int} {rows:List PyData} (h:g<1∨p<=g):¬PP (.tuple [.int p,.int g,.tuple rows]):=λz=>by
 obtain⟨p',g',rows',e,_,h1,h2,_⟩:=z.ra
 simp only [PyData.tuple.injEq,List.cons.injEq,PyData.int.injEq] at e
 obtain⟨rfl,rfl,_⟩:=e
 omega
theorem aT {d:PyData} (h:∀ p g rows,d≠.tuple [.int p,.int g,.tuple rows]):¬PP d:=λz=>by
 obtain⟨p,g,rows,e⟩:=z.AR
 exact h p g rows e
theorem pQ:∀{l1:List PyData} {l l' t t':Int} {row:PyData},CT 2 l t l1->CT 2 l' t' (l1++[row])->l<l'
 | [],l,l',t,t',row,h,h'=>by
  have h1:l=1:=h
  obtain⟨p,g,k,r,rs,e1,p2,k1,tp,r1,el,hc⟩:=c8 h'
  have h3:p^0<p^k.toNat:=qz p2 (show 0<k.toNat by omega)
  rw [Int.pow_zero] at h3
  have h4:r=1:=hc
  rw [el,h4,Int.mul_one]
  omega
 | d::ds,l,l',t,t',row,h,h'=>by
  obtain⟨p,g,k,r,rs,e1,p2,k1,tp,r1,el,hc⟩:=c8 h
  obtain⟨p',g',k',r',rs',e1',p2',k1',tp',r1',el',hc'⟩:=c8 h'
  rw [e1] at e1'
  obtain⟨rfl,rfl,rfl,rfl⟩:=dC e1'
  have ih:=pQ hc hc'
  have pp:=Num.aW (show 0<p by omega) k.toNat
  rw [el,el']
  exact Int.mul_lt_mul_of_pos_left ih pp
theorem rm {p g:Int} {rows:List PyData} {row:PyData} (h:CT 2 (p-1) 1 rows):¬PP (.tuple [.int p,.int g,.tuple (rows++[row])]):=λz=>by
 have:=pQ h (eP z)
 omega
end
end K
namespace K
open PySem PySem.Spec PyProof.Rows L2
mutual
theorem wO:∀(d:PyData),gd d->i8 d
 | .none,_=>by simp only [i8]
 | .bool _,_=>by simp only [i8]
 | .int i,h=>by
  simp only [gd] at h
  simp only [i8]
  omega
 | .str _,_=>by simp only [i8]
 | .list ds,h=>by
  simp only [gd] at h
  simp only [i8]
  exact oB ds h
 | .tuple ds,h=>by
  simp only [gd] at h
  simp only [i8]
  exact oB ds h
 | .dict _,_=>by simp only [i8]
theorem oB:∀(ds:List PyData),bV ds->fg ds
 | [],_=>by simp only [fg]
 | d::ds,h=>by
  simp only [bV] at h
  simp only [fg]
  exact⟨wO d h.1,oB ds h.2⟩
end
theorem tP {n:Int} {d:PyData} (h:Num.gR n d):gd d:=by
 induction h with
 | mk n g ps ds h1 h2 h3 h4 h5 h6 ih =>
  have n2:=h1.two
  have g1:=h3.one
  have gn:=h3.lt
  simp only [gd,bV,and_true]
  refine⟨⟨by omega,by omega⟩,⟨by omega,by omega⟩,cU.mpr λr hr=>?_⟩
  obtain⟨i,q,k,h,rfl⟩:=fL hr
  have h8:=h4.ok _ (List.mem_of_getElem? h)
  simp only [gd,bV,and_true]
  refine⟨ih i q k h,?_,?_⟩
  ·have:1<=k:=h8.2.1
   omega
  ·have:k<=30:=h8.2.2
   omega
theorem ui {rows:List PyData} {i:Nat} {row:PyData} (h:rows[i]?=some row):rows=rows.take i++row::rows.drop (i+1):=by
 have hi:=(List.getElem?_eq_some_iff.mp h)
 obtain⟨h1,h2⟩:=hi
 rw [<- h2]
 simp
theorem jc {l m:List PyData}:bV (l++m)↔bV l/\bV m:=by
 rw [cU,cU,cU]
 constructor
 ·exact λh=>⟨λd hd=>h d (List.mem_append_left _ hd),λd hd=>h d (List.mem_append_right _ hd)⟩
 ·rintro⟨h1,h2⟩ d hd
  rcases List.mem_append.mp hd with z | z
  ·exact h1 d z
  ·exact h2 d z
end K
namespace K
open PySem PySem.Spec PyProof.Rows L2
section
variable {K:PySem.W.Frag}
def Op (K:PySem.W.Frag) (H:Hp) (p g:Int) (l1 l2:List PyData) (N:Nat) (v:V):Prop:=∃ m,dv K H (.tuple m) v/\bV m/\aK m<=N/\¬PP (.tuple [.int p,.int g,.tuple (l1++m++l2)])
theorem Op.same {H H':Hp} {p g:Int} {l1 l2:List PyData} {N:Nat} {v:V} (h:Op K H p g l1 l2 N v) (s:aE H H'):Op K H' p g l1 l2 N v:=by
 obtain⟨m,h1,h2⟩:=h
 exact⟨m,dv.same s _ h1,h2⟩
theorem Op.bS {t:Addr} {n:Nat} {H H':Hp} {p g:Int} {l1 l2:List PyData} {N:Nat} {v:V} (h:Op K H p g l1 l2 N v) (o:bR t H H') (tt:Tp t n H):Op K H' p g l1 l2 N v:=by
 obtain⟨m,h1,h2⟩:=h
 exact⟨m,dv.bS h1 o tt,h2⟩
section
variable {J:Hp} {p g q g' k:Int} {rs l1 l2:List PyData} {N:Nat}
theorem ll {a:Addr} {x:V} {d:PyData} (h:aJ K J a [x]) (hx:dv K J d x):dv K J (.tuple [d]) (.ref a):=⟨a,[x],rfl,h,x,[],rfl,hx,rfl⟩
theorem dX {a:Addr} {x y:V} {d e:PyData} (h:aJ K J a [x,y]) (hx:dv K J d x) (hy:dv K J e y):dv K J (.tuple [d,e]) (.ref a):=⟨a,[x,y],rfl,h,x,[y],rfl,hx,y,[],rfl,hy,rfl⟩
theorem bH {a:Addr} {x y z:V} {d e f:PyData} (h:aJ K J a [x,y,z]) (hx:dv K J d x) (hy:dv K J e y) (hz:dv K J f z):dv K J (.tuple [d,e,f]) (.ref a):=⟨a,[x,y,z],rfl,h,x,[y,z],rfl,hx,y,[z],rfl,hy,z,[],rfl,hz,rfl⟩
theorem u6 {a:Addr} {x y:V} {d e:PyData} (h:aV K J a [x,y]) (hx:dv K J d x) (hy:dv K J e y):dv K J (.list [d,e]) (.ref a):=⟨a,[x,y],rfl,h,x,[y],rfl,hx,y,[],rfl,hy,rfl⟩
theorem iJ {a:Addr} {x:V} {d:PyData} (h:aJ K J a [x]) (hd:dv K J d x) (gdd:gd d) (sz:bJ d<=N) (np:¬PP (.tuple [.int p,.int g,.tuple (l1++[d]++l2)])):Op K J p g l1 l2 N (.ref a):=⟨[d],ll h hd,by simp only [bV,and_true];exact gdd,by simp only [aK];omega,np⟩
theorem yq (hc:CT 2 (p-1) 1 (l1++.tuple [.tuple [.int q,.int g',.tuple rs],.int k]::l2)) (gr:gd (.tuple [.tuple [.int q,.int g',.tuple rs],.int k])) (q9:q<=10^9) (k0:1<=k) (k9:k<=10^9) {pi a1 a2 a3 a4 a5 a6 a7 a8 a9 a10 b3 b4 b5 b6 b7 b8:Addr} {vr vw:V} (hi:dv K J (.tuple [.int q,.int g',.tuple rs]) (.ref pi)) (hr:dv K J (.tuple rs) vr) (hw:dv K J (.tuple [.tuple [.int q,.int g',.tuple rs],.int k]) vw)
  (A1:aJ K J a1 [.ref pi,.int (k+1)]) (A2:aJ K J a2 [.ref a1]) (A3:aJ K J a3 []) (A4:aJ K J a4 [.ref pi,.int (k-1)]) (A5:aJ K J a5 [.ref a4]) (A6:aJ K J a6 [.int q,.int 0,vr]) (A7:aJ K J a7 [.ref a6,.int k]) (A8:aJ K J a8 [.ref a7]) (A9:aJ K J a9 [.bw,.int k]) (A10:aJ K J a10 [.ref a9]) (B3:aJ K J b3 [.int (q+1),.int g',vr]) (B4:aJ K J b4 [.ref b3,.int k]) (B5:aJ K J b5 [.ref b4]) (B6:aJ K J b6 [vw,vw]) (B7:aV K J b7 [.ref pi,.int k]) (B8:aJ K J b8 [.ref b7]) :
  ∀ x∈[V.ref a2,.ref a3,.ref a5,.ref a8,.ref a10,.ref b5,.ref b6,.ref b8],Op K J p g l1 l2 (2*bJ (.tuple [.tuple [.int q,.int g',.tuple rs],.int k])+18) x:=by
 have gr':=gr
 simp only [gd,bV,and_true] at gr'
 obtain⟨⟨⟨gq0,gq1⟩,⟨gg0,gg1⟩,grs⟩,gk0,gk1⟩:=gr'
 have zi:∀ i:Int,bJ (.int i)=1:=λi=>by simp only [bJ]
 have hz:bJ (.tuple [.tuple [.int q,.int g',.tuple rs],.int k])=1+(1+(1+(1+(1+aK rs+0)))+(1+0)):=by simp only [bJ,aK]
 have I:∀ i:Int,dv K J (.int i) (.int i):=λi=>rfl
 intro x hx
 simp only [List.mem_cons,List.not_mem_nil,or_false] at hx
 rcases hx with rfl | rfl | rfl | rfl | rfl | rfl | rfl | rfl
 ·refine iJ A2 (dX A1 hi (I _)) ?_ ?_ (hW hc λl t h=>m7 h (k':=k+1) (by omega))
  ·simp only [gd,bV,and_true];exact⟨⟨⟨gq0,gq1⟩,⟨gg0,gg1⟩,grs⟩,by omega,by omega⟩
  ·rw [hz];simp only [bJ,aK];omega
 ·exact⟨[],⟨a3,[],rfl,A3,rfl⟩,by simp only [bV],by simp only [aK];omega,hW hc λl t h=>vC h⟩
 ·refine iJ A5 (dX A4 hi (I _)) ?_ ?_ (hW hc λl t h=>m7 h (k':=k-1) (by omega))
  ·simp only [gd,bV,and_true];exact⟨⟨⟨gq0,gq1⟩,⟨gg0,gg1⟩,grs⟩,by omega,by omega⟩
  ·rw [hz];simp only [bJ,aK];omega
 ·refine iJ A8 (dX A7 (bH A6 (I _) (I _) hr) (I _)) ?_ ?_ (mZ (row:=.tuple [.tuple [.int q,.int 0,.tuple rs],.int k]) (by simp) (tj (.inl (by decide))))
  ·simp only [gd,bV,and_true];exact⟨⟨⟨gq0,gq1⟩,by decide,grs⟩,by omega,by omega⟩
  ·rw [hz];simp only [bJ,aK];omega
 ·refine iJ A10 (dX A9 (show dv K J .none .bw from rfl) (I _)) ?_ ?_ (qf (row:=.tuple [.none,.int k]) (by simp) (λq g k rs h=>by simp at h))
  ·simp only [gd,bV,and_true,true_and];exact⟨by omega,by omega⟩
  ·rw [hz];simp only [bJ,aK];omega
 ·refine iJ B5 (dX B4 (bH B3 (I _) (I _) hr) (I _)) ?_ ?_ (hW hc λl t h=>vD h)
  ·simp only [gd,bV,and_true];exact⟨⟨⟨by omega,by omega⟩,⟨gg0,gg1⟩,grs⟩,by omega,by omega⟩
  ·rw [hz];simp only [bJ,aK];omega
 ·refine⟨_,dX B6 hw hw,by simp only [bV,and_true];exact⟨gr,gr⟩,by rw [hz];simp only [bJ,aK];omega,hW hc λl t h=>tu h⟩
 ·refine iJ B8 (u6 B7 hi (I _)) ?_ ?_ (qf (row:=.list [.tuple [.int q,.int g',.tuple rs],.int k]) (by simp) (λq g k rs h=>by simp at h))
  ·simp only [gd,bV,and_true];exact⟨⟨⟨gq0,gq1⟩,⟨gg0,gg1⟩,grs⟩,by omega,by omega⟩
  ·rw [hz];simp only [bJ,aK];omega
end
end
end K
namespace K
open PySem PySem.Spec PyProof.Rows L2
section
variable {K:PySem.W.Frag}
theorem mF {us:List V} {m:Nat} (h:m<=us.length):eQ us none (some (m:Int))=us.take m:=by
 unfold eQ
 have e1:HT.c6 us.length 0 none=0:=rfl
 have e2:HT.c6 us.length us.length (some (m:Int))=m:=by
  simp only [HT.c6]
  split<;>omega
 rw [e1,e2,List.drop_zero,Nat.sub_zero]
theorem sF {us:List V} {m:Nat} (h:m<=us.length):eQ us (some (m:Int)) none=us.drop m:=by
 unfold eQ
 have e1:HT.c6 us.length us.length none=us.length:=rfl
 have e2:HT.c6 us.length 0 (some (m:Int))=m:=by
  simp only [HT.c6]
  split<;>omega
 rw [e1,e2]
 exact List.take_of_length_le (by rw [List.length_drop];omega)
theorem mL {H:Hp}:∀{ds:List PyData} {us:List V} (n:Nat),bh K H ds us->bh K H (ds.take n) (us.take n)
 | _,_,0,_=>by rw [List.take_zero,List.take_zero];rfl
 | [],_,n+1,h=>by cases h;rfl
 | d::ds,_,n+1,⟨x,r,e,h,t⟩=>by subst e;exact⟨x,_,rfl,h,mL n t⟩
theorem mJ {H:Hp}:∀{ds:List PyData} {us:List V} (n:Nat),bh K H ds us->bh K H (ds.drop n) (us.drop n)
 | _,_,0,h=>h
 | [],_,n+1,h=>by cases h;rfl
 | d::ds,_,n+1,⟨x,r,e,h,t⟩=>by subst e;exact mJ n t
theorem put3 {H8:Hp} {pr c1 cm:Addr} {us zs:List V} {an:Nat} {p g:Int} {rows m:List PyData} {Q:VK} (hS:aJ K H8 pr us) (hd:bh K H8 rows us) (hc:aJ K H8 c1 (us.take an)) (hm:aJ K H8 cm zs) (dm:bh K H8 m zs) (ul:us.length<=1000) (zl:zs.length<=1000) (al:an<us.length) (q:∀ y H',aE H8 H'->dv K H' (.tuple [.int p,.int g,.tuple (rows.take an++m++rows.drop (an+1))]) y->Q y H'):nI K (.ref c1) (.ref cm) H8 λx H1=>v8 K (.ref pr) (some ((an:Int)+1)) none H1 λy H2=>nI K x y H2 λz H3=>[V.int p,V.int g,z].length<=sizeLine/\∀ a,H3 a=none->Q (.ref a) (upd H3 a (.tup [.int p,.int g,z])):=by
 have sz:3000<=sizeLine:=by decide
 have l1:(us.take an).length<=1000:=Nat.le_trans (List.length_take_le' ..) ul
 refine⟨c1,cm,_,_,rfl,rfl,hc,hm,by omega,λp3 H3 s3 h3=>⟨pr,us,rfl,hS.same s3,λp4 H4 s4 h4=>?_⟩⟩
 rw [show ((an:Int)+1)=((an+1:Nat):Int) by omega,sF (by omega)] at h4
 have l4:(us.drop (an+1)).length<=1000:=by rw [List.length_drop];omega
 refine⟨p3,p4,_,_,rfl,rfl,h3.same s4,h4,by rw [List.length_append];omega,λp5 H5 s5 h5=>⟨by show 3<=sizeLine;decide,λp6 hp6=>?_⟩⟩
 have s6:=ai (o:=.tup [V.int p,V.int g,V.ref p5]) hp6
 have S:=s3.trans (s4.trans (s5.trans s6))
 refine q _ _ S (bH (aJ.of af) rfl rfl ⟨p5,_,rfl,h5.same s6,?_⟩)
 exact ((mL _ (bh.same S _ hd)).append (bh.same S _ dm)).append (mJ _ (bh.same S _ hd))
end
end K
namespace K
open PySem PySem.Spec PyProof.Rows L2
section
variable {P:Program} {w:World} {K:PySem.W.Frag} {mg:Str->Option Value} {base:Heap} {C:Addr}
def fR (K:PySem.W.Frag) (L:Nat):Sp:=λvs H Q _=>∃(t:Addr) (n:Nat) (v:V) (p:Int) (d:PyData),vs=[.ref t,v]/\Tp t n H/\n+2*L<=10^46/\dv K H d v/\Num.gR p d/\Num.Ht L p/\∀ d' y H',¬PP d'->gd d'->bJ d'<=2*bJ d+20->bR t H H'->Tp t (n+2*L) H'->dv K H' d' y->Q y H'
def BN (H:Hp) (t pv pr:Addr) (p g:Int) (n:Nat) (σ':L2.St) (H':Hp):Prop:=σ'=[some (.ref t),some (.ref pv),some (.int p),some (.int g),some (.ref pr),none,none,none,none,none]/\bR t H H'/\Tp t n H'
def BP (H3:Hp) (way:Int) (s0:L2.St) (σ':L2.St) (H':Hp):Prop:=σ'=s0/\H'=H3/\way<=7
theorem cQ:aC ["_law_tape_here","_law_paper","_law_p","_law_full","_law_parts","_law_at","_law_inner","_law_many","_law_some","_law_way"] ["_law_tape_here","_law_paper"] (ao (top 55)):=dW
theorem oU {L:Nat} (lL:L<=40) (D:aA K mg "_law_bent_within" (top 55)) (c__law_draw:Callee P w K mg base aQ 1 "_law_draw" ["_law_tape_here","_law_many"] dz) (c__law_bent_within:Callee P w K mg base aQ (L+2) "_law_bent_within" ["_law_tape_here","_law_paper"] (fR K L)) (n_len:mg "len"=none):Callee P w K mg base aQ (L+3) "_law_bent_within" ["_law_tape_here","_law_paper"] (fR K (L+1)):=by
 refine cO D cQ (λf cdv A outer s H vs Q E hr h=>?_)
 obtain⟨t,n,v,p,d,rfl,tt,n9,hv,hp,hH,q⟩:=h
 obtain⟨pm,p9⟩:=kJ hp
 have p2:=pm.two
 have gdd:=tP hp
 obtain⟨g,ps,ds,rfl,hg,hP,l29,hds⟩:=jh hp
 have g1:=hg.one
 have gp:=hg.lt
 have hct:CT 2 (p-1) 1 (Num.rowsOf ps ds):=eP ((lW p2 hP hds).mpr ⟨hg.one,hg.lt,hg.ord⟩)
 have grw:bV (Num.rowsOf ps ds):=by
  simp only [gd,bV,and_true] at gdd
  exact gdd.2.2
 have nd:=cQ.nd
 refine⟨_,(@ag _ _ _ _ _ (dZ (pv 1) (dN (n:=3) rfl (aI (aH (i:=2) nd rfl (Or.inl rfl) (.inr rfl)) (aI (aH (i:=3) nd rfl (Or.inl rfl) (.inr rfl)) (aI (aH (i:=4) nd rfl (Or.inl rfl) (.inr rfl)) cG))))) (@ag _ _ _ _ _ (bL (@aP _ _ _ _ _ _ _ _ (@aw _ _ _ _ _ _ _ _ (lO hr.units) (pv 4) (@ax _ _ _ _ _ ae) (ar _)) (@aj _ _ _ (@aB _ _ _ _ (@ax _ _ _ _ _ (@aa _ _ _ _ _ (pv 2) (@aa _ _ _ _ _ ah (@aa _ _ _ _ _ (@ax _ _ _ _ _ ae) ae (by rfl)) (by rfl)) (by rfl))))) aD)) (@ag _ _ _ _ _ (@bT _ _ 5 _ _ _ _ nd rfl (Or.inl rfl) (@aF _ _ _ _ _ _ _ _ _ _ _ _ c__law_draw (hr.mono (by omega)) rfl ay (@aa _ _ _ _ _ (pv 0) (@aa _ _ _ _ _ (@aG _ _ _ _ _ _ _ _ _ bf rfl n_len PySem.boot_len (@aa _ _ _ _ _ (pv 4) ae (by rfl)) (by decide) (by decide) (by rfl) (by rfl)) ae (by rfl)) (by rfl)) (by decide) (by rfl) (by rfl)) (by rfl) (by first | exact .inl rfl | exact .inr rfl | assumption)) (@ag _ _ _ _ _ (dZ (@aO _ _ _ _ _ _ _ aS (pv 4) (pv 5) (λ_ _=>rfl)) (dN (n:=2) rfl (aI (aH (i:=6) nd rfl (Or.inl rfl) (.inr rfl)) (aI (aH (i:=7) nd rfl (Or.inl rfl) (.inr rfl)) cG)))) (@ag _ _ _ _ _ (@bT _ _ 8 _ _ _ _ nd rfl (Or.inl rfl) (@bo _ _ _ _ (@aa _ _ _ _ _ (@ax _ _ _ _ _ (@aa _ _ _ _ _ (@ax _ _ _ _ _ (@aa _ _ _ _ _ (pv 6) (@aa _ _ _ _ _ (@aq _ _ _ _ _ _ _ _ bB (pv 7) ah) ae (by rfl)) (by rfl))) ae (by rfl))) (@aa _ _ _ _ _ (@ax _ _ _ _ _ ae) (@aa _ _ _ _ _ (@ax _ _ _ _ _ (@aa _ _ _ _ _ (@ax _ _ _ _ _ (@aa _ _ _ _ _ (pv 6) (@aa _ _ _ _ _ (@aq _ _ _ _ _ _ _ _ cZ (pv 7) ah) ae (by rfl)) (by rfl))) ae (by rfl))) (@aa _ _ _ _ _ (@ax _ _ _ _ _ (@aa _ _ _ _ _ (@ax _ _ _ _ _ (@aa _ _ _ _ _ (@ax _ _ _ _ _ (@aa _ _ _ _ _ (@aO _ _ _ _ _ _ _ aS (pv 6) ah (λ_ _=>rfl)) (@aa _ _ _ _ _ ah (@aa _ _ _ _ _ (@aO _ _ _ _ _ _ _ aS (pv 6) ah (λ_ _=>rfl)) ae (by rfl)) (by rfl)) (by rfl))) (@aa _ _ _ _ _ (pv 7) ae (by rfl)) (by rfl))) ae (by rfl))) (@aa _ _ _ _ _ (@ax _ _ _ _ _ (@aa _ _ _ _ _ (@ax _ _ _ _ _ (@aa _ _ _ _ _ dc (@aa _ _ _ _ _ (pv 7) ae (by rfl)) (by rfl))) ae (by rfl))) ae (by rfl)) (by rfl)) (by rfl)) (by rfl)) (by rfl))) (by rfl) (by first | exact .inl rfl | exact .inr rfl | assumption)) (@ag _ _ _ _ _ (@bT _ _ 8 _ _ _ _ nd rfl (Or.inl rfl) (@aq _ _ _ _ _ _ _ _ lN (pv 8) (@bo _ _ _ _ (@aa _ _ _ _ _ (@ax _ _ _ _ _ (@aa _ _ _ _ _ (@ax _ _ _ _ _ (@aa _ _ _ _ _ (@aq _ _ _ _ _ _ _ _ cF (@ax _ _ _ _ _ (@aa _ _ _ _ _ (@aq _ _ _ _ _ _ _ _ bB (@aO _ _ _ _ _ _ _ aS (pv 6) ah (λ_ _=>rfl)) ah) ae (by rfl))) (bP cL (pv 6) (cn ah) cH)) (@aa _ _ _ _ _ (pv 7) ae (by rfl)) (by rfl))) ae (by rfl))) (@aa _ _ _ _ _ (@ax _ _ _ _ _ (@aa _ _ _ _ _ (@aO _ _ _ _ _ _ _ aS (pv 4) (pv 5) (λ_ _=>rfl)) (@aa _ _ _ _ _ (@aO _ _ _ _ _ _ _ aS (pv 4) (pv 5) (λ_ _=>rfl)) ae (by rfl)) (by rfl))) (@aa _ _ _ _ _ (@ax _ _ _ _ _ (@aa _ _ _ _ _ (@bo _ _ _ _ (@aa _ _ _ _ _ (pv 6) (@aa _ _ _ _ _ (pv 7) ae (by rfl)) (by rfl))) ae (by rfl))) ae (by rfl)) (by rfl)) (by rfl)))) (by rfl) (by first | exact .inl rfl | exact .inr rfl | assumption)) (@ag _ _ _ _ _ (@bT _ _ 9 _ _ _ _ nd rfl (Or.inl rfl) (@aF _ _ _ _ _ _ _ _ _ _ _ _ c__law_draw (hr.mono (by omega)) rfl ay (@aa _ _ _ _ _ (pv 0) (@aa _ _ _ _ _ ah ae (by rfl)) (by rfl)) (by decide) (by rfl) (by rfl)) (by rfl) (by first | exact .inl rfl | exact .inr rfl | assumption)) (@ag _ _ _ _ _ (bL (@aP _ _ _ _ _ _ _ _ (@aw _ _ _ _ _ _ _ _ cM (pv 9) ah (ar _)) (@aj _ _ _ (@aB _ _ _ _ (@ax _ _ _ _ _ (@aa _ _ _ _ _ (pv 2) (@aa _ _ _ _ _ (pv 3) (@aa _ _ _ _ _ (@aq _ _ _ _ _ _ _ _ cF (@aq _ _ _ _ _ _ _ _ cF (bP cL (pv 4) cH (cn (pv 5))) (@ax _ _ _ _ _ (@aa _ _ _ _ _ (@ax _ _ _ _ _ (@aa _ _ _ _ _ (@aF _ _ _ _ _ _ _ _ _ _ _ _ c__law_bent_within (hr.mono (by omega)) rfl ay (@aa _ _ _ _ _ (pv 0) (@aa _ _ _ _ _ (pv 6) ae (by rfl)) (by rfl)) (by decide) (by rfl) (by rfl)) (@aa _ _ _ _ _ (pv 7) ae (by rfl)) (by rfl))) ae (by rfl)))) (bP cL (pv 4) (cn (@aq _ _ _ _ _ _ _ _ bB (pv 5) ah)) cH)) ae (by rfl)) (by rfl)) (by rfl))))) aD)) (@aj _ _ _ (@aB _ _ _ _ (@ax _ _ _ _ _ (@aa _ _ _ _ _ (pv 2) (@aa _ _ _ _ _ (pv 3) (@aa _ _ _ _ _ (@aq _ _ _ _ _ _ _ _ cF (@aq _ _ _ _ _ _ _ _ cF (bP cL (pv 4) cH (cn (pv 5))) (@aO _ _ _ _ _ _ _ bW (pv 8) (pv 9) (λ_ _=>rfl))) (bP cL (pv 4) (cn (@aq _ _ _ _ _ _ _ _ bB (pv 5) ah)) cH)) ae (by rfl)) (by rfl)) (by rfl))))))))))))),?_⟩
 show cf _ _ _ [some (.ref t),some v,none,none,none,none,none,none,none,none] H
 obtain⟨pv,y1,y2,vr,rfl,tS,z0,zg,dr⟩:=lj hv
 cases z0
 cases zg
 obtain⟨pr,us,rfl,tR,hd⟩:=dr
 have ul:us.length=(Num.rowsOf ps ds).length:=hd.length
 have rl:(Num.rowsOf ps ds).length=ps.length:=Num.c5 ..
 k_data
 refine⟨pv,_,rfl,tS,rfl,?_⟩
 k_data
 refine⟨λσ' H'=>BN H t pv pr p g n σ' H'/\0<us.length,?_,?_⟩
 ·k_data
  refine⟨by show 0<=sizeLine;decide,λp1 hp1=>?_⟩
  have s1:=ai (o:=.tup []) hp1
  have hR:dv K H (.tuple (Num.rowsOf ps ds)) (.ref pr):=⟨pr,us,rfl,tR,hd⟩
  refine⟨_,_,dv.same s1 _ hR,dv.tup (ds:=[]) af rfl,bV.lay _ grw,rfl,Nat.le_trans (Nat.min_le_right _ _) (by decide),_,rfl,?_⟩
  generalize upd H p1 _=H1 at *
  have t1:=tt.same s1
  refine aL (λ_=>?_) (λne=>⟨⟨rfl,bR.of s1,t1⟩,?_⟩)
  ·refine⟨by show 0<=sizeLine;decide,λp2 hp2=>⟨by show 3<=sizeLine;decide,λp3 hp3=>?_⟩⟩
   have s2:=ai (o:=.tup []) hp2
   have s3:=ai (o:=.tup [V.int p,V.int 0,V.ref p2]) hp3
   have S:=s1.trans (s2.trans s3)
   exact q (.tuple [.int p,.int 0,.tuple []]) _ _ (tj (.inl (by decide))) (by simp only [gd,bV,and_true];omega) (by simp only [bJ,aK];omega) (bR.of S) ((tt.same S).mono (by omega)) (bH (aJ.of af) rfl rfl ⟨p2,[],rfl,aJ.of (s3 _ _ af),rfl⟩)
  ·rcases Nat.eq_zero_or_pos us.length with z | z
   ·refine absurd ?_ ne
    rw [List.length_eq_zero_iff.mp (show (Num.rowsOf ps ds).length=0 by omega)]
    rfl
   ·exact z
 rintro σ' H1 ⟨⟨rfl,O1,t1⟩,u0⟩
 k_data
 refine fu (O1.kt tt _ _ tR) ⟨t,_,n,rfl,t1,by omega,by omega,by omega,λat' H2 a0 a1 o2 t2=>?_⟩
 have O2:=O1.trans o2.bS
 obtain⟨an,rfl⟩:∃ k:Nat,at'=k:=⟨at'.toNat,by omega⟩
 have al:an<us.length:=by omega
 have hx:us[an]?=some us[an]:=List.getElem?_eq_getElem al
 obtain⟨row,er,hw⟩:=hd.get hx
 obtain⟨i,q',k,hi,rfl⟩:=fL (List.mem_of_getElem? er)
 obtain⟨pm',k1,k30⟩:=hP.ok _ (List.mem_of_getElem? hi)
 have hdv:q'∣p-1:=by
  have:=Num.bY (List.mem_of_getElem? hi) k1
  rwa [hP.prod] at this
 have hHq:=hH q' pm' hdv
 have hpi:=hds i q' k hi
 have q9:=(kJ hpi).2
 have k1:1<=k:=k1
 have k30:k<=30:=k30
 obtain⟨g',ps',ds',eI,_,_,_,_⟩:=jh hpi
 rw [eI] at hw er hpi
 generalize Num.rowsOf ps' ds'=rs at *
 generalize us[an]=vw at *
 have hcut:=ui er
 have zrow:aK (Num.rowsOf ps ds)=aK ((Num.rowsOf ps ds).take an)+(bJ (.tuple [.tuple [.int q',.int g',.tuple rs],.int k])+aK ((Num.rowsOf ps ds).drop (an+1))):=by
  conv=>lhs;rw [hcut]
  rw [aZ]
  simp only [aK]
 rw [hcut] at hct grw
 obtain⟨gl1,grw2⟩:=jc.mp grw
 simp only [bV] at grw2
 obtain⟨grow,gl2⟩:=grw2
 have zd:bJ (.tuple [.int p,.int g,.tuple (Num.rowsOf ps ds)])=4+aK (Num.rowsOf ps ds):=by
  simp only [bJ,aK];omega
 have zr:bJ (.tuple [.tuple [.int q',.int g',.tuple rs],.int k])=2+bJ (.tuple [.int q',.int g',.tuple rs]):=by
  simp only [bJ,aK];omega
 generalize hrows:Num.rowsOf ps ds=rows at *
 clear hcut
 have hw':=hw
 obtain⟨pw,vi,vk,rfl,tW,hvi,zk⟩:=u5 hw
 cases zk
 have hvi':=hvi
 obtain⟨pi,w1,w2,vr,rfl,tI,z1,z2,hvr⟩:=lj hvi
 cases z1
 cases z2
 have KT:∀{H':Hp} {a:Addr} {xs:List V},bR t H H'->aJ K H a xs->aJ K H' a xs:=λO h=>O.kt tt _ _ h
 have done:∀{H':Hp} {n2:Nat} {y:V} {m:List PyData},bR t H H'->Tp t n2 H'->n2<=n+2*(L+1)->bV m->aK m<=2*bJ (.tuple [.tuple [.int q',.int g',.tuple rs],.int k])+18->¬PP (.tuple [.int p,.int g,.tuple (rows.take an++m++rows.drop (an+1))])->dv K H' (.tuple [.int p,.int g,.tuple (rows.take an++m++rows.drop (an+1))]) y->Q y H':=λO' t' hn gm zm np hy=>q _ _ _ np (by simp only [gd,bV,and_true];exact⟨by omega,by omega,jc.mpr ⟨jc.mpr ⟨gl1,gm⟩,gl2⟩⟩) (by
  simp only [bJ,aK]
  rw [aZ,aZ]
  simp only [bJ,aK] at zd zm zrow ⊢
  omega) O' (t'.mono hn) hy
 refine⟨pr,us,_,_,rfl,rfl,KT O2 tR,fk hx,?_⟩
 refine⟨pw,_,rfl,KT O2 tW,rfl,?_⟩
 k_data
 refine⟨by show 2<=sizeLine;decide,λa1 h1=>?_⟩
 have b1:=ai (o:=.tup [V.ref pi,V.int (k+1)]) h1
 have e1:upd H2 a1 (.tup [V.ref pi,V.int (k+1)]) a1=some (.tup [V.ref pi,V.int (k+1)]):=af
 generalize upd H2 a1 _=J1 at *
 refine⟨by show 1<=sizeLine;decide,λa2 h2=>?_⟩
 have b2:=ai (o:=.tup [V.ref a1]) h2
 have e2:upd J1 a2 (.tup [V.ref a1]) a2=some (.tup [V.ref a1]):=af
 generalize upd J1 a2 _=J2 at *
 refine⟨by show 0<=sizeLine;decide,λa3 h3=>?_⟩
 have b3:=ai (o:=.tup []) h3
 have e3:upd J2 a3 (.tup []) a3=some (.tup []):=af
 generalize upd J2 a3 _=J3 at *
 refine⟨by show 2<=sizeLine;decide,λa4 h4=>?_⟩
 have b4:=ai (o:=.tup [V.ref pi,V.int (k-1)]) h4
 have e4:upd J3 a4 (.tup [V.ref pi,V.int (k-1)]) a4=some (.tup [V.ref pi,V.int (k-1)]):=af
 generalize upd J3 a4 _=J4 at *
 refine⟨by show 1<=sizeLine;decide,λa5 h5=>?_⟩
 have b5:=ai (o:=.tup [V.ref a4]) h5
 have e5:upd J4 a5 (.tup [V.ref a4]) a5=some (.tup [V.ref a4]):=af
 generalize upd J4 a5 _=J5 at *
 have tI5:aJ K J5 pi [.int q',.int g',vr]:=(KT O2 tI).same (b1.trans (b2.trans (b3.trans (b4.trans b5))))
 refine cY tI5 nX (cY tI5 rfl ?_)
 refine⟨by show 3<=sizeLine;decide,λa6 h6=>?_⟩
 have b6:=ai (o:=.tup [V.int q',V.int 0,vr]) h6
 have e6:upd J5 a6 (.tup [V.int q',V.int 0,vr]) a6=some (.tup [V.int q',V.int 0,vr]):=af
 generalize upd J5 a6 _=J6 at *
 refine⟨by show 2<=sizeLine;decide,λa7 h7=>?_⟩
 have b7:=ai (o:=.tup [V.ref a6,V.int k]) h7
 have e7:upd J6 a7 (.tup [V.ref a6,V.int k]) a7=some (.tup [V.ref a6,V.int k]):=af
 generalize upd J6 a7 _=J7 at *
 refine⟨by show 1<=sizeLine;decide,λa8 h8=>?_⟩
 have b8:=ai (o:=.tup [V.ref a7]) h8
 have e8:upd J7 a8 (.tup [V.ref a7]) a8=some (.tup [V.ref a7]):=af
 generalize upd J7 a8 _=J8 at *
 refine⟨by show 2<=sizeLine;decide,λa9 h9=>?_⟩
 have b9:=ai (o:=.tup [V.bw,V.int k]) h9
 have e9:upd J8 a9 (.tup [V.bw,V.int k]) a9=some (.tup [V.bw,V.int k]):=af
 generalize upd J8 a9 _=J9 at *
 refine⟨by show 1<=sizeLine;decide,λa10 h10=>?_⟩
 have b10:=ai (o:=.tup [V.ref a9]) h10
 have e10:upd J9 a10 (.tup [V.ref a9]) a10=some (.tup [V.ref a9]):=af
 generalize upd J9 a10 _=J10 at *
 refine⟨by show 5<=sizeLine;decide,λa11 h11=>?_⟩
 have b11:=ai (o:=.lst [V.ref a2,V.ref a3,V.ref a5,V.ref a8,V.ref a10]) h11
 have e11:upd J10 a11 (.lst [V.ref a2,V.ref a3,V.ref a5,V.ref a8,V.ref a10]) a11=some (.lst [V.ref a2,V.ref a3,V.ref a5,V.ref a8,V.ref a10]):=af
 generalize upd J10 a11 _=J11 at *
 have tI11:=tI5.same (b6.trans (b7.trans (b8.trans (b9.trans (b10.trans b11)))))
 refine cY tI11 nX ⟨_,rfl,?_⟩
 refine⟨by show 1<=sizeLine;decide,λa12 h12=>?_⟩
 have b12:=ai (o:=.tup [V.int (q'+1)]) h12
 have e12:upd J11 a12 (.tup [V.int (q'+1)]) a12=some (.tup [V.int (q'+1)]):=af
 generalize upd J11 a12 _=J12 at *
 refine⟨pi,_,rfl,tI11.same b12,λc2 Jc bc tc=>?_⟩
 have tc:aJ K Jc c2 [V.int g',vr]:=tc
 refine⟨a12,c2,_,_,rfl,rfl,aJ.of (bc _ _ e12),tc,by show 3<=sizeLine;decide,λc3 Jd bd td=>?_⟩
 have td:aJ K Jd c3 [V.int (q'+1),V.int g',vr]:=td
 refine⟨by show 2<=sizeLine;decide,λa13 h13=>?_⟩
 have b13:=ai (o:=.tup [V.ref c3,V.int k]) h13
 have e13:upd Jd a13 (.tup [V.ref c3,V.int k]) a13=some (.tup [V.ref c3,V.int k]):=af
 generalize upd Jd a13 _=J13 at *
 refine⟨by show 1<=sizeLine;decide,λa14 h14=>?_⟩
 have b14:=ai (o:=.tup [V.ref a13]) h14
 have e14:upd J13 a14 (.tup [V.ref a13]) a14=some (.tup [V.ref a13]):=af
 generalize upd J13 a14 _=J14 at *
 have S14:=b1.trans (b2.trans (b3.trans (b4.trans (b5.trans (b6.trans (b7.trans (b8.trans (b9.trans (b10.trans (b11.trans (b12.trans (bc.trans (bd.trans (b13.trans b14))))))))))))))
 have tR14:=(KT O2 tR).same S14
 refine⟨pr,us,_,_,rfl,rfl,tR14,fk hx,⟨pr,us,_,_,rfl,rfl,tR14,fk hx,?_⟩⟩
 refine⟨by show 2<=sizeLine;decide,λa15 h15=>?_⟩
 have b15:=ai (o:=.tup [V.ref pw,V.ref pw]) h15
 have e15:upd J14 a15 (.tup [V.ref pw,V.ref pw]) a15=some (.tup [V.ref pw,V.ref pw]):=af
 generalize upd J14 a15 _=J15 at *
 refine⟨by show 2<=sizeLine;decide,λa16 h16=>?_⟩
 have b16:=ai (o:=.lst [V.ref pi,V.int k]) h16
 have e16:upd J15 a16 (.lst [V.ref pi,V.int k]) a16=some (.lst [V.ref pi,V.int k]):=af
 generalize upd J15 a16 _=J16 at *
 refine⟨by show 1<=sizeLine;decide,λa17 h17=>?_⟩
 have b17:=ai (o:=.tup [V.ref a16]) h17
 have e17:upd J16 a17 (.tup [V.ref a16]) a17=some (.tup [V.ref a16]):=af
 generalize upd J16 a17 _=J17 at *
 refine⟨by show 3<=sizeLine;decide,λa18 h18=>?_⟩
 have b18:=ai (o:=.lst [V.ref a14,V.ref a15,V.ref a17]) h18
 have e18:upd J17 a18 (.lst [V.ref a14,V.ref a15,V.ref a17]) a18=some (.lst [V.ref a14,V.ref a15,V.ref a17]):=af
 generalize upd J17 a18 _=J18 at *
 refine⟨a11,a18,_,_,rfl,rfl,(b12.trans (bc.trans (bd.trans (b13.trans (b14.trans (b15.trans (b16.trans (b17.trans b18)))))))) _ _ e11,e18,by show 8<=sizeLine;decide,λa19 h19=>?_⟩
 have b19:=ai (o:=.lst ([V.ref a2,V.ref a3,V.ref a5,V.ref a8,V.ref a10]++[V.ref a14,V.ref a15,V.ref a17])) h19
 have e19:upd J18 a19 (.lst ([V.ref a2,V.ref a3,V.ref a5,V.ref a8,V.ref a10]++[V.ref a14,V.ref a15,V.ref a17])) a19=some (.lst ([V.ref a2,V.ref a3,V.ref a5,V.ref a8,V.ref a10]++[V.ref a14,V.ref a15,V.ref a17])):=af
 generalize upd J18 a19 _=J19 at *
 have Rb18:=b19
 have Rb17:=b18.trans Rb18
 have Rb16:=b17.trans Rb17
 have Rb15:=b16.trans Rb16
 have Rb14:=b15.trans Rb15
 have Rb13:=b14.trans Rb14
 have Rbd:=b13.trans Rb13
 have Rbc:=bd.trans Rbd
 have Rb12:=bc.trans Rbc
 have Rb11:=b12.trans Rb12
 have Rb10:=b11.trans Rb11
 have Rb9:=b10.trans Rb10
 have Rb8:=b9.trans Rb9
 have Rb7:=b8.trans Rb8
 have Rb6:=b7.trans Rb7
 have Rb5:=b6.trans Rb6
 have Rb4:=b5.trans Rb5
 have Rb3:=b4.trans Rb4
 have Rb2:=b3.trans Rb3
 have Rb1:=b2.trans Rb2
 have S19:=b1.trans Rb1
 have ops:=yq (g:=g) (J:=J19) hct grow q9 k1 (by omega) (dv.same S19 _ (dv.bS hvi' O2 tt)) (dv.same S19 _ (dv.bS hvr O2 tt)) (dv.same S19 _ (dv.bS hw' O2 tt)) (aJ.of (Rb1 _ _ e1)) (aJ.of (Rb2 _ _ e2)) (aJ.of (Rb3 _ _ e3)) (aJ.of (Rb4 _ _ e4)) (aJ.of (Rb5 _ _ e5)) (aJ.of (Rb6 _ _ e6)) (aJ.of (Rb7 _ _ e7)) (aJ.of (Rb8 _ _ e8)) (aJ.of (Rb9 _ _ e9)) (aJ.of (Rb10 _ _ e10)) (td.same Rbd) (aJ.of (Rb13 _ _ e13)) (aJ.of (Rb14 _ _ e14)) (aJ.of (Rb15 _ _ e15)) (aV.of (Rb16 _ _ e16)) (aJ.of (Rb17 _ _ e17))
 have O19:=O2.trans (bR.of S19)
 have t19:=t2.same S19
 clear Rb1 Rb2 Rb3 Rb4 Rb5 Rb6 Rb7 Rb8 Rb9 Rb10 Rb11 Rb12 Rbc Rbd Rb13 Rb14 Rb15 Rb16 Rb17 Rb18
 refine⟨t,12,n+1,rfl,t19,by omega,by decide,by decide,λway H3 w0 w1 o3 t3=>?_⟩
 have O3:=O19.trans o3.bS
 have f3:H3 a19=_:=(o3 a19 (t19.ne e19 (by intro kvs c;cases c))).trans e19
 refine⟨λσ' H'=>BP H3 way [some (V.ref t),some (V.ref pv),some (V.int p),some (V.int g),some (V.ref pr),some (V.int (an:Int)),some (V.ref pi),some (V.int k),some (V.ref a19),some (V.int way)] σ' H',?_,?_⟩
 ·k_data
  refine aL (λ_=>?_) (λc=>⟨rfl,rfl,by omega⟩)
  refine⟨pr,us,rfl,KT O3 tR,λc1 HA sA tA=>?_⟩
  rw [mF (by omega)] at tA
  have O4:=O3.trans (bR.of sA)
  refine⟨t,n+2,_,q',_,rfl,(t3.same sA),by omega,dv.bS hvi' O4 tt,hpi,hHq,λd' y H5 np gd' sz' O5' t5 hy=>?_⟩
  have O5:=O4.trans O5'
  have tA5:=O5'.kt (t3.same sA) _ _ tA
  refine⟨by show 2<=sizeLine;decide,λa20 h20=>⟨by show 1<=sizeLine;decide,λa21 h21=>?_⟩⟩
  have b20:=ai (o:=.tup [y,V.int k]) h20
  have e20:upd H5 a20 (.tup [y,V.int k]) a20=_:=af
  generalize upd H5 a20 _=J20 at *
  have b21:=ai (o:=.tup [V.ref a20]) h21
  have e21:upd J20 a21 (.tup [V.ref a20]) a21=_:=af
  generalize upd J20 a21 _=J21 at *
  have B:=b20.trans b21
  have O6:=O5.trans (bR.of B)
  exact put3 (m:=[.tuple [d',.int k]]) (KT O6 tR) (bh.fD (O6.kt tt) (O6.kl tt) _ hd) (tA5.same B) (aJ.of e21) ⟨_,_,rfl,dX (aJ.of (b21 _ _ e20)) (dv.same B _ hy) rfl,rfl⟩ (by omega) (by show 1<=1000;decide) al λz H' s' hz=>done (O6.trans (bR.of s')) ((t5.same B).same s') (by omega) (by simp only [gd,bV,and_true];exact⟨gd',by omega,by omega⟩) (by simp only [aK,bJ] at zr sz' ⊢;omega) (mZ (row:=.tuple [d',.int k]) (by simp) np) hz
 rintro σ' H' ⟨rfl,rfl,w7⟩
 k_data
 refine⟨pr,us,rfl,KT O3 tR,λc1 HA sA tA=>?_⟩
 rw [mF (by omega)] at tA
 refine cE (aV.of (sA _ _ f3)) w0 (by show way<(8:Int);omega) λv hv=>?_
 obtain⟨m,hm,gm,zm,np⟩:=((ops v hv).bS o3.bS t19).same sA
 obtain⟨cm,zs,rfl,tm,dm⟩:=hm
 have O6:=O3.trans (bR.of sA)
 have zl:zs.length<=1000:=by
  have h1:=fU m
  have h2:=gf hpi
  rw [dm.length]
  omega
 exact put3 (KT O6 tR) (bh.fD (O6.kt tt) (O6.kl tt) _ hd) tA tm dm (by omega) zl al λz H' s' hz=>done (O6.trans (bR.of s')) ((t3.same sA).same s') (by omega) gm zm np hz
def NP (K:PySem.W.Frag) (H:Hp) (N:Nat) (v:V):Prop:=∃ d,dv K H d v/\gd d/\bJ d<=N/\¬PP d
theorem NP.same {H H':Hp} {N:Nat} {v:V} (h:NP K H N v) (s:aE H H'):NP K H' N v:=by
 obtain⟨d,h1,h2⟩:=h
 exact⟨d,dv.same s _ h1,h2⟩
theorem NP.bS {t:Addr} {n:Nat} {H H':Hp} {N:Nat} {v:V} (h:NP K H N v) (o:bR t H H') (tt:Tp t n H):NP K H' N v:=by
 obtain⟨d,h1,h2⟩:=h
 exact⟨d,dv.bS h1 o tt,h2⟩
theorem NP.mono {H:Hp} {N M:Nat} {v:V} (h:NP K H N v) (l:N<=M):NP K H M v:=by
 obtain⟨d,h1,h2,h3,h4⟩:=h
 exact⟨d,h1,h2,Nat.le_trans h3 l,h4⟩
theorem oS (D:aA K mg "_law_bent_within" (top 55)):Callee P w K mg base aQ 2 "_law_bent_within" ["_law_tape_here","_law_paper"] (fR K 0):=by
 refine cO D cQ (λf cdv A outer s H vs Q E hr h=>?_)
 obtain⟨t,n,v,p,d,rfl,tt,n9,hv,hp,hH,q⟩:=h
 exact hH.elim
theorem jD (D:aA K mg "_law_bent_within" (top 55)) (c__law_draw:Callee P w K mg base aQ 1 "_law_draw" ["_law_tape_here","_law_many"] dz) (n_len:mg "len"=none):∀ L:Nat,L<=41->Callee P w K mg base aQ (L+2) "_law_bent_within" ["_law_tape_here","_law_paper"] (fR K L)
 | 0,_=>oS D
 | L+1,h=>(oU (show L<=40 by omega) D c__law_draw (jD D c__law_draw n_len L (by omega)) n_len).mono (by omega)
def kR (K:PySem.W.Frag):Sp:=λvs H Q _=>∃(t:Addr) (n:Nat) (v:V) (p:Int) (d:PyData),vs=[.ref t,v]/\Tp t n H/\n<=10^45/\dv K H d v/\Num.gR p d/\∀ y H',NP K H' (2*bJ d+20) y->bR t H H'->Tp t (n+60) H'->Q y H'
theorem wz (h:Callee P w K mg base aQ (30+2) "_law_bent_within" ["_law_tape_here","_law_paper"] (fR K 30)):Callee P w K mg base aQ 32 "_law_bent_within" ["_law_tape_here","_law_paper"] (kR K) :=
 Callee.imp h λvs H Q E z=>by
  obtain⟨t,n,v,p,d,h1,h2,h3,h4,h5,q⟩:=z
  exact⟨t,n,v,p,d,h1,h2,by omega,h4,h5,Num.sV (kJ h5).1 (kJ h5).2,λd' y H' np g' s' o' t' hy=>q y H' ⟨d',hy,g',s',np⟩ o' t'⟩
theorem vE {J:Hp} {a1 a2 a3 a4 a5 a6 a7 a8 a9:Addr} (A1:aJ K J a1 []) (A2:aV K J a2 []) (A3:aJ K J a3 [.int 1]) (A4:aV K J a4 [.int 0]) (A5:aJ K J a5 [.str "nought"]) (A6:aJ K J a6 []) (A7:aJ K J a7 []) (A8:aJ K J a8 [.ref a6,.ref a7]) (A9:aJ K J a9 [.int 0,.int 0]):∀ x∈[V.bw,V.bl true,V.bl false,V.int 0,V.int 1,V.int (-1),V.int 100000000000000000000000000000000000000000000000000000000000,V.str "none",V.str "",V.ref a1,V.ref a2,V.ref a3,V.ref a4,V.ref a5,V.ref a8,V.ref a9],NP K J 10 x:=by
 intro x hx
 simp only [List.mem_cons,List.not_mem_nil,or_false] at hx
 rcases hx with rfl | rfl | rfl | rfl | rfl | rfl | rfl | rfl | rfl | rfl | rfl | rfl | rfl | rfl | rfl | rfl
 ·exact⟨.none,rfl,by simp only [gd,bV,and_true,true_and],by simp only [bJ,aK];omega,aT λp g rows h=>by simp at h⟩
 ·exact⟨.bool true,rfl,by simp only [gd,bV,and_true,true_and],by simp only [bJ,aK];omega,aT λp g rows h=>by simp at h⟩
 ·exact⟨.bool false,rfl,by simp only [gd,bV,and_true,true_and],by simp only [bJ,aK];omega,aT λp g rows h=>by simp at h⟩
 ·exact⟨.int 0,rfl,by simp only [gd,bV,and_true,true_and];decide,by simp only [bJ,aK];omega,aT λp g rows h=>by simp at h⟩
 ·exact⟨.int 1,rfl,by simp only [gd,bV,and_true,true_and];decide,by simp only [bJ,aK];omega,aT λp g rows h=>by simp at h⟩
 ·exact⟨.int (-1),rfl,by simp only [gd,bV,and_true,true_and];decide,by simp only [bJ,aK];omega,aT λp g rows h=>by simp at h⟩
 ·exact⟨.int 100000000000000000000000000000000000000000000000000000000000,rfl,by simp only [gd,bV,and_true,true_and];decide,by simp only [bJ,aK];omega,aT λp g rows h=>by simp at h⟩
 ·exact⟨.str "none",rfl,by simp only [gd,bV,and_true,true_and];decide +kernel,by simp only [bJ,aK];omega,aT λp g rows h=>by simp at h⟩
 ·exact⟨.str "",rfl,by simp only [gd,bV,and_true,true_and];decide +kernel,by simp only [bJ,aK];omega,aT λp g rows h=>by simp at h⟩
 ·exact⟨.tuple [],⟨a1,[],rfl,A1,rfl⟩,by simp only [gd,bV,and_true,true_and],by simp only [bJ,aK];omega,aT λp g rows h=>by simp at h⟩
 ·exact⟨.list [],⟨a2,[],rfl,A2,rfl⟩,by simp only [gd,bV,and_true,true_and],by simp only [bJ,aK];omega,aT λp g rows h=>by simp at h⟩
 ·exact⟨.tuple [.int 1],ll A3 rfl,by simp only [gd,bV,and_true,true_and];decide,by simp only [bJ,aK];omega,aT λp g rows h=>by simp at h⟩
 ·exact⟨.list [.int 0],⟨a4,_,rfl,A4,_,_,rfl,rfl,rfl⟩,by simp only [gd,bV,and_true,true_and];decide,by simp only [bJ,aK];omega,aT λp g rows h=>by simp at h⟩
 ·exact⟨.tuple [.str "nought"],ll A5 rfl,by simp only [gd,bV,and_true,true_and];decide +kernel,by simp only [bJ,aK];omega,aT λp g rows h=>by simp at h⟩
 ·exact⟨.tuple [.tuple [],.tuple []],dX A8 ⟨a6,[],rfl,A6,rfl⟩ ⟨a7,[],rfl,A7,rfl⟩,by simp only [gd,bV,and_true,true_and],by simp only [bJ,aK];omega,aT λp g rows h=>by simp at h⟩
 ·exact⟨.tuple [.int 0,.int 0],dX A9 rfl rfl,by simp only [gd,bV,and_true,true_and];decide,by simp only [bJ,aK];omega,aT λp g rows h=>by simp at h⟩
def uw (K:PySem.W.Frag):Sp:=λvs H Q _=>∃(p:Addr) (n:Nat),vs=[.ref p]/\Tp p n H/\n<=10^50/\∀ x H',bR p H H'->Tp p (n+1) H'->NP K H' 10 x->Q x H'
theorem vK (D:aA K mg "_law_odd" (top 54)) (c__law_draw:Callee P w K mg base aQ 1 "_law_draw" ["_law_tape_here","_law_many"] dz) (n_len:mg "len"=none):Callee P w K mg base aQ 2 "_law_odd" ["_law_tape_here"] (uw K):=by
 refine cO D ei (λf cdv A outer s H vs Q E hr h=>?_)
 obtain⟨p,n,rfl,t,n9,q⟩:=h
 have nd:=ei.nd
 refine⟨_,(@ag _ _ _ _ _ (@bT _ _ 1 _ _ _ _ nd rfl (Or.inl rfl) (@bo _ _ _ _ (@aa _ _ _ _ _ dc (@aa _ _ _ _ _ cP (@aa _ _ _ _ _ cP (@aa _ _ _ _ _ ah (@aa _ _ _ _ _ ah (@aa _ _ _ _ _ (ik fC ah) (@aa _ _ _ _ _ (@aq _ _ _ _ _ _ _ _ lR ah ah) (@aa _ _ _ _ _ ba (@aa _ _ _ _ _ ba (@aa _ _ _ _ _ (@ax _ _ _ _ _ ae) (@aa _ _ _ _ _ (@bo _ _ _ _ ae) (@aa _ _ _ _ _ (@ax _ _ _ _ _ (@aa _ _ _ _ _ ah ae (by rfl))) (@aa _ _ _ _ _ (@bo _ _ _ _ (@aa _ _ _ _ _ ah ae (by rfl))) (@aa _ _ _ _ _ (@ax _ _ _ _ _ (@aa _ _ _ _ _ ba ae (by rfl))) (@aa _ _ _ _ _ (@ax _ _ _ _ _ (@aa _ _ _ _ _ (@ax _ _ _ _ _ ae) (@aa _ _ _ _ _ (@ax _ _ _ _ _ ae) ae (by rfl)) (by rfl))) (@aa _ _ _ _ _ (@ax _ _ _ _ _ (@aa _ _ _ _ _ ah (@aa _ _ _ _ _ ah ae (by rfl)) (by rfl))) ae (by rfl)) (by rfl)) (by rfl)) (by rfl)) (by rfl)) (by rfl)) (by rfl)) (by rfl)) (by rfl)) (by rfl)) (by rfl)) (by rfl)) (by rfl)) (by rfl)) (by rfl)) (by rfl))) (by rfl) (by first | exact .inl rfl | exact .inr rfl | assumption)) (@aj _ _ _ (@aB _ _ _ _ (@aO _ _ _ _ _ _ _ bW (pv 1) (@aF _ _ _ _ _ _ _ _ _ _ _ _ c__law_draw (hr.mono (by decide)) rfl ay (@aa _ _ _ _ _ (pv 0) (@aa _ _ _ _ _ (@aG _ _ _ _ _ _ _ _ _ bf rfl n_len PySem.boot_len (@aa _ _ _ _ _ (pv 1) ae (by rfl)) (by decide) (by decide) (by rfl) (by rfl)) ae (by rfl)) (by rfl)) (by decide) (by rfl) (by rfl)) (λ_ _=>rfl))))),?_⟩
 show cf _ _ _ [some (.ref p),none] H
 k_data
 refine⟨by show 0<=sizeLine;decide,λa1 h1=>?_⟩
 have b1:=ai (o:=.tup []) h1
 have e1:upd H a1 (.tup []) a1=some (.tup []):=af
 generalize upd H a1 _=J1 at *
 refine⟨by show 0<=sizeLine;decide,λa2 h2=>?_⟩
 have b2:=ai (o:=.lst []) h2
 have e2:upd J1 a2 (.lst []) a2=some (.lst []):=af
 generalize upd J1 a2 _=J2 at *
 refine⟨by show 1<=sizeLine;decide,λa3 h3=>?_⟩
 have b3:=ai (o:=.tup [V.int 1]) h3
 have e3:upd J2 a3 (.tup [V.int 1]) a3=some (.tup [V.int 1]):=af
 generalize upd J2 a3 _=J3 at *
 refine⟨by show 1<=sizeLine;decide,λa4 h4=>?_⟩
 have b4:=ai (o:=.lst [V.int 0]) h4
 have e4:upd J3 a4 (.lst [V.int 0]) a4=some (.lst [V.int 0]):=af
 generalize upd J3 a4 _=J4 at *
 refine⟨by show 1<=sizeLine;decide,λa5 h5=>?_⟩
 have b5:=ai (o:=.tup [V.str "nought"]) h5
 have e5:upd J4 a5 (.tup [V.str "nought"]) a5=some (.tup [V.str "nought"]):=af
 generalize upd J4 a5 _=J5 at *
 refine⟨by show 0<=sizeLine;decide,λa6 h6=>?_⟩
 have b6:=ai (o:=.tup []) h6
 have e6:upd J5 a6 (.tup []) a6=some (.tup []):=af
 generalize upd J5 a6 _=J6 at *
 refine⟨by show 0<=sizeLine;decide,λa7 h7=>?_⟩
 have b7:=ai (o:=.tup []) h7
 have e7:upd J6 a7 (.tup []) a7=some (.tup []):=af
 generalize upd J6 a7 _=J7 at *
 refine⟨by show 2<=sizeLine;decide,λa8 h8=>?_⟩
 have b8:=ai (o:=.tup [V.ref a6,V.ref a7]) h8
 have e8:upd J7 a8 (.tup [V.ref a6,V.ref a7]) a8=some (.tup [V.ref a6,V.ref a7]):=af
 generalize upd J7 a8 _=J8 at *
 refine⟨by show 2<=sizeLine;decide,λa9 h9=>?_⟩
 have b9:=ai (o:=.tup [V.int 0,V.int 0]) h9
 have e9:upd J8 a9 (.tup [V.int 0,V.int 0]) a9=some (.tup [V.int 0,V.int 0]):=af
 generalize upd J8 a9 _=J9 at *
 refine⟨by show 16<=sizeLine;decide,λa10 h10=>?_⟩
 have b10:=ai (o:=.lst [V.bw,V.bl true,V.bl false,V.int 0,V.int 1,V.int (-1),V.int 100000000000000000000000000000000000000000000000000000000000,V.str "none",V.str "",V.ref a1,V.ref a2,V.ref a3,V.ref a4,V.ref a5,V.ref a8,V.ref a9]) h10
 have e10:upd J9 a10 (.lst [V.bw,V.bl true,V.bl false,V.int 0,V.int 1,V.int (-1),V.int 100000000000000000000000000000000000000000000000000000000000,V.str "none",V.str "",V.ref a1,V.ref a2,V.ref a3,V.ref a4,V.ref a5,V.ref a8,V.ref a9]) a10=some (.lst [V.bw,V.bl true,V.bl false,V.int 0,V.int 1,V.int (-1),V.int 100000000000000000000000000000000000000000000000000000000000,V.str "none",V.str "",V.ref a1,V.ref a2,V.ref a3,V.ref a4,V.ref a5,V.ref a8,V.ref a9]):=af
 generalize upd J9 a10 _=J10 at *
 have Rb9:=b10
 have Rb8:=b9.trans Rb9
 have Rb7:=b8.trans Rb8
 have Rb6:=b7.trans Rb7
 have Rb5:=b6.trans Rb6
 have Rb4:=b5.trans Rb5
 have Rb3:=b4.trans Rb4
 have Rb2:=b3.trans Rb3
 have Rb1:=b2.trans Rb2
 have S:=b1.trans Rb1
 have gl:=vE (K:=K) (aJ.of (Rb1 _ _ e1)) (aV.of (Rb2 _ _ e2)) (aJ.of (Rb3 _ _ e3)) (aV.of (Rb4 _ _ e4)) (aJ.of (Rb5 _ _ e5)) (aJ.of (Rb6 _ _ e6)) (aJ.of (Rb7 _ _ e7)) (aJ.of (Rb8 _ _ e8)) (aJ.of (Rb9 _ _ e9))
 have ln:([V.bw,V.bl true,V.bl false,V.int 0,V.int 1,V.int (-1),V.int 100000000000000000000000000000000000000000000000000000000000,V.str "none",V.str "",V.ref a1,V.ref a2,V.ref a3,V.ref a4,V.ref a5,V.ref a8,V.ref a9]).length=16:=rfl
 clear Rb1 Rb2 Rb3 Rb4 Rb5 Rb6 Rb7 Rb8 Rb9
 generalize [V.bw,V.bl true,V.bl false,V.int 0,V.int 1,V.int (-1),V.int 100000000000000000000000000000000000000000000000000000000000,V.str "none",V.str "",V.ref a1,V.ref a2,V.ref a3,V.ref a4,V.ref a5,V.ref a8,V.ref a9]=L at *
 k_data
 refine c9 (aV.of e10) ?_
 rw [ln]
 have ta:=t.same S
 refine⟨p,16,n,rfl,ta,by omega,by decide,by decide,λr Hb r0 r1 ob tb=>?_⟩
 have eb:Hb a10=some (.lst L):=(ob a10 (ta.ne e10 (by intro kvs c;cases c))).trans e10
 exact cE (aV.of eb) r0 (by rw [ln];exact r1) λv hv=>q v Hb ((bR.of S).trans ob.bS) tb ((gl v hv).bS ob.bS ta)
theorem um {J:Hp} {a c:Addr} {L L' T:HO} (h20:J a=none) (h21:upd J a L c=none):aE J (upd (upd (upd J a L) c T) a L')/\upd (upd (upd J a L) c T) a L' c=some T:=by
 have ne:c≠a:=λz=>by rw [z,af] at h21;cases h21
 refine⟨λb o e=>?_,by rw [av ne,af]⟩
 have n1:b≠a:=λz=>by rw [z,h20] at e;cases e
 have n2:b≠c:=λz=>by rw [<- z,av n1,e] at h21;cases h21
 rw [av n1,av n2,av n1,e]
theorem xQ {J:Hp} {p g:Int} {rows:List PyData} {us:List V} {pv pr a1 a2 a3 a4 a5 al a6 a8 a9 a10 a11 a12 a13 a16 c18 a18:Addr} (hct:CT 2 (p-1) 1 rows) (p2:2<=p) (p9:p<=10^9) (g1:1<=g) (gp:g<p) (gr:bV rows) (hd:bh K J rows us) (hr:aJ K J pr us) (hv:dv K J (.tuple [.int p,.int g,.tuple rows]) (.ref pv))
  (A1:aJ K J a1 [.int (p+1),.int g,.ref pr]) (A2:aJ K J a2 [.int p,.int p,.ref pr]) (A3:aJ K J a3 [.int p,.int 0,.ref pr]) (A4:aV K J a4 [.int p,.int g,.ref pr]) (A5:aJ K J a5 [.int p,.int g]) (Al:aV K J al us) (A6:aJ K J a6 [.int p,.int g,.ref al]) (A8:aJ K J a8 [.int p,.bl true,.ref pr]) (A9:aJ K J a9 [.int p,.int g,.ref pr,.int 0]) (A10:aJ K J a10 [.int p,.int g,.bw]) (A11:aJ K J a11 [.int p,.int g,.ref pr]) (A12:aJ K J a12 [.ref a11]) (A13:aJ K J a13 [.int (0-p),.int g,.ref pr]) (A16:aJ K J a16 [.int p,.int (g+p),.ref pr]) (C18:aJ K J c18 (us++[.ref pv])) (A18:aJ K J a18 [.int p,.int g,.ref c18]) :
  ∀ x∈[V.ref a1,.ref a2,.ref a3,.ref a4,.ref a5,.ref a6,.ref a8,.ref a9,.ref a10,.ref a12,.ref a13,.ref a16,.ref a18],NP K J (2*bJ (.tuple [.int p,.int g,.tuple rows])+20) x:=by
 have dr:dv K J (.tuple rows) (.ref pr):=⟨pr,us,rfl,hr,hd⟩
 have hz:bJ (.tuple [.int p,.int g,.tuple rows])=4+aK rows:=by simp only [bJ,aK];omega
 have gg:gd (.tuple [.int p,.int g,.tuple rows]):=by simp only [gd,bV,and_true];exact⟨by omega,by omega,gr⟩
 rw [hz]
 intro x hx
 simp only [List.mem_cons,List.not_mem_nil,or_false] at hx
 rcases hx with rfl | rfl | rfl | rfl | rfl | rfl | rfl | rfl | rfl | rfl | rfl | rfl | rfl
 ·exact⟨.tuple [.int (p+1),.int g,.tuple rows],bH A1 rfl rfl dr,by simp only [gd,bV,and_true,true_and];exact⟨⟨by omega,by omega⟩,⟨by omega,by omega⟩,gr⟩,by simp only [bJ,aK,aZ];omega,m6 (g:=0) hct (by omega)⟩
 ·exact⟨.tuple [.int p,.int p,.tuple rows],bH A2 rfl rfl dr,by simp only [gd,bV,and_true,true_and];exact⟨⟨by omega,by omega⟩,⟨by omega,by omega⟩,gr⟩,by simp only [bJ,aK,aZ];omega,tj (.inr (by omega))⟩
 ·exact⟨.tuple [.int p,.int 0,.tuple rows],bH A3 rfl rfl dr,by simp only [gd,bV,and_true,true_and];exact⟨⟨by omega,by omega⟩,⟨by omega,by omega⟩,gr⟩,by simp only [bJ,aK,aZ];omega,tj (.inl (by decide))⟩
 ·exact⟨.list [.int p,.int g,.tuple rows],⟨a4,_,rfl,A4,_,_,rfl,rfl,_,_,rfl,rfl,_,_,rfl,dr,rfl⟩,by simp only [gd,bV,and_true,true_and];exact⟨⟨by omega,by omega⟩,⟨by omega,by omega⟩,gr⟩,by simp only [bJ,aK,aZ];omega,aT λp g rows h=>by simp at h⟩
 ·exact⟨.tuple [.int p,.int g],dX A5 rfl rfl,by simp only [gd,bV,and_true,true_and];exact⟨⟨by omega,by omega⟩,⟨by omega,by omega⟩⟩,by simp only [bJ,aK,aZ];omega,aT λp g rows h=>by simp at h⟩
 ·exact⟨.tuple [.int p,.int g,.list rows],bH A6 rfl rfl ⟨al,us,rfl,Al,hd⟩,by simp only [gd,bV,and_true,true_and];exact⟨⟨by omega,by omega⟩,⟨by omega,by omega⟩,gr⟩,by simp only [bJ,aK,aZ];omega,aT λp g rows h=>by simp at h⟩
 ·exact⟨.tuple [.int p,.bool true,.tuple rows],bH A8 rfl rfl dr,by simp only [gd,bV,and_true,true_and];exact⟨⟨by omega,by omega⟩,gr⟩,by simp only [bJ,aK,aZ];omega,aT λp g rows h=>by simp at h⟩
 ·exact⟨.tuple [.int p,.int g,.tuple rows,.int 0],⟨a9,_,rfl,A9,_,_,rfl,rfl,_,_,rfl,rfl,_,_,rfl,dr,_,_,rfl,rfl,rfl⟩,by simp only [gd,bV,and_true,true_and];exact⟨⟨by omega,by omega⟩,⟨by omega,by omega⟩,gr,by decide⟩,by simp only [bJ,aK,aZ];omega,aT λp g rows h=>by simp at h⟩
 ·exact⟨.tuple [.int p,.int g,.none],bH A10 rfl rfl rfl,by simp only [gd,bV,and_true,true_and];exact⟨⟨by omega,by omega⟩,⟨by omega,by omega⟩⟩,by simp only [bJ,aK,aZ];omega,aT λp g rows h=>by simp at h⟩
 ·exact⟨.tuple [.tuple [.int p,.int g,.tuple rows]],ll A12 (bH A11 rfl rfl dr),by simp only [gd,bV,and_true,true_and];exact⟨⟨by omega,by omega⟩,⟨by omega,by omega⟩,gr⟩,by simp only [bJ,aK,aZ];omega,aT λp g rows h=>by simp at h⟩
 ·exact⟨.tuple [.int (0-p),.int g,.tuple rows],bH A13 rfl rfl dr,by simp only [gd,bV,and_true,true_and];exact⟨⟨by omega,by omega⟩,⟨by omega,by omega⟩,gr⟩,by simp only [bJ,aK,aZ];omega,m6 (g:=0) hct (by omega)⟩
 ·exact⟨.tuple [.int p,.int (g+p),.tuple rows],bH A16 rfl rfl dr,by simp only [gd,bV,and_true,true_and];exact⟨⟨by omega,by omega⟩,⟨by omega,by omega⟩,gr⟩,by simp only [bJ,aK,aZ];omega,tj (.inr (by omega))⟩
 ·exact⟨.tuple [.int p,.int g,.tuple (rows++[.tuple [.int p,.int g,.tuple rows]])],bH A18 rfl rfl ⟨c18,_,rfl,C18,hd.append ⟨_,_,rfl,hv,rfl⟩⟩,by simp only [gd,bV,and_true,true_and];exact⟨⟨by omega,by omega⟩,⟨by omega,by omega⟩,jc.mpr ⟨gr,by simp only [bV,and_true];exact gg⟩⟩,by simp only [bJ,aK,aZ];omega,rm hct⟩
def zq (K:PySem.W.Frag) (H:Hp) (s0:L2.St) (a:Addr) (N:Nat) (t:Addr) (n:Nat) (σ':L2.St) (H':Hp):Prop:=σ'=s0/\bR t H H'/\Tp t n H'/\∃ xs,H' a=some (.lst xs)/\(∀ x∈xs,NP K H' N x)/\1<=xs.length/\xs.length<=20
def eG (K:PySem.W.Frag):Sp:=λvs H Q _=>∃(t:Addr) (n:Nat) (v:V) (p:Int) (d:PyData),vs=[.ref t,v]/\Tp t n H/\n<=10^44/\dv K H d v/\Num.gR p d/\∀ y H',NP K H' (2*bJ d+20) y->bR t H H'->Tp t (n+70) H'->Q y H'
def BM (H:Hp) (s0:L2.St) (t:Addr) (n:Nat) (σ':L2.St) (H':Hp):Prop:=σ'=s0/\bR t H H'/\Tp t n H'
theorem d4:aC ["_law_tape_here","_law_paper","_law_p","_law_full","_law_parts","_law_some"] ["_law_tape_here","_law_paper"] (ao (top 56)):=dW
theorem lI (D:aA K mg "_law_bent_paper" (top 56)) (c__law_draw:Callee P w K mg base aQ 1 "_law_draw" ["_law_tape_here","_law_many"] dz) (c__law_bent_within:Callee P w K mg base aQ 32 "_law_bent_within" ["_law_tape_here","_law_paper"] (kR K)) (c__law_odd:Callee P w K mg base aQ 2 "_law_odd" ["_law_tape_here"] (uw K)) (n_len:mg "len"=none) (n_list:mg "list"=none):Callee P w K mg base aQ 33 "_law_bent_paper" ["_law_tape_here","_law_paper"] (eG K):=by
 refine cO D d4 (λf cdv A outer s H vs Q E hr h=>?_)
 obtain⟨t,n,v,p,d,rfl,tt,n9,hv,hp,q⟩:=h
 obtain⟨pm,p9⟩:=kJ hp
 have p2:=pm.two
 have gdd:=tP hp
 have small:=gf hp
 have hp':=hp
 obtain⟨g,ps,ds,rfl,hg,hP,l29,hds⟩:=jh hp
 have g1:=hg.one
 have gp:=hg.lt
 have hct:CT 2 (p-1) 1 (Num.rowsOf ps ds):=eP ((lW p2 hP hds).mpr ⟨hg.one,hg.lt,hg.ord⟩)
 have nd:=d4.nd
 refine⟨_,(@ag _ _ _ _ _ (bL (@aP _ _ _ _ _ _ _ _ (@aw _ _ _ _ _ _ _ _ bj (@aF _ _ _ _ _ _ _ _ _ _ _ _ c__law_draw (hr.mono (by decide)) rfl ay (@aa _ _ _ _ _ (pv 0) (@aa _ _ _ _ _ ah ae (by rfl)) (by rfl)) (by decide) (by rfl) (by rfl)) ah (ar _)) (@aj _ _ _ (@aB _ _ _ _ (@aF _ _ _ _ _ _ _ _ _ _ _ _ c__law_bent_within (hr.mono (by decide)) rfl ay (@aa _ _ _ _ _ (pv 0) (@aa _ _ _ _ _ (pv 1) ae (by rfl)) (by rfl)) (by decide) (by rfl) (by rfl)))) aD)) (@ag _ _ _ _ _ (dZ (pv 1) (dN (n:=3) rfl (aI (aH (i:=2) nd rfl (Or.inl rfl) (.inr rfl)) (aI (aH (i:=3) nd rfl (Or.inl rfl) (.inr rfl)) (aI (aH (i:=4) nd rfl (Or.inl rfl) (.inr rfl)) cG))))) (@ag _ _ _ _ _ (@bT _ _ 5 _ _ _ _ nd rfl (Or.inl rfl) (@bo _ _ _ _ (@aa _ _ _ _ _ (@ax _ _ _ _ _ (@aa _ _ _ _ _ (@aq _ _ _ _ _ _ _ _ bB (pv 2) ah) (@aa _ _ _ _ _ (pv 3) (@aa _ _ _ _ _ (pv 4) ae (by rfl)) (by rfl)) (by rfl))) (@aa _ _ _ _ _ (@ax _ _ _ _ _ (@aa _ _ _ _ _ (pv 2) (@aa _ _ _ _ _ (pv 2) (@aa _ _ _ _ _ (pv 4) ae (by rfl)) (by rfl)) (by rfl))) (@aa _ _ _ _ _ (@ax _ _ _ _ _ (@aa _ _ _ _ _ (pv 2) (@aa _ _ _ _ _ ah (@aa _ _ _ _ _ (pv 4) ae (by rfl)) (by rfl)) (by rfl))) (@aa _ _ _ _ _ (@bo _ _ _ _ (@aa _ _ _ _ _ (pv 2) (@aa _ _ _ _ _ (pv 3) (@aa _ _ _ _ _ (pv 4) ae (by rfl)) (by rfl)) (by rfl))) (@aa _ _ _ _ _ (@ax _ _ _ _ _ (@aa _ _ _ _ _ (pv 2) (@aa _ _ _ _ _ (pv 3) ae (by rfl)) (by rfl))) (@aa _ _ _ _ _ (@ax _ _ _ _ _ (@aa _ _ _ _ _ (pv 2) (@aa _ _ _ _ _ (pv 3) (@aa _ _ _ _ _ (@cq _ _ _ _ _ _ _ _ _ fo rfl n_list L2.boot_list (@aa _ _ _ _ _ (pv 4) ae (by rfl)) (by decide) (by decide) (by rfl) (by rfl)) ae (by rfl)) (by rfl)) (by rfl))) ae (by rfl)) (by rfl)) (by rfl)) (by rfl)) (by rfl)) (by rfl))) (by rfl) (by first | exact .inl rfl | exact .inr rfl | assumption)) (@ag _ _ _ _ _ (@bT _ _ 5 _ _ _ _ nd rfl (Or.inl rfl) (@aq _ _ _ _ _ _ _ _ lN (pv 5) (@bo _ _ _ _ (@aa _ _ _ _ _ (@ax _ _ _ _ _ (@aa _ _ _ _ _ (pv 2) (@aa _ _ _ _ _ cP (@aa _ _ _ _ _ (pv 4) ae (by rfl)) (by rfl)) (by rfl))) (@aa _ _ _ _ _ (@ax _ _ _ _ _ (@aa _ _ _ _ _ (pv 2) (@aa _ _ _ _ _ (pv 3) (@aa _ _ _ _ _ (pv 4) (@aa _ _ _ _ _ ah ae (by rfl)) (by rfl)) (by rfl)) (by rfl))) (@aa _ _ _ _ _ (@ax _ _ _ _ _ (@aa _ _ _ _ _ (pv 2) (@aa _ _ _ _ _ (pv 3) (@aa _ _ _ _ _ dc ae (by rfl)) (by rfl)) (by rfl))) (@aa _ _ _ _ _ (@ax _ _ _ _ _ (@aa _ _ _ _ _ (@ax _ _ _ _ _ (@aa _ _ _ _ _ (pv 2) (@aa _ _ _ _ _ (pv 3) (@aa _ _ _ _ _ (pv 4) ae (by rfl)) (by rfl)) (by rfl))) ae (by rfl))) (@aa _ _ _ _ _ (@ax _ _ _ _ _ (@aa _ _ _ _ _ (@aq _ _ _ _ _ _ _ _ cZ ah (pv 2)) (@aa _ _ _ _ _ (pv 3) (@aa _ _ _ _ _ (pv 4) ae (by rfl)) (by rfl)) (by rfl))) ae (by rfl)) (by rfl)) (by rfl)) (by rfl)) (by rfl)))) (by rfl) (by first | exact .inl rfl | exact .inr rfl | assumption)) (@ag _ _ _ _ _ (@bT _ _ 5 _ _ _ _ nd rfl (Or.inl rfl) (@aq _ _ _ _ _ _ _ _ lN (pv 5) (@bo _ _ _ _ (@aa _ _ _ _ _ (@ax _ _ _ _ _ (@aa _ _ _ _ _ (pv 2) (@aa _ _ _ _ _ (@aq _ _ _ _ _ _ _ _ bB (pv 3) (pv 2)) (@aa _ _ _ _ _ (pv 4) ae (by rfl)) (by rfl)) (by rfl))) (@aa _ _ _ _ _ (@ax _ _ _ _ _ (@aa _ _ _ _ _ (pv 2) (@aa _ _ _ _ _ (pv 3) (@aa _ _ _ _ _ (@aq _ _ _ _ _ _ _ _ cF (pv 4) (@ax _ _ _ _ _ (@aa _ _ _ _ _ (pv 1) ae (by rfl)))) ae (by rfl)) (by rfl)) (by rfl))) (@aa _ _ _ _ _ (@aF _ _ _ _ _ _ _ _ _ _ _ _ c__law_odd (hr.mono (by decide)) rfl ay (@aa _ _ _ _ _ (pv 0) ae (by rfl)) (by decide) (by rfl) (by rfl)) ae (by rfl)) (by rfl)) (by rfl)))) (by rfl) (by first | exact .inl rfl | exact .inr rfl | assumption)) (@ag _ _ _ _ _ (bL (@aP _ _ _ _ _ _ _ _ (@aw _ _ _ _ _ _ _ _ cM (pv 2) ah (ar _)) (@aj _ _ _ (gi (jF PySem.F.plainAttrs_list PySem.F.slot_list_append PySem.F.type_list_append eV (pv 5) (@aa _ _ _ _ _ (@ax _ _ _ _ _ (@aa _ _ _ _ _ (pv 2) (@aa _ _ _ _ _ (@aq _ _ _ _ _ _ _ _ aM (@aq _ _ _ _ _ _ _ _ aX (pv 3) (pv 3)) (pv 2)) (@aa _ _ _ _ _ (pv 4) ae (by rfl)) (by rfl)) (by rfl))) ae (by rfl))))) aD)) (@aj _ _ _ (@aB _ _ _ _ (@aO _ _ _ _ _ _ _ bW (pv 5) (@aF _ _ _ _ _ _ _ _ _ _ _ _ c__law_draw (hr.mono (by decide)) rfl ay (@aa _ _ _ _ _ (pv 0) (@aa _ _ _ _ _ (@aG _ _ _ _ _ _ _ _ _ bf rfl n_len PySem.boot_len (@aa _ _ _ _ _ (pv 5) ae (by rfl)) (by decide) (by decide) (by rfl) (by rfl)) ae (by rfl)) (by rfl)) (by decide) (by rfl) (by rfl)) (λ_ _=>rfl)))))))))),?_⟩
 show cf _ _ _ [some (.ref t),some v,none,none,none,none] H
 have hv':=hv
 obtain⟨pv,y1,y2,vr,rfl,tS,z0,zg,dr⟩:=lj hv
 cases z0
 cases zg
 obtain⟨pr,us,rfl,tR,hd⟩:=dr
 refine⟨λσ' H'=>BM H [some (.ref t),some (.ref pv),none,none,none,none] t (n+1) σ' H',?_,?_⟩
 ·k_data
  refine⟨t,3,n,rfl,tt,by omega,by decide,by decide,λr2 H2 r20 r21 o2 t2=>⟨rfl,?_⟩⟩
  refine aL (λ_=>?_) (λ_=>⟨rfl,o2.bS,t2⟩)
  exact⟨t,n+1,_,p,_,rfl,t2,by omega,dv.bS hv' o2.bS tt,hp',λy H' hy O' t'=>q y H' hy (o2.bS.trans O') (t'.mono (by omega))⟩
 rintro σ' H1 ⟨rfl,O1,t1⟩
 k_data
 refine⟨pv,_,rfl,O1.kt tt _ _ tS,rfl,?_⟩
 k_data
 have tR1:=O1.kt tt _ _ tR
 have ul:us.length<=29:=by rw [hd.length,Num.c5];exact l29
 have grw:bV (Num.rowsOf ps ds):=by
  simp only [gd,bV,and_true] at gdd
  exact gdd.2.2
 refine⟨by show 3<=sizeLine;decide,λa1 h1=>?_⟩
 have b1:=ai (o:=.tup [V.int (p+1),V.int g,V.ref pr]) h1
 have e1:upd H1 a1 (.tup [V.int (p+1),V.int g,V.ref pr]) a1=some (.tup [V.int (p+1),V.int g,V.ref pr]):=af
 generalize upd H1 a1 _=J1 at *
 refine⟨by show 3<=sizeLine;decide,λa2 h2=>?_⟩
 have b2:=ai (o:=.tup [V.int p,V.int p,V.ref pr]) h2
 have e2:upd J1 a2 (.tup [V.int p,V.int p,V.ref pr]) a2=some (.tup [V.int p,V.int p,V.ref pr]):=af
 generalize upd J1 a2 _=J2 at *
 refine⟨by show 3<=sizeLine;decide,λa3 h3=>?_⟩
 have b3:=ai (o:=.tup [V.int p,V.int 0,V.ref pr]) h3
 have e3:upd J2 a3 (.tup [V.int p,V.int 0,V.ref pr]) a3=some (.tup [V.int p,V.int 0,V.ref pr]):=af
 generalize upd J2 a3 _=J3 at *
 refine⟨by show 3<=sizeLine;decide,λa4 h4=>?_⟩
 have b4:=ai (o:=.lst [V.int p,V.int g,V.ref pr]) h4
 have e4:upd J3 a4 (.lst [V.int p,V.int g,V.ref pr]) a4=some (.lst [V.int p,V.int g,V.ref pr]):=af
 generalize upd J3 a4 _=J4 at *
 refine⟨by show 2<=sizeLine;decide,λa5 h5=>?_⟩
 have b5:=ai (o:=.tup [V.int p,V.int g]) h5
 have e5:upd J4 a5 (.tup [V.int p,V.int g]) a5=some (.tup [V.int p,V.int g]):=af
 generalize upd J4 a5 _=J5 at *
 have tR5:=tR1.same (b1.trans (b2.trans (b3.trans (b4.trans b5))))
 refine⟨us,.inr tR5,λal hl=>?_⟩
 have bl:=ai (o:=.lst us) hl
 have el:upd J5 al (.lst us) al=some (.lst us):=af
 generalize upd J5 al _=Jl at *
 refine⟨by show 3<=sizeLine;decide,λa6 h6=>?_⟩
 have b6:=ai (o:=.tup [V.int p,V.int g,V.ref al]) h6
 have e6:upd Jl a6 (.tup [V.int p,V.int g,V.ref al]) a6=some (.tup [V.int p,V.int g,V.ref al]):=af
 generalize upd Jl a6 _=J6 at *
 refine⟨by show 6<=sizeLine;decide,λa7 h7=>?_⟩
 have b7:=ai (o:=.lst [V.ref a1,V.ref a2,V.ref a3,V.ref a4,V.ref a5,V.ref a6]) h7
 have e7:upd J6 a7 (.lst [V.ref a1,V.ref a2,V.ref a3,V.ref a4,V.ref a5,V.ref a6]) a7=some (.lst [V.ref a1,V.ref a2,V.ref a3,V.ref a4,V.ref a5,V.ref a6]):=af
 generalize upd J6 a7 _=J7 at *
 refine⟨by show 3<=sizeLine;decide,λa8 h8=>?_⟩
 have b8:=ai (o:=.tup [V.int p,V.bl true,V.ref pr]) h8
 have e8:upd J7 a8 (.tup [V.int p,V.bl true,V.ref pr]) a8=some (.tup [V.int p,V.bl true,V.ref pr]):=af
 generalize upd J7 a8 _=J8 at *
 refine⟨by show 4<=sizeLine;decide,λa9 h9=>?_⟩
 have b9:=ai (o:=.tup [V.int p,V.int g,V.ref pr,V.int 0]) h9
 have e9:upd J8 a9 (.tup [V.int p,V.int g,V.ref pr,V.int 0]) a9=some (.tup [V.int p,V.int g,V.ref pr,V.int 0]):=af
 generalize upd J8 a9 _=J9 at *
 refine⟨by show 3<=sizeLine;decide,λa10 h10=>?_⟩
 have b10:=ai (o:=.tup [V.int p,V.int g,V.bw]) h10
 have e10:upd J9 a10 (.tup [V.int p,V.int g,V.bw]) a10=some (.tup [V.int p,V.int g,V.bw]):=af
 generalize upd J9 a10 _=J10 at *
 refine⟨by show 3<=sizeLine;decide,λa11 h11=>?_⟩
 have b11:=ai (o:=.tup [V.int p,V.int g,V.ref pr]) h11
 have e11:upd J10 a11 (.tup [V.int p,V.int g,V.ref pr]) a11=some (.tup [V.int p,V.int g,V.ref pr]):=af
 generalize upd J10 a11 _=J11 at *
 refine⟨by show 1<=sizeLine;decide,λa12 h12=>?_⟩
 have b12:=ai (o:=.tup [V.ref a11]) h12
 have e12:upd J11 a12 (.tup [V.ref a11]) a12=some (.tup [V.ref a11]):=af
 generalize upd J11 a12 _=J12 at *
 refine⟨by show 3<=sizeLine;decide,λa13 h13=>?_⟩
 have b13:=ai (o:=.tup [V.int (0-p),V.int g,V.ref pr]) h13
 have e13:upd J12 a13 (.tup [V.int (0-p),V.int g,V.ref pr]) a13=some (.tup [V.int (0-p),V.int g,V.ref pr]):=af
 generalize upd J12 a13 _=J13 at *
 refine⟨by show 5<=sizeLine;decide,λa14 h14=>?_⟩
 have b14:=ai (o:=.lst [V.ref a8,V.ref a9,V.ref a10,V.ref a12,V.ref a13]) h14
 have e14:upd J13 a14 (.lst [V.ref a8,V.ref a9,V.ref a10,V.ref a12,V.ref a13]) a14=some (.lst [V.ref a8,V.ref a9,V.ref a10,V.ref a12,V.ref a13]):=af
 generalize upd J13 a14 _=J14 at *
 refine⟨a7,a14,_,_,rfl,rfl,(b8.trans (b9.trans (b10.trans (b11.trans (b12.trans (b13.trans b14)))))) _ _ e7,e14,by show 11<=sizeLine;decide,λa15 h15=>?_⟩
 have b15:=ai (o:=.lst ([V.ref a1,V.ref a2,V.ref a3,V.ref a4,V.ref a5,V.ref a6]++[V.ref a8,V.ref a9,V.ref a10,V.ref a12,V.ref a13])) h15
 have e15:upd J14 a15 (.lst ([V.ref a1,V.ref a2,V.ref a3,V.ref a4,V.ref a5,V.ref a6]++[V.ref a8,V.ref a9,V.ref a10,V.ref a12,V.ref a13])) a15=some (.lst ([V.ref a1,V.ref a2,V.ref a3,V.ref a4,V.ref a5,V.ref a6]++[V.ref a8,V.ref a9,V.ref a10,V.ref a12,V.ref a13])):=af
 generalize upd J14 a15 _=J15 at *
 k_data
 refine⟨by show 3<=sizeLine;decide,λa16 h16=>?_⟩
 have b16:=ai (o:=.tup [V.int p,V.int (g+p),V.ref pr]) h16
 have e16:upd J15 a16 (.tup [V.int p,V.int (g+p),V.ref pr]) a16=some (.tup [V.int p,V.int (g+p),V.ref pr]):=af
 generalize upd J15 a16 _=J16 at *
 refine⟨by show 1<=sizeLine;decide,λa17 h17=>?_⟩
 have b17:=ai (o:=.tup [V.ref pv]) h17
 have e17:upd J16 a17 (.tup [V.ref pv]) a17=some (.tup [V.ref pv]):=af
 generalize upd J16 a17 _=J17 at *
 have tR17:=tR5.same (bl.trans (b6.trans (b7.trans (b8.trans (b9.trans (b10.trans (b11.trans (b12.trans (b13.trans (b14.trans (b15.trans (b16.trans b17))))))))))))
 refine⟨pr,a17,_,_,rfl,rfl,tR17,aJ.of e17,by rw [List.length_singleton];exact Nat.le_trans (show us.length+1<=30 by omega) (by decide),λc18 Jc bc tc=>?_⟩
 refine⟨by show 3<=sizeLine;decide,λa18 h18=>?_⟩
 have b18:=ai (o:=.tup [V.int p,V.int g,V.ref c18]) h18
 have e18:upd Jc a18 (.tup [V.int p,V.int g,V.ref c18]) a18=some (.tup [V.int p,V.int g,V.ref c18]):=af
 generalize upd Jc a18 _=J18 at *
 have Rbc:=b18
 have Rb17:=bc.trans Rbc
 have Rb16:=b17.trans Rb17
 have Rb15:=b16.trans Rb16
 have Rb14:=b15.trans Rb15
 have Rb13:=b14.trans Rb14
 have Rb12:=b13.trans Rb13
 have Rb11:=b12.trans Rb12
 have Rb10:=b11.trans Rb11
 have Rb9:=b10.trans Rb10
 have Rb8:=b9.trans Rb9
 have Rb7:=b8.trans Rb8
 have Rb6:=b7.trans Rb7
 have Rbl:=b6.trans Rb6
 have Rb5:=bl.trans Rbl
 have Rb4:=b5.trans Rb5
 have Rb3:=b4.trans Rb4
 have Rb2:=b3.trans Rb3
 have Rb1:=b2.trans Rb2
 have S:=b1.trans Rb1
 have nps:=xQ (J:=J18) hct p2 p9 g1 gp grw (bh.same S _ (bh.fD (O1.kt tt) (O1.kl tt) _ hd)) (tR1.same S) (dv.same S _ (dv.bS hv' O1 tt)) (aJ.of (Rb1 _ _ e1)) (aJ.of (Rb2 _ _ e2)) (aJ.of (Rb3 _ _ e3)) (aV.of (Rb4 _ _ e4)) (aJ.of (Rb5 _ _ e5)) (aV.of (Rbl _ _ el)) (aJ.of (Rb6 _ _ e6)) (aJ.of (Rb8 _ _ e8)) (aJ.of (Rb9 _ _ e9)) (aJ.of (Rb10 _ _ e10)) (aJ.of (Rb11 _ _ e11)) (aJ.of (Rb12 _ _ e12)) (aJ.of (Rb13 _ _ e13)) (aJ.of (Rb16 _ _ e16)) (tc.same Rbc) (aJ.of e18)
 have e15':=Rb15 _ _ e15
 have O2:=O1.trans (bR.of S)
 have t2:=t1.same S
 clear Rb1 Rb2 Rb3 Rb4 Rb5 Rbl Rb6 Rb7 Rb8 Rb9 Rb10 Rb11 Rb12 Rb13 Rb14 Rb15 Rb16 Rb17 Rbc
 refine⟨t,n+1,rfl,t2,by omega,λy H3 O3' t3 hy=>?_⟩
 have O3:=O2.trans O3'
 have f15:=O3' a15 _ (t2.ne e15' (by intro kvs c;cases c)) e15'
 replace nps:=λx hx=>(nps x hx).bS O3' t2
 refine⟨by show 3<=sizeLine;decide,λa19 h19=>?_⟩
 have b19:=ai (o:=.lst [V.ref a16,V.ref a18,y]) h19
 have e19:upd H3 a19 (.lst [V.ref a16,V.ref a18,y]) a19=some (.lst [V.ref a16,V.ref a18,y]):=af
 generalize upd H3 a19 _=J19 at *
 refine⟨a15,a19,_,_,rfl,rfl,b19 _ _ f15,e19,by show 14<=sizeLine;decide,λa20 h20=>?_⟩
 have all:∀{X:Hp},aE H3 X->∀ x∈([V.ref a1,V.ref a2,V.ref a3,V.ref a4,V.ref a5,V.ref a6]++[V.ref a8,V.ref a9,V.ref a10,V.ref a12,V.ref a13]++[V.ref a16,V.ref a18,y]),NP K X (2*bJ (.tuple [.int p,.int g,.tuple (Num.rowsOf ps ds)])+20) x:=λs x hx=>by
  rcases List.mem_append.mp hx with z | z
  ·exact (nps x (List.mem_append_left [V.ref a16,V.ref a18] z)).same s
  ·simp only [List.mem_cons,List.not_mem_nil,or_false] at z
   rcases z with rfl | rfl | rfl
   ·exact (nps _ (by simp)).same s
   ·exact (nps _ (by simp)).same s
   ·exact (hy.same s).mono (by omega)
 have ln:(([V.ref a1,V.ref a2,V.ref a3,V.ref a4,V.ref a5,V.ref a6]++[V.ref a8,V.ref a9,V.ref a10,V.ref a12,V.ref a13]++[V.ref a16,V.ref a18,y])).length=14:=rfl
 generalize ([V.ref a1,V.ref a2,V.ref a3,V.ref a4,V.ref a5,V.ref a6]++[V.ref a8,V.ref a9,V.ref a10,V.ref a12,V.ref a13]++[V.ref a16,V.ref a18,y])=LL at *
 have O4:=O3.trans (bR.of b19)
 have t4:=t3.same b19
 have tR4:=O4.kt tt _ _ tR
 refine⟨λσ' H'=>zq K H [some (.ref t),some (.ref pv),some (.int p),some (.int g),some (.ref pr),some (.ref a20)] a20 (2*bJ (.tuple [.int p,.int g,.tuple (Num.rowsOf ps ds)])+20) t (n+2) σ' H',?_,?_⟩
 ·k_data
  refine aL (λp3=>?_) (λ_=>?_)
  ·refine⟨.inl ⟨rfl,_,aV.of af⟩,Bd.of (by omega) (by omega),Bd.of (by omega) (by omega),by omega,by show 3<=sizeLine;decide,λa21 h21=>?_⟩
   have ne:a20≠a21:=λz=>by rw [<- z,af] at h21;cases h21
   obtain⟨s5,f5⟩:=um (L:=.lst LL) (T:=.tup [V.int p,V.int (g*g%p),V.ref pr]) (L':=.lst (LL++[V.ref a21])) h20 h21
   refine⟨a20,LL,_,rfl,rfl,by rw [av ne,af],Nat.lt_of_le_of_lt (show LL.length<=14 by omega) (by decide),?_⟩
   refine⟨rfl,O4.trans (bR.of s5),t4.same s5,_,af,λx hx=>?_,by rw [List.length_append];omega,by rw [List.length_append,List.length_singleton];omega⟩
   rcases List.mem_append.mp hx with z | z
   ·exact all (b19.trans s5) x z
   ·obtain rfl:=List.mem_singleton.mp z
    have r0:=Int.emod_nonneg (g*g) (show p≠0 by omega)
    have r1:=Int.emod_lt_of_pos (g*g) (show 0<p by omega)
    refine⟨.tuple [.int p,.int (g*g%p),.tuple (Num.rowsOf ps ds)],bH (aJ.of f5) rfl rfl ⟨pr,us,rfl,tR4.same s5,bh.same s5 _ (bh.fD (O4.kt tt) (O4.kl tt) _ hd)⟩,by simp only [gd,bV,and_true];exact⟨by omega,by omega,grw⟩,by simp only [bJ,aK];omega,vB (g:=g) p2 hP hds (.inr (.inr (z9 pm (by omega) λz=>by have:=Int.le_of_dvd (by omega) z;omega)))⟩
  ·have b20:=ai (o:=.lst LL) h20
   exact⟨rfl,O4.trans (bR.of b20),t4.same b20,LL,af,all (b19.trans b20),by omega,by omega⟩
 rintro σ' H5 ⟨rfl,O5,t5,xs,e5,hxs,x1,x20⟩
 k_data
 refine c9 (aV.of e5) ⟨t,_,n+2,rfl,t5,by omega,by omega,by omega,λr H6 r0 r1 o6 t6=>?_⟩
 have e6:H6 a20=_:=(o6 a20 (t5.ne e5 (by intro kvs c;cases c))).trans e5
 exact cE (aV.of e6) r0 r1 λv hv=>q v H6 ((hxs v hv).bS o6.bS t5) (O5.trans o6.bS) (t6.mono (by omega))
end
end K
namespace K
open PySem PySem.Spec PyProof.Rows L2
section
variable {P:Program} {w:World} {K:PySem.W.Frag} {mg:Str->Option Value} {base:Heap}
theorem vY {a d L:Int} (hd:0<d) (h0:-L<=a) (h1:a<=L):-L<=a/d/\a/d<=L:=by
 have L0:0<=L:=by omega
 have h2:L*1<=L*d:=Int.mul_le_mul_of_nonneg_left (show 1<=d by omega) L0
 refine⟨Int.le_ediv_of_mul_le hd (by rw [Int.neg_mul];omega),Int.ediv_le_of_le_mul hd (by omega)⟩
def xp (K:PySem.W.Frag):Sp:=λvs H Q _=>∃(a:Addr) (ns:List Int),vs=[.ref a]/\aV K H a (ns.map V.int)/\ns.length<=63/\∀ H',Q (.bl true) H'
end
end K
namespace L2
open PySem PySem.Spec PyProof.Rows
theorem vP {X:Cx}:gv X (compareOp .IsNot) (λx y H Q=>∃ b c:Bool,x=.bl b/\y=.bl c/\Q (.bl (b != c)) H):=by
 intro pins s σ H x y v u Q I rx ry h
 obtain⟨b,c,rfl,rfl,q⟩:=h
 cases rx
 cases ry
 exact PyProof.Rows.isnot_bool (aU I q rfl)
end L2
namespace K
open PySem PySem.Spec PyProof.Rows L2
section
variable {P:Program} {w:World} {K:PySem.W.Frag} {mg:Str->Option Value} {base:Heap} {C:Addr}
theorem yA:Num.Pm 149:=⟨by decide,λd d2 dl hd=>by
 obtain⟨k,rfl⟩:∃ k:Nat,d=k:=⟨d.toNat,by omega⟩
 have h:∀ k:Nat,k<149->2<=k->149%k≠0:=by decide +kernel
 exact h k (by omega) (by omega) (Nat.mod_eq_zero_of_dvd (Int.natCast_dvd_natCast.mp hd))⟩
theorem wa {p g:Int} {ps:List (Int × Int)} {ds:Nat->PyData} (pap:Num.gR p (.tuple [.int p,.int g,.tuple (Num.rowsOf ps ds)])) (hg:Num.LF p g) (hP:Num.Part (p-1) ps) (l:ps.length<=29) (hds:∀ i q k,ps[i]?=some (q,k)->Num.gR q (ds i)):r8 p g ps ds:=by
 obtain⟨pm,p9⟩:=kJ pap
 exact⟨pm,p9,hP,l,hds,hg.one,hg.lt,hg.ord,yv pap,Nat.le_trans (gf pap) (by decide)⟩
theorem yL {x:Nat} {y:Int × Int} (h:y.2<=30):sT 6 (dS x y):=by
 unfold dS
 simp only [sT,rP,and_true,List.length_cons,List.length_nil,List.length_map,Num.eS,true_and]
 refine⟨by decide,by omega,l6 λd hd=>?_⟩
 obtain⟨i,_,rfl⟩:=List.mem_map.mp hd
 simp only [sT]
theorem yK {e:Nat} {dx d2:PyData} {s0:Str} (e1:1<=e) (e9:e<=10^9) (h:uS e dx d2):sT 9 (.tuple [dx,.tuple [.str s0,.int e,d2]]):=by
 rcases h with⟨rfl,r,rfl,_⟩|⟨x,pl,rfl,rfl,_,hpl⟩
 ·simp only [sT,rP,and_true,true_and,List.length_cons,List.length_nil]
  decide
 ·have few:=hZ hpl e9
  simp only [sT,rP,and_true,true_and,List.length_cons,List.length_nil,List.length_map]
  refine⟨by decide,by decide,by omega,l6 λd hd=>?_⟩
  obtain⟨y,hy,rfl⟩:=List.mem_map.mp hd
  exact yL (hpl.ok y hy).2.2
theorem xY {e:Nat} {dx d2:PyData} {s0:Str} (c0:PyData.canLay0 (.str s0)=true) (e1:1<=e) (e9:e<=10^9) (h:uS e dx d2):gd (.tuple [dx,.tuple [.str s0,.int e,d2]]):=by
 rcases h with⟨rfl,r,rfl,r0,r1⟩|⟨x,pl,rfl,rfl,xe,hpl⟩
 ·simp only [gd,bV,and_true,true_and]
  exact⟨c0,by omega,by omega⟩
 ·simp only [gd,bV,and_true,true_and]
  exact⟨by omega,c0,by omega,gW hpl e1 e9⟩
theorem kf.one {p b a:Int} {d d':PyData} (h:kf p b a d) (h':kf p b a d'):d=d':=by
 obtain⟨e,o,h⟩:=h
 obtain⟨e',o',h'⟩:=h'
 obtain rfl:=o.lM o'
 have one:∀ x,Num.Al p a (b^x)->Num.Al p (a^e) 1:=λx al=>by
  refine (al.pow e).trans ?_
  rw [<- Int.pow_mul,Nat.mul_comm,Int.pow_mul]
  have h5:=o.one.pow x
  rwa [Int.one_pow] at h5
 rcases h with⟨n1,rfl⟩|⟨x,pl,xe,al,hpl,rfl⟩
 ·rcases h' with⟨_,rfl⟩|⟨x',pl',_,al',_,_⟩
  ·rfl
  ·exact absurd (one x' al') n1
 ·rcases h' with⟨n1,_⟩|⟨x',pl',xe',al',hpl',rfl⟩
  ·exact absurd (one x al) n1
  ·obtain rfl:=Num.kK o xe xe' al al'
   obtain rfl:=hpl.one hpl'
   rfl
theorem zy {dx de s0 s2:PyData} (h:gd (.tuple [dx,.tuple [s0,de,s2]])):bI dx/\bI de:=by
 simp only [gd,bV,and_true] at h
 refine⟨λi z=>?_,λi z=>?_⟩
 ·have h1:=h.1
  rw [z] at h1
  simp only [gd] at h1
  omega
 ·have h1:=h.2.2.1
  rw [z] at h1
  simp only [gd] at h1
  omega
theorem xN {a b p:Int} {σ:L2.St} {H:Hp} {Q:VK} (hp:0<p) (ha:σ[5]?=some (some (.int a))) (hb:σ[4]?=some (some (.int b))) (h2:σ[2]?=some (some (.int p))) (h:Q (.bl (decide (0<a%p) && decide (0<b%p))) H):uA (wx (qA λi j=>V.bl (decide (j<i))) (wx (rI (λ_ j=>0<j) λi j=>V.int (i%j)) (j8 5) (j8 2)) (tC (V.int 0))) (wx (qA λi j=>V.bl (decide (j<i))) (wx (rI (λ_ j=>0<j) λi j=>V.int (i%j)) (j8 4) (j8 2)) (tC (V.int 0))) σ H Q:=by
 k_data
 simp only [ha,hb,h2,Option.some.injEq,exists_eq_left',V.int.injEq,hp,true_and]
 by_cases z:0<a%p
 ·rw [if_pos z]
  rw [decide_eq_true z,Bool.true_and] at h
  exact h
 ·rw [if_neg z]
  rw [decide_eq_false z,Bool.false_and] at h
  exact h
structure DU (K:PySem.W.Frag) (p b a:Int) (rt:Bool) (e:Nat) (dx d2:PyData) (s0:Str):Prop where
 c0:PyData.canLay0 (.str s0)=true
 hD:uS e dx d2
 e1:1<=e
 ed:(e:Int)∣p-1
 yes:rt=true->¬p∣a/\kf p b a (.tuple [dx,.tuple [.str s0,.int e,d2]])
 no:rt=false->p∣a∨p∣b
theorem DU.BX {p b a:Int} {rt:Bool} (h:rt=false->p∣a∨p∣b) (h':rt=false):DU K p b a rt 1 (.int (0:Nat)) (.tuple (([]:List (Int × Int)).map (dS 0))) "is" :=
 ⟨by decide +kernel,.inr ⟨0,[],rfl,rfl,by decide,⟨λy hy=>absurd hy (by simp),.nil,rfl⟩⟩,by decide,⟨p-1,by omega⟩,λz=>absurd (h'.symm.trans z) (by decide),h⟩
def BK (H3:Hp) (sc t:Addr) (p b:Int) (vp:V) (σ':L2.St) (H':Hp):Prop:=∃(a:Int),σ'=[some (.ref sc),some (.ref t),some (.int p),some vp,some (.int b),some (.int a),none,none,none,none,none]/\bR t H3 H'/\Tp t 40 H' /\ -(10^60)<=a/\a<=10^60
def BL (K:PySem.W.Frag) (H3:Hp) (sc t:Addr) (p b a:Int) (vp:V) (rt:Bool) (σ':L2.St) (H':Hp):Prop:=∃(u:V) (e:Nat) (dx d2:PyData) (s0:Str),σ'=[some (.ref sc),some (.ref t),some (.int p),some vp,some (.int b),some (.int a),some (.bl rt),some u,none,none,none]/\bR t H3 H'/\Tp t 40 H'/\dv K H' (.tuple [dx,.tuple [.str s0,.int e,d2]]) u/\DU K p b a rt e dx d2 s0
def zp (H3:Hp) (sc t:Addr) (p b a:Int) (vp u:V) (rt:Bool) (i:Nat) (σ':L2.St) (H':Hp):Prop:=∃(o8 o9 o10:Option V),σ'=[some (.ref sc),some (.ref t),some (.int p),some vp,some (.int b),some (.int a),some (.bl rt),some u,o8,o9,o10]/\bR t H3 H'/\Tp t (40+200*i) H'
def Bs (K:PySem.W.Frag) (H3:Hp) (sc t:Addr) (p b a:Int) (vp u:V) (rt:Bool) (i n:Nat) (o10:Option V) (σ':L2.St) (H':Hp):Prop:=∃(y:V),σ'=[some (.ref sc),some (.ref t),some (.int p),some vp,some (.int b),some (.int a),some (.bl rt),some u,some (.int (i:Int)),some y,o10]/\bR t H3 H'/\Tp t n H'/\GV K H' y
theorem uo:aC ["_law_script","_law_tape_here","_law_p","_law_paper","_law_b","_law_a","_law_right","_law_due","_law_turn","_law_thing","_law_bent_here"] ["_law_script"] (ao (top 62)):=dW
theorem ym {fl:Addr} {fdl:FuncData} (F:uO K "law" "law" (top 62) fl fdl) (c__law_tape:Callee P w K mg base aQ 1 "_law_tape" ["_law_script"] (ux K)) (c__law_draw:Callee P w K mg base aQ 1 "_law_draw" ["_law_tape_here","_law_many"] dz) (c__law_prime:Callee P w K mg base aQ 2 "_law_prime" ["_law_n"] nO) (c_prime_paper:Callee P w K mg base (gq P w) 67 "prime_paper" ["n"] (nN K)) (c__law_number:Callee P w K mg base aQ 2 "_law_number" ["_law_tape_here","_law_p"] qF) (c__law_power:Callee P w K mg base aQ 1 "_law_power" ["_law_n","_law_a","_law_e"] me) (c__law_due_power:Callee P w K mg base aQ 2 "_law_due_power" ["_law_p","_law_b","_law_a"] (xm K)) (c__law_bent:Callee P w K mg base aQ 5 "_law_bent" ["_law_tape_here","_law_due","_law_p"] (qC K)) (c__law_none:Callee P w K mg base aQ 2 "_law_none" ["_law_p","_law_b","_law_a"] (uv K)) (c_shows_which:Callee P w K mg base aQ 17 "shows_which" ["paper","b","a","thing"] (nP K)) (c_shows_whichB:Callee P w K mg base aQ 17 "shows_which" ["paper","b","a","thing"] (iA K)) (c__law_bent_paper:Callee P w K mg base aQ 33 "_law_bent_paper" ["_law_tape_here","_law_paper"] (eG K)) (c__law_same:Callee P w K mg base aQ 10 "_law_same" ["_law_found","_law_due"] (fB K 9)) (n_range:mg "range"=none):dH P w K mg base aQ 68 fl fdl ["_law_script"] (xp K):=by
 refine va F uo (λvs H Q E h=>by obtain⟨a,b,rfl,_⟩:=h;rfl) (λcdv A outer s H vs Q E hr h=>?_)
 obtain⟨sc,ns,rfl,hS,h63,q⟩:=h
 have nd:=uo.nd
 refine⟨_,(ag (cu (i:=1) nd (bU c__law_tape hr ay (aa (pv 0) ae))) (ag (cu (i:=2) nd (bU c__law_prime hr ay (aa (aq bB ah (bU c__law_draw hr ay (aa (pv 1) (aa ah ae)))) ae))) (ag (cu (i:=3) nd (bU c_prime_paper hr cK (aa (pv 2) ae))) (ag (cu (i:=4) nd (bU c__law_number hr ay (aa (pv 1) (aa (pv 2) ae)))) (ag (cu (i:=5) nd (bU c__law_number hr ay (aa (pv 1) (aa (pv 2) ae)))) (ag (bL (aP (aw bj (bU c__law_draw hr ay (aa (pv 1) (aa ah ae))) ah (ar _)) (aj (cu (i:=5) nd (bU c__law_power hr ay (aa (pv 2) (aa (pv 4) (aa (bU c__law_draw hr ay (aa (pv 1) (aa (pv 2) ae))) ae)))))) aD)) (ag (cu (i:=6) nd (bG (bC cM (aq aM (pv 5) (pv 2)) ah (ar _)) (cj (bC cM (aq aM (pv 4) (pv 2)) ah (ar _))))) (ag (cu (i:=7) nd (ax (aa ah (aa (ax (aa ba (aa ah (aa (ax ae) ae)))) ae)))) (ag (bL (aP (aR (pv 6) (λ_=>rfl)) (aj (cu (i:=7) nd (bU c__law_due_power hr ay (aa (pv 2) (aa (pv 4) (aa (pv 5) ae)))))) aD)) (ag (ub PassesOwn.never rfl (rL rfl n_range (aa ah ae)) (aH (i:=8) nd rfl (Or.inl rfl) (.inr rfl)) (ag (cu (i:=9) nd (bU c__law_bent hr ay (aa (pv 1) (aa (pv 7) (aa (pv 2) ae))))) (ag (bL (aP (PW.pt (df (dO (aR (pv 6) (λ_=>rfl))) (dB (aw bj (aq aM (pv 8) ah) ah (ar _))))) (aj (cu (i:=9) nd (bU c__law_none hr ay (aa (pv 2) (aa (pv 4) (aa (pv 5) ae)))))) aD)) (ag (aP (dO (aR (bU c__law_same hr ay (aa (bU c_shows_which hr ay (aa (pv 3) (aa (pv 4) (aa (pv 5) (aa (pv 9) ae))))) (aa (bG (pv 6) (cj (bU c__law_same hr ay (aa (pv 9) (aa (pv 7) ae))))) ae))) (λ_=>rfl))) (aj (aB cP)) aD) (aj (aP (aw bj (bU c__law_draw hr ay (aa (pv 1) (aa ah ae))) ah (ar _)) (ag (cu (i:=10) nd (bU c__law_bent_paper hr ay (aa (pv 1) (aa (pv 3) ae)))) (aj (aP (aw vP (bU c_shows_whichB hr ay (aa (pv 10) (aa (pv 4) (aa (pv 5) (aa (pv 7) ae))))) cP (ar _)) (aj (aB cP)) aD))) aD)))))) (aj (aB cP)))))))))))),?_⟩
 show cf _ _ _ [some (.ref sc),none,none,none,none,none,none,none,none,none,none] H
 k_data
 refine⟨sc,ns,rfl,hS,h63,λt H1 s1 f1 t1=>⟨t,148,0,rfl,t1,by decide,by decide,by decide,λr H2 r0 r1 o2 t2=>⟨_,rfl,2+r,149,rfl,by omega,by omega,yA,by decide,λp pm pn p9 _=>⟨p,rfl,pm,by omega,λd vp H3 pap s3 hv=>?_⟩⟩⟩⟩
 obtain⟨g,ps,ds,rfl,hg,hP,l29,hds⟩:=jh pap
 have R:=wa pap hg hP l29 hds
 have p2:=pm.two
 have t3:=t2.same s3
 refine⟨t,p,_,rfl,t3,by decide,by omega,by omega,λb H4 b0 b1 o4 t4=>?_⟩
 k_data
 refine⟨t,p,_,rfl,t4,by decide,by omega,by omega,λa1' H5 a10 a11 o5 t5=>?_⟩
 k_data
 have O5:=o4.trans o5
 have r0:=λx:Int=>Int.emod_nonneg x (show p≠0 by omega)
 have r1:=λx:Int=>Int.emod_lt_of_pos x (show 0<p by omega)
 refine⟨λσ' H'=>BK H3 sc t p b vp σ' H',?_,?_⟩
 ·k_data
  refine⟨t,2,_,rfl,t5,by decide,by decide,by decide,λr6 H6 r60 r61 o6 t6=>⟨rfl,?_⟩⟩
  have O6:=O5.trans o6.bS
  refine aL (λ_=>?_) (λ_=>⟨_,rfl,O6,t6.mono (by decide),a10,a11⟩)
  refine⟨t,p,_,rfl,t6,by decide,by omega,by omega,λr7 H7 r70 r71 o7 t7=>⟨p,b,_,rfl,by omega,by omega,by omega,by omega,by omega,?_⟩⟩
  have h0:=r0 (b^r7.toNat)
  have h1:=r1 (b^r7.toNat)
  exact⟨_,rfl,O6.trans o7.bS,t7.mono (by decide),by omega,by omega⟩
 rintro σ' H6 ⟨a,rfl,O6,t6,a0,a1⟩
 refine xN (a:=a) (b:=b) (p:=p) (by omega) rfl rfl rfl ?_
 generalize hrt:(decide (0<a%p) && decide (0<b%p))=rt
 k_data
 have rt1:rt=true->¬p∣a/\¬p∣b:=λz=>by
  subst z
  simp only [Bool.and_eq_true,decide_eq_true_eq] at hrt
  exact⟨λz=>by have:=Int.emod_eq_zero_of_dvd z;omega,λz=>by have:=Int.emod_eq_zero_of_dvd z;omega⟩
 have rt0:rt=false->p∣a∨p∣b:=λz=>by
  subst z
  simp only [Bool.and_eq_false_iff,decide_eq_false_iff_not] at hrt
  have ha:=r0 a
  have hb:=r0 b
  exact hrt.imp (λz=>Int.dvd_of_emod_eq_zero (by omega)) (λz=>Int.dvd_of_emod_eq_zero (by omega))
 refine⟨by decide,λx1 h1=>⟨by show 3<=sizeLine;decide,λx2 h2=>⟨by show 2<=sizeLine;decide,λx3 h3=>?_⟩⟩⟩
 have S1:=ai (o:=.tup []) h1
 have S2:=ai (o:=.tup [.str "is",.int 1,.ref x1]) h2
 have S3:=ai (o:=.tup [.int 0,.ref x2]) h3
 have e1:upd H6 x1 (.tup []) x1=some (.tup []):=af
 have e2:upd (upd H6 x1 (.tup [])) x2 (.tup [.str "is",.int 1,.ref x1]) x2=some (.tup [.str "is",.int 1,.ref x1]):=af
 have e3:upd (upd (upd H6 x1 (.tup [])) x2 (.tup [.str "is",.int 1,.ref x1])) x3 (.tup [.int 0,.ref x2]) x3=some (.tup [.int 0,.ref x2]):=af
 have e1':=S3 _ _ (S2 _ _ e1)
 have e2':=S3 _ _ e2
 have S:=S1.trans (S2.trans S3)
 generalize upd _ x3 _=H7 at *
 have t7:=t6.same S
 have O7:=O6.trans (bR.of S)
 have h7:dv K H7 (.tuple [.int (0:Nat),.tuple [.str "is",.int (1:Nat),.tuple (([]:List (Int × Int)).map (dS 0))]]) (.ref x3):=dX (aJ.of e3) rfl (bH (aJ.of e2') rfl rfl ⟨x1,[],rfl,aJ.of e1',rfl⟩)
 refine⟨λσ' H'=>BL K H3 sc t p b a vp rt σ' H',?_,?_⟩
 ·k_data
  refine aL (λz=>?_) (λz=>⟨_,_,_,_,_,rfl,O7,t7,h7,DU.BX rt0 (by simpa using z)⟩)
  obtain⟨na,nb⟩:=rt1 z
  obtain⟨e,o,_⟩:=Num.jE (N:=(p-1).toNat) (by omega) (Num.jx pm nb)
  obtain⟨ed,ep⟩:=xh pm o
  refine⟨p,b,a,e,rfl,pm,by omega,b0,b1,a0,a1,o,ep,λu H8 no s8 hu=>?_,λx pl u H8 xe al hpl s8 hu=>?_⟩
  ·have h0:=r0 (a^e)
   have h1:=r1 (a^e)
   exact⟨u,e,.none,_,"none",rfl,O7.trans (bR.of s8),t7.same s8,hu,by decide +kernel,.inl ⟨rfl,_,rfl,h0,by omega⟩,o.pos,ed,λ_=>⟨na,e,o,.inl ⟨λal1=>by
    obtain⟨x,xe,al⟩:=Num.ua pm o al1
    exact no x xe al,rfl⟩⟩,λy=>absurd (z.symm.trans y) (by decide)⟩
  ·exact⟨u,e,_,_,"is",rfl,O7.trans (bR.of s8),t7.same s8,hu,by decide +kernel,.inr ⟨x,pl,rfl,rfl,xe,hpl⟩,o.pos,ed,λ_=>⟨na,e,o,.inr ⟨x,pl,xe,al,hpl,rfl⟩⟩,λy=>absurd (z.symm.trans y) (by decide)⟩
 rintro σ' H8 ⟨u,e,dx,d2,s0,rfl,O8,t8,hu,D⟩
 k_data
 have hv8:=dv.bS hv O8 t3
 have e9:e<=10^9:=by
  have:=Int.le_of_dvd (by omega) D.ed
  omega
 have gdu:=xY D.c0 D.e1 e9 D.hD
 refine oH (λi σ' H'=>zp H8 sc t p b a vp u rt i σ' H') ⟨_,_,_,rfl,bR.of (aE.refl _),t8⟩ ?_ ?_
 ·rintro i σ' HA hi ⟨o8,o9,o10,rfl,OA,tA⟩
  have hi8:i<8:=by simpa using hi
  k_data
  refine⟨t,u,_,e,dx,d2,s0,p,rfl,tA,by omega,dv.bS hu OA t8,D.c0,D.hD,by omega,D.e1,D.ed,p2,λy HB OB tB gy=>?_⟩
  have OB':=OA.trans OB
  refine⟨λσ' H'=>Bs K H8 sc t p b a vp u rt i (40+200*i+40) o10 σ' H',?_,?_⟩
  ·k_data
   have same4:Bs K H8 sc t p b a vp u rt i (40+200*i+40) o10 [some (V.ref sc),some (V.ref t),some (V.int p),some vp,some (V.int b),some (V.int a),some (V.bl rt),some u,some (V.int (i:Int)),some y,o10] HB:=⟨y,rfl,OB',tB,gy⟩
   refine aL (λ_=>aL (λ_=>?_) λ_=>same4) λ_=>same4
   exact⟨p,b,a,rfl,pm,by omega,b0,b1,a0,a1,λy2 HC sC gC=>⟨y2,rfl,OB'.trans (bR.of sC),tB.same sC,gC⟩⟩
  rintro σ' HC ⟨y',rfl,OC,tC,gy'⟩
  k_data
  obtain⟨dy,hy,gdy⟩:=gy'
  have hvC:=dv.bS hv8 OC t8
  have huC:=dv.bS hu OC t8
  have rest:∀ H',aE HC H'->dz [V.ref t,V.int 4] H' (λx H1=>i7 x (V.int 0)=true/\if x=V.int 0 then eG K [V.ref t,vp] H1 (λx H1=>iA K [x,V.int b,V.int a,u] H1 (λx_2 H1=>∃ b_1,x_2=V.bl b_1/\if (b_1 != false)=true then Q (V.bl false) H1 else zp H8 sc t p b a vp u rt (i+1) [some (V.ref sc),some (V.ref t),some (V.int p),some vp,some (V.int b),some (V.int a),some (V.bl rt),some u,some (V.int (i:Int)),some y',some x] H1) E0) E0 else zp H8 sc t p b a vp u rt (i+1) [some (V.ref sc),some (V.ref t),some (V.int p),some vp,some (V.int b),some (V.int a),some (V.bl rt),some u,some (V.int (i:Int)),some y',o10] H1) E0:=λH' sD=>by
   have tD:=tC.same sD
   have OD:=OC.trans (bR.of sD)
   refine⟨t,4,_,rfl,tD,by omega,by decide,by decide,λr4 H4 r40 r41 o4 t4=>⟨rfl,?_⟩⟩
   have O4:=OD.trans o4.bS
   refine aL (λ_=>?_) (λ_=>⟨_,_,_,rfl,O4,t4.mono (by omega)⟩)
   refine⟨t,_,vp,p,_,rfl,t4,by omega,dv.bS hv8 O4 t8,pap,λx H5 np O5' t5'=>?_⟩
   obtain⟨d',hd',gd',sz',np'⟩:=np
   have szp:=gf pap
   refine⟨x,u,d',b,a,rfl,hd',wO _ gd',by omega,np',λH6 s6=>⟨false,rfl,?_⟩⟩
   exact⟨_,_,_,rfl,(O4.trans O5').trans (bR.of s6),(t5'.same s6).mono (by omega)⟩
  have done:∀(bb b2:Bool) (H1 H2:Hp),bb=b2->aE HC H2->fB K 9 [.bl bb,.bl b2] H2 (λx H'=>∃ k,sf K x H' k/\if k=false then Q (V.bl false) H' else dz [V.ref t,V.int 4] H' (λx H1=>i7 x (V.int 0)=true/\if x=V.int 0 then eG K [V.ref t,vp] H1 (λx H1=>iA K [x,V.int b,V.int a,u] H1 (λx_2 H1=>∃ b_1,x_2=V.bl b_1/\if (b_1 != false)=true then Q (V.bl false) H1 else zp H8 sc t p b a vp u rt (i+1) [some (V.ref sc),some (V.ref t),some (V.int p),some vp,some (V.int b),some (V.int a),some (V.bl rt),some u,some (V.int (i:Int)),some y',some x] H1) E0) E0 else zp H8 sc t p b a vp u rt (i+1) [some (V.ref sc),some (V.ref t),some (V.int p),some vp,some (V.int b),some (V.int a),some (V.bl rt),some u,some (V.int (i:Int)),some y',o10] H1) E0) E0:=λbb b2 H1 H2 e12 s2=>by
   refine⟨.bl bb,.bl b2,.bool bb,.bool b2,rfl,rfl,rfl,rfl,rfl,by simp only [sT],λb3 H3 hb3 s3'=>⟨b3,aN.mpr rfl,?_⟩⟩
   have h3:b3=true:=hb3.mpr (by rw [e12])
   subst h3
   exact rest _ (s2.trans s3')
  refine⟨vp,y',dy,p,g,b,a,ps,ds,rfl,hvC,R,hy,gd.lay _ gdy,λ_ _ _ _ z=>zy (z▸gdy),λbb HD hbb sD=>?_⟩
  refine aL (λzr=>?_) (λzr=>?_)
  ·obtain⟨na,hI⟩:=D.yes zr
   refine⟨y',u,dy,_,rfl,dv.same sD _ hy,dv.same sD _ huC,gd.lay _ gdy,gd.lay _ gdu,yK D.e1 e9 D.hD,λb2 HE hb2 sE=>?_⟩
   refine done bb b2 HD HE ?_ (sD.trans sE)
   rw [Bool.eq_iff_iff,hbb,hb2]
   exact⟨λz=>z.2.one hI,λz=>⟨na,z▸hI⟩⟩
  ·have fb:bb=false:=by
    rw [<- Bool.not_eq_true,hbb]
    rintro⟨na,e',o',_⟩
    exact (D.no (by simpa using zr)).elim na (pm.unit o'.co)
   exact done bb false HD HD fb sD
 ·rintro σ' HA ⟨o8,o9,o10,rfl,OA,tA⟩
  k_data
  exact q _
end
end K
namespace PySem.W.Fast
def tw16297126404761252414:=0
def tw2209226072565683296:=0
def tw5468192810548422272:=0
def tw14438003995402668800:=0
def tw9713791534699126528:=0
def tw1753430009527890720:=0
def tw3198646468041680704:=0
def tw6271936979236722528:=0
def tw6271521993430307776:=0
def tw10966067909347652673:=0
def tw12361107189947182305:=0
def tw9956706223788022081:=0
def tw241010877869473121:=0
def tw7936063433395779009:=0
def tw2108273615086118657:=0
def tw2292029283684045761:=0
def tw11691581239331611585:=0
def tw10953165998102673442:=0
def tw2502392324842315970:=0
def tw1214376099533775234:=0
def tw12075445448037960130:=0
def tw9529751032159480386:=0
def tw17982130362825090690:=0
def tw9832716115117318978:=0
def tw4764585693561916258:=0
def tw15310578844714935234:=0
def tw3112183646936259554:=0
def tw12518181253209191523:=0
def tw3453080902626415747:=0
def tw15849157359365405923:=0
def tw4173224634703842691:=0
def tw16618820376349988227:=0
def tw14635384682377313763:=0
def tw12898721626423995907:=0
def tw13956513329210930947:=0
def tw11682482211064617795:=0
def tw1790990390218421187:=0
def tw10018484735855382499:=0
def tw3220183607647443972:=0
def tw6380900742647725092:=0
def tw5322463803362816484:=0
def tw13864655975871108580:=0
def tw9528159136260491844:=0
def tw16669833117766920996:=0
def tw10703225164630337444:=0
def tw4914631404546780132:=0
def tw16890468339681115365:=0
def tw5615725609959699717:=0
def tw1714666905180030437:=0
def tw2414803198239482565:=0
def tw5486170107325115141:=0
def tw16739662763868781317:=0
def tw8413313488826983494:=0
def tw1564407262769856646:=0
def tw15874466833276095750:=0
def tw6664700088017960230:=0
def tw13423179589259992454:=0
def tw1212833915324412486:=0
def tw6511407097863259750:=0
def tw10747899332454010726:=0
def tw11887767553680473030:=0
def tw4061227097106783367:=0
def tw5615997236014226631:=0
def tw9865023002159944007:=0
def tw4123941339041273287:=0
def tw2061939763698956775:=0
def tw10267378395428371143:=0
def tw17012934251248026567:=0
def tw15234779613863976903:=0
def tw810644608841185223:=0
def tw3420587375905477607:=0
def tw6568623688487044104:=0
def tw12671970311145328744:=0
def tw15102316901260244200:=0
def tw17563043314973605096:=0
def tw17838853496862856456:=0
def tw11263885520252441992:=0
def tw18025534188304878984:=0
def tw6042794275069389320:=0
def tw929876191826594376:=0
def tw903621162146486056:=0
def tw12985714362984526857:=0
def tw10884738574577479081:=0
def tw10056397589893029417:=0
def tw6611254839761325833:=0
def tw15076343381058135977:=0
def tw7563761211530813514:=0
def tw13614781054084968778:=0
def tw14003418391110150570:=0
def tw5912293005853068810:=0
def tw12659782461383639594:=0
def tw7666163581854695018:=0
def tw726251948457885354:=0
def tw782827019551791882:=0
def tw13002034796487203626:=0
def tw3735310678181471531:=0
def tw7439201505707021803:=0
def tw572548370402595723:=0
def tw14881533958321534859:=0
def tw15538620807299576811:=0
def tw6468594773953056844:=0
def tw9703905190682175628:=0
def tw1354928165860702348:=0
def tw8280204615888954604:=0
def tw10682332874747275596:=0
def tw15493885395812558764:=0
def tw5180421126268151724:=0
def tw7265898520604510156:=0
def tw12473705203269465165:=0
def tw6664204542063386733:=0
def tw10836826439591251117:=0
def tw4502139716124170605:=0
def tw12549700580504532429:=0
def tw15011075240917594669:=0
def tw12790016078096207533:=0
def tw17279977058291900141:=0
def tw11902013490543224621:=0
def tw16802321031777332141:=0
def tw5505205635464851373:=0
def tw11298042503832539117:=0
def tw11944964292178703534:=0
def tw16343139934815087822:=0
def tw17969394665087988942:=0
def tw9855294915424042382:=0
def tw14236386395222060462:=0
def tw13598479194751792686:=0
def tw13585447875844255598:=0
def tw4926204823796787150:=0
def tw5442179121126305807:=0
def tw1766405780962977903:=0
def tw18416895895063464175:=0
def tw17894011871953262095:=0
def tw17520746588015176335:=0
def tw10697883824596641040:=0
def tw2041998084447812016:=0
def tw14871363140252708336:=0
def tw14807259283656114832:=0
def tw11001605786351152016:=0
def tw18184460075771519888:=0
def tw14898131806493186992:=0
def tw17999678930199799953:=0
def tw3267489711569690929:=0
def tw10081459529745317201:=0
def tw2303890730306679153:=0
def tw14515341165450455537:=0
def tw2832600892919924305:=0
def tw7012802907874775633:=0
def tw8212047951325078385:=0
def tw12974908413931336722:=0
def tw13744129392095231122:=0
def tw16800921946286667954:=0
def tw1346554535221030098:=0
def tw4067361686581827954:=0
def tw4709942308660831602:=0
def tw7677477720982441586:=0
def tw10879214693675844242:=0
def tw1722348363187066578:=0
def tw12255240125071122194:=0
def tw14302877559999976274:=0
def tw13749861438314136466:=0
def tw10243559147779805170:=0
def tw4134722791160190035:=0
def tw7996164863481995347:=0
def tw7079657757117839443:=0
def tw12669154426770319571:=0
def tw7541914573845634515:=0
def tw1958388430570915571:=0
def tw13006276301382378387:=0
def tw11796851397490142131:=0
def tw2371177292239667220:=0
def tw11162114226791687188:=0
def tw18172287448966913204:=0
def tw6323001905791452436:=0
def tw9056754747093331380:=0
def tw8350837465740519092:=0
def tw14967093245906430644:=0
def tw6445196442929610516:=0
def tw2434968970536088468:=0
def tw15384438976043327605:=0
def tw4772171494821053685:=0
def tw780353212838213269:=0
def tw16668269248545078997:=0
def tw5918315136656035669:=0
def tw17176005596159435701:=0
def tw9851873518024237078:=0
def tw16758570848541893782:=0
def tw16660373195357631766:=0
def tw2732356073353560694:=0
def tw18057374621505504886:=0
def tw5951820675363005110:=0
def tw4933273126786431670:=0
def tw1244720006875639542:=0
def tw12569435050342562774:=0
def tw15370625814697658583:=0
def tw16803386660265877207:=0
def tw10024932809601825527:=0
def tw12858059771270804439:=0
def tw1023608100970924184:=0
def tw7077736931649672664:=0
def tw5842566296432521720:=0
def tw15353856763905931064:=0
def tw7572456216494527545:=0
def tw368705975411038265:=0
def tw17089911065826508921:=0
def tw7576695676369255705:=0
def tw7091885581210958233:=0
def tw16115707371308829273:=0
def tw5102729551174179449:=0
def tw8134293976162627257:=0
def tw14005276522183464889:=0
def tw3760428751730370553:=0
def tw928029752818137114:=0
def tw919973370239912058:=0
def tw12780474616371243386:=0
def tw8259050990696226394:=0
def tw16329358581956715226:=0
def tw15732713778280620922:=0
def tw17288812794731792507:=0
def tw304087664186412155:=0
def tw4467505468581844155:=0
def tw16046526737378877627:=0
def tw14169414383203184859:=0
def tw17939292524644020635:=0
def tw1005984466380738011:=0
def tw14739480030647759387:=0
def tw1828450384612381243:=0
def tw8465444221560604283:=0
def tw7224311455517545179:=0
def tw4364671611344854843:=0
def tw17594208291952623451:=0
def tw15140993919758704635:=0
def tw17352916598899393756:=0
def tw17964412119950783740:=0
def tw13148355164352830972:=0
def tw1404417671363095356:=0
def tw2463239205528505308:=0
def tw11014266397935672477:=0
def tw5988202888947754333:=0
def tw16857957036825514429:=0
def tw12478731776546554365:=0
def tw11165919512417248861:=0
def tw9797686430574657181:=0
def tw7222969368091909917:=0
def tw11112994941336589277:=0
def tw3724487127164934398:=0
def tw2487306630516295038:=0
def tw15022378644547335774:=0
def tw15121308882526873246:=0
def tw3664727696481203038:=0
def tw6212315995260846207:=0
def tw7840245026575873439:=0
def tw16298028648139039199:=0
def tw15684267935230349087:=0
def tw11882711965197556671:=0
def tw6768332649394678751:=0
end PySem.W.Fast
namespace K
open PySem PySem.Spec PyProof.Rows L2
theorem qY:kX "TooFar.__init__" "part" "part" (inClass (top 3) 0):=⟨⟨rfl,rfl,rfl,by decide +kernel,rfl,by decide +kernel,by decide +kernel⟩,⟨_,_,_,_,rfl,λ_=>rfl,λ_=>rfl⟩,rfl,rfl,by decide,by decide,λ_ _ _ _ _ _ us hl=>match us,hl with | [_,_],_=>rfl⟩
theorem oC:kX "NoPrime.__init__" "divisor" "divisor" (inClass (top 4) 0):=⟨⟨rfl,rfl,rfl,by decide +kernel,rfl,by decide +kernel,by decide +kernel⟩,⟨_,_,_,_,rfl,λ_=>rfl,λ_=>rfl⟩,rfl,rfl,by decide,by decide,λ_ _ _ _ _ _ us hl=>match us,hl with | [_,_],_=>rfl⟩
theorem lC:kX "NoInverse.__init__" "divisor" "divisor" (inClass (top 5) 0):=⟨⟨rfl,rfl,rfl,by decide +kernel,rfl,by decide +kernel,by decide +kernel⟩,⟨_,_,_,_,rfl,λ_=>rfl,λ_=>rfl⟩,rfl,rfl,by decide,by decide,λ_ _ _ _ _ _ us hl=>match us,hl with | [_,_],_=>rfl⟩
end K
open PySem PySem.W PyProof.Rows L2
set_option maxHeartbeats 0 in
theorem PySem.Challenge.cw_rootprime_k59_whole_only_right_powers_ar_holds : PySem.Challenge.rw_rootprime_k59_whole_only_right_powers_ar.Holds := by
 w_on;o_law;k_head;(case hw=>w_witness2)
 k_fill
 refine L2.uL (l:=PySem.Challenge.rw_rootprime_k59_whole_only_right_powers_ar) (n:=63) (k:=68) (x := "_law_script") (CX:=L2.aQ) (sp:=K.xp) rfl (by decide) rfl ⟨rfl,by decide,by decide⟩ (λw h Y=>PySem.W.kIn_of Y) ?F ?S ?C
 case F =>
  intro w mg fa h KX G hmg
  have d_divisor:L2.aA (L2.dI KX) mg "divisor" (K.top 7):=K.dU KX G
  have d_inverse:L2.aA (L2.dI KX) mg "inverse" (K.top 8):=K.dU KX G
  have d_is_whole:L2.aA (L2.dI KX) mg "is_whole" (K.top 10):=K.dU KX G
  have d_is_tuple_of:L2.aA (L2.dI KX) mg "is_tuple_of" (K.top 11):=K.dU KX G
  have d_is_pair:L2.aA (L2.dI KX) mg "is_pair" (K.top 12):=K.dU KX G
  have d_is_just:L2.aA (L2.dI KX) mg "is_just" (K.top 13):=K.dU KX G
  have d_are_just:L2.aA (L2.dI KX) mg "are_just" (K.top 14):=K.dU KX G
  have d_primes_in:L2.aA (L2.dI KX) mg "primes_in" (K.top 15):=K.dU KX G
  have d_power:L2.aA (L2.dI KX) mg "power" (K.top 17):=K.dU KX G
  have d_is_least:L2.aA (L2.dI KX) mg "is_least" (K.top 18):=K.dU KX G
  have d_is_prime_paper:L2.aA (L2.dI KX) mg "is_prime_paper" (K.top 20):=K.dU KX G
  have d_is_order:L2.aA (L2.dI KX) mg "is_order" (K.top 21):=K.dU KX G
  have d_are_prime_papers:L2.aA (L2.dI KX) mg "are_prime_papers" (K.top 22):=K.dU KX G
  have d_is_right_above:L2.aA (L2.dI KX) mg "is_right_above" (K.top 23):=K.dU KX G
  have d_is_paper_form:L2.aA (L2.dI KX) mg "is_paper_form" (K.top 24):=K.dU KX G
  have d_come_to:L2.aA (L2.dI KX) mg "come_to" (K.top 25):=K.dU KX G
  have d_is_row_form:L2.aA (L2.dI KX) mg "is_row_form" (K.top 26):=K.dU KX G
  have d_without:L2.aA (L2.dI KX) mg "without" (K.top 27):=K.dU KX G
  have d_shows_which:L2.aA (L2.dI KX) mg "shows_which" (K.top 29):=K.dU KX G
  have d_shows_no_power:L2.aA (L2.dI KX) mg "shows_no_power" (K.top 30):=K.dU KX G
  have d_is_which:L2.aA (L2.dI KX) mg "is_which" (K.top 31):=K.dU KX G
  have d_digit_rows:L2.aA (L2.dI KX) mg "digit_rows" (K.top 32):=K.dU KX G
  have d_digits_by:L2.aA (L2.dI KX) mg "digits_by" (K.top 33):=K.dU KX G
  have d_least_divisor:L2.aA (L2.dI KX) mg "least_divisor" (K.top 36):=K.dU KX G
  have d_least_divisor_from:L2.aA (L2.dI KX) mg "least_divisor_from" (K.top 37):=K.dU KX G
  have d_parted:L2.aA (L2.dI KX) mg "parted" (K.top 38):=K.dU KX G
  have d_prime_paper:L2.aA (L2.dI KX) mg "prime_paper" (K.top 40):=K.dU KX G
  have d_parting_paper:L2.aA (L2.dI KX) mg "parting_paper" (K.top 41):=K.dU KX G
  have d_least_full:L2.aA (L2.dI KX) mg "least_full" (K.top 42):=K.dU KX G
  have d__law_is_prime:L2.aA (L2.dI KX) mg "_law_is_prime" (K.top 44):=K.dU KX G
  have d__law_prime:L2.aA (L2.dI KX) mg "_law_prime" (K.top 45):=K.dU KX G
  have d__law_tape:L2.aA (L2.dI KX) mg "_law_tape" (K.top 46):=K.dU KX G
  have d__law_draw:L2.aA (L2.dI KX) mg "_law_draw" (K.top 47):=K.dU KX G
  have d__law_number:L2.aA (L2.dI KX) mg "_law_number" (K.top 48):=K.dU KX G
  have d__law_power:L2.aA (L2.dI KX) mg "_law_power" (K.top 49):=K.dU KX G
  have d__law_digits:L2.aA (L2.dI KX) mg "_law_digits" (K.top 50):=K.dU KX G
  have d__law_primes_of:L2.aA (L2.dI KX) mg "_law_primes_of" (K.top 51):=K.dU KX G
  have d__law_due_power:L2.aA (L2.dI KX) mg "_law_due_power" (K.top 52):=K.dU KX G
  have d__law_same:L2.aA (L2.dI KX) mg "_law_same" (K.top 53):=K.dU KX G
  have d__law_odd:L2.aA (L2.dI KX) mg "_law_odd" (K.top 54):=K.dU KX G
  have d__law_bent_within:L2.aA (L2.dI KX) mg "_law_bent_within" (K.top 55):=K.dU KX G
  have d__law_bent_paper:L2.aA (L2.dI KX) mg "_law_bent_paper" (K.top 56):=K.dU KX G
  have d__law_bent_row:L2.aA (L2.dI KX) mg "_law_bent_row" (K.top 57):=K.dU KX G
  have d__law_bent_parts:L2.aA (L2.dI KX) mg "_law_bent_parts" (K.top 58):=K.dU KX G
  have d__law_none:L2.aA (L2.dI KX) mg "_law_none" (K.top 59):=K.dU KX G
  have d__law_is:L2.aA (L2.dI KX) mg "_law_is" (K.top 60):=K.dU KX G
  have d__law_bent:L2.aA (L2.dI KX) mg "_law_bent" (K.top 61):=K.dU KX G
  have d_law:L2.aA (L2.dI KX) mg "law" (K.top 62):=K.dU KX G
  have n_abs:mg "abs"=none:=PySem.W.mg_none_of KX G (by k_is)
  have n_int:mg "int"=none:=PySem.W.mg_none_of KX G (by k_is)
  have n_bool:mg "bool"=none:=PySem.W.mg_none_of KX G (by k_is)
  have n_isinstance:mg "isinstance"=none:=PySem.W.mg_none_of KX G (by k_is)
  have n_range:mg "range"=none:=PySem.W.mg_none_of KX G (by k_is)
  have n_tuple:mg "tuple"=none:=PySem.W.mg_none_of KX G (by k_is)
  have n_all:mg "all"=none:=PySem.W.mg_none_of KX G (by k_is)
  have n_list:mg "list"=none:=PySem.W.mg_none_of KX G (by k_is)
  have n_len:mg "len"=none:=PySem.W.mg_none_of KX G (by k_is)
  have n_zip:mg "zip"=none:=PySem.W.mg_none_of KX G (by k_is)
  refine' L2.gz (PySem.W.mg_of (n := "PrimeError") KX G ?xa) (λa_PrimeError=>?g1)
  (case xa=>k_is)
  refine' L2.gz (L2.iF KX a_PrimeError ?l ?c2 ?c3 ?e1 ?e2 ?e3 ?e4 ?e5 ?e6 ?ob ?kp) (λc_PrimeError=>?g2)
  (case l=>k_is);(case c2=>rfl);(case c3=>rfl);(case e1=>k_is);(case e2=>k_is);(case e3=>k_is);(case e4=>k_is);(case e5=>k_is);(case e6=>k_is);(case ob=>exact⟨_,_,_,_,_,_,_,_,_,_,_,_,_,_,_,_,rfl,rfl,rfl,rfl⟩);(case kp=>k_is)
  refine' L2.gz (L2.qM a_PrimeError c_PrimeError.2 c_PrimeError.1 ?i) (λx_PrimeError=>?g3)
  (case i=>k_is)
  refine' L2.gz (PySem.W.mg_of (n := "NoNumber") KX G ?xa) (λa_NoNumber=>?g4)
  (case xa=>k_is)
  refine' L2.gz (L2.iF KX a_NoNumber ?l ?c2 ?c3 ?e1 ?e2 ?e3 ?e4 ?e5 ?e6 ?ob ?kp) (λc_NoNumber=>?g5)
  (case l=>k_is);(case c2=>rfl);(case c3=>rfl);(case e1=>k_is);(case e2=>k_is);(case e3=>k_is);(case e4=>k_is);(case e5=>k_is);(case e6=>k_is);(case ob=>exact⟨_,_,_,_,_,_,_,_,_,_,_,_,_,_,_,_,rfl,rfl,rfl,rfl⟩);(case kp=>k_is)
  refine' L2.gz (L2.qM a_NoNumber c_NoNumber.2 c_NoNumber.1 ?i) (λx_NoNumber=>?g6)
  (case i=>k_is)
  refine' L2.gz (PySem.W.mg_of (n := "TooFar") KX G ?xa) (λa_TooFar=>?g7)
  (case xa=>k_is)
  refine' L2.gz (L2.iF KX a_TooFar ?l ?c2 ?c3 ?e1 ?e2 ?e3 ?e4 ?e5 ?e6 ?ob ?kp) (λc_TooFar=>?g8)
  (case l=>k_is);(case c2=>rfl);(case c3=>rfl);(case e1=>k_is);(case e2=>k_is);(case e3=>k_is);(case e4=>k_is);(case e5=>k_is);(case e6=>k_is);(case ob=>exact⟨_,_,_,_,_,_,_,_,_,_,_,_,_,_,_,_,rfl,rfl,rfl,rfl⟩);(case kp=>k_is)
  refine' L2.gz (L2.mq K.qY a_TooFar c_TooFar.2 c_TooFar.1 ?nf ?i ?fn ?l ?cc ?kk) (λx_TooFar=>?g9)
  (case nf=>k_is);(case i=>k_is);(case fn=>k_is);(case l=>k_is);(case cc=>k_is);(case kk=>k_is)
  refine' L2.gz (PySem.W.mg_of (n := "NoPrime") KX G ?xa) (λa_NoPrime=>?g10)
  (case xa=>k_is)
  refine' L2.gz (L2.iF KX a_NoPrime ?l ?c2 ?c3 ?e1 ?e2 ?e3 ?e4 ?e5 ?e6 ?ob ?kp) (λc_NoPrime=>?g11)
  (case l=>k_is);(case c2=>rfl);(case c3=>rfl);(case e1=>k_is);(case e2=>k_is);(case e3=>k_is);(case e4=>k_is);(case e5=>k_is);(case e6=>k_is);(case ob=>exact⟨_,_,_,_,_,_,_,_,_,_,_,_,_,_,_,_,rfl,rfl,rfl,rfl⟩);(case kp=>k_is)
  refine' L2.gz (L2.mq K.oC a_NoPrime c_NoPrime.2 c_NoPrime.1 ?nf ?i ?fn ?l ?cc ?kk) (λx_NoPrime=>?g12)
  (case nf=>k_is);(case i=>k_is);(case fn=>k_is);(case l=>k_is);(case cc=>k_is);(case kk=>k_is)
  refine' L2.gz (PySem.W.mg_of (n := "NoInverse") KX G ?xa) (λa_NoInverse=>?g13)
  (case xa=>k_is)
  refine' L2.gz (L2.iF KX a_NoInverse ?l ?c2 ?c3 ?e1 ?e2 ?e3 ?e4 ?e5 ?e6 ?ob ?kp) (λc_NoInverse=>?g14)
  (case l=>k_is);(case c2=>rfl);(case c3=>rfl);(case e1=>k_is);(case e2=>k_is);(case e3=>k_is);(case e4=>k_is);(case e5=>k_is);(case e6=>k_is);(case ob=>exact⟨_,_,_,_,_,_,_,_,_,_,_,_,_,_,_,_,rfl,rfl,rfl,rfl⟩);(case kp=>k_is)
  refine' L2.gz (L2.mq K.lC a_NoInverse c_NoInverse.2 c_NoInverse.1 ?nf ?i ?fn ?l ?cc ?kk) (λx_NoInverse=>?g15)
  (case nf=>k_is);(case i=>k_is);(case fn=>k_is);(case l=>k_is);(case cc=>k_is);(case kk=>k_is)
  refine' L2.gz (PySem.W.mg_of (n := "GREATEST") KX G ?xa) (λg_GREATEST=>?g16)
  (case xa=>k_is)
  refine L2.vv hmg d_law (λ_ _ _ _ _ _ _=>rfl) λbase f fd kb F=>?_
  have dvr:=λP w=>K.oO (P:=P) (w:=w) (base:=base) d_divisor n_abs
  have inv:=λP w=>K.oP (P:=P) (w:=w) (base:=base) d_inverse (dvr P w) (x_NoInverse _ _ _)
  have pw:=λP w=>K.tM (P:=P) (w:=w) (base:=base) d_power (inv P w) n_abs
  have lt:=λP w=>K.oQ (P:=P) (w:=w) (base:=base) d_is_least (pw P w) n_all
  have fr:=λP w=>K.vH (P:=P) (w:=w) (base:=base) d_least_divisor_from
  have ls:=λP w=>K.tK (P:=P) (w:=w) (base:=base) d_least_divisor (fr P w) x_NoNumber (x_TooFar _ _ _) ⟨_,g_GREATEST⟩
  have pd:=λP w=>K.rB (P:=P) (w:=w) (base:=base) d_parted (fr P w) x_NoNumber (x_TooFar _ _ _) ⟨_,g_GREATEST⟩
  have pi:=λP w=>K.nh (P:=P) (w:=w) (base:=base) d_primes_in
  have pp:=λP w=>K.yx (K.kH (P:=P) (w:=w) (base:=base) d_prime_paper d_parting_paper (ls P w) (pd P w) (K.lK d_least_full (lt P w)) (pi P w) (x_NoPrime _ _ _) n_tuple 30).1
  have dw:=λP w=>K.vG (P:=P) (w:=w) (base:=base) d__law_draw n_len
  have lp:=λP w=>K.vI (P:=P) (w:=w) (base:=base) d__law_power
  have wl:=λP w=>K.A0 (P:=P) (w:=w) (base:=base) d_is_whole n_isinstance n_int n_bool
  have tf:=λP w=>K.yp (P:=P) (w:=w) (base:=base) d_is_tuple_of n_isinstance n_tuple n_len
  have pf:=λP w=>K.zQ (P:=P) (w:=w) (base:=base) d_is_paper_form (wl P w) (tf P w) n_isinstance n_tuple
  have rf:=λP w=>K.zT (P:=P) (w:=w) (base:=base) d_is_row_form (wl P w) (tf P w) (pf P w)
  have ct:=λP w=>K.zP (P:=P) (w:=w) (base:=base) d_come_to (rf P w) (K.zU d_without)
  have rab:=λP w=>K.zS (P:=P) (w:=w) (base:=base) d_is_right_above (pf P w) (ct P w) (lt P w) (pi P w)
  have ppr:=λP w=>K.zR (P:=P) (w:=w) (base:=base) d_is_prime_paper (K.yo d_are_prime_papers (rab P w) n_list)
  have iord:=λP w=>K.oR (P:=P) (w:=w) (base:=base) d_is_order (lt P w) (pi P w)
  have jst:=λP w=>K.qt (P:=P) (w:=w) (base:=base) (fi:=0) d_is_just d_are_just (wl P w) n_isinstance n_list n_tuple n_len n_zip n_all 7
  have shw:=λP w=>K.rH (P:=P) (w:=w) (base:=base) d_shows_which (ppr P w) (tf P w) (K.iT d_shows_no_power (wl P w) (iord P w) (pw P w) (jst P w)) (K.iR d_is_which (K.nc d_is_pair (tf P w) (wl P w)) (iord P w) (pw P w)) (jst P w) (K.qr d_digit_rows (K.qj d_digits_by n_tuple) (pi P w) n_tuple)
  have shB:=λP w=>K.rG (P:=P) (w:=w) (base:=base) d_shows_which (ppr P w) (tf P w) (K.iT d_shows_no_power (wl P w) (iord P w) (pw P w) (jst P w)) (K.iR d_is_which (K.nc d_is_pair (tf P w) (wl P w)) (iord P w) (pw P w)) (jst P w) (K.qr d_digit_rows (K.qj d_digits_by n_tuple) (pi P w) n_tuple)
  have po:=λP w=>K.ni (P:=P) (w:=w) (base:=base) d__law_primes_of
  have dg:=λP w=>K.yi (P:=P) (w:=w) (base:=base) d__law_digits
  have is_:=λP w=>K.yk (P:=P) (w:=w) (base:=base) d__law_is (po P w) (dg P w) n_tuple
  have br:=λP w=>K.oN (P:=P) (w:=w) (base:=base) d__law_bent_row (dw P w) (K.yn d__law_odd (dw P w) n_len) n_len n_isinstance n_list
  exact K.ym F (K.vL d__law_tape) (dw _ _) (K.rC d__law_prime (K.rq d__law_is_prime n_int)) (pp _ _) (K.tL d__law_number (dw _ _) n_int) (lp _ _) (K.yj d__law_due_power (lp _ _) (dg _ _) (po _ _) n_tuple n_len) (K.tE d__law_bent (dw _ _) (is_ _ _) (po _ _) (br _ _) (K.lJ d__law_bent_parts (dw _ _) (br _ _) n_len) n_len) (K.vJ d__law_none (lp _ _)) (shw _ _) (shB _ _) (K.lI d__law_bent_paper (dw _ _) (K.wz (K.jD d__law_bent_within (dw _ _) n_len 30 (by decide))) (K.vK d__law_odd (dw _ _) n_len) n_len n_list) (K.nj d__law_same n_isinstance n_bool n_list n_tuple n_len n_zip n_all 9) n_range
 case S=>exact λK H a ns hl hO hS=>⟨a,ns,rfl,hS,hl,λ_=>rfl⟩
 case C=>exact λ_ _ _ _ z=>z
