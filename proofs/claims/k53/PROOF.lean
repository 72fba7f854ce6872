import PyProof.Rows.All
import Wide.All
import OpenK.AllK
import Wide.FinOn
import Lean
import PyProof.EqAt
import PyProof.EqKinds
import PyProof.TupleCall
import KE.KRevSl
import PyProof.NeData
import PyProof.P3Eq
import PyProof.Rows.Range3
import PyProof.EnumMake
import PyProof.Draws
import PyProof.ZipIter
import KE.KDictList
import KE.KDictSum
import PyProof.WalkInts
import PyProof.Rows.SeqCalls
import PySem.Challenge.RW_rootprime_k53_whole_right_roots_are_let
set_option Elab.async false
local macro_rules | `(tactic| omega) => `(tactic| lia)
set_option linter.all false
set_option maxRecDepth 100000
namespace L2
open PySem PySem.Spec PyProof.Rows
abbrev Key:=Sum Int Str
def mU:Key->Value->Bool
 | .inl k,v=>Value.isInt k v
 | .inr x,v=>Value.isStrOf x v
def Fh (w:World):Key->Int
 | .inl k=>hashInt k
 | .inr x=>hashStr w x
theorem bN:∀{k:Key} {v:Value},mU k v=true->(∃ i t,k=Sum.inl i/\v=Value.int i t)∨(∃ x t,k=Sum.inr x/\v=Value.str x t)
 | .inl i,v,h=>by
  obtain⟨t,e⟩:=Value.isInt_shape (k:=i) (v:=v) h
  exact .inl ⟨i,t,rfl,e⟩
 | .inr x,v,h=>by
  obtain⟨t,e⟩:=Value.isStrOf_shape (x:=x) (v:=v) h
  exact .inr ⟨x,t,rfl,e⟩
theorem uX (i:Int) (t:Tok):mU (.inl i) (.int i t)=true:=by simp [mU,Value.isInt]
theorem uY (x:Str) (t:Tok):mU (.inr x) (.str x t)=true:=by simp [mU,Value.isStrOf]
theorem Cj (a b:Int):decide ((Sum.inl a:Key)=Sum.inl b)=(a==b):=by
 by_cases e:a=b
 ·subst e;simp
 ·have h:¬(Sum.inl a:Key)=Sum.inl b:=λq=>e (Sum.inl.inj q)
  rw [decide_eq_false h]
  exact (beq_eq_false_iff_ne.mpr e).symm
theorem Cn (a b:Str):decide ((Sum.inr a:Key)=Sum.inr b)=decide (a=b):=by
 by_cases e:a=b
 ·subst e;simp
 ·have h:¬(Sum.inr a:Key)=Sum.inr b:=λq=>e (Sum.inr.inj q)
  rw [decide_eq_false h,decide_eq_false e]
theorem Ck (a:Int) (b:Str):decide ((Sum.inl a:Key)=Sum.inr b)=false:=decide_eq_false (λq=>nomatch q)
theorem Cm (a:Str) (b:Int):decide ((Sum.inr a:Key)=Sum.inl b)=false:=decide_eq_false (λq=>nomatch q)
def bO (prog:Program) (w:World):PySem.KeyKind prog w Key where
 is:=mU
 hash:=Fh w
 inj:=λv a b ha hb=>by
  rcases bN ha with⟨i,t,rfl,rfl⟩|⟨x,t,rfl,rfl⟩
  ·rcases bN hb with⟨j,u,rfl,e⟩|⟨y,u,rfl,e⟩
   ·injection e with e1 _;rw [e1]
   ·exact nomatch e
  ·rcases bN hb with⟨j,u,rfl,e⟩|⟨y,u,rfl,e⟩
   ·exact nomatch e
   ·injection e with e1 _;rw [e1]
 byValue:=λk v h=>by
  rcases bN h with⟨i,t,rfl,rfl⟩|⟨x,t,rfl,rfl⟩<;>rfl
 pyHash:=λhv h=>by
  rcases bN hv with⟨i,t,rfl,rfl⟩|⟨x,t,rfl,rfl⟩
  ·exact wpAny_pyHash_int h
  ·exact wpAny_pyHash_str h
 eqBool:=λhu hv h=>by
  rcases bN hu with⟨i,t,rfl,rfl⟩|⟨x,t,rfl,rfl⟩
  ·rcases bN hv with⟨j,u,rfl,rfl⟩|⟨y,u,rfl,rfl⟩
   ·rw [Cj] at h;exact wpAny_eqBool_int h
   ·rw [Ck] at h;exact SeqAt.EqAt.int_str i t y u _ _ _ _ h
  ·rcases bN hv with⟨j,u,rfl,rfl⟩|⟨y,u,rfl,rfl⟩
   ·rw [Cm] at h;exact SeqAt.EqAt.str_int x t j u _ _ _ _ h
   ·rw [Cn] at h;exact wpAny_eqBool_str h
 «strs»:=λk x t v h=>by
  rcases bN h with⟨i,u,rfl,e⟩|⟨y,u,rfl,e⟩
  ·exact nomatch e
  ·injection e with e1 _
   subst e1
   cases v<;>rfl
theorem qh (prog:Program) (w:World) (i:Int) (t:Tok):(bO prog w).is (.inl i) (.int i t)=true:=uX i t
theorem qi (prog:Program) (w:World) (x:Str) (t:Tok):(bO prog w).is (.inr x) (.str x t)=true:=uY x t
inductive V where
 | non | bl (b:Bool) | int (i:Int) | str (x:Str) | byt (b:Array UInt8) | flt (b:UInt64) | ref (a:Addr) | ty (n:String)
 deriving DecidableEq
def RelV:V->Value->Prop
 | .non,u=>u=Value.none
 | .bl b,u=>u=Value.bool b
 | .int i,u=>∃ t,u=Value.int i t
 | .str x,u=>∃ t,u=Value.str x t
 | .byt b,u=>∃ t,u=Value.bytes b t
 | .flt b,u=>∃ t,u=Value.float b t
 | .ref a,u=>u=Value.ref a
 | .ty n,u=>u=Value.type n
abbrev Vals:List V->List Value->Prop:=Paired RelV
theorem Vals.length {xs:List V} {us:List Value} (r:Vals xs us):xs.length=us.length:=Paired.length r
theorem Vals.get:∀{xs:List V} {us:List Value} {i:Nat} {x:V},Vals xs us->xs[i]?=some x->∃ u,us[i]?=some u/\RelV x u
 | _,_,_,_,.nil,e=>by simp at e
 | _,_,0,_,.cons r _,e=>by simp at e;subst e;exact⟨_,rfl,r⟩
 | _,_,i+1,x,.cons _ t,e=>by
  obtain⟨u,h1,h2⟩:=Vals.get (i:=i) (x:=x) t (by simpa using e)
  exact⟨u,by simpa using h1,h2⟩
theorem Vals.set {x:V} {u:Value} (r:RelV x u):∀{xs:List V} {us:List Value} (i:Nat),Vals xs us->Vals (xs.set i x) (us.set i u)
 | _,_,_,.nil=>.nil
 | _,_,0,.cons _ t=>.cons r t
 | _,_,i+1,.cons q t=>.cons q (Vals.set r i t)
theorem Vals.append:∀{xs ys:List V} {us ws:List Value},Vals xs us->Vals ys ws->Vals (xs++ys) (us++ws)
 | _,_,_,_,.nil,s=>s
 | _,_,_,_,.cons r t,s=>.cons r (Vals.append t s)
theorem Vals.take:∀{xs:List V} {us:List Value} (n:Nat),Vals xs us->Vals (xs.take n) (us.take n)
 | _,_,0,_=>.nil
 | _,_,_+1,.nil=>.nil
 | _,_,n+1,.cons r t=>.cons r (Vals.take n t)
theorem Vals.drop:∀{xs:List V} {us:List Value} (n:Nat),Vals xs us->Vals (xs.drop n) (us.drop n)
 | _,_,0,r=>r
 | _,_,_+1,.nil=>.nil
 | _,_,n+1,.cons _ t=>Vals.drop n t
def fc:Option V->Option Value->Prop
 | some v,some u=>RelV v u
 | none,none=>True
 | _,_=>False
def KV {κ:Type}:List (κ × V)->List (κ × Value)->Prop:=Paired fun(p:κ × V) (q:κ × Value)=>p.1=q.1/\RelV p.2 q.2
def kV:Key->V
 | .inl i=>.int i
 | .inr x=>.str x
inductive HO where
  | lst (xs:List V)
  | tup (xs:List V)
  | dK (kvs:List (Key × V)) | dT (kvs:List (List Key × V))
  | set (S:Int->Bool) (n:Nat)
  | ins (C dx:Addr) (fs:List (Str × V))
  | own (x:Addr)
  | xd (fs:List (Str × V))
  | met (f x:Addr)
  | rng (lo hi:Int)
  | frz (o:Obj) (u:HO)
  | tbl (ps:Array Value)
  | ext (φ:Heap->Prop)
abbrev Hp:=Addr->Option HO
def upd (H:Hp) (a:Addr) (o:HO):Hp:=λb=>if b=a then some o else H b
theorem ag {H:Hp} {a:Addr} {o:HO}:upd H a o a=some o:=by unfold upd;rw [if_pos rfl]
theorem au {H:Hp} {a b:Addr} {o:HO} (h:b≠a):upd H a o b=H b:=by unfold upd;rw [if_neg h]
theorem uC {H:Hp} {a:Addr} {o u:HO}:upd (upd H a o) a u=upd H a u:=by
 funext b;unfold upd;split<;>rfl
theorem h8 {H:Hp} {a b:Addr} {o u:HO} (h:H a=some o) (h':H b=some u) (d:o≠u):a≠b:=by
 intro e;subst e;rw [h] at h';exact d (Option.some.inj h')
theorem br {H:Hp} {a b:Addr} {o:HO} (h:H a=some o) (h':H b=none):a≠b:=by
 intro e;subst e;rw [h] at h';cases h'
section
variable (P:Program) (w:World)
def bB (H:Hp) (h:Heap) (a:Addr):HO->Prop
 | .lst xs=>xs.length<=sizeLine/\∃(its:List Value) (n:Nat),Vals xs its/\h.get? a=some { cls:=.type "list",data:=.seq its.toArray n }
 | .tup xs=>xs.length<=sizeLine/\∃ its:List Value,Vals xs its/\IsTup h a its.toArray
 | .dK kvs=>kvs.length<=sizeLine/\(a==sysModules)=false/\∃ vs,KV kvs vs/\h.DictOf (bO P w) a vs
 | .dT kvs=>kvs.length<=sizeLine/\(a==sysModules)=false/\∃ xs:List (List Key × Addr × Value),
   Paired (fun(p:List Key × V) (q:List Key × Addr × Value)=>p.1=q.1/\H q.2.1=some (.tup (p.1.map kV))/\RelV p.2 q.2.2) kvs xs /\
   ∃ o es ep,h.get? a=some o/\o.ExactDict/\o.data=.dict es ep/\es.toList=xs.map (entryOfKey (tupleKind (bO P w)))/\(xs.map (·.1)).Nodup
 | .set S n=>h.SetOf (intKind P w) a S n
 | .ins C dx fs=>H dx=some (.own a)/\fs.length<=1000/\dx≠a/\h.get? a=some (PySem.W.instObj C dx) /\
   ∃ mA,h.Ns1 dx mA/\(∀ f,fc (fs.lookup f) (mA f))/\PySem.Within mA (fs.map (·.1))
 | .own _=>∃ o,h.get? a=some o
 | .xd fs=>∃ mA,h.Ns1 a mA/\∀ f,fc (fs.lookup f) (mA f)
 | .rng lo hi=>∃ t u v,h.get? a=some { cls:=.type "range",data:=.fields #[.int lo t,.int hi u,.int 1 v] }
 | .frz o u=>h.get? a=some o/\bB H h a u
 | .tbl ps=>h.get? a=some { cls:=.none,data:=.fields ps }
 | .met f x=>h.get? a=some (PySem.W.methodObj (.ref f) (.ref x))
 | .ext φ=>φ h/\(∃ o,h.get? a=some o)/\∀ h1 h2:Heap,φ h1->(∀ o,h1.get? a=some o->h2.get? a=some o)->φ h2
def fP (H:Hp) (h:Heap):Prop:=∀ a o,H a=some o->bB P w H h a o
end
section
variable {P:Program} {w:World} {H H':Hp} {h h':Heap} {a:Addr} {o:HO}
theorem bB.lt (x:bB P w H h a o):a<h.objs.size:=by
 cases o with
 | lst xs=>obtain⟨_,_,_,_,e⟩:=x;exact Heap.lt_size e
 | tup xs=>obtain⟨_,_,_,p⟩:=x;exact p.lt
 | dK kvs=>obtain⟨_,_,_,_,o,_,_,e,_⟩:=x;exact Heap.lt_size e
 | dT kvs=>obtain⟨_,_,_,_,o,_,_,e,_⟩:=x;exact Heap.lt_size e
 | set S n=>obtain⟨o,_,_,_,e,_⟩:=x;exact Heap.lt_size e
 | ins C dx fs=>obtain⟨_,_,_,e,_⟩:=x;exact Heap.lt_size e
 | own y=>obtain⟨_,e⟩:=x;exact Heap.lt_size e
 | xd fs=>obtain⟨_,⟨_,_,_,e,_⟩,_⟩:=x;exact Heap.lt_size e
 | rng lo hi=>obtain⟨_,_,_,e⟩:=x;exact Heap.lt_size e
 | frz ob u=>obtain⟨e,_⟩:=x;exact Heap.lt_size e
 | tbl ps=>exact Heap.lt_size (show h.get? a=some _ from x)
 | met f y=>exact Heap.lt_size (show h.get? a=some _ from x)
 | ext φ=>obtain⟨_,⟨_,e⟩,_⟩:=x;exact Heap.lt_size e
theorem Paired.Cs {α β:Type} {F G:α->β->Prop}:∀{l₁:List α} {l₂:List β},Paired F l₁ l₂->(∀ a b,F a b->G a b)->Paired G l₁ l₂
 | _,_,.nil,_=>.nil
 | _,_,.cons r t,f=>.cons (f _ _ r) (Paired.Cs t f)
theorem bB.hZ (x:bB P w H h a o) (k:∀ b u,(b=a∨H b=some (.own a))->h.get? b=some u->h'.get? b=some u)
  (ho:∀ b,H b=some (.own a)->H' b=some (.own a)) (ht:∀ b xs,H b=some (.tup xs)->H' b=some (.tup xs)):bB P w H' h' a o:=by
 induction o with
 | lst xs=>obtain⟨z,its,n,r,e⟩:=x;exact⟨z,its,n,r,k _ _ (.inl rfl) e⟩
 | tup xs=>obtain⟨z,its,r,ob,e,c⟩:=x;exact⟨z,its,r,ob,k _ _ (.inl rfl) e,c⟩
 | dK kvs=>obtain⟨z,y,vs,r,ob,es,ep,e,c⟩:=x;exact⟨z,y,vs,r,ob,es,ep,k _ _ (.inl rfl) e,c⟩
 | dT kvs =>
  obtain⟨z,y,xs,r,ob,es,ep,e,c⟩:=x
  exact⟨z,y,xs,Paired.Cs r λp q z=>⟨z.1,ht _ _ z.2.1,z.2.2⟩,ob,es,ep,k _ _ (.inl rfl) e,c⟩
 | set S n=>obtain⟨ob,es,ep,t,e,c⟩:=x;exact⟨ob,es,ep,t,k _ _ (.inl rfl) e,c⟩
 | ins C dx fs =>
  obtain⟨d,z,ne,e,mA,⟨od,es,ep,e2,c⟩,r⟩:=x
  exact⟨ho _ d,z,ne,k _ _ (.inl rfl) e,mA,⟨od,es,ep,k _ _ (.inr d) e2,c⟩,r⟩
 | own y=>obtain⟨ob,e⟩:=x;exact⟨ob,k _ _ (.inl rfl) e⟩
 | xd fs=>obtain⟨mA,⟨od,es,ep,e,c⟩,r⟩:=x;exact⟨mA,⟨od,es,ep,k _ _ (.inl rfl) e,c⟩,r⟩
 | rng lo hi=>obtain⟨t,u,v,e⟩:=x;exact⟨t,u,v,k _ _ (.inl rfl) e⟩
 | frz ob u ih=>obtain⟨e,q⟩:=x;exact⟨k _ _ (.inl rfl) e,ih q⟩
 | tbl ps =>
  have e:h.get? a=some { cls:=.none,data:=.fields ps }:=x
  show h'.get? a=some { cls:=.none,data:=.fields ps }
  exact k a _ (.inl rfl) e
 | met f y =>
  have e:h.get? a=some (PySem.W.methodObj (.ref f) (.ref y)):=x
  show h'.get? a=some (PySem.W.methodObj (.ref f) (.ref y))
  exact k a _ (.inl rfl) e
 | ext φ=>obtain⟨p,⟨o,e⟩,st⟩:=x;exact⟨st _ _ p λo q=>k _ _ (.inl rfl) q,⟨o,k _ _ (.inl rfl) e⟩,st⟩
theorem fP.lt (x:fP P w H h) (e:H a=some o):a<h.objs.size:=(x a o e).lt
theorem fP.fresh (x:fP P w H h) (e:h.objs.size<=a):H a=none:=by
 cases q:H a with
 | none=>rfl
 | some u=>exact absurd (Nat.lt_of_lt_of_le (x.lt q) e) (Nat.lt_irrefl _)
theorem fP.kept (x:fP P w H h) (k:∀ b u,h.get? b=some u->h'.get? b=some u):fP P w H h':=λa o e =>
 (x a o e).hZ (λb u _ q=>k b u q) (λ_ q=>q) λ_ _ q=>q
theorem fP.laid (x:fP P w H h) (k:∀ b u,h.get? b=some u->h'.get? b=some u) (hp:h.objs.size<=a) (new:bB P w (upd H a o) h' a o):fP P w (upd H a o) h':=λb u e=>by
 have hn:=x.fresh hp
 by_cases hb:b=a
 ·subst hb;rw [ag] at e;cases e;exact new
 ·rw [au hb] at e
  exact (x b u e).hZ (λc v _ q=>k c v q) (λc q=>by rw [au (br q hn)];exact q) λc xs q=>by rw [au (br q hn)];exact q
end
def Rd (H:Hp) (a:Addr) (u:HO):Prop:=H a=some u∨∃ o,H a=some (.frz o u)
theorem Rd.of {H:Hp} {a:Addr} {u:HO} (h:H a=some u):Rd H a u:=.inl h
theorem Rd.ok {P:Program} {w:World} {H:Hp} {h:Heap} {a:Addr} {u:HO} (r:Rd H a u) (x:fP P w H h):bB P w H h a u:=by
 rcases r with r | ⟨o,r⟩
 ·exact x a u r
 ·obtain⟨_,q⟩:=x a _ r
  exact q
def DH:Option HO->Prop
 | some (.lst _)=>True
 | some (.dK _)=>True
 | some (.dT _)=>True
 | some (.set _ _)=>True
 | some (.ins _ _ _)=>True
 | some (.ext _)=>True
 | _=>False
section
variable {P:Program} {w:World} {H:Hp} {h h':Heap} {x e:Addr} {o':HO}
theorem fP.write (ok:fP P w H h) (mu:DH (H x)) (he:e=x∨H e=some (.own x)) (k:∀ b u,b≠e->h.get? b=some u->h'.get? b=some u) (heo:∃ u,h'.get? e=some u)
  (new:bB P w (upd H x o') h' x o'):fP P w (upd H x o') h':=λb u q=>by
 have nown:∀ c y,H c=some (.own y)->c≠x:=λc y r z=>by subst z;rw [r] at mu;exact mu
 have ntup:∀ c xs,H c=some (.tup xs)->c≠x:=λc xs r z=>by subst z;rw [r] at mu;exact mu
 by_cases hb:b=x
 ·subst hb;rw [ag] at q;cases q;exact new
 ·rw [au hb] at q
  by_cases hbe:b=e
  ·have q':H b=some (.own x):=by
    rcases he with z | z
    ·exact absurd (hbe.trans z) hb
    ·rw [hbe];exact z
   rw [q] at q';cases q'
   obtain⟨v,hv⟩:=heo
   exact⟨v,by rw [hbe];exact hv⟩
  ·refine (ok b u q).hZ (λc v hc r=>k c v ?_ r) (λc r=>by rw [au (nown c b r)];exact r) λc xs r=>by rw [au (ntup c xs r)];exact r
   rcases hc with rfl | hc
   ·exact hbe
   ·rintro rfl
    rcases he with z | z
    ·exact nown c b hc z
    ·rw [hc] at z;cases z;exact hb rfl
end
structure Un (fs ex:List Addr) (H H':Hp) (h h':Heap):Prop where
 keep:∀ b o,h.get? b=some o->H b=none->b∉fs->b∉ex->h'.get? b=some o
 slot:∀ b o,h.get? b=some o->H b=none->b∈fs->b∉ex->∃ sl,h'.get? b=some { o with slots:=sl }
 free:∀ b o,h.get? b=some o->H b=none->b∉ex->H' b=none
 there:∀ b o,h.get? b=some o->b∉ex->∃ o',h'.get? b=some o'
 tups:∀ b xs,H b=some (.tup xs)->H' b=some (.tup xs)
 frzs:∀ b o u,H b=some (.frz o u)->H' b=some (.frz o u)
 tbls:∀ b ps,H b=some (.tbl ps)->∃ more,H' b=some (.tbl (ps++more))
section
variable {fs fs' ex ex':List Addr} {H H1 H2:Hp} {h h1 h2 h':Heap} {a x e:Addr} {o:HO}
theorem Un.any (u:Un fs ex H H1 h h1) {b:Addr} {ob:Obj} (q:h.get? b=some ob) (n:H b=none) (hx:b∉ex):∃ sl,h1.get? b=some { ob with slots:=sl }:=by
 by_cases hb:b∈fs
 ·exact u.slot b ob q n hb hx
 ·exact⟨ob.slots,u.keep b ob q n hb hx⟩
theorem Un.kept (k:∀ b u,h.get? b=some u->h'.get? b=some u):Un fs ex H H h h' :=
 ⟨λb ob q _ _ _=>k b ob q,λb ob q _ _ _=>⟨ob.slots,k b ob q⟩,λ_ _ _ n _=>n,λb ob q _=>⟨ob,k b ob q⟩,λ_ _ q=>q,λ_ _ _ q=>q,λ_ ps q=>⟨#[],by rw [q];simp⟩⟩
theorem Un.refl:Un fs ex H H h h:=Un.kept λ_ _ q=>q
theorem Un.laid (k:∀ b u,h.get? b=some u->h'.get? b=some u) (hp:h.objs.size<=a) (hn:H a=none):Un fs ex H (upd H a o) h h' where
 keep:=λb u q _ _ _=>k b u q
 slot:=λb u q _ _ _=>⟨u.slots,k b u q⟩
 free:=λb u q n _=>by rw [au (Nat.ne_of_lt (Nat.lt_of_lt_of_le (Heap.lt_size q) hp))];exact n
 there:=λb u q _=>⟨u,k b u q⟩
 tups:=λb xs q=>by rw [au (br q hn)];exact q
 frzs:=λb u xs q=>by rw [au (br q hn)];exact q
 tbls:=λb ps q=>⟨#[],by rw [au (br q hn),q];simp⟩
theorem Un.write (mu:DH (H x)) (he:e=x∨H e=some (.own x)) (k:∀ b u,b≠e->h.get? b=some u->h'.get? b=some u) (heo:∃ u,h'.get? e=some u):Un fs ex H (upd H x o) h h':=by
 have hx:∀ b,H b=none->b≠x:=λb n z=>by subst z;rw [n] at mu;exact mu
 have hb:∀ b,H b=none->b≠e:=λb n z=>by
  subst z
  rcases he with r | r
  ·exact hx b n r
  ·rw [n] at r;cases r
 have hm:∀ b u,H b=some u->¬DH (some u)->b≠x:=λb u q nm z=>by subst z;rw [q] at mu;exact nm mu
 refine⟨λb u q n _ _=>k b u (hb b n) q,λb u q n _ _=>⟨u.slots,k b u (hb b n) q⟩,λb u q n _=>by rw [au (hx b n)];exact n,λb u q _=>?_,
  λb xs q=>by rw [au (hm b _ q λz=>z)];exact q,λb u xs q=>by rw [au (hm b _ q λz=>z)];exact q,λb ps q=>⟨#[],by rw [au (hm b _ q λz=>z),q];simp⟩⟩
 by_cases hbe:b=e
 ·subst hbe;exact heo
 ·exact⟨u,k b u hbe q⟩
theorem Un.mono (u:Un fs ex H H1 h h1) (hs:∀ b∈fs,b∈fs') (hx:∀ b∈ex,b∈ex'):Un fs' ex' H H1 h h1 :=
 ⟨λb ob q n hb he=>u.keep b ob q n (λz=>hb (hs b z)) λz=>he (hx b z),λ_ _ q n _ he=>u.any q n λz=>he (hx _ z),λb ob q n he=>u.free b ob q n λz=>he (hx b z),λb ob q he=>u.there b ob q λz=>he (hx b z),u.tups,u.frzs,u.tbls⟩
end
def ET (h:Heap) (H:Hp):List Addr:=(List.range h.objs.size).filter λa=>(H a).isSome
def nU (h:Heap) (H:Hp):Heap:=PySem.W.hideAll h (ET h H)
theorem uT (h:Heap) (H:Hp):(nU h H).objs.size=h.objs.size:=PySem.W.hideAll_size _ _
theorem wN {h:Heap} {H:Hp} {b:Addr} {o:Obj} (e:h.get? b=some o) (n:H b=none):(nU h H).get? b=some o :=
 PySem.W.hideAll_get _ e λhm=>by
  have q:(H b).isSome=true:=(List.mem_filter.mp hm).2
  rw [n] at q;simp at q
theorem zY {h:Heap} {H:Hp} {b:Addr} {o:Obj} (e:(nU h H).get? b=some o):h.get? b=some o/\H b=none:=by
 have e':h.get? b=some o:=PySem.W.of_hideAll (ET h H) e
 refine⟨e',?_⟩
 cases q:H b with
 | none=>rfl
 | some x =>
  have hm:b∈ET h H:=List.mem_filter.mpr ⟨List.mem_range.mpr (Heap.lt_size e'),by simp [q]⟩
  have z:(nU h H).get? b=none:=PySem.W.hideAll_none (ET h H) hm
  rw [z] at e;cases e
def zx (g h:Heap) (L:Addr):List (Addr × Obj):=(List.range h.objs.size).filterMap λa=>if a=L∨(g.get? a).isSome=true then none else (h.get? a).map λo=>(a,o)
def rest (g h:Heap) (L d:Addr):List (Addr × Obj):=(zx g h L).filter λp=>decide (p.1≠d)
structure Mod (K:PySem.W.Frag) (mg:Str->Option Value) (base:Heap):Prop where
 kin:K.In base
 glob:base.Ns mainGlobals mg
 blt:∃ mb,base.Ns builtinsNs mb/\∀ x:Str,x ≠ "__name__"->mb x=bootBuiltins x
 nolimit:base.NoLimit
structure Cx where
 prog:Program
 w:World
 K:PySem.W.Frag
 mg:Str->Option Value
 base:Heap
 A:Around
 N:List Str
 s₀:Shared
 H₀:Hp
 env:Env
 outer:List Env
 stack:List Env
 ex:List Addr
 fn:Str->Bool
 calm:Bool
 pn:List (Addr × Obj)
 xe:Value->Shared->Prop
def hJ (l:List Env):List Addr:=l.filterMap (·.frame)
abbrev Cx.fs (X:Cx):List Addr:=hJ X.outer
def Dw (sc:Scope) (x:Str):Prop:=sc.names.lookup x=some .local∨sc.names.lookup x=some .cell∨sc.names.lookup x=some .free
def Loc (sc:Scope) (x:Str):Prop:=sc.names.lookup x=some .local∨sc.names.lookup x=some .cell
def Look (env:Env) (h:Heap) (m:Str->Option Value) (x:Str) (u:Value):Prop :=
 (env.kindOf x=some .local/\m x=some u)∨((env.kindOf x=some .cell∨env.kindOf x=some .free)/\∃ c,env.cells.lookup x=some c/\h.IsCell c (some u))
structure Cx.Ok (X:Cx):Prop where
 mod:Mod X.K X.mg X.base
 kind:X.env.scope.kind=.function
 glob:X.env.globals=mainGlobals
 blt:X.env.builtins=builtinsNs
 above:X.s₀.heap.objs.size<=X.env.locals
 inj:∀ x y c,X.env.cells.lookup x=some c->X.env.cells.lookup y=some c->x=y
 has:∀ x,(X.env.kindOf x=some .cell∨X.env.kindOf x=some .free)->∃ c,X.env.cells.lookup x=some c
 cab:∀ x c,X.fn x=true->X.env.cells.lookup x=some c->X.s₀.heap.objs.size<=c
 hd:X.calm=true->X.A.handled=none
 frames:X.A.frames=some X.stack
 stk:X.stack=X.outer∨(X.stack=X.env::X.outer/\X.env.frame=some X.env.locals)
 exf:∀ b∈X.ex,b≠X.env.locals/\∀ x c,X.env.cells.lookup x=some c->c≠b
 bs:∀ b o,X.base.get? b=some o->X.s₀.heap.get? b=some o/\X.H₀ b=none
 bsz:X.base.objs.size<=X.s₀.heap.objs.size
 noex:∀ b o,X.base.get? b=some o->b∉X.ex
 exfs:∀ b∈X.ex,b∉X.fs
 kr:X.s₀.heap.FunFrames X.base X.outer
 frf:∀ b∈X.fs,X.H₀ b=none
structure Inv (X:Cx) (pins:List (Addr × Obj)) (σ:List (Option V)) (H:Hp) (s:Shared):Prop where
 ok:X.Ok
 os:s.os=X.s₀.os
 bare:AllBare s.gens
 base:Un X.fs X.ex X.H₀ H X.s₀.heap s.heap
 loc:∃ m,s.heap.Ns X.env.locals m/\∀(i:Nat) (x:Str) (v:V),X.N[i]?=some x->σ[i]?=some (some v)->Dw X.env.scope x->∃ u,RelV v u/\Look X.env s.heap m x u
 cell:∀ x c,X.env.cells.lookup x=some c->∃ v,s.heap.IsCell c v
 free:H X.env.locals=none
 freeC:∀ x c,X.env.cells.lookup x=some c->H c=none
 pin:∀ p∈X.pn++pins,s.heap.get? p.1=some p.2/\H p.1=none/\p.1≠X.env.locals/\p.1∉X.fs/\∀ v,p.2.data≠.cell v
 hok:fP X.prog X.w H s.heap
 len:σ.length=X.N.length
section
variable {X:Cx} {pins:List (Addr × Obj)} {σ:List (Option V)} {H H':Hp} {s:Shared} {h':Heap}
theorem Cx.Ok.Fm (ok:X.Ok) {b:Addr} {o:Obj} (e:X.base.get? b=some o):b∉X.fs:=λhb=>by
 have:=(ok.kr.mem hb).1
 rw [e] at this;cases this
theorem Inv.bs (I:Inv X pins σ H s):∀ b o,X.base.get? b=some o->s.heap.get? b=some o/\H b=none:=λb o e =>
 ⟨I.base.keep b o (I.ok.bs b o e).1 (I.ok.bs b o e).2 (I.ok.Fm e) (I.ok.noex b o e),I.base.free b o (I.ok.bs b o e).1 (I.ok.bs b o e).2 (I.ok.noex b o e)⟩
theorem Inv.bk (I:Inv X pins σ H s):∀ b o,X.base.get? b=some o->s.heap.get? b=some o:=λb o e=>(I.bs b o e).1
theorem Inv.mod (I:Inv X pins σ H s):Mod X.K X.mg X.base:=I.ok.mod
theorem Inv.fL (I:Inv X pins σ H s):X.K.In s.heap:=I.ok.mod.kin.keeps I.bk
theorem Inv.fr (I:Inv X pins σ H s):∃ m,Fr X.base X.env.locals s.heap m :=
 let ⟨m,hn,_⟩:=I.loc
 ⟨m,hn,I.bk,Nat.le_trans I.ok.bsz I.ok.above⟩
theorem Inv.lt (I:Inv X pins σ H s):X.env.locals<s.heap.objs.size:=let ⟨_,hn,_⟩:=I.loc;hn.lt
theorem Inv.sz (I:Inv X pins σ H s):X.s₀.heap.objs.size<=s.heap.objs.size:=Nat.le_trans I.ok.above (Nat.le_of_lt I.lt)
theorem Inv.zW (I:Inv X pins σ H s) {a:Addr} (h:s.heap.objs.size<=a):a∉X.fs:=λhb=>by
 obtain⟨_,o,ho,_⟩:=I.ok.kr.mem hb
 exact absurd (Nat.lt_of_lt_of_le (Heap.lt_size ho) (Nat.le_trans I.sz h)) (Nat.lt_irrefl _)
theorem Inv.B3 (I:Inv X pins σ H s):∀ x c,X.env.cells.lookup x=some c->c≠X.env.locals:=λx c e z=>by
 obtain⟨v,o,ho,hd⟩:=I.cell x c e
 obtain⟨m,⟨o',es,ep,ho',hd',_⟩,_⟩:=I.loc
 rw [z,ho'] at ho;cases ho;rw [hd'] at hd;cases hd
theorem Inv.kr (I:Inv X pins σ H s):s.heap.FunFrames X.base X.outer:=by
 have all:∀(l:List Env),(∀ b∈hJ l,b∈X.fs)->X.s₀.heap.FunFrames X.base l->s.heap.FunFrames X.base l:=by
  intro l
  induction l with
  | nil=>intro _ _;trivial
  | cons env r ih =>
   intro hs hl
   obtain⟨hk,⟨L,o,hf,hn,ho,hd⟩,hr⟩:=hl
   have hL:L∈X.fs:=hs L (by unfold hJ;rw [List.filterMap_cons,hf];exact List.mem_cons_self)
   obtain⟨sl,e⟩:=I.base.slot L o ho (I.ok.frf L hL) hL λz=>I.ok.exfs L z hL
   exact⟨hk,⟨L,_,hf,hn,e,hd⟩,ih (λb hb=>hs b (by unfold hJ;rw [List.filterMap_cons,hf];exact List.mem_cons_of_mem _ hb)) hr⟩
 exact all X.outer (λ_ hb=>hb) I.ok.kr
theorem Inv.stack (I:Inv X pins σ H s):s.heap.FunFrames X.base X.stack:=by
 rcases I.ok.stk with e | ⟨e,hf⟩
 ·rw [e];exact I.kr
 ·rw [e]
  obtain⟨m,hn,_⟩:=I.loc
  refine .cons (by rw [I.ok.kind];decide) hf hn ?_ I.kr
  exact Heap.get?_none_of_le (Nat.le_trans I.ok.bsz I.ok.above)
theorem Inv.gH (I:Inv X pins σ H s):∀ b∈hJ X.stack,b∈X.env.locals::X.fs:=λb hb=>by
 rcases I.ok.stk with e | ⟨e,hf⟩
 ·rw [e] at hb;exact List.mem_cons_of_mem _ hb
 ·rw [e] at hb
  unfold hJ at hb
  rw [List.filterMap_cons,hf] at hb
  exact hb
theorem Inv.jo (I:Inv X pins σ H s):∀ b∈hJ X.stack,H b=none:=λb hb=>by
 rcases List.mem_cons.mp (I.gH b hb) with e | hb
 ·rw [e];exact I.free
 ·obtain⟨_,o,ho,_⟩:=I.ok.kr.mem hb
  exact I.base.free b o ho (I.ok.frf b hb) λz=>I.ok.exfs b z hb
theorem Inv.step {g':Array GenState} {t':Nat} {d':Drawn} {ch:List Addr} (I:Inv X pins σ H s)
  (hch:∀ b∈ch,(b∈X.ex∨X.s₀.heap.objs.size<=b)/\b≠X.env.locals/\(∀ x c,X.env.cells.lookup x=some c->c≠b)/\∀ p∈X.pn++pins,p.1≠b)
  (keep:∀ b o,b≠X.env.locals->b∉X.fs->b∉ch->s.heap.get? b=some o->H b=none->h'.get? b=some o)
  (slot:∀ b o,b≠X.env.locals->b∈X.fs->b∉ch->s.heap.get? b=some o->H b=none->∃ sl,h'.get? b=some { o with slots:=sl }) (free:∀ b o,b∉ch->s.heap.get? b=some o->H b=none->H' b=none)
  (there:∀ b o,b∉ch->s.heap.get? b=some o->∃ o',h'.get? b=some o')
  (tups:∀ b xs,H b=some (.tup xs)->H' b=some (.tup xs)) (frzs:∀ b o u,H b=some (.frz o u)->H' b=some (.frz o u)) (tbls:∀ b ps,H b=some (.tbl ps)->∃ more,H' b=some (.tbl (ps++more)))
  (ns:∀ m,s.heap.Ns X.env.locals m->h'.Ns X.env.locals m) (hok:fP X.prog X.w H' h') (hg:AllBare g') :
  Inv X pins σ H' { s with heap:=h',gens:=g',drawn:=d',toks:=t' }:=by
 have neL:∀ b o,X.s₀.heap.get? b=some o->b≠X.env.locals:=λb o e=>Nat.ne_of_lt (Nat.lt_of_lt_of_le (Heap.lt_size e) I.ok.above)
 have neC:∀ b o,X.s₀.heap.get? b=some o->b∉X.ex->b∉ch:=λb o e hx hb=>by
  rcases (hch b hb).1 with z | z
  ·exact hx z
  ·exact absurd (Nat.lt_of_lt_of_le (Heap.lt_size e) z) (Nat.lt_irrefl _)
 have cellK:∀ x c,X.env.cells.lookup x=some c->∀ v,s.heap.IsCell c v->h'.IsCell c v:=λx c e v ⟨o,ho,hd⟩=>by
  have nch:c∉ch:=λz=>(hch c z).2.2.1 x c e rfl
  by_cases hc:c∈X.fs
  ·obtain⟨sl,q⟩:=slot c o (I.B3 x c e) hc nch ho (I.freeC x c e)
   exact⟨_,q,hd⟩
  ·exact⟨o,keep c o (I.B3 x c e) hc nch ho (I.freeC x c e),hd⟩
 refine⟨I.ok,I.os,hg,⟨λb o e n hb hx=>?_,λb o e n hb hx=>?_,λb o e n hx=>?_,λb o e hx=>?_,λb xs e=>tups b xs (I.base.tups b xs e),λb o xs e=>frzs b o xs (I.base.frzs b o xs e),λb ps e=>?_⟩,?_,λx c e=>?_,?_,λx c e=>?_,λp hp=>?_,hok,I.len⟩
 ·exact keep b o (neL b o e) hb (neC b o e hx) (I.base.keep b o e n hb hx) (I.base.free b o e n hx)
 ·obtain⟨sl,e1⟩:=I.base.slot b o e n hb hx
  obtain⟨sl',e2⟩:=slot b _ (neL b o e) hb (neC b o e hx) e1 (I.base.free b o e n hx)
  exact⟨sl',e2⟩
 ·obtain⟨o',e1⟩:=I.base.there b o e hx
  exact free b o' (neC b o e hx) e1 (I.base.free b o e n hx)
 ·obtain⟨o',e1⟩:=I.base.there b o e hx
  exact there b o' (neC b o e hx) e1
 ·obtain⟨m1,e1⟩:=I.base.tbls b ps e
  obtain⟨m2,e2⟩:=tbls b _ e1
  exact⟨m1++m2,by rw [e2,Array.append_assoc]⟩
 ·obtain⟨m,hn,hl⟩:=I.loc
  refine⟨m,ns m hn,λi x v e1 e2 e3=>?_⟩
  obtain⟨u,r,l⟩:=hl i x v e1 e2 e3
  refine⟨u,r,?_⟩
  rcases l with l | ⟨k,c,e,z⟩
  ·exact .inl l
  ·exact .inr ⟨k,c,e,cellK x c e _ z⟩
 ·obtain⟨v,z⟩:=I.cell x c e
  exact⟨v,cellK x c e v z⟩
 ·obtain⟨m,⟨o,_,_,ho,_⟩,_⟩:=I.loc
  exact free _ o (λz=>(hch _ z).2.1 rfl) ho I.free
 ·obtain⟨v,o,ho,hd⟩:=I.cell x c e
  exact free c o (λz=>(hch c z).2.2.1 x c e rfl) ho (I.freeC x c e)
 ·obtain⟨e,n,ne,nf,d⟩:=I.pin p hp
  have nch:p.1∉ch:=λz=>(hch p.1 z).2.2.2 p hp rfl
  exact⟨keep p.1 p.2 ne nf nch e n,free p.1 p.2 nch e n,ne,nf,d⟩
theorem Inv.un {t':Nat} (I:Inv X pins σ H s) (u:Un X.fs [] H H' s.heap h') (hok:fP X.prog X.w H' h'):Inv X pins σ H' { s with heap:=h',toks:=t' }:=by
 obtain⟨m,⟨o,es,ep,ho,r⟩,_⟩:=id I.loc
 obtain⟨sl,hL⟩:=u.any ho I.free (by simp)
 exact I.step (g':=s.gens) (d':=s.drawn) (ch:=[]) (λ_ z=>nomatch z) (λb o _ hb _ e n=>u.keep b o e n hb (by simp)) (λb o _ hb _ e n=>u.slot b o e n hb (by simp)) (λb o _ e n=>u.free b o e n (by simp)) (λb o _ e=>u.there b o e (by simp)) u.tups u.frzs u.tbls (λm' hm=>by
  obtain⟨o',es',ep',ho',r'⟩:=hm
  rw [ho] at ho';cases ho'
  exact⟨_,es',ep',hL,r'⟩) hok I.bare
theorem Inv.call {g':Array GenState} {t':Nat} {d':Drawn} {ch:List Addr} (I:Inv X pins σ H s) (u:Un (hJ X.stack) ch H H' s.heap h') (hok:fP X.prog X.w H' h') (hg:AllBare g')
  (hch:∀ b∈ch,(b∈X.ex∨X.s₀.heap.objs.size<=b)/\b≠X.env.locals/\(∀ x c,X.env.cells.lookup x=some c->c≠b)/\∀ p∈X.pn++pins,p.1≠b) :
  Inv X pins σ H' { s with heap:=h',gens:=g',drawn:=d',toks:=t' }:=by
 obtain⟨m,⟨o,es,ep,ho,r⟩,_⟩:=id I.loc
 obtain⟨sl,hL⟩:=u.any ho I.free λz=>(hch _ z).2.1 rfl
 exact I.step (ch:=ch) hch (λb o hL hb hc e n=>u.keep b o e n (λz=>(List.mem_cons.mp (I.gH b z)).elim hL hb) hc) (λb o _ _ hc e n=>u.any e n hc) (λb o hc e n=>u.free b o e n hc) (λb o hc e=>u.there b o e hc) u.tups u.frzs u.tbls (λm' hm=>by
  obtain⟨o',es',ep',ho',r'⟩:=hm
  rw [ho] at ho';cases ho'
  exact⟨_,es',ep',hL,r'⟩) hok hg
theorem Inv.turned {t':Nat} {it:Addr} (I:Inv X pins σ H s) (k:∀ b o,b≠it->s.heap.get? b=some o->h'.get? b=some o) (hn:H it=none) (hL:it≠X.env.locals)
  (h1:it∈X.ex∨X.s₀.heap.objs.size<=it) (h2:∀ x c,X.env.cells.lookup x=some c->c≠it) (h3:∀ p∈X.pn++pins,p.1≠it):Inv X pins σ H { s with heap:=h',toks:=t' }:=by
 have nit:∀ b u,H b=some u->b≠it:=λb u e z=>by rw [z,hn] at e;cases e
 refine I.step (g':=s.gens) (d':=s.drawn) (ch:=[it]) (λb hb=>?_) (λb o _ _ hc e _=>k b o (λz=>hc (by simp [z])) e) (λb o _ _ hc e _=>⟨o.slots,k b o (λz=>hc (by simp [z])) e⟩) (λ_ _ _ _ n=>n)
  (λb o hc e=>⟨o,k b o (λz=>hc (by simp [z])) e⟩) (λ_ _ e=>e) (λ_ _ _ e=>e) (λb ps e=>⟨#[],by rw [e];simp⟩) (λm hm=>?_) (λb u e=>?_) I.bare
 ·have e:b=it:=by simpa using hb
  subst e
  exact⟨h1,hL,h2,h3⟩
 ·obtain⟨o,es,ep,ho,r⟩:=hm
  exact⟨o,es,ep,k _ o (Ne.symm hL) ho,r⟩
 ·refine (I.hok b u e).hZ (λc v hc q=>k c v ?_ q) (λ_ q=>q) λ_ _ q=>q
  rcases hc with z | z
  ·rw [z];exact nit b u e
  ·exact nit c _ z
theorem Inv.tok (I:Inv X pins σ H s) (t:Nat):Inv X pins σ H { s with toks:=t }:=I.un (h':=s.heap) (t':=t) Un.refl I.hok
theorem Inv.kept {t':Nat} (I:Inv X pins σ H s) (k:∀ b u,s.heap.get? b=some u->h'.get? b=some u):Inv X pins σ H { s with heap:=h',toks:=t' }:=I.un (Un.kept k) (I.hok.kept k)
theorem Inv.laid {a:Addr} {o:HO} {t':Nat} (I:Inv X pins σ H s) (k:∀ b u,s.heap.get? b=some u->h'.get? b=some u) (hp:s.heap.objs.size<=a) (new:bB X.prog X.w (upd H a o) h' a o) :
  Inv X pins σ (upd H a o) { s with heap:=h',toks:=t' }:=I.un (Un.laid k hp (I.hok.fresh hp)) (I.hok.laid k hp new)
theorem Inv.write {x e:Addr} {o:HO} {t':Nat} (I:Inv X pins σ H s) (mu:DH (H x)) (he:e=x∨H e=some (.own x)) (k:∀ b u,b≠e->s.heap.get? b=some u->h'.get? b=some u) (heo:∃ u,h'.get? e=some u)
  (new:bB X.prog X.w (upd H x o) h' x o):Inv X pins σ (upd H x o) { s with heap:=h',toks:=t' }:=I.un (Un.write mu he k heo) (I.hok.write mu he k heo new)
theorem Inv.weak {σ':List (Option V)} (I:Inv X pins σ H s) (hl:σ'.length=σ.length) (w:∀(i:Nat) v,σ'[i]?=some (some v)->σ[i]?=some (some v)):Inv X pins σ' H s :=
 ⟨I.ok,I.os,I.bare,I.base,let ⟨m,hn,hl'⟩:=I.loc;⟨m,hn,λi x v e1 e2 e3=>hl' i x v e1 (w i v e2) e3⟩,I.cell,I.free,I.freeC,I.pin,I.hok,hl.trans I.len⟩
theorem Inv.gQ {pins':List (Addr × Obj)} (I:Inv X pins σ H s) (h:∀ p∈pins',s.heap.get? p.1=some p.2/\H p.1=none/\p.1≠X.env.locals/\p.1∉X.fs/\∀ v,p.2.data≠.cell v):Inv X pins' σ H s :=
 ⟨I.ok,I.os,I.bare,I.base,I.loc,I.cell,I.free,I.freeC,λp hp=>(List.mem_append.mp hp).elim (λz=>I.pin p (List.mem_append_left _ z)) (h p),I.hok,I.len⟩
theorem qr {N:List Str} (hN:N.Nodup) {i j:Nat} {x:Str} (a:N[i]?=some x) (b:N[j]?=some x):i=j:=by
 obtain⟨h1,e1⟩:=List.getElem?_eq_some_iff.mp a
 obtain⟨h2,e2⟩:=List.getElem?_eq_some_iff.mp b
 exact (List.getElem_inj hN).mp (e1.trans e2.symm)
theorem vM {M:Model} {A:Around} {E:Value->Shared->Prop} {i:Nat} {x:Str} {v:V} {u:Value} {Q:Unit->Shared->Prop} (I:Inv X pins σ H s) (hN:X.N.Nodup) (hi:X.N[i]?=some x) (hx:Loc X.env.scope x) (r:RelV v u)
  (h:∀ s',Inv X pins (σ.set i (some v)) H s'->(∃ a,Heap.SameBut a s.heap s'.heap/\(a=X.env.locals∨X.env.cells.lookup x=some a))->Q () s') (hf:X.fn x=true∨X.env.scope.names.lookup x=some .local:=by first | exact .inl rfl | exact .inr rfl | assumption):wpAny M A (storeName X.env x u) Q E s:=by
 obtain⟨m,hn,hl⟩:=id I.loc
 have hcls:(X.env.scope.kind==.class || (X.env.scope.kind==.module && X.env.locals != X.env.globals))=false:=by rw [I.ok.kind];rfl
 have hiσ:i<σ.length:=by rw [I.len];exact (List.getElem?_eq_some_iff.mp hi).1
 have B3:=I.B3
 have tracked:∀{a:Addr} {h':Heap},(∃ o,s.heap.get? a=some o/\H a=none)->Heap.SameBut a s.heap h'->fP X.prog X.w H h':=λ{a h'} ha hs b ob e=>by
  obtain⟨_,_,hfree⟩:=ha
  refine (I.hok b ob e).hZ (λc w' hc q=>(hs.2 c ?_).trans q) (λ_ q=>q) λ_ _ q=>q
  rintro rfl
  rcases hc with rfl | hc
  ·rw [hfree] at e;cases e
  ·rw [hfree] at hc;cases hc
 rcases hx with hk | hk
 ·refine wpAny_storeName_local hk hn (λh' hn' hs=>?_) hcls
  obtain⟨oL,_,_,hoL,_⟩:=id hn
  refine h _ ⟨I.ok,I.os,I.bare,⟨λb o e n hb hx=>?_,λb o e n hb hx=>?_,I.base.free,λb o e hx=>?_,I.base.tups,I.base.frzs,I.base.tbls⟩,⟨_,hn',λj y v' e1 e2 e3=>?_⟩,λy c e=>?_,I.free,I.freeC,λp hp=>?_,tracked ⟨oL,hoL,I.free⟩ hs,by simpa using I.len⟩ ⟨_,hs,.inl rfl⟩
  ·exact (hs.2 b (Nat.ne_of_lt (Nat.lt_of_lt_of_le (Heap.lt_size e) I.ok.above))).trans (I.base.keep b o e n hb hx)
  ·obtain⟨sl,e1⟩:=I.base.slot b o e n hb hx
   exact⟨sl,(hs.2 b (Nat.ne_of_lt (Nat.lt_of_lt_of_le (Heap.lt_size e) I.ok.above))).trans e1⟩
  ·obtain⟨o',e1⟩:=I.base.there b o e hx
   exact⟨o',(hs.2 b (Nat.ne_of_lt (Nat.lt_of_lt_of_le (Heap.lt_size e) I.ok.above))).trans e1⟩
  ·by_cases hj:j=i
   ·subst hj
    rw [hi] at e1;cases e1
    rw [List.getElem?_set_self hiσ] at e2
    cases e2
    exact⟨u,r,.inl ⟨hk,by simp⟩⟩
   ·rw [List.getElem?_set_ne (Ne.symm hj)] at e2
    obtain⟨u',r',q⟩:=hl j y v' e1 e2 e3
    refine⟨u',r',?_⟩
    rcases q with⟨k,e⟩|⟨k,c,e,z⟩
    ·refine .inl ⟨k,?_⟩
     have:y≠x:=λe=>hj (qr hN e1 (e▸hi))
     simp [this,e]
    ·exact .inr ⟨k,c,e,z.sameBut hs (B3 y c e)⟩
  ·obtain⟨w',z⟩:=I.cell y c e
   exact⟨w',z.sameBut hs (B3 y c e)⟩
  ·obtain⟨e,n,ne,nf,d⟩:=I.pin p hp
   exact⟨(hs.2 p.1 ne).trans e,n,ne,nf,d⟩
 ·have hfn:X.fn x=true:=by
   rcases hf with z | z
   ·exact z
   ·rw [z] at hk;cases hk
  obtain⟨c,hc⟩:=I.ok.has x (.inl hk)
  obtain⟨w',z⟩:=I.cell x c hc
  refine wpAny_storeName_cell I.ok.kind hk hc z (λh' hc' hs=>?_)
  obtain⟨oc,hoc,hocd⟩:=id z
  refine h { s with heap:=h' } ⟨I.ok,I.os,I.bare,⟨λb o e n hb hx=>?_,λb o e n hb hx=>?_,I.base.free,λb o e hx=>?_,I.base.tups,I.base.frzs,I.base.tbls⟩,⟨m,hn.sameBut hs (Ne.symm (B3 x c hc)),λj y v' e1 e2 e3=>?_⟩,λy c' e=>?_,I.free,I.freeC,λp hp=>?_,tracked ⟨oc,hoc,I.freeC x c hc⟩ hs,by simpa using I.len⟩ ⟨c,hs,.inr hc⟩
  ·exact (hs.2 b (Nat.ne_of_lt (Nat.lt_of_lt_of_le (Heap.lt_size e) (I.ok.cab x c hfn hc)))).trans (I.base.keep b o e n hb hx)
  ·obtain⟨sl,e1⟩:=I.base.slot b o e n hb hx
   exact⟨sl,(hs.2 b (Nat.ne_of_lt (Nat.lt_of_lt_of_le (Heap.lt_size e) (I.ok.cab x c hfn hc)))).trans e1⟩
  ·obtain⟨o',e1⟩:=I.base.there b o e hx
   exact⟨o',(hs.2 b (Nat.ne_of_lt (Nat.lt_of_lt_of_le (Heap.lt_size e) (I.ok.cab x c hfn hc)))).trans e1⟩
  ·by_cases hj:j=i
   ·subst hj
    rw [hi] at e1;cases e1
    rw [List.getElem?_set_self hiσ] at e2
    cases e2
    exact⟨u,r,.inr ⟨.inl hk,c,hc,hc'⟩⟩
   ·rw [List.getElem?_set_ne (Ne.symm hj)] at e2
    obtain⟨u',r',q⟩:=hl j y v' e1 e2 e3
    refine⟨u',r',?_⟩
    rcases q with q | ⟨k,c',e,z'⟩
    ·exact .inl q
    ·refine .inr ⟨k,c',e,z'.sameBut hs ?_⟩
     rintro rfl
     exact hj (qr hN e1 (I.ok.inj _ _ _ e hc▸hi))
  ·by_cases hcc:c'=c
   ·subst hcc;exact⟨_,hc'⟩
   ·obtain⟨w2,z2⟩:=I.cell y c' e
    exact⟨w2,z2.sameBut hs hcc⟩
  ·obtain⟨e,n,ne,nf,d⟩:=I.pin p hp
   refine⟨(hs.2 p.1 ?_).trans e,n,ne,nf,d⟩
   intro q
   rw [q,hoc] at e
   have q':oc=p.2:=Option.some.inj e
   exact d w' (by rw [<- q'];exact hocd)
theorem c8 {M:Model} {A:Around} {E:Value->Shared->Prop} {i:Nat} {x:Str} {v:V} {u:Value} {Q:Unit->Shared->Prop} (I:Inv X pins σ H s) (hN:X.N.Nodup) (hi:X.N[i]?=some x) (hx:Loc X.env.scope x) (r:RelV v u)
  (h:∀ s',Inv X pins (σ.set i (some v)) H s'->Q () s') (hf:X.fn x=true∨X.env.scope.names.lookup x=some .local:=by first | exact .inl rfl | exact .inr rfl | assumption):wpAny M A (storeName X.env x u) Q E s :=
 vM I hN hi hx r (λs' I' _=>h s' I') hf
theorem Inv.DM {s':Shared} {ch:List Addr} (I:Inv X pins σ H s) (ho:s'.os=s.os) (u:Un (hJ X.stack) ch H H' s.heap s'.heap) (hok:fP X.prog X.w H' s'.heap) (hg:AllBare s'.gens)
  (hch:∀ b∈ch,(b∈X.ex∨X.s₀.heap.objs.size<=b)/\b≠X.env.locals/\(∀ x c,X.env.cells.lookup x=some c->c≠b)/\∀ p∈X.pn++pins,p.1≠b):Inv X pins σ H' s':=by
 obtain⟨h',g',d',t',o'⟩:=s'
 have e:o'=s.os:=ho
 subst e
 exact I.call (g':=g') (t':=t') (d':=d') u hok hg hch
end
abbrev XK:=Value->Option Addr->Hp->Prop
abbrev St:=List (Option V)
abbrev VK:=V->Hp->Prop
abbrev TE:=St->Hp->VK->Prop
abbrev TT:=St->Hp->(Bool->Hp->Prop)->Prop
abbrev TA:=St->Hp->(List V->Hp->Prop)->Prop
structure Ends where
 nx:St->Hp->Prop
 rt:VK
 bk:St->Hp->Prop:=λ_ _=>False
 ct:St->Hp->Prop:=λ_ _=>False
abbrev TS:=Ends->St->Hp->Prop
def EP (X:Cx) (pins:List (Addr × Obj)) (σ:St) (Q:VK) (u:Value) (s':Shared):Prop:=∃ v H',Inv X pins σ H' s'/\RelV v u/\Q v H'
def TP (X:Cx) (pins:List (Addr × Obj)) (σ:St) (Q:Bool->Hp->Prop) (b:Bool) (s':Shared):Prop:=∃ H',Inv X pins σ H' s'/\Q b H'
def AP (X:Cx) (pins:List (Addr × Obj)) (σ:St) (Q:List V->Hp->Prop) (us:List Value) (s':Shared):Prop:=∃ vs H',Inv X pins σ H' s'/\Vals vs us/\Q vs H'
def SP (X:Cx) (pins:List (Addr × Obj)) (D:Ends) (f:Flow) (s':Shared):Prop :=
 match f with
 | .next=>∃ σ' H',Inv X pins σ' H' s'/\D.nx σ' H'
 | .brk=>∃ σ' H',Inv X pins σ' H' s'/\D.bk σ' H'
 | .cont=>∃ σ' H',Inv X pins σ' H' s'/\D.ct σ' H'
 | .ret u=>∃ v σ' H',Inv X pins σ' H' s'/\RelV v u/\D.rt v H'
def PE (X:Cx) (e:Expr) (t:TE):Prop :=
 ∀(pins:List (Addr × Obj)) (s:Shared) (σ:St) (H:Hp) (Q:VK),Inv X pins σ H s->t σ H Q->wpAny (model X.prog X.w) X.A (eval e X.env) (EP X pins σ Q) X.xe s
def PT (X:Cx) (e:Expr) (t:TT):Prop :=
 ∀(pins:List (Addr × Obj)) (s:Shared) (σ:St) (H:Hp) (Q:Bool->Hp->Prop),Inv X pins σ H s->t σ H Q->wpAny (model X.prog X.w) X.A (isTrue e X.env (eval e X.env)) (TP X pins σ Q) X.xe s
def PW (X:Cx) (e:Expr) (t:TT):Prop :=
 ∀(whole:Sem Value) (pins:List (Addr × Obj)) (s:Shared) (σ:St) (H:Hp) (Q:Bool->Hp->Prop),Inv X pins σ H s->t σ H Q->wpAny (model X.prog X.w) X.A (isTrue e X.env whole) (TP X pins σ Q) X.xe s
theorem PW.pt {X:Cx} {e:Expr} {t:TT} (h:PW X e t):PT X e t:=h _
def PA (X:Cx) (es:List Expr) (t:TA):Prop :=
 ∀(pos:Pos) (pins:List (Addr × Obj)) (s:Shared) (σ:St) (H:Hp) (Q:List V->Hp->Prop),Inv X pins σ H s->t σ H Q->wpAny (model X.prog X.w) X.A (spliced (backTo pos (starEach es X.env))) (AP X pins σ Q) X.xe s
def PS (X:Cx) (st:Stmt) (t:TS):Prop :=
 ∀(pins:List (Addr × Obj)) (s:Shared) (σ:St) (H:Hp) (D:Ends),Inv X pins σ H s->t D σ H->wpAny (model X.prog X.w) X.A (exec st X.env) (SP X pins D) X.xe s
def gK (X:Cx) (st:List Stmt) (t:TS):Prop :=
 ∀(pins:List (Addr × Obj)) (s:Shared) (σ:St) (H:Hp) (D:Ends),Inv X pins σ H s->t D σ H->wpAny (model X.prog X.w) X.A (execs st X.env) (SP X pins D) X.xe s
theorem bc {α:Type} {t:Sem α} {Q Q':α->Shared->Prop} {M:Model} {A:Around} {E:Value->Shared->Prop} {s:Shared} (h:wpAny M A t Q E s) (hQ:∀ a s,Q a s->Q' a s):wpAny M A t Q' E s:=wpAny_mono h hQ λ_ _ x=>x
section
variable {X:Cx}
def vO (i:Nat):TE:=λσ H Q=>∃ v,σ[i]?=some (some v)/\Q v H
def tC (v:V):TE:=λ_ H Q=>Q v H
theorem sD {i:Nat} {x:Str} {pos:Pos} (hN:X.N[i]?=some x) (hv:Dw X.env.scope x) (hd:(x==("__debug__":Str))=false:=by decide) (hcd:(x==("__classdict__":Str))=false:=by decide):PE X (.Name x pos) (vO i):=by
 intro pins s σ H Q I h
 obtain⟨v,e,h⟩:=h
 obtain⟨m,hn,hl⟩:=I.loc
 obtain⟨u,r,l⟩:=hl i x v hN e hv
 have fin:EP X pins σ Q u s:=⟨v,H,I,r,h⟩
 rcases l with⟨hk,hm⟩|⟨hk,c,hc,hcell⟩
 ·exact wpAny_Name (wpAny_loadName_local I.ok.kind hk hn hm fin) hd
 ·rcases hk with hk | hk
  ·exact wpAny_Name (wpAny_loadName_cell I.ok.kind hk hc hcell fin) hd
  ·exact wpAny_Name (wpAny_loadName_free I.ok.kind hk hc hcell fin hcd) hd
theorem ah {i j pos}:PE X (.Constant (.int i) j pos) (tC (.int i)):=λ_ _ _ H _ I h=>wpAny_Constant_int ⟨.int i,H,I.tok _,⟨_,rfl⟩,h⟩
theorem cZ {b j pos}:PE X (.Constant (.bool b) j pos) (tC (.bl b)):=λ_ _ _ H _ I h=>Constant_bool ⟨.bl b,H,I,rfl,h⟩
theorem fY {j pos}:PE X (.Constant .none j pos) (tC .non):=λ_ _ _ H _ I h=>Constant_none ⟨.non,H,I,rfl,h⟩
theorem bL {x j pos}:PE X (.Constant (.str x) j pos) (tC (.str x)):=λ_ _ _ H _ I h=>Calls.Constant_str ⟨.str x,H,I.tok _,⟨_,rfl⟩,h⟩
def Gl (X:Cx) (x:Str):Prop:=X.env.kindOf x=some .globalImplicit
theorem iZ {E:Value->Shared->Prop} {pins:List (Addr × Obj)} {s:Shared} {σ:St} {H:Hp} {x:Str} {u:Value} {pos:Pos} {Q:Value->Shared->Prop} (I:Inv X pins σ H s) (hg:Gl X x) (hm:X.mg x=some u) (h:Q u s)
  (hd:(x==("__debug__":Str))=false:=by decide):wpAny (model X.prog X.w) X.A (eval (.Name x pos) X.env) Q E s :=
 Calls.Name_function_global I.ok.kind hg (Calls.loadGlobal_global (by rw [I.ok.glob];exact I.mod.glob.keeps I.bk) hm h) hd
theorem fU {E:Value->Shared->Prop} {pins:List (Addr × Obj)} {s:Shared} {σ:St} {H:Hp} {x:Str} {u:Value} {pos:Pos} {Q:Value->Shared->Prop} (I:Inv X pins σ H s) (hg:Gl X x) (hm:X.mg x=none) (hv:bootBuiltins x=some u) (h:Q u s)
  (hn:x ≠ "__name__":=by decide) (hd:(x==("__debug__":Str))=false:=by decide):wpAny (model X.prog X.w) X.A (eval (.Name x pos) X.env) Q E s:=by
 obtain⟨mb,h1,h2⟩:=I.mod.blt
 exact Calls.Name_function_global I.ok.kind hg (Calls.loadGlobal_builtin (by rw [I.ok.glob];exact I.mod.glob.keeps I.bk) hm (by rw [I.ok.blt];exact h1.keeps I.bk) ((h2 x hn).trans hv) h) hd
theorem i5 {x:Str} {v:V} {u:Value} {pos:Pos} (hg:Gl X x) (hm:X.mg x=some u) (r:RelV v u) (hd:(x==("__debug__":Str))=false:=by decide):PE X (.Name x pos) (tC v) :=
 λ_ _ _ H _ I h=>iZ I hg hm ⟨v,H,I,r,h⟩ hd
theorem bP {x:Str} {v:V} {u:Value} {pos:Pos} (hg:Gl X x) (hm:X.mg x=none) (hv:bootBuiltins x=some u) (r:RelV v u) (hn:x ≠ "__name__":=by decide) (hd:(x==("__debug__":Str))=false:=by decide):PE X (.Name x pos) (tC v) :=
 λ_ _ _ H _ I h=>fU I hg hm hv ⟨v,H,I,r,h⟩ hn hd
variable {a b:Expr} {ta tb:TE} {pos:Pos}
def PC (X:Cx) (op:CmpOp) (a b:Expr) (t:TE):Prop :=
 ∀(pins:List (Addr × Obj)) (s:Shared) (σ:St) (H:Hp) (Q:VK),Inv X pins σ H s->t σ H Q ->
  wpAny (model X.prog X.w) X.A (eval a X.env) (λv s₁=>wpAny (model X.prog X.w) X.A (eval b X.env) (λu s₂=>wpAny (model X.prog X.w) X.A (compareOp op v u) (EP X pins σ Q) X.xe s₂) X.xe s₁) X.xe s
theorem xh (b:Expr) {op:CmpOp} (h:op≠.In) (h2:op≠.NotIn):behindInMarks op b=false:=by
 have e1:(op==CmpOp.In)=false:=by cases op<;>first | rfl | exact absurd rfl h
 have e2:(op==CmpOp.NotIn)=false:=by cases op<;>first | rfl | exact absurd rfl h2
 cases b<;>simp [behindInMarks,e1,e2]
def tB (t:TE):TT:=λσ H Q=>t σ H λx H1=>∃ c,x=.bl c/\Q c H1
theorem yh {op:CmpOp} {t:TE} (h:PC X op a b t) (h1:behindInMarks op b=false:=by first | exact xh _ (by decide) (by decide) | rfl):PT X (.Compare a [op] [b] pos) (tB t):=by
 intro pins s σ H Q I hw
 refine wpAny_isTrue_Compare1 (bc (h pins s σ H _ I hw) λv s1 h1=>bc h1 λu s2 h2=>bc h2 λc s3 ⟨x,H1,I1,r1,q1⟩=>?_) h1
 obtain⟨d,rfl,q⟩:=q1
 cases r1
 exact wpAny_truthy_bool ⟨H1,I1,q⟩
variable {tA tB':TT} {rest:List Expr}
def Es (t u:TT):TT:=λσ H Q=>t σ H λc H1=>if c=true then u σ H1 Q else Q false H1
def FN (t u:TT):TT:=λσ H Q=>t σ H λc H1=>if c=true then Q true H1 else u σ H1 Q
def EC (t:TT):TT:=λσ H Q=>t σ H λc H1=>Q (!c) H1
theorem gS (ha:PT X a tA):PW X (.BoolOp .And [a] pos) tA:=by
 intro wh pins s σ H Q I h
 refine isTrue_and (bc (ha pins s σ H Q I h) λc s1 e=>?_)
 cases c with
 | true=>exact isTrue_and_nil e
 | false=>exact e
theorem fE (ha:PT X a tA):PW X (.BoolOp .Or [a] pos) tA:=by
 intro wh pins s σ H Q I h
 refine isTrue_or (bc (ha pins s σ H Q I h) λc s1 e=>?_)
 cases c with
 | false=>exact isTrue_or_nil e
 | true=>exact e
theorem gj (ha:PT X a tA) (hb:PW X (.BoolOp .And (b::rest) pos) tB'):PW X (.BoolOp .And (a::b::rest) pos) (Es tA tB'):=by
 intro wh pins s σ H Q I h
 refine isTrue_and (bc (ha pins s σ H _ I h) λc s1 ⟨H1,I1,q1⟩=>?_)
 cases c with
 | true=>exact hb wh pins s1 σ H1 Q I1 q1
 | false=>exact⟨H1,I1,q1⟩
theorem gk (ha:PT X a tA) (hb:PW X (.BoolOp .Or (b::rest) pos) tB'):PW X (.BoolOp .Or (a::b::rest) pos) (FN tA tB'):=by
 intro wh pins s σ H Q I h
 refine isTrue_or (bc (ha pins s σ H _ I h) λc s1 ⟨H1,I1,q1⟩=>?_)
 cases c with
 | true=>exact⟨H1,I1,q1⟩
 | false=>exact hb wh pins s1 σ H1 Q I1 q1
theorem dH (ha:PT X a tA):PT X (.UnaryOp .Not a pos) (EC tA):=by
 intro pins s σ H Q I h
 exact isTrue_not (ha pins s σ H (λc H1=>Q (!c) H1) I h)
def BC (ta tb:TE):TE:=λσ H Q=>ta σ H λx H1=>∃ c,x=.bl c/\if c=true then tb σ H1 Q else Q (.bl false) H1
def Fz (ta tb:TE):TE:=λσ H Q=>ta σ H λx H1=>∃ c,x=.bl c/\if c=true then Q (.bl true) H1 else tb σ H1 Q
def BH (ta:TE):TE:=λσ H Q=>ta σ H λx H1=>∃ c,x=.bl c/\Q (.bl (!c)) H1
theorem c5 {op} {t:TE} (h:PE X a t):PE X (.BoolOp op [a] pos) t:=λpins s σ H Q I hw=>BoolOp_one (h pins s σ H Q I hw)
theorem bV (ha:PE X a ta) (hb:PE X (.BoolOp .And (b::rest) pos) tb):PE X (.BoolOp .And (a::b::rest) pos) (BC ta tb):=by
 intro pins s σ H Q I h
 refine BoolOp_and (bc (ha pins s σ H _ I h) λv s1 ⟨x,H1,I1,r1,q1⟩=>?_)
 obtain⟨c,rfl,q1⟩:=q1
 cases r1
 refine wpAny_truthy_bool ?_
 cases c with
 | true=>exact hb pins s1 σ H1 Q I1 q1
 | false=>exact⟨.bl false,H1,I1,rfl,q1⟩
theorem CV (ha:PE X a ta):PE X (.UnaryOp .Not a pos) (BH ta):=by
 intro pins s σ H Q I h
 refine UnaryOp_ (bc (ha pins s σ H _ I h) λv s1 ⟨x,H1,I1,r1,q1⟩=>?_)
 obtain⟨c,rfl,q1⟩:=q1
 cases r1
 exact not_of (wpAny_truthy_bool ⟨.bl (!c),H1,I1,rfl,q1⟩)
def FL (t:TT) (ta tb:TE):TE:=λσ H Q=>t σ H λc H1=>if c=true then ta σ H1 Q else tb σ H1 Q
theorem eA {c:Expr} (hc:PT X c tA) (ha:PE X a ta) (hb:PE X b tb):PE X (.IfExp c a b pos) (FL tA ta tb):=by
 intro pins s σ H Q I h
 refine wpAny_IfExp (bc (hc pins s σ H _ I h) λd s1 ⟨H1,I1,q1⟩=>?_)
 cases d with
 | true=>exact ha pins s1 σ H1 Q I1 q1
 | false=>exact hb pins s1 σ H1 Q I1 q1
end
def aO (K:PySem.W.Frag) (H:Hp) (a:Addr) (xs:List V):Prop :=
 Rd H a (.lst xs) ∨
  ∃(o:Obj) (its:Array Value) (n:Nat),K.lookup a=some o/\o.cls=.type "list"/\o.dict=none/\o.data=.seq its n/\its.size<=sizeLine/\Vals xs its.toList
def bG (K:PySem.W.Frag) (H:Hp) (a:Addr) (xs:List V):Prop :=
 Rd H a (.tup xs) ∨
  ∃(o:Obj) (its:Array Value) (n:Nat),K.lookup a=some o/\o.cls=.type "tuple"/\o.data=.seq its n/\its.size<=sizeLine/\Vals xs its.toList
def Fb:Value->Option V
 | .none=>some .non
 | .bool b=>some (.bl b)
 | .int i _=>some (.int i)
 | .str x _=>some (.str x)
 | .bytes b _=>some (.byt b)
 | .float b _=>some (.flt b)
 | .ref a=>some (.ref a)
 | .type n=>some (.ty n)
 | _=>none
theorem RelV.abs {x:V} {u:Value} (r:RelV x u):Fb u=some x:=by
 cases x with
 | non=>cases r;rfl
 | bl _=>cases r;rfl
 | int _=>obtain⟨t,rfl⟩:=r;rfl
 | str _=>obtain⟨t,rfl⟩:=r;rfl
 | byt _=>obtain⟨t,rfl⟩:=r;rfl
 | flt _=>obtain⟨t,rfl⟩:=r;rfl
 | ref _=>cases r;rfl
 | ty _=>cases r;rfl
theorem RelV.inj {x y:V} {u:Value} (r:RelV x u) (q:RelV y u):x=y:=Option.some.inj (r.abs.symm.trans q.abs)
theorem Vals.inj:∀{xs ys:List V} {us:List Value},Vals xs us->Vals ys us->xs=ys
 | _,_,_,.nil,.nil=>rfl
 | _,_,_,.cons r t,.cons r' t'=>by rw [r.inj r',Vals.inj t t']
section
variable {X:Cx} {pins:List (Addr × Obj)} {σ:St} {H:Hp} {s:Shared} {a:Addr} {xs ys:List V}
theorem aO.of {K:PySem.W.Frag} (h:H a=some (.lst xs)):aO K H a xs:=.inl (.inl h)
theorem bG.of {K:PySem.W.Frag} (h:H a=some (.tup xs)):bG K H a xs:=.inl (.inl h)
theorem Inv.list (I:Inv X pins σ H s) (h:aO X.K H a xs):∃ its:List Value,Vals xs its/\PlainL s.heap a its.toArray/\xs.length<=sizeLine:=by
 rcases h with h | ⟨o,its,n,hk,hc,hd,hs,hz,r⟩
 ·obtain⟨z,its,n,r,e⟩:=h.ok I.hok
  exact⟨its,r,⟨_,n,e,rfl,rfl,rfl⟩,z⟩
 ·refine⟨its.toList,r,⟨o,n,I.fL a o hk,hc,hd,by simpa using hs⟩,?_⟩
  have e:=r.length
  simp only [Array.length_toList] at e
  omega
theorem Inv.tuple (I:Inv X pins σ H s) (h:bG X.K H a xs):∃ its:List Value,Vals xs its/\IsTup s.heap a its.toArray/\xs.length<=sizeLine:=by
 rcases h with h | ⟨o,its,n,hk,hc,hs,hz,r⟩
 ·obtain⟨z,its,r,p⟩:=h.ok I.hok
  exact⟨its,r,p,z⟩
 ·refine⟨its.toList,r,⟨o,I.fL a o hk,hc,n,by simpa using hs⟩,?_⟩
  have e:=r.length
  simp only [Array.length_toList] at e
  omega
theorem Inv.lz (I:Inv X pins σ H s) (h:aO X.K H a xs) (h':aO X.K H a ys):xs=ys:=by
 obtain⟨its,r,⟨o,n,e,_,_,d⟩,_⟩:=I.list h
 obtain⟨its',r',⟨o',n',e',_,_,d'⟩,_⟩:=I.list h'
 rw [e] at e';cases e'
 rw [d] at d'
 injection d' with d1 _
 have:its=its':=by simpa using congrArg Array.toList d1
 subst this
 exact r.inj r'
theorem Inv.nH (I:Inv X pins σ H s) (h:bG X.K H a xs) (h':bG X.K H a ys):xs=ys:=by
 obtain⟨its,r,⟨o,e,_,n,d⟩,_⟩:=I.tuple h
 obtain⟨its',r',⟨o',e',_,n',d'⟩,_⟩:=I.tuple h'
 rw [e] at e';cases e'
 rw [d] at d'
 injection d' with d1 _
 have:its=its':=by simpa using congrArg Array.toList d1
 subst this
 exact r.inj r'
end
abbrev Cx.kC (X:Cx) (E:Value->Shared->Prop):Cx:={ X with xe:=E }
abbrev Cx.kA (X:Cx):Cx:=X.kC λ_ _=>False
theorem Cx.Ok.kC {X:Cx} (ok:X.Ok) (E:Value->Shared->Prop):(X.kC E).Ok :=
 ⟨ok.mod,ok.kind,ok.glob,ok.blt,ok.above,ok.inj,ok.has,ok.cab,ok.hd,ok.frames,ok.stk,ok.exf,ok.bs,ok.bsz,ok.noex,ok.exfs,ok.kr,ok.frf⟩
theorem Cx.Ok.eY {X:Cx} {E:Value->Shared->Prop} (ok:(X.kC E).Ok):X.Ok :=
 ⟨ok.mod,ok.kind,ok.glob,ok.blt,ok.above,ok.inj,ok.has,ok.cab,ok.hd,ok.frames,ok.stk,ok.exf,ok.bs,ok.bsz,ok.noex,ok.exfs,ok.kr,ok.frf⟩
section
variable {X:Cx} {pins:List (Addr × Obj)} {σ:St} {H:Hp} {s:Shared} {E:Value->Shared->Prop}
theorem Inv.kC (I:Inv X pins σ H s) (E:Value->Shared->Prop):Inv (X.kC E) pins σ H s:=⟨I.ok.kC E,I.os,I.bare,I.base,I.loc,I.cell,I.free,I.freeC,I.pin,I.hok,I.len⟩
theorem Inv.eY (I:Inv (X.kC E) pins σ H s):Inv X pins σ H s:=⟨I.ok.eY,I.os,I.bare,I.base,I.loc,I.cell,I.free,I.freeC,I.pin,I.hok,I.len⟩
theorem SP.eY {D:Ends} {f:Flow} {s':Shared} (h:SP (X.kC E) pins D f s'):SP X pins D f s':=by
 cases f with
 | next=>obtain⟨σ',H',I,q⟩:=h;exact⟨σ',H',I.eY,q⟩
 | brk=>obtain⟨σ',H',I,q⟩:=h;exact⟨σ',H',I.eY,q⟩
 | cont=>obtain⟨σ',H',I,q⟩:=h;exact⟨σ',H',I.eY,q⟩
 | ret u=>obtain⟨v,σ',H',I,r,q⟩:=h;exact⟨v,σ',H',I.eY,r,q⟩
theorem PE.kA {e:Expr} {t:TE} (h:PE X.kA e t):PE X e t:=λpins s σ H Q I hw =>
 wpAny_mono (h pins s σ H Q (I.kC _) hw) (λ_ _ ⟨v,H',I',r,q⟩=>⟨v,H',I'.eY,r,q⟩) λ_ _ z=>False.elim z
theorem PT.kA {e:Expr} {t:TT} (h:PT X.kA e t):PT X e t:=λpins s σ H Q I hw =>
 wpAny_mono (h pins s σ H Q (I.kC _) hw) (λ_ _ ⟨H',I',q⟩=>⟨H',I'.eY,q⟩) λ_ _ z=>False.elim z
theorem gK.kA {st:List Stmt} {t:TS} (h:gK X.kA st t):gK X st t:=λpins s σ H D I hw =>
 wpAny_mono (h pins s σ H D (I.kC _) hw) (λ_ _ q=>q.eY) λ_ _ z=>False.elim z
end
section
variable {X:Cx} {st:Stmt} {rest:List Stmt} {t u:TS} {e:Expr} {te:TE} {pos:Pos}
def BG:TS:=λD σ H=>D.nx σ H
def aY (t u:TS):TS:=λD σ H=>t { D with nx:=u D } σ H
theorem aD:gK X [] BG:=λ_ _ σ H _ I h=>wpAny_execs_nil ⟨σ,H,I,h⟩
theorem ae (h1:PS X st t) (h2:gK X rest u):gK X (st::rest) (aY t u):=by
 intro pins s σ H D I h
 refine wpAny_execs_cons (bc (h1 pins s σ H { D with nx:=u D } I h) λf s1 q=>?_)
 cases f with
 | next =>
  obtain⟨σ',H',I',q⟩:=q
  exact h2 pins s1 σ' H' D I' q
 | ret v=>exact q
 | brk=>exact q
 | cont=>exact q
theorem ai (h1:PS X st t):gK X [st] t:=by
 intro pins s σ H D I h
 refine wpAny_execs_cons (bc (h1 pins s σ H D I h) λf s1 q=>?_)
 cases f with
 | next=>exact wpAny_execs_nil q
 | ret v=>exact q
 | brk=>exact q
 | cont=>exact q
theorem Inv.quiet {pins:List (Addr × Obj)} {σ:St} {H:Hp} {s:Shared} (I:Inv X pins σ H s):interactive X.env=false:=by simp [interactive,I.ok.kind]
def BF (te:TE):TS:=λD σ H=>te σ H λ_ H1=>D.nx σ H1
theorem eK (he:PE X e te) (hs:swapsWith e none pos.line X.env=pure false:=by rfl):PS X (.Expr e pos) (BF te):=by
 intro pins s σ H D I h
 exact wpAny_Expr_any (bc (he pins s σ H _ I h) λv s1 ⟨x,H1,I1,r1,q1⟩=>⟨σ,H1,I1,q1⟩) I.quiet hs
def fN (te:TE):TS:=λD σ H=>te σ H D.rt
theorem av (he:PE X e te):PS X (.Return (some e) pos) (fN te):=by
 intro pins s σ H D I h
 exact wpAny_Return_some (bc (he pins s σ H _ I h) λv s1 ⟨x,H1,I1,r1,q1⟩=>⟨x,σ,H1,I1,r1,q1⟩)
def EF:TS:=λD _ H=>D.rt .non H
def Dh (c:TT) (t u:TS):TS:=λD σ H=>c σ H λb H1=>if b=true then t D σ H1 else u D σ H1
theorem aN {c:Expr} {a b:List Stmt} {tc:TT} (hc:PT X c tc) (ha:gK X a t) (hb:gK X b u):PS X (.If c a b pos) (Dh tc t u):=by
 intro pins s σ H D I h
 refine wpAny_If (bc (hc pins s σ H _ I h) λd s1 ⟨H1,I1,q1⟩=>?_)
 cases d with
 | true=>exact ha pins s1 σ H1 D I1 q1
 | false=>exact hb pins s1 σ H1 D I1 q1
end
abbrev TG:=V->St->Hp->(St->Hp->Prop)->Prop
abbrev A3:=List V->St->Hp->(St->Hp->Prop)->Prop
def PG (X:Cx) (target:Expr) (t:TG):Prop :=
 ∀(pins:List (Addr × Obj)) (s:Shared) (σ:St) (H:Hp) (v:V) (u:Value) (Q:St->Hp->Prop),Inv X pins σ H s->RelV v u->t v σ H Q ->
  wpAny (model X.prog X.w) X.A (assign target X.env u) (λ_ s'=>∃ σ' H',Inv X pins σ' H' s'/\Q σ' H') X.xe s
def DJ (X:Cx) (ts:List Expr) (t:A3):Prop :=
 ∀(pins:List (Addr × Obj)) (s:Shared) (σ:St) (H:Hp) (vs:List V) (us:List Value) (Q:St->Hp->Prop),Inv X pins σ H s->Vals vs us->t vs σ H Q ->
  wpAny (model X.prog X.w) X.A (assignInOrder ((assignEach ts X.env).map (·.2)) us) (λ_ s'=>∃ σ' H',Inv X pins σ' H' s'/\Q σ' H') X.xe s
abbrev E7:=V->V->V->Hp->(Hp->Prop)->Prop
abbrev E6:=V->V->Hp->VK->Prop
def FE (X:Cx) (op:Operator) (t:E6):Prop :=
 ∀(pins:List (Addr × Obj)) (s:Shared) (σ:St) (H:Hp) (x y:V) (v u:Value) (Q:VK),Inv X pins σ H s->RelV x v->RelV y u->t x y H Q ->
  wpAny (model X.prog X.w) X.A (inplaceOp op v u) (EP X pins σ Q) X.xe s
section
variable {X:Cx} {pos:Pos}
def cI (i:Nat):TG:=λv σ H Q=>Q (σ.set i (some v)) H
theorem aq {i:Nat} {x:Str} (hN:X.N.Nodup) (hi:X.N[i]?=some x) (hx:Loc X.env.scope x) (hf:X.fn x=true∨X.env.scope.names.lookup x=some .local:=by first | exact .inl rfl | exact .inr rfl | assumption):PG X (.Name x pos) (cI i):=by
 intro pins s σ H v u Q I r h
 exact wpAny_assign_Name (c8 I hN hi hx r (λs' I'=>⟨_,H,I',h⟩) hf)
def wI:A3:=λvs σ H Q=>vs=[]/\Q σ H
def jU (t:TG) (u:A3):A3:=λvs σ H Q=>∃ v r,vs=v::r/\t v σ H λσ' H'=>u r σ' H' Q
theorem aR:DJ X [] wI:=by
 intro pins s σ H vs us Q I r h
 obtain⟨e,h⟩:=h
 subst e
 cases r
 exact assignInOrder_nil ⟨σ,H,I,h⟩
theorem ax {e:Expr} {es:List Expr} {t:TG} {u:A3} (h1:PG X e t) (h2:DJ X es u)
  (hs:(assignEach (e::es) X.env).map (·.2)=assign e X.env::(assignEach es X.env).map (·.2):=by rfl):DJ X (e::es) (jU t u):=by
 intro pins s σ H vs us Q I r h
 obtain⟨v,vr,e1,h⟩:=h
 subst e1
 cases r with
 | cons r rr =>
  rw [hs]
  refine assignInOrder_cons (bc (h1 pins s σ H _ _ _ I r h) λ_ s1 ⟨σ1,H1,I1,q1⟩=>?_)
  exact h2 pins s1 σ1 H1 _ _ Q I1 rr q1
def nS (K:PySem.W.Frag) (n:Nat) (t:A3):TG:=λv σ H Q=>∃ a xs,v=.ref a/\bG K H a xs/\xs.length=n/\t xs σ H Q
theorem bT {es:List Expr} {k:Nat} {t:A3} {n:Nat} (hc:X.calm=true) (h:DJ X es t)
  (hn:(assignEach es X.env).length=n:=by rfl) (hst:(assignEach es X.env).findIdx? (·.1)=none:=by rfl):PG X (.Tuple es k pos) (nS X.K n t):=by
 intro pins s σ H v u Q I r hw
 obtain⟨a,xs,e1,hq,hl,hw⟩:=hw
 subst e1
 cases r
 obtain⟨its,rv,ht,hz⟩:=I.tuple hq
 refine assign_Tuple_tuple (I.ok.hd hc) ht (by simp [hn,<- hl,rv.length]) hst λh' hx=>?_
 have I1:Inv X pins σ H { s with heap:=h' }:=I.kept (t':=s.toks) λb o e=>hx b o (Nat.ne_of_lt (Heap.lt_size e)) e
 exact h pins _ σ H xs _ Q I1 (by simpa using rv) hw
def Fd (to ti:TE) (t:E7):TG:=λv σ H Q=>to σ H λo H1=>ti σ H1 λi H2=>t o i v H2 λH3=>Q σ H3
def vN (te:TE) (g:TG):TS:=λD σ H=>te σ H λx H1=>g x σ H1 D.nx
theorem cR {tg e:Expr} {te:TE} {g:TG} (he:PE X e te) (hg:PG X tg g) (hs:swapsWithSole [tg] e pos.line X.env=pure false:=by rfl) (hw:swappedStores [tg] e X.env=pure none:=by rfl)
  (h1:(assignEach [tg] X.env).map (·.2)=[assign tg X.env]:=by rfl):PS X (.Assign [tg] e pos) (vN te g):=by
 intro pins s σ H D I h
 refine wpAny_Assign_stores (bc (he pins s σ H _ I h) λv s1 ⟨x,H1,I1,r1,q1⟩=>?_) hs hw
 rw [h1]
 exact bc (hg pins s1 σ H1 x v _ I1 r1 q1) λ_ s2 q=>q
theorem gh {i:Nat} {x:Str} {e:Expr} {te:TE} {pos':Pos} (hN:X.N.Nodup) (hi:X.N[i]?=some x) (hx:Loc X.env.scope x) (he:PE X e te) (hs:swapsWith e (some (.Name x pos')) pos.line X.env=pure false:=by rfl) (hf:X.fn x=true∨X.env.scope.names.lookup x=some .local:=by first | exact .inl rfl | exact .inr rfl | assumption) :
  PS X (.Assign [.Name x pos'] e pos) (vN te (cI i)):=by
 intro pins s σ H D I h
 refine wpAny_Assign_Name (bc (he pins s σ H _ I h) λv s1 ⟨y,H1,I1,r1,q1⟩=>?_) hs
 exact c8 I1 hN hi hx r1 (λs2 I2=>⟨_,H1,I2,q1⟩) hf
def EE (i j:Nat) (ta:TA):TS:=λD σ H=>ta σ H λvs H1=>∃ v w,vs=[v,w]/\D.nx ((σ.set i (some v)).set j (some w)) H1
theorem oA {i j:Nat} {x y:Str} {a b:Expr} {ta:TA} {px py pt:Pos} {kt k2 pt2} (hc:X.calm=true) (hN:X.N.Nodup) (hi:X.N[i]?=some x) (hj:X.N[j]?=some y) (hij:i≠j)
  (hx:X.env.scope.names.lookup x=some .local) (hy:X.env.scope.names.lookup y=some .local) (ha:PA X [a,b] ta)
  (hw:swappedStores [.Tuple [.Name x px,.Name y py] kt pt] (.Tuple [a,b] k2 pt2) X.env=pure (some [x,y]))
  (hs:swapsWithSole [.Tuple [.Name x px,.Name y py] kt pt] (.Tuple [a,b] k2 pt2) pos.line X.env=pure false:=by rfl) :
  PS X (.Assign [.Tuple [.Name x px,.Name y py] kt pt] (.Tuple [a,b] k2 pt2) pos) (EE i j ta):=by
 intro pins s σ H D I h
 rw [exec_Assign_arm]
 refine wpAny_bind (wpAny_standAt ?_)
 rw [hs]
 refine wpAny_bind (wpAny_pure ?_)
 rw [if_neg (by decide)]
 refine wpAny_bind (Tuple_ (bc (ha _ pins s σ H _ I h) λus s1 ⟨vs,H1,I1,r1,q1⟩=>?_))
 obtain⟨v,w,e1,q1⟩:=q1
 subst e1
 obtain⟨u1,u2,rfl,rv,rw'⟩:∃ u1 u2,us=[u1,u2]/\RelV v u1/\RelV w u2:=by
  cases r1 with
  | cons p q =>
   cases q with
   | cons p' q' =>
    cases q'
    exact⟨_,_,rfl,p,p'⟩
 refine wpAny_newObj_type ?_ (by show 2<=sizeLine;decide)
 have I2:Inv X pins σ H1 { s1 with heap:=s1.heap.push { cls:=.type "tuple",data:=.seq [u1,u2].toArray } }:=I1.kept (t':=s1.toks) λb o e=>Heap.get?_push_of_some _ e
 rw [hw]
 refine wpAny_bind (wpAny_pure ?_)
 show wpAny (model X.prog X.w) X.A (do rule "assign.swapped-stores";let items <- unpackItems (.ref s1.heap.objs.size) 2 none;assignInOrder [λv=>bindName X.env y v,λv=>bindName X.env x v] items.reverse;pure Flow.next) _ _ _
 refine wpAny_bind (wpAny_rule (wpAny_bind (unpackItems_tuple (items:=#[u1,u2]) (I.ok.hd hc) (IsTup.new s1.heap _) λh' hx'=>?_)))
 have I3:=I2.kept (h':=h') (t':=s1.toks) λb o e=>hx' b o (Nat.ne_of_lt (Heap.lt_size e)) e
 show wpAny _ _ (assignInOrder [λv=>bindName X.env y v,λv=>bindName X.env x v] [u2,u1] >>= λ_=>pure Flow.next) _ _ _
 refine wpAny_bind (assignInOrder_cons (wpAny_bindName (c8 I3 hN hj (.inl hy) rw' (λs2 I4=>?_) (.inr hy))))
 refine assignInOrder_cons (wpAny_bindName (c8 I4 hN hi (.inl hx) rv (λs3 I5=>assignInOrder_nil (wpAny_pure ?_)) (.inr hx)))
 rw [List.set_comm _ _ (Ne.symm hij)] at I5
 exact⟨_,H1,I5,q1⟩
def Et (i:Nat) (te:TE) (ti:E6):TS:=λD σ H=>∃ x,σ[i]?=some (some x)/\te σ H λy H1=>ti x y H1 λz H2=>D.nx (σ.set i (some z)) H2
theorem c6 {i:Nat} {x:Str} {e:Expr} {te:TE} {op:Operator} {ti:E6} {pos':Pos} (hN:X.N.Nodup) (hi:X.N[i]?=some x) (hx:Loc X.env.scope x) (he:PE X e te) (ho:FE X op ti) (hf:X.fn x=true∨X.env.scope.names.lookup x=some .local:=by first | exact .inl rfl | exact .inr rfl | assumption) :
  PS X (.AugAssign (.Name x pos') op e pos) (Et i te ti):=by
 intro pins s σ H D I h
 obtain⟨v,e1,h⟩:=h
 obtain⟨m,hn,hl⟩:=I.loc
 have vis:Dw X.env.scope x:=by rcases hx with k | k;exact .inl k;exact .inr (.inl k)
 obtain⟨u,r,l⟩:=hl i x v hi e1 vis
 refine wpAny_AugAssign_Name ?_
 have go:wpAny (model X.prog X.w) X.A (eval e X.env) (λw s₂=>wpAny (model X.prog X.w) X.A (inplaceOp op u w) (λr s₃=>wpAny (model X.prog X.w) X.A (storeName X.env x r) (λ_=>SP X pins D .next) X.xe s₃) X.xe s₂) X.xe s:=by
  refine bc (he pins s σ H _ I h) λw s1 ⟨y,H1,I1,r1,q1⟩=>?_
  refine bc (ho pins s1 σ H1 v y u w _ I1 r r1 q1) λz s2 ⟨zv,H2,I2,r2,q2⟩=>?_
  exact c8 I2 hN hi hx r2 (λs3 I3=>⟨_,H2,I3,q2⟩) hf
 rcases l with⟨hk,hm⟩|⟨hk,c,hc,hcell⟩
 ·exact wpAny_loadName_local I.ok.kind hk hn hm go
 ·rcases hk with hk | hk
  ·exact wpAny_loadName_cell I.ok.kind hk hc hcell go
  ·rcases hx with k | k
   ·have:X.env.scope.names.lookup x=some .free:=hk
    rw [k] at this;cases this
   ·have:X.env.scope.names.lookup x=some .free:=hk
    rw [k] at this;cases this
end
section
variable {X:Cx} {pos:Pos}
def yT (c:TT) (tb:TS):TS:=λD σ H=>∃ W:Nat->St->Hp->Prop,(∃ m,W m σ H)/\∀ m σ H,W m σ H ->
 c σ H λb H1=>if b=true then ∃ N:St->Hp->Prop,(∀ σ' H',N σ' H'->∃ m',m'<m/\W m' σ' H')/\tb { D with nx:=N,ct:=N,bk:=D.nx } σ H1 else D.nx σ H1
theorem bj {c:Expr} {body:List Stmt} {tc:TT} {tb:TS} (hp:PassesOwn (model X.prog X.w) X.A X.env X.xe) (hc:PT X c tc) (hb:gK X body tb):PS X (.While c body [] pos) (yT tc tb):=by
 intro pins s σ H D I h
 obtain⟨W,⟨m0,w0⟩,turn⟩:=h
 refine wpAny_While (codeAny_whileLoop (λn s'=>∃ σ' H',Inv X pins σ' H' s'/\W n σ' H') ?_ m0 ⟨σ,H,I,w0⟩)
 rintro n s1 ⟨σ1,H1,I1,w1⟩
 refine wpAny_passesOwn hp (bc (hc pins s1 σ1 H1 _ I1 (turn n σ1 H1 w1)) λb s2 ⟨H2,I2,q2⟩=>?_)
 cases b with
 | true =>
  obtain⟨N,hN,q2⟩:=q2
  rw [if_pos rfl]
  refine wpAny_passesOwn hp (bc (hb pins s2 σ1 H2 _ I2 q2) λf s3 q3=>?_)
  cases f with
  | next =>
   obtain⟨σ3,H3,I3,n3⟩:=q3
   obtain⟨m',hm,w3⟩:=hN σ3 H3 n3
   exact⟨m',hm,σ3,H3,I3,w3⟩
  | cont =>
   obtain⟨σ3,H3,I3,n3⟩:=q3
   obtain⟨m',hm,w3⟩:=hN σ3 H3 n3
   exact⟨m',hm,σ3,H3,I3,w3⟩
  | brk=>exact q3
  | ret v=>exact q3
 | false =>
  rw [if_neg Bool.false_ne_true]
  exact wpAny_execs_nil ⟨σ1,H2,I2,q2⟩
end
structure It where
 go:Nat->Hp->Prop
 yld:Nat->Hp->V->Hp->Prop
 stop:Nat->Hp->Prop
def l6 (X:Cx) (pins:List (Addr × Obj)) (H:Hp) (b:Addr):Prop :=
 H b=none/\b≠X.env.locals/\b∉X.fs/\(b∈X.ex∨X.s₀.heap.objs.size<=b)/\(∀ x c,X.env.cells.lookup x=some c->c≠b)/\∀ p∈X.pn++pins,p.1≠b
theorem Inv.mh {X:Cx} {pins:List (Addr × Obj)} {σ:St} {H H':Hp} {s:Shared} {b:Addr} (I:Inv X pins σ H s) (hb:s.heap.objs.size<=b) (hn:H' b=none):l6 X pins H' b:=by
 refine⟨hn,Nat.ne_of_gt (Nat.lt_of_lt_of_le I.lt hb),I.zW hb,.inr (Nat.le_trans I.sz hb),λx c e z=>?_,λp hp z=>?_⟩
 ·obtain⟨v,q⟩:=I.cell x c e
  exact absurd (Nat.lt_of_lt_of_le q.lt (by rw [z];exact hb)) (Nat.lt_irrefl _)
 ·exact absurd (Nat.lt_of_lt_of_le (Heap.lt_size (I.pin p hp).1) (by rw [z];exact hb)) (Nat.lt_irrefl _)
structure Turn (P:Program) (w:World) (K:PySem.W.Frag) (tg:Expr) (J:It) (fp:List Addr) (it:Addr) (tn:Nat->Heap->Prop):Prop where
 mem:it∈fp
 obj:∀ i h,tn i h->∀ b∈fp,∃ o,h.get? b=some o/\∀ v,o.data≠.cell v
 keep:∀ i h h',tn i h->(∀ b∈fp,∀ o,h.get? b=some o->h'.get? b=some o)->tn i h'
 item:∀(X:Cx),X.prog=P->X.w=w->X.K=K->X.calm=true->∀(i:Nat) (pins:List (Addr × Obj)) (s:Shared) (σ:St) (H:Hp) (E:Value->Shared->Prop),Inv X pins σ H s->(∀ b∈fp,l6 X pins H b)->tn i s.heap->J.go i H ->
  wpAny (model P w) X.A (pyNext (.ref it)) (λr s1=>∃ u,r=some u /\
   wpAny (model P w) X.A (letOwnedTupleGo tg (.ref it) u) (λ_ s2=>∃ x H',Inv X pins σ H' s2/\RelV x u/\J.yld i H x H'/\tn (i+1) s2.heap/\∀ b∈fp,H' b=none) E s1) E s
 done:∀(X:Cx),X.prog=P->X.w=w->X.K=K->X.calm=true->∀(i:Nat) (pins:List (Addr × Obj)) (s:Shared) (σ:St) (H:Hp) (E:Value->Shared->Prop),Inv X pins σ H s->(∀ b∈fp,l6 X pins H b)->tn i s.heap->J.stop i H ->
  wpAny (model P w) X.A (pyNext (.ref it)) (λr s1=>r=none/\Inv X pins σ H s1) E s
 self:∀(A:Around) (i:Nat) (s:Shared) (Q:Value->Shared->Prop) (E:Value->Shared->Prop),tn i s.heap->Q (.ref it) s->wpAny (model P w) A (pyIter (.ref it)) Q E s
abbrev TI:=St->Hp->(It->Hp->Prop)->Prop
def EM (X:Cx) (pins:List (Addr × Obj)) (σ:St) (tg:Expr) (R:It->Hp->Prop) (itv:Value) (s2:Shared):Prop :=
 ∃(it:Addr) (fp:List Addr) (tn:Nat->Heap->Prop) (J:It) (H':Hp),itv=.ref it/\Inv X pins σ H' s2/\Turn X.prog X.w X.K tg J fp it tn/\tn 0 s2.heap/\(∀ b∈fp,l6 X pins H' b)/\R J H'
def PI (X:Cx) (tg iter:Expr) (wi:TI):Prop :=
 ∀(pins:List (Addr × Obj)) (s:Shared) (σ:St) (H:Hp) (R:It->Hp->Prop),Inv X pins σ H s->wi σ H R ->
  wpAny (model X.prog X.w) X.A (eval iter X.env) (λv s1=>wpAny (model X.prog X.w) X.A (pyIter v) (EM X pins σ tg R) X.xe s1) X.xe s
theorem wL {M:Model} {A:Around} {E:Value->Shared->Prop} {s:Shared} {tg:Expr} {it:Addr} {u:Value} {o:Obj} {n:String} {vs:Array Value} {Q:Unit->Shared->Prop} (ho:s.heap.get? it=some o) (hc:o.cls=.type n) (hd:o.data=.fields vs)
    (hn:["enumerate","zip","dict_itemiterator","dict_reverseitemiterator","odict_iterator","itertools.zip_longest","itertools.pairwise"].contains n=false) (hQ:Q () s):wpAny M A (letOwnedTupleGo tg (.ref it) u) Q E s:=by
  unfold letOwnedTupleGo
  cases tg<;>first
    | exact wpAny_pure hQ
    | (cases u<;>first
        | exact wpAny_pure hQ
        | (refine wpAny_bind (wpAny_load ho ?_)
           rw [hc,hd]
           show wpAny M A (if (["enumerate","zip","dict_itemiterator","dict_reverseitemiterator","odict_iterator","itertools.zip_longest","itertools.pairwise"].contains n && vs[0]?==some (rawInt _))=true then _ else _) Q E s
           rw [if_neg (by intro h;rw [hn,Bool.false_and] at h;cases h)]
           exact wpAny_pure hQ))
def zm (K:PySem.W.Frag) (a:Addr):It :=
 ⟨λi H=>∃ xs x,aO K H a xs/\xs[i]?=some x,λi H x H'=>H'=H/\∀ xs,aO K H a xs->xs[i]?=some x,λi H=>∃ xs,aO K H a xs/\xs.length<=i⟩
def BS (K:PySem.W.Frag) (a:Addr):It :=
 ⟨λi H=>∃ xs x,bG K H a xs/\xs[i]?=some x,λi H x H'=>H'=H/\∀ xs,bG K H a xs->xs[i]?=some x,λi H=>∃ xs,bG K H a xs/\xs.length<=i⟩
def zo (lo:Int) (n:Nat):It:=⟨λi _=>i<n,λi H x H'=>H'=H/\x=.int (lo+i),λi _=>n<=i⟩
theorem vS {P:Program} {w:World} {K:PySem.W.Frag} {tg:Expr} (a it:Addr):Turn P w K tg (zm K a) [it] it (λi h=>h.IsListIter it a i) where
 mem:=by simp
 obj:=λi h st b hb=>by
  have e:b=it:=by simpa using hb
  subst e
  obtain⟨o,e,c,d⟩:=st
  exact⟨o,e,λv z=>by rw [d] at z;cases z⟩
 keep:=λi h h' st k=>st.at λo e=>k it (by simp) o e
 item:=by
  intro X hP hw hK hc i pins s σ H E I hf st hg
  subst hP hw hK
  obtain⟨xs,x,hq,hx⟩:=hg
  obtain⟨its,rv,p,hz⟩:=I.list hq
  obtain⟨u,hu,ru⟩:=rv.get hx
  obtain⟨f0,f1,f2,f3,f4,f5⟩:=hf it (by simp)
  refine wpAny_pyNext_list_item st p.isList (x:=u) (by simpa using hu) λh' st' sb=>?_
  have I1:Inv X pins σ H { s with heap:=h' }:=I.turned (t':=s.toks) (λb o hb e=>(sb.2 b hb).trans e) f0 f1 f3 f4 f5
  obtain⟨o,e,c,d⟩:=id st'
  exact⟨u,rfl,wL (s:={ s with heap:=h' }) e c d (by decide) ⟨x,H,I1,ru,⟨rfl,λys hy=>by rw [I.lz hy hq];exact hx⟩,st',λb hb=>(hf b hb).1⟩⟩
 done:=by
  intro X hP hw hK hc i pins s σ H E I hf st hg
  subst hP hw hK
  obtain⟨xs,hq,hx⟩:=hg
  obtain⟨its,rv,p,hz⟩:=I.list hq
  obtain⟨f0,f1,f2,f3,f4,f5⟩:=hf it (by simp)
  have hl:=rv.length
  exact wpAny_pyNext_list_end (I.ok.hd hc) st p.isList (by simp;omega) λh' eb=>⟨rfl,I.turned (t':=s.toks) (λb o hb e=>eb b o hb e) f0 f1 f3 f4 f5⟩
 self:=λ_ _ _ _ _ st h=>wpAny_pyIter_listiter st h
theorem sQ {P:Program} {w:World} {K:PySem.W.Frag} {tg:Expr} (a it:Addr):Turn P w K tg (BS K a) [it] it (λi h=>h.IsTupleIter it a i) where
 mem:=by simp
 obj:=λi h st b hb=>by
  have e:b=it:=by simpa using hb
  subst e
  obtain⟨o,e,c,d⟩:=st
  exact⟨o,e,λv z=>by rw [d] at z;cases z⟩
 keep:=λi h h' st k=>st.at λo e=>k it (by simp) o e
 item:=by
  intro X hP hw hK hc i pins s σ H E I hf st hg
  subst hP hw hK
  obtain⟨xs,x,hq,hx⟩:=hg
  obtain⟨its,rv,p,hz⟩:=I.tuple hq
  obtain⟨u,hu,ru⟩:=rv.get hx
  obtain⟨f0,f1,f2,f3,f4,f5⟩:=hf it (by simp)
  refine wpAny_pyNext_tuple_item st (show s.heap.IsTuple a its.toArray from p) (x:=u) (by simpa using hu) λh' st' sb=>?_
  have I1:Inv X pins σ H { s with heap:=h' }:=I.turned (t':=s.toks) (λb o hb e=>(sb.2 b hb).trans e) f0 f1 f3 f4 f5
  obtain⟨o,e,c,d⟩:=id st'
  exact⟨u,rfl,wL (s:={ s with heap:=h' }) e c d (by decide) ⟨x,H,I1,ru,⟨rfl,λys hy=>by rw [I.nH hy hq];exact hx⟩,st',λb hb=>(hf b hb).1⟩⟩
 done:=by
  intro X hP hw hK hc i pins s σ H E I hf st hg
  subst hP hw hK
  obtain⟨xs,hq,hx⟩:=hg
  obtain⟨its,rv,p,hz⟩:=I.tuple hq
  obtain⟨f0,f1,f2,f3,f4,f5⟩:=hf it (by simp)
  have hl:=rv.length
  exact wpAny_pyNext_tuple_end (I.ok.hd hc) st (show s.heap.IsTuple a its.toArray from p) (by simp;omega) λh' eb=>⟨rfl,I.turned (t':=s.toks) (λb o hb e=>eb b o hb e) f0 f1 f3 f4 f5⟩
 self:=λ_ _ _ _ _ st h=>wpAny_pyIter_tupleiter st h
theorem sP {P:Program} {w:World} {K:PySem.W.Frag} {tg:Expr} (it:Addr) (lo:Int) (n:Nat):Turn P w K tg (zo lo n) [it] it (λi h=>IsRangeIter h it (lo+(i:Nat)*1) ((n:Int)-(i:Nat)) 1) where
 mem:=by simp
 obj:=λi h st b hb=>by
  have e:b=it:=by simpa using hb
  subst e
  exact⟨_,st,λv z=>by
   have z':Data.fields _=Data.cell v:=z
   cases z'⟩
 keep:=λi h h' st k=>k it (by simp) _ st
 item:=by
  intro X hP hw hK hc i pins s σ H E I hf st hg
  subst hP hw hK
  obtain⟨f0,f1,f2,f3,f4,f5⟩:=hf it (by simp)
  have W:=Walks.range (prog:=X.prog) (w:=X.w) (I.ok.hd hc) it lo 1 n
  refine W.item i s _ _ hg st λv h' tk hv st' kk=>?_
  obtain⟨t,rfl⟩:=hv
  have I1:Inv X pins σ H { s with heap:=h',toks:=tk }:=I.turned (λb o hb e=>kk b o (by simpa using hb) e) f0 f1 f3 f4 f5
  refine⟨_,rfl,wL (s:={ s with heap:=h',toks:=tk }) (n := "range_iterator") st' rfl rfl (by decide) ⟨.int (lo+i),H,I1,⟨t,?_⟩,⟨rfl,rfl⟩,st',λb hb=>(hf b hb).1⟩⟩
  rw [Int.mul_one]
 done:=by
  intro X hP hw hK hc i pins s σ H E I hf st hg
  subst hP hw hK
  obtain⟨f0,f1,f2,f3,f4,f5⟩:=hf it (by simp)
  exact wpAny_pyNext_range_end (I.ok.hd hc) st (by have:n<=i:=hg;omega) λh' eb=>⟨rfl,I.turned (t':=s.toks) (λb o hb e=>eb b o hb e) f0 f1 f3 f4 f5⟩
 self:=λ_ _ _ _ _ st h=>wpAny_pyIter_rangeiter st h
section
variable {X:Cx} {tg:Expr}
def wO (K:PySem.W.Frag) (tl:TE):TI:=λσ H R=>tl σ H λx H1=>∃ a,x=.ref a/\(∃ xs,aO K H1 a xs)/\R (zm K a) H1
def DV (K:PySem.W.Frag) (tl:TE):TI:=λσ H R=>tl σ H λx H1=>∃ a,x=.ref a/\(∃ xs,bG K H1 a xs)/\R (BS K a) H1
theorem bF {l:Expr} {tl:TE} (hl:PE X l tl):PI X tg l (wO X.K tl):=by
 intro pins s σ H R I h
 refine bc (hl pins s σ H _ I h) λv s1 ⟨x,H1,I1,r1,q1⟩=>?_
 obtain⟨a,e,⟨xs,hq⟩,q⟩:=q1
 subst e
 cases r1
 obtain⟨its,rv,p,hz⟩:=I1.list hq
 refine wpAny_pyIter_list p.isList ?_
 refine⟨s1.heap.objs.size,[s1.heap.objs.size],_,_,H1,rfl,I1.kept (t':=s1.toks) λb o e=>Heap.get?_push_of_some _ e,vS a _,⟨_,Heap.get?_push_size _ rfl,rfl,rfl⟩,λb hb=>?_,q⟩
 have e:b=s1.heap.objs.size:=by simpa using hb
 subst e
 exact I1.mh (Nat.le_refl _) (I1.hok.fresh (Nat.le_refl _))
theorem fZ {l:Expr} {tl:TE} (hl:PE X l tl):PI X tg l (DV X.K tl):=by
 intro pins s σ H R I h
 refine bc (hl pins s σ H _ I h) λv s1 ⟨x,H1,I1,r1,q1⟩=>?_
 obtain⟨a,e,⟨xs,hq⟩,q⟩:=q1
 subst e
 cases r1
 obtain⟨its,rv,p,hz⟩:=I1.tuple hq
 refine wpAny_pyIter_tuple (show s1.heap.IsTuple a its.toArray from p) ?_
 refine⟨s1.heap.objs.size,[s1.heap.objs.size],_,_,H1,rfl,I1.kept (t':=s1.toks) λb o e=>Heap.get?_push_of_some _ e,sQ a _,⟨_,Heap.get?_push_size _ rfl,rfl,rfl⟩,λb hb=>?_,q⟩
 have e:b=s1.heap.objs.size:=by simpa using hb
 subst e
 exact I1.mh (Nat.le_refl _) (I1.hok.fresh (Nat.le_refl _))
theorem qL {pins:List (Addr × Obj)} {σ:St} {H:Hp} {s:Shared} {R:It->Hp->Prop} {E:Value->Shared->Prop} {lo hi:Int} {t u v:Tok} {tk:Nat} (I:Inv X pins σ H s) (h1:-(2^62)<=lo) (h2:lo<2^62) (h3:-(2^62)<=hi) (h4:hi<2^62)
  (q:R (zo lo (hi-lo).toNat) H):wpAny (model X.prog X.w) X.A (pyIter (.ref s.heap.objs.size)) (EM X pins σ tg R) E { s with heap:=s.heap.push { cls:=.type "range",data:=.fields #[.int lo t,.int hi u,.int 1 v] },toks:=tk }:=by
 refine wpAny_pyIter_range (IsRange.new ..) (small_one h1 h2 h3 h4) ?_
 have I1:Inv X pins σ H { s with heap:=s.heap.push { cls:=.type "range",data:=.fields #[.int lo t,.int hi u,.int 1 v] },toks:=tk }:=I.kept λb o e=>Heap.get?_push_of_some _ e
 refine⟨(s.heap.push { cls:=.type "range",data:=.fields #[.int lo t,.int hi u,.int 1 v] }).objs.size,[(s.heap.push { cls:=.type "range",data:=.fields #[.int lo t,.int hi u,.int 1 v] }).objs.size],_,_,H,rfl,
  I1.kept (t':=tk) λb o e=>Heap.get?_push_of_some _ e,sP _ lo (hi-lo).toNat,?_,λb hb=>?_,q⟩
 ·have e1:lo+((0:Nat):Int)*1=lo:=by simp
  have e2:(((hi-lo).toNat:Nat):Int)-((0:Nat):Int)=Builtin.Range.rangeSize lo hi 1:=by rw [rangeSize_one];split<;>omega
  show IsRangeIter _ _ (lo+((0:Nat):Int)*1) ((((hi-lo).toNat:Nat):Int)-((0:Nat):Int)) 1
  rw [e1,e2]
  exact Heap.get?_push_size _ rfl
 ·have e:b=(s.heap.push { cls:=.type "range",data:=.fields #[.int lo t,.int hi u,.int 1 v] }).objs.size:=by simpa using hb
  subst e
  exact I1.mh (Nat.le_refl _) (I1.hok.fresh (Nat.le_refl _))
def Bh (ta:TA):TI:=λσ H R=>ta σ H λvs H1=>∃ j:Int,vs=[.int j] /\ -(2^62)<=j/\j<2^62/\R (zo 0 j.toNat) H1
def Bi (ta:TA):TI:=λσ H R=>ta σ H λvs H1=>∃ i j:Int,vs=[.int i,.int j]/\(-(2^62)<=i/\i<2^62 /\ -(2^62)<=j/\j<2^62)/\R (zo i (j-i).toNat) H1
theorem dX {a:Expr} {ta:TA} {p pos:Pos} (hg:Gl X "range") (hm:X.mg "range"=none) (ha:PA X [a] ta) (hs:starEach [a] X.env=[(false,eval a X.env)]:=by rfl):PI X tg (.Call (.Name "range" p) [a] [] pos) (Bh ta):=by
 intro pins s σ H R I h
 refine Call_ (fU I hg hm boot_range (PyProof.Rows.callWith_type1 (bc (ha pos pins s σ H _ I h) λus s1 ⟨vs,H1,I1,r1,q1⟩=>?_) hs rfl))
 obtain⟨j,e,q1,q2,q⟩:=q1
 subst e
 cases r1 with
 | cons r rr =>
  cases rr
  obtain⟨t,rfl⟩:=r
  exact call_range_1 (qL I1 (by omega) (by omega) q1 q2 (by simpa using q))
theorem vF {a b:Expr} {ta:TA} {p pos:Pos} (hg:Gl X "range") (hm:X.mg "range"=none) (ha:PA X [a,b] ta) (hs:starEach [a,b] X.env=[(false,eval a X.env),(false,eval b X.env)]:=by rfl) (hs2:starEach [b] X.env=[(false,eval b X.env)]:=by rfl) :
  PI X tg (.Call (.Name "range" p) [a,b] [] pos) (Bi ta):=by
 intro pins s σ H R I h
 refine Call_ (fU I hg hm boot_range (PyProof.Rows.callWith_type1 (bc (ha pos pins s σ H _ I h) λus s1 ⟨vs,H1,I1,r1,q1⟩=>?_) (by rw [hs,hs2]) (by rw [hs2];rfl)))
 obtain⟨i,j,e,⟨q1,q2,q3,q4⟩,q⟩:=q1
 subst e
 cases r1 with
 | cons r rr =>
  cases rr with
  | cons r' rr =>
   cases rr
   obtain⟨t,rfl⟩:=r
   obtain⟨t',rfl⟩:=r'
   exact call_range_2 (qL I1 q1 q2 q3 q4 q)
def Ez (wi:TI) (g:TG) (tb:TS):TS:=λD σ H=>wi σ H λJ H1=>∃ W:Nat->Nat->St->Hp->Prop,(∃ m,W 0 m σ H1)/\∀ i m σ H,W i m σ H ->
 (J.stop i H/\D.nx σ H)∨(J.go i H/\∃ N:St->Hp->Prop,(∀ σ' H',N σ' H'->∃ m',m'<m/\W (i+1) m' σ' H')/\∀ x H',J.yld i H x H'->g x σ H' λσ2 H2=>tb { D with nx:=N,ct:=N,bk:=D.nx } σ2 H2)
def gf (fp:List Addr) (h:Heap):List (Addr × Obj):=fp.filterMap λb=>(h.get? b).map λo=>(b,o)
theorem dz {fp:List Addr} {h:Heap} {b:Addr} {o:Obj} (hb:b∈fp) (e:h.get? b=some o):(b,o)∈gf fp h:=List.mem_filterMap.mpr ⟨b,hb,by rw [e];rfl⟩
theorem jJ {fp:List Addr} {h:Heap} {p:Addr × Obj} (hp:p∈gf fp h):p.1∈fp/\h.get? p.1=some p.2:=by
 obtain⟨b,hb,e⟩:=List.mem_filterMap.mp hp
 cases q:h.get? b with
 | none=>rw [q] at e;cases e
 | some o =>
  rw [q] at e
  have e':(b,o)=p:=Option.some.inj e
  subst e'
  exact⟨hb,q⟩
theorem Inv.pinned {pins:List (Addr × Obj)} {σ:St} {H:Hp} {s:Shared} {fp:List Addr} (I:Inv X pins σ H s) (hf:∀ b∈fp,l6 X pins H b) (ho:∀ b∈fp,∃ o,s.heap.get? b=some o/\∀ v,o.data≠.cell v):Inv X (pins++gf fp s.heap) σ H s :=
 I.gQ λp hp=>(List.mem_append.mp hp).elim (λz=>I.pin p (List.mem_append_right _ z)) λz=>by
  obtain⟨hb,e⟩:=jJ z
  obtain⟨f0,f1,f2,_⟩:=hf p.1 hb
  obtain⟨o,e',d⟩:=ho p.1 hb
  rw [e] at e';cases e'
  exact⟨e,f0,f1,f2,d⟩
theorem Inv.gJ {pins pl:List (Addr × Obj)} {σ:St} {H:Hp} {s:Shared} (I:Inv X (pins++pl) σ H s):Inv X pins σ H s:=I.gQ λp hp=>I.pin p (List.mem_append_right _ (List.mem_append_left _ hp))
theorem cS {iter:Expr} {body:List Stmt} {wi:TI} {g:TG} {tb:TS} {pos:Pos} (hp:PassesOwn (model X.prog X.w) X.A X.env X.xe) (hc:X.calm=true) (hi:PI X tg iter wi) (hg:PG X tg g) (hb:gK X body tb)
  (hs:∀ x,foldedSetIterable iter X.env x=pure x:=by intro _;rfl):PS X (.For tg iter body [] pos) (Ez wi g tb):=by
 intro pins s σ H D I h
 refine wpAny_For (bc (hi pins s σ H _ I h) λv s1 h1=>bc h1 λitv s2 h2=>?_) hs
 obtain⟨it,fp,tn,J,H2,e,I2,T,st2,f2,W,⟨m0,w0⟩,turn⟩:=h2
 subst e
 -- what stays true of the iterator's objects through the loop
 have stat:∀{H':Hp},(∀ b∈fp,H' b=none)->∀ b∈fp,l6 X pins H' b:=λhn b hb=>⟨hn b hb,(f2 b hb).2⟩
 refine codeAny_forLoop_any (λn s'=>∃ i σ' H',Inv X pins σ' H' s'/\tn i s'.heap/\(∀ b∈fp,H' b=none)/\W i n σ' H') ?_ m0 ⟨0,σ,H2,I2,st2,λb hb=>(f2 b hb).1,w0⟩
 rintro n s3 ⟨i,σ3,H3,I3,st3,fr3,w3⟩
 rcases turn i n σ3 H3 w3 with⟨stop,qn⟩|⟨go,N,hN,step⟩
 ·refine wpAny_passesOwn hp (bc (T.done X rfl rfl rfl hc i pins s3 σ3 H3 X.xe I3 (stat fr3) st3 stop) λr s4 ⟨hr,I4⟩=>?_)
  subst hr
  exact wpAny_execs_nil ⟨σ3,H3,I4,qn⟩
 ·refine wpAny_passesOwn hp (bc (T.item X rfl rfl rfl hc i pins s3 σ3 H3 X.xe I3 (stat fr3) st3 go) λr s4 ⟨u,hr,h4⟩=>?_)
  subst hr
  refine wpAny_passesOwn hp (bc h4 λ_ s5 ⟨x,H5,I5,r5,y5,st5,fr5⟩=>?_)
  have I5':=I5.pinned (stat fr5) (T.obj _ _ st5)
  refine wpAny_passesOwn hp (bc (hg _ s5 σ3 H5 x u _ I5' r5 (step x H5 y5)) λ_ s6 ⟨σ6,H6,I6,q6⟩=>?_)
  refine wpAny_passesOwn hp (bc (hb _ s6 σ6 H6 _ I6 q6) λf s7 q7=>?_)
  have again:∀{σ7:St} {H7:Hp},Inv X (pins++gf fp s5.heap) σ7 H7 s7->N σ7 H7->∃ m,m<n/\∃ i σ' H',Inv X pins σ' H' s7/\tn i s7.heap/\(∀ b∈fp,H' b=none)/\W i m σ' H':=λ{σ7 H7} I7 n7=>by
   obtain⟨m',hm,w7⟩:=hN σ7 H7 n7
   refine⟨m',hm,i+1,σ7,H7,I7.gJ,T.keep _ _ _ st5 λb hb o e=>(I7.pin (b,o) (List.mem_append_right _ (List.mem_append_right _ (dz hb e)))).1,λb hb=>?_,w7⟩
   obtain⟨o,e,d⟩:=T.obj _ _ st5 b hb
   exact (I7.pin (b,o) (List.mem_append_right _ (List.mem_append_right _ (dz hb e)))).2.1
  cases f with
  | next=>obtain⟨σ7,H7,I7,n7⟩:=q7;exact again I7 n7
  | cont=>obtain⟨σ7,H7,I7,n7⟩:=q7;exact again I7 n7
  | brk=>obtain⟨σ7,H7,I7,q7⟩:=q7;exact⟨σ7,H7,I7.gJ,q7⟩
  | ret v=>obtain⟨x7,σ7,H7,I7,r7,q7⟩:=q7;exact⟨x7,σ7,H7,I7.gJ,r7,q7⟩
end
theorem wH {K:PySem.W.Frag} {a:Addr} {xs:List V} {g:TG} {tb:TS} {D:Ends} {σ:St} {H:Hp} (Pv:Nat->St->Hp->Prop) (h0:Pv 0 σ H) (hl:∀ i σ H,i<=xs.length->Pv i σ H->aO K H a xs)
  (hs:∀ i x σ H,xs[i]?=some x->Pv i σ H->g x σ H λσ2 H2=>tb { D with nx:=Pv (i+1),ct:=Pv (i+1),bk:=D.nx } σ2 H2) (hd:∀ σ H,Pv xs.length σ H->D.nx σ H) :
  ∃ W:Nat->Nat->St->Hp->Prop,(∃ m,W 0 m σ H)/\∀ i m σ H,W i m σ H ->
   ((zm K a).stop i H/\D.nx σ H)∨((zm K a).go i H/\∃ N:St->Hp->Prop,(∀ σ' H',N σ' H'->∃ m',m'<m/\W (i+1) m' σ' H')/\∀ x H',(zm K a).yld i H x H'->g x σ H' λσ2 H2=>tb { D with nx:=N,ct:=N,bk:=D.nx } σ2 H2):=by
 refine⟨λi m σ H=>m=xs.length-i/\i<=xs.length/\Pv i σ H,⟨xs.length,by simp,Nat.zero_le _,h0⟩,?_⟩
 rintro i m σ H ⟨rfl,hi,p⟩
 have q:=hl i σ H hi p
 by_cases hlt:i<xs.length
 ·refine .inr ⟨⟨xs,xs[i],q,by simp [hlt]⟩,Pv (i+1),λσ' H' p'=>⟨xs.length-(i+1),by omega,rfl,hlt,p'⟩,λx H' y=>?_⟩
  obtain⟨e,y⟩:=y
  subst e
  exact hs i x σ _ (y xs q) p
 ·have e:i=xs.length:=by omega
  subst e
  exact .inl ⟨⟨xs,q,Nat.le_refl _⟩,hd σ H p⟩
theorem zM {K:PySem.W.Frag} {a:Addr} {xs:List V} {g:TG} {tb:TS} {D:Ends} {σ:St} {H:Hp} (Pv:Nat->St->Hp->Prop) (h0:Pv 0 σ H) (hl:∀ i σ H,i<=xs.length->Pv i σ H->bG K H a xs)
  (hs:∀ i x σ H,xs[i]?=some x->Pv i σ H->g x σ H λσ2 H2=>tb { D with nx:=Pv (i+1),ct:=Pv (i+1),bk:=D.nx } σ2 H2) (hd:∀ σ H,Pv xs.length σ H->D.nx σ H) :
  ∃ W:Nat->Nat->St->Hp->Prop,(∃ m,W 0 m σ H)/\∀ i m σ H,W i m σ H ->
   ((BS K a).stop i H/\D.nx σ H)∨((BS K a).go i H/\∃ N:St->Hp->Prop,(∀ σ' H',N σ' H'->∃ m',m'<m/\W (i+1) m' σ' H')/\∀ x H',(BS K a).yld i H x H'->g x σ H' λσ2 H2=>tb { D with nx:=N,ct:=N,bk:=D.nx } σ2 H2):=by
 refine⟨λi m σ H=>m=xs.length-i/\i<=xs.length/\Pv i σ H,⟨xs.length,by simp,Nat.zero_le _,h0⟩,?_⟩
 rintro i m σ H ⟨rfl,hi,p⟩
 have q:=hl i σ H hi p
 by_cases hlt:i<xs.length
 ·refine .inr ⟨⟨xs,xs[i],q,by simp [hlt]⟩,Pv (i+1),λσ' H' p'=>⟨xs.length-(i+1),by omega,rfl,hlt,p'⟩,λx H' y=>?_⟩
  obtain⟨e,y⟩:=y
  subst e
  exact hs i x σ _ (y xs q) p
 ·have e:i=xs.length:=by omega
  subst e
  exact .inl ⟨⟨xs,q,Nat.le_refl _⟩,hd σ H p⟩
theorem uR {lo:Int} {n:Nat} {g:TG} {tb:TS} {D:Ends} {σ:St} {H:Hp} (Pv:Nat->St->Hp->Prop) (h0:Pv 0 σ H)
  (hs:∀ i σ H,i<n->Pv i σ H->g (.int (lo+i)) σ H λσ2 H2=>tb { D with nx:=Pv (i+1),ct:=Pv (i+1),bk:=D.nx } σ2 H2) (hd:∀ σ H,Pv n σ H->D.nx σ H) :
  ∃ W:Nat->Nat->St->Hp->Prop,(∃ m,W 0 m σ H)/\∀ i m σ H,W i m σ H ->
   ((zo lo n).stop i H/\D.nx σ H)∨((zo lo n).go i H/\∃ N:St->Hp->Prop,(∀ σ' H',N σ' H'->∃ m',m'<m/\W (i+1) m' σ' H')/\∀ x H',(zo lo n).yld i H x H'->g x σ H' λσ2 H2=>tb { D with nx:=N,ct:=N,bk:=D.nx } σ2 H2):=by
 refine⟨λi m σ H=>m=n-i/\i<=n/\Pv i σ H,⟨n,by simp,Nat.zero_le _,h0⟩,?_⟩
 rintro i m σ H ⟨rfl,hi,p⟩
 by_cases hlt:i<n
 ·refine .inr ⟨hlt,Pv (i+1),λσ' H' p'=>⟨n-(i+1),by omega,rfl,hlt,p'⟩,λx H' y=>?_⟩
  obtain⟨e,y⟩:=y
  subst e y
  exact hs i σ _ hlt p
 ·have e:i=n:=by omega
  subst e
  exact .inl ⟨Nat.le_refl _,hd σ H p⟩
abbrev R2:=V->V->Hp->VK->Prop
def iL (X:Cx) (f:Value->Value->Sem Value) (r:R2):Prop :=
 ∀(pins:List (Addr × Obj)) (s:Shared) (σ:St) (H:Hp) (x y:V) (v u:Value) (Q:VK),Inv X pins σ H s->RelV x v->RelV y u->r x y H Q ->
  wpAny (model X.prog X.w) X.A (f v u) (EP X pins σ Q) X.xe s
def E9 (X:Cx) (f:Value->Sem Value) (r:V->Hp->VK->Prop):Prop :=
 ∀(pins:List (Addr × Obj)) (s:Shared) (σ:St) (H:Hp) (x:V) (v:Value) (Q:VK),Inv X pins σ H s->RelV x v->r x H Q ->
  wpAny (model X.prog X.w) X.A (f v) (EP X pins σ Q) X.xe s
def cT (X:Cx) (f:Value) (r:List V->Hp->VK->Prop):Prop :=
 ∀(pins:List (Addr × Obj)) (s:Shared) (σ:St) (H:Hp) (xs:List V) (us:List Value) (Q:VK),Inv X pins σ H s->Vals xs us->r xs H Q ->
  wpAny (model X.prog X.w) X.A (call f us) (EP X pins σ Q) X.xe s
def E8 (X:Cx) (r:V->Hp->(Bool->Hp->Prop)->Prop):Prop :=
 ∀(pins:List (Addr × Obj)) (s:Shared) (σ:St) (H:Hp) (x:V) (v:Value) (Q:Bool->Hp->Prop),Inv X pins σ H s->RelV x v->r x H Q ->
  wpAny (model X.prog X.w) X.A (truthy v) (TP X pins σ Q) X.xe s
def ED (r:R2) (ta tb:TE):TE:=λσ H Q=>ta σ H λx H1=>tb σ H1 λy H2=>r x y H2 Q
def FP (r:V->Hp->VK->Prop) (ta:TE):TE:=λσ H Q=>ta σ H λx H1=>r x H1 Q
def rI (C:Int->Int->Prop) (g:Int->Int->V):R2:=λx y H Q=>∃ i j,x=.int i/\y=.int j/\C i j/\Q (g i j) H
def vX (g:Int->Int->V):R2:=λx y H Q=>∃ i j,x=.int i/\y=.int j/\Q (g i j) H
def rU (g:Int->V):V->Hp->VK->Prop:=λx H Q=>∃ i,x=.int i/\Q (g i) H
section
variable {X:Cx} {a b c:Expr} {ta tb tc:TE} {pos:Pos}
theorem B1 (ha:PE X a ta) (hb:PE X b tb) {pins:List (Addr × Obj)} {s:Shared} {σ:St} {H:Hp} {R:V->V->Hp->Prop} (I:Inv X pins σ H s)
  (h:ta σ H λx H1=>tb σ H1 λy H2=>R x y H2) {Q:Value->Shared->Prop} {f:Value->Value->Sem Value}
  (hf:∀ v u s2 x y H2,Inv X pins σ H2 s2->RelV x v->RelV y u->R x y H2->wpAny (model X.prog X.w) X.A (f v u) Q X.xe s2) :
  wpAny (model X.prog X.w) X.A (eval a X.env) (λv s₁=>wpAny (model X.prog X.w) X.A (eval b X.env) (λu s₂=>wpAny (model X.prog X.w) X.A (f v u) Q X.xe s₂) X.xe s₁) X.xe s:=by
 refine bc (ha pins s σ H _ I h) λv s1 ⟨x,H1,I1,r1,q1⟩=>?_
 refine bc (hb pins s1 σ H1 _ I1 q1) λu s2 ⟨y,H2,I2,r2,q2⟩=>?_
 exact hf v u s2 x y H2 I2 r1 r2 q2
theorem ao {op:Operator} {r:R2} (ho:iL X (binaryOp op) r) (ha:PE X a ta) (hb:PE X b tb):PE X (.BinOp a op b pos) (ED r ta tb):=by
 intro pins s σ H Q I h
 exact wpAny_BinOp (B1 ha hb I h λv u s2 x y H2 I2 rx ry q=>ho pins s2 σ H2 x y v u Q I2 rx ry q)
theorem j3 {op:UnaryOp} {r:V->Hp->VK->Prop} (ho:E9 X (unaryOp op) r) (ha:PE X a ta):PE X (.UnaryOp op a pos) (FP r ta):=by
 intro pins s σ H Q I h
 exact UnaryOp_ (bc (ha pins s σ H _ I h) λv s1 ⟨x,H1,I1,r1,q1⟩=>ho pins s1 σ H1 x v Q I1 r1 q1)
theorem Dy {f:Value->Value->Sem Value} {C:Int->Int->Prop} {g:Int->Int->Int}
  (rule:∀(i j:Int) (t u:Tok) (s:Shared) (Q:Value->Shared->Prop) (E:Value->Shared->Prop),C i j->Q (.int (g i j) s.toks) { s with toks:=s.toks+1 }->wpAny (model X.prog X.w) X.A (f (.int i t) (.int j u)) Q E s) :
  iL X f (rI C λi j=>.int (g i j)):=by
 intro pins s σ H x y v u Q I rx ry h
 obtain⟨i,j,rfl,rfl,hc,q⟩:=h
 obtain⟨t,rfl⟩:=rx
 obtain⟨t',rfl⟩:=ry
 exact rule i j t t' s _ _ hc ⟨.int (g i j),H,I.tok _,⟨_,rfl⟩,q⟩
theorem Ak {f:Value->Value->Sem Value} {g:Int->Int->Int}
  (rule:∀(i j:Int) (t u:Tok) (s:Shared) (Q:Value->Shared->Prop) (E:Value->Shared->Prop),Q (.int (g i j) s.toks) { s with toks:=s.toks+1 }->wpAny (model X.prog X.w) X.A (f (.int i t) (.int j u)) Q E s) :
  iL X f (vX λi j=>.int (g i j)):=by
 intro pins s σ H x y v u Q I rx ry h
 obtain⟨i,j,rfl,rfl,q⟩:=h
 obtain⟨t,rfl⟩:=rx
 obtain⟨t',rfl⟩:=ry
 exact rule i j t t' s _ _ ⟨.int (g i j),H,I.tok _,⟨_,rfl⟩,q⟩
theorem Aj {f:Value->Value->Sem Value} {g:Int->Int->Bool}
  (rule:∀(i j:Int) (t u:Tok) (s:Shared) (Q:Value->Shared->Prop) (E:Value->Shared->Prop),Q (.bool (g i j)) s->wpAny (model X.prog X.w) X.A (f (.int i t) (.int j u)) Q E s) :
  iL X f (vX λi j=>.bl (g i j)):=by
 intro pins s σ H x y v u Q I rx ry h
 obtain⟨i,j,rfl,rfl,q⟩:=h
 obtain⟨t,rfl⟩:=rx
 obtain⟨t',rfl⟩:=ry
 exact rule i j t t' s _ _ ⟨.bl (g i j),H,I,rfl,q⟩
def DB (i j:Int):Prop:=0<=j/\j<=1000000/\i.natAbs<2^64
def DA (i j:Int):Prop:=(-(2^64)<i/\i<2^64)∨(-(2^64)<j/\j<2^64)
theorem DA.ok {i j:Int} (h:DA i j):IntMulOk i j:=by
 rcases h with⟨h1,h2⟩|⟨h1,h2⟩
 ·exact .of_left (intBits_le_64 h1 h2)
 ·exact .of_right (intBits_le_64 h1 h2)
theorem bE:iL X (binaryOp .Add) (vX λi j=>.int (i+j)):=Ak λ_ _ _ _ _ _ _ q=>add_int q
theorem bI:iL X (binaryOp .Sub) (vX λi j=>.int (i-j)):=Ak λ_ _ _ _ _ _ _ q=>sub_int q
theorem aF:iL X (binaryOp .Mod) (rI (λ_ j=>0<j) λi j=>.int (i%j)):=Dy λi j _ _ _ _ _ hc q=>by
 have h1:(0:Int)<j:=hc
 exact mod_int' (by omega) (by rw [Int.fmod_eq_emod_of_nonneg i (by omega)];exact q)
theorem sA:iL X (binaryOp .Pow) (rI DB λi j=>.int (i^j.toNat)):=Dy λ_ _ _ _ _ _ _ hc q=>pow_int_small hc.1 hc.2.1 hc.2.2 q
theorem gN:iL X (inplaceOp .Add) (vX λi j=>.int (i+j)):=Ak λ_ _ _ _ _ _ _ q=>iadd_int q
theorem zQ:iL X (inplaceOp .Sub) (vX λi j=>.int (i-j)):=Ak λ_ _ _ _ _ _ _ q=>isub_int q
theorem F2 {f:Value->Sem Value} {g:Int->Int}
  (rule:∀(i:Int) (t:Tok) (s:Shared) (Q:Value->Shared->Prop) (E:Value->Shared->Prop),Q (.int (g i) s.toks) { s with toks:=s.toks+1 }->wpAny (model X.prog X.w) X.A (f (.int i t)) Q E s) :
  E9 X f (rU λi=>.int (g i)):=by
 intro pins s σ H x v Q I rx h
 obtain⟨i,rfl,q⟩:=h
 obtain⟨t,rfl⟩:=rx
 exact rule i t s _ _ ⟨.int (g i),H,I.tok _,⟨_,rfl⟩,q⟩
theorem gI:E9 X (unaryOp .USub) (rU λi=>.int (-i)):=F2 λ_ _ _ _ _ q=>neg_int q
end
def oG:V->V->Bool
 | .non,.non=>true | .non,.int _=>true | .int _,.non=>true | .non,.bl _=>true | .bl _,.non=>true | .non,.str _=>true | .str _,.non=>true
 | .int _,.int _=>true | .bl _,.bl _=>true | .str _,.str _=>true | .byt _,.byt _=>true
 | .int _,.str _=>true | .str _,.int _=>true | .bl _,.str _=>true | .str _,.bl _=>true
 | _,_=>false
def FH:R2:=λx y H Q=>oG x y=true/\Q (.bl (decide (x=y))) H
def FI:R2:=λx y H Q=>oG x y=true/\Q (.bl (!decide (x=y))) H
theorem tq {i j:Int}:decide (V.int i=V.int j)=(i==j):=by
 rw [Bool.eq_iff_iff]
 simp
theorem wj {i j:Bool}:decide (V.bl i=V.bl j)=(i==j):=by
 rw [Bool.eq_iff_iff]
 simp
theorem tu {i j:Str}:decide (V.str i=V.str j)=(i==j):=by
 rw [Bool.eq_iff_iff]
 simp
theorem tj {i j:Array UInt8}:decide (V.byt i=V.byt j)=(i.toList==j.toList):=by
 rw [Bool.eq_iff_iff]
 cases i
 cases j
 simp
section
variable {X:Cx} {a b c:Expr} {ta tb tc:TE} {pos:Pos}
theorem aU {pins:List (Addr × Obj)} {σ:St} {H:Hp} {s:Shared} {Q:VK} {k k':Bool} (I:Inv X pins σ H s) (q:Q (.bl k) H) (e:k=k'):EP X pins σ Q (.bool k') s:=by
 subst e
 exact⟨.bl k,H,I,rfl,q⟩
theorem a9:iL X (compareOp .Eq) FH:=by
 intro pins s σ H x y v u Q I rx ry h
 obtain⟨hs,q⟩:=h
 cases x with
 | non =>
  cases rx
  cases y with
  | non=>cases ry;exact PySem.EqNone.eq_none_none (aU I q (by simp))
  | bl j=>cases ry;exact PySem.EqNone.eq_none_bool (aU I q (by simp))
  | int j=>obtain⟨t',rfl⟩:=ry;exact PySem.EqNone.eq_none_int (aU I q (by simp))
  | str j=>obtain⟨t',rfl⟩:=ry;exact PySem.EqNone.eq_none_str (aU I q (by simp))
  | _=>exact absurd (show false=true from hs) Bool.false_ne_true
 | bl i =>
  cases rx
  cases y with
  | non=>cases ry;exact PySem.EqNone.eq_bool_none (aU I q (by simp))
  | bl j=>cases ry;exact eq_bool (aU I q wj)
  | str j=>obtain⟨t',rfl⟩:=ry;exact PySem.EqMixed.eq_bool_str (aU I q (by simp))
  | _=>exact absurd (show false=true from hs) Bool.false_ne_true
 | int i =>
  obtain⟨t,rfl⟩:=rx
  cases y with
  | non=>cases ry;exact PySem.EqNone.eq_int_none (aU I q (by simp))
  | int j=>obtain⟨t',rfl⟩:=ry;exact eq_int (aU I q tq)
  | str j=>obtain⟨t',rfl⟩:=ry;exact PySem.EqMixed.eq_int_str (aU I q (by simp))
  | _=>exact absurd (show false=true from hs) Bool.false_ne_true
 | str i =>
  obtain⟨t,rfl⟩:=rx
  cases y with
  | non=>cases ry;exact PySem.EqNone.eq_str_none (aU I q (by simp))
  | bl j=>cases ry;exact PySem.EqMixed.eq_str_bool (aU I q (by simp))
  | int j=>obtain⟨t',rfl⟩:=ry;exact PySem.EqMixed.eq_str_int (aU I q (by simp))
  | str j=>obtain⟨t',rfl⟩:=ry;exact eq_str (aU I q tu)
  | _=>exact absurd (show false=true from hs) Bool.false_ne_true
 | byt i =>
  obtain⟨t,rfl⟩:=rx
  cases y with
  | byt j=>obtain⟨t',rfl⟩:=ry;exact PySem.W.eq_bytes (aU I q tj)
  | _=>exact absurd (show false=true from hs) Bool.false_ne_true
 | _=>cases y<;>exact absurd (show false=true from hs) Bool.false_ne_true
theorem ic:iL X (compareOp .NotEq) FI:=by
 intro pins s σ H x y v u Q I rx ry h
 obtain⟨hs,q⟩:=h
 cases x with
 | non =>
  cases rx
  cases y with
  | non=>cases ry;exact PySem.EqNone.ne_none_none (aU I q (by simp))
  | bl j=>cases ry;exact PySem.EqNone.ne_none_bool (aU I q (by simp))
  | int j=>obtain⟨t',rfl⟩:=ry;exact PySem.EqNone.ne_none_int (aU I q (by simp))
  | str j=>obtain⟨t',rfl⟩:=ry;exact PySem.EqNone.ne_none_str (aU I q (by simp))
  | _=>exact absurd (show false=true from hs) Bool.false_ne_true
 | bl i =>
  cases rx
  cases y with
  | non=>cases ry;exact PySem.EqNone.ne_bool_none (aU I q (by simp))
  | bl j=>cases ry;exact ne_bool (aU I q (congrArg not wj))
  | str j=>obtain⟨t',rfl⟩:=ry;exact PySem.EqMixed.ne_bool_str (aU I q (by simp))
  | _=>exact absurd (show false=true from hs) Bool.false_ne_true
 | int i =>
  obtain⟨t,rfl⟩:=rx
  cases y with
  | non=>cases ry;exact PySem.EqNone.ne_int_none (aU I q (by simp))
  | int j=>obtain⟨t',rfl⟩:=ry;exact ne_int (aU I q (congrArg not tq))
  | str j=>obtain⟨t',rfl⟩:=ry;exact PySem.EqMixed.ne_int_str (aU I q (by simp))
  | _=>exact absurd (show false=true from hs) Bool.false_ne_true
 | str i =>
  obtain⟨t,rfl⟩:=rx
  cases y with
  | non=>cases ry;exact PySem.EqNone.ne_str_none (aU I q (by simp))
  | bl j=>cases ry;exact PySem.EqMixed.ne_str_bool (aU I q (by simp))
  | int j=>obtain⟨t',rfl⟩:=ry;exact PySem.EqMixed.ne_str_int (aU I q (by simp))
  | str j=>obtain⟨t',rfl⟩:=ry;exact ne_str (aU I q (congrArg not tu))
  | _=>exact absurd (show false=true from hs) Bool.false_ne_true
 | byt i =>
  obtain⟨t,rfl⟩:=rx
  cases y with
  | byt j=>obtain⟨t',rfl⟩:=ry;exact PySem.W.ne_bytes (aU I q (congrArg not tj))
  | _=>exact absurd (show false=true from hs) Bool.false_ne_true
 | _=>cases y<;>exact absurd (show false=true from hs) Bool.false_ne_true
theorem dJ:iL X (compareOp .Lt) (vX λi j=>.bl (decide (i<j))):=Aj λ_ _ _ _ _ _ _ q=>lt_int q
theorem qz:iL X (compareOp .LtE) (vX λi j=>.bl (decide (i<=j))):=Aj λ_ _ _ _ _ _ _ q=>le_int q
theorem cJ:iL X (compareOp .Gt) (vX λi j=>.bl (decide (j<i))):=Aj λ_ _ _ _ _ _ _ q=>gt_int q
theorem Bt:iL X (compareOp .GtE) (vX λi j=>.bl (decide (j<=i))):=Aj λ_ _ _ _ _ _ _ q=>ge_int q
theorem CH:iL X (compareOp .Is) (λx y H Q=>y=.non/\Q (.bl (decide (x=.non))) H):=by
 intro pins s σ H x y v u Q I rx ry h
 obtain⟨rfl,q⟩:=h
 cases ry
 refine is_none_gen (aU I q ?_)
 cases x<;>first
  | (cases rx;rfl)
  | (obtain⟨t,rfl⟩:=rx;rfl)
theorem oq:iL X (compareOp .IsNot) (λx y H Q=>y=.non/\Q (.bl (!decide (x=.non))) H):=by
 intro pins s σ H x y v u Q I rx ry h
 obtain⟨rfl,q⟩:=h
 cases ry
 refine isnot_none_gen (aU I q ?_)
 cases x<;>first
  | (cases rx;rfl)
  | (obtain⟨t,rfl⟩:=rx;rfl)
theorem ay (b:Expr) {op:CmpOp} (h:op≠.In:=by decide) (h2:op≠.NotIn:=by decide):behindInMarks op b=false:=by
 have e1:(op==CmpOp.In)=false:=by cases op<;>first | rfl | exact absurd rfl h
 have e2:(op==CmpOp.NotIn)=false:=by cases op<;>first | rfl | exact absurd rfl h2
 cases b<;>simp [behindInMarks,e1,e2]
theorem bA {op:CmpOp} {r:R2} (ho:iL X (compareOp op) r) (ha:PE X a ta) (hb:PE X b tb) (hm:behindInMarks op b=false):PE X (.Compare a [op] [b] pos) (ED r ta tb):=by
 intro pins s σ H Q I h
 exact wpAny_Compare1 (B1 ha hb I h λv u s2 x y H2 I2 rx ry q=>ho pins s2 σ H2 x y v u Q I2 rx ry q) hm
def BL (t:TE):TT:=λσ H Q=>t σ H λx H'=>∃ k,x=.bl k/\Q k H'
theorem az {op:CmpOp} {r:R2} (ho:iL X (compareOp op) r) (ha:PE X a ta) (hb:PE X b tb) (hm:behindInMarks op b=false):PT X (.Compare a [op] [b] pos) (BL (ED r ta tb)):=by
 intro pins s σ H Q I h
 refine wpAny_isTrue_Compare1 (bc (ha pins s σ H _ I h) λv s1 ⟨x,H1,I1,r1,q1⟩=>bc (hb pins s1 σ H1 _ I1 q1) λu s2 ⟨y,H2,I2,r2,q2⟩ =>
  bc (ho pins s2 σ H2 x y v u _ I2 r1 r2 q2) λc s3 ⟨z,H3,I3,r3,k,e,q3⟩=>?_) hm
 subst e
 cases r3
 exact wpAny_truthy_bool ⟨H3,I3,q3⟩
def sN (r r':R2) (ta tb tc:TE):TE:=λσ H Q=>ta σ H λx H1=>tb σ H1 λy H2=>r x y H2 λz H3=>∃ k,z=.bl k /\
 (if k=true then tc σ H3 λw' H4=>r' y w' H4 Q else Q (.bl false) H3)
theorem qG {op op':CmpOp} {r r':R2} (ho:iL X (compareOp op) r) (ho':iL X (compareOp op') r') (ha:PE X a ta) (hb:PE X b tb) (hc:PE X c tc)
  (hm:lastMarks [op,op'] [b,c]=false:=by with_unfolding_all rfl):PE X (.Compare a [op,op'] [b,c] pos) (sN r r' ta tb tc):=by
 intro pins s σ H Q I h
 refine Compare_chain (bc (ha pins s σ H _ I h) λv s1 ⟨x,H1,I1,r1,q1⟩=>chain_link (bc (hb pins s1 σ H1 _ I1 q1) λu s2 ⟨y,H2,I2,r2,q2⟩ =>
  bc (ho pins s2 σ H2 x y v u _ I2 r1 r2 q2) λd s3 ⟨z,H3,I3,r3,k,e,q3⟩=>?_)) hm
 subst e
 cases r3
 refine wpAny_truthy_bool ?_
 cases k with
 | false=>exact ite_ff ⟨.bl false,H3,I3,rfl,q3⟩
 | true=>exact ite_tt (chain_last (bc (hc pins s3 σ H3 _ I3 q3) λw' s4 ⟨z',H4,I4,r4,q4⟩=>ho' pins s4 σ H4 y z' u w' Q I4 r2 r4 q4))
def zw (K:PySem.W.Frag) (x:V) (H:Hp) (k:Bool):Prop :=
 match x with
 | .non=>k=false
 | .bl b=>k=b
 | .int i=>k=(i != 0)
 | .str y=>y.length<=sizeLine/\k=((y.length:Int) != 0)
 | .byt y=>y.size<=sizeLine/\k=((y.size:Int) != 0)
 | .ref p=>(∃ xs,aO K H p xs/\k=!xs.isEmpty)∨(∃ xs,bG K H p xs/\k=!xs.isEmpty)∨∃ kvs,H p=some (.dK kvs)/\k=!kvs.isEmpty
 | _=>False
theorem rV {κ:Type} {kvs:List (κ × V)} {vs:List (κ × Value)} (r:KV kvs vs):(!vs.isEmpty)=!kvs.isEmpty:=by
 cases r<;>rfl
theorem lr {xs:List V} {its:List Value} (r:Vals xs its):(!its.toArray.isEmpty)=!xs.isEmpty:=by
 cases r<;>simp
theorem nX:(sizeLine:Nat)<2^63:=by rw [sizeLine_eq];decide
theorem Dl:E8 X (λx H Q=>∃ k,zw X.K x H k/\Q k H):=by
 intro pins s σ H x v Q I rx h
 obtain⟨k,e,q⟩:=h
 have hl:=nX
 have hs:sizeLine=16777216:=sizeLine_eq
 cases x with
 | non =>
  cases rx
  have e':k=false:=e
  subst e'
  exact truthy_none ⟨H,I,q⟩
 | bl b =>
  cases rx
  have e':k=b:=e
  subst e'
  exact wpAny_truthy_bool ⟨H,I,q⟩
 | int i =>
  obtain⟨t,rfl⟩:=rx
  have e':k=(i != 0):=e
  subst e'
  exact PySem.P.truthy_int ⟨H,I,q⟩
 | str y =>
  obtain⟨t,rfl⟩:=rx
  obtain⟨hy,e'⟩:y.length<=sizeLine/\k=((y.length:Int) != 0):=e
  subst e'
  exact PySem.P.truthy_str (by omega) ⟨H,I.tok _,q⟩
 | byt y =>
  obtain⟨t,rfl⟩:=rx
  obtain⟨hy,e'⟩:y.size<=sizeLine/\k=((y.size:Int) != 0):=e
  subst e'
  exact PySem.W.truthy_bytes (by omega) ⟨H,I.tok _,q⟩
 | ref p =>
  cases rx
  have e':(∃ xs,aO X.K H p xs/\k=!xs.isEmpty)∨(∃ xs,bG X.K H p xs/\k=!xs.isEmpty)∨∃ kvs,H p=some (.dK kvs)/\k=!kvs.isEmpty:=e
  rcases e' with⟨xs,hx,e'⟩|⟨xs,hx,e'⟩|⟨kvs,hx,e'⟩
  ·subst e'
   obtain⟨its,r,pl,hz⟩:=I.list hx
   have hlen:=r.length
   exact wpAny_truthy_list pl.isList (by simp only [List.size_toArray];omega) ⟨H,I.tok _,by rw [lr r];exact q⟩
  ·subst e'
   obtain⟨its,r,pl,hz⟩:=I.tuple hx
   have hlen:=r.length
   exact truthy_tuple pl (by simp only [List.size_toArray];omega) ⟨H,I.tok _,by rw [lr r];exact q⟩
  ·subst e'
   obtain⟨hz,hS,vs,r,m⟩:kvs.length<=sizeLine/\(p==sysModules)=false/\∃ vs,KV kvs vs/\s.heap.DictOf (bO X.prog X.w) p vs:=I.hok p _ hx
   have hlen:kvs.length=vs.length:=Paired.length r
   exact wpAny_truthy_dict hS m (by omega) ⟨H,I.tok _,by rw [rV r];exact q⟩
 | _=>exact (show False from e).elim
theorem aT (ha:PE X a ta) (he:∀ whole,isTrue a X.env whole=(do let v <- whole;standAt a.pos;holding [v] (truthy v))) :
  PT X a (λσ H Q=>ta σ H λx H'=>∃ k,zw X.K x H' k/\Q k H'):=by
 intro pins s σ H Q I h
 exact isTrue_plain (bc (ha pins s σ H _ I h) λv s1 ⟨x,H1,I1,r1,q1⟩=>Dl pins s1 σ H1 x v Q I1 r1 q1) (he _)
theorem vals1 {x:V} {us:List Value} (r:Vals [x] us):∃ u,us=[u]/\RelV x u:=by
 cases r with
 | cons r1 r2=>cases r2;exact⟨_,rfl,r1⟩
theorem vals2 {x y:V} {us:List Value} (r:Vals [x,y] us):∃ u w',us=[u,w']/\RelV x u/\RelV y w':=by
 cases r with
 | cons r1 r2 =>
  cases r2 with
  | cons r3 r4=>cases r4;exact⟨_,_,rfl,r1,r3⟩
theorem k9:cT X (.builtin "abs") (λxs H Q=>∃ i,xs=[.int i]/\Q (.int (if i<0 then -i else i)) H):=by
 intro pins s σ H xs us Q I r h
 obtain⟨i,rfl,q⟩:=h
 obtain⟨u,rfl,t,rfl⟩:=vals1 r
 exact call_abs_int λu tk=>⟨.int (if i<0 then -i else i),H,I.tok _,⟨_,rfl⟩,q⟩
theorem uG (hc:X.calm=true):cT X (.builtin "max") (λxs H Q=>∃ i j,xs=[.int i,.int j]/\Q (.int (if j > i then j else i)) H):=by
 intro pins s σ H xs us Q I r h
 obtain⟨i,j,rfl,q⟩:=h
 obtain⟨u,w',rfl,⟨t,rfl⟩,⟨t',rfl⟩⟩:=vals2 r
 refine max_two_ints (I.ok.hd hc) λh' tk k=>⟨_,H,I.kept k,?_,q⟩
 by_cases hj:j > i
 ·rw [if_pos hj,if_pos hj];exact⟨_,rfl⟩
 ·rw [if_neg hj,if_neg hj];exact⟨_,rfl⟩
theorem uH (hc:X.calm=true):cT X (.builtin "min") (λxs H Q=>∃ i j,xs=[.int i,.int j]/\Q (.int (if j<i then j else i)) H):=by
 intro pins s σ H xs us Q I r h
 obtain⟨i,j,rfl,q⟩:=h
 obtain⟨u,w',rfl,⟨t,rfl⟩,⟨t',rfl⟩⟩:=vals2 r
 refine min_two_ints (I.ok.hd hc) λh' tk k=>⟨_,H,I.kept k,?_,q⟩
 by_cases hj:j<i
 ·rw [if_pos hj,if_pos hj];exact⟨_,rfl⟩
 ·rw [if_neg hj,if_neg hj];exact⟨_,rfl⟩
theorem mK:cT X (.type "int") (λxs H Q=>(∃ i,xs=[.int i]/\Q (.int i) H)∨∃ k,xs=[.bl k]/\Q (.int (if k then 1 else 0)) H):=by
 intro pins s σ H xs us Q I r h
 rcases h with⟨i,rfl,q⟩|⟨k,rfl,q⟩
 ·obtain⟨u,rfl,t,rfl⟩:=vals1 r
  exact call_int_int ⟨.int i,H,I,⟨_,rfl⟩,q⟩
 ·obtain⟨u,rfl,r1⟩:=vals1 r
  cases r1
  exact call_int_bool ⟨.int (if k then 1 else 0),H,I.tok _,⟨_,rfl⟩,q⟩
end
structure rE (h:Heap) (x dx C:Addr) (mA:Str->Option Value):Prop where
 obj:h.get? x=some (PySem.W.instObj C dx)
 ns:h.Ns1 dx mA
 ne:dx≠x
theorem u4 {h:Heap} {dx:Addr} {mA:Str->Option Value} (n:h.Ns1 dx mA):∃ od,h.get? dx=some od/\∀ name,PySem.W.lookIn name od=some (mA name):=by
 obtain⟨o,es,ep,ho,hd,hk,_,hm⟩:=n
 refine⟨o,ho,λname=>?_⟩
 have e:=hm name
 unfold nsFind findBy at e
 rw [<- Array.find?_toList] at e
 unfold PySem.W.lookIn
 rw [hd]
 dsimp only
 split
 ·rename_i y q
  rw [q] at e
  exact congrArg some e
 ·rename_i q
  rw [q] at e
  have a:es.toList.any (·.refKey)=false:=by
   rw [List.any_eq_false]
   intro y hy
   obtain⟨z,t,hkey⟩:=hk y (Array.mem_toList_iff.mp hy)
   simp [DictEntry.refKey,hkey]
  have a':¬es.toList.any (·.refKey)=true:=by rw [a];exact Bool.false_ne_true
  rw [if_neg a']
  exact congrArg some e
theorem rE.look {h:Heap} {x dx C:Addr} {mA:Str->Option Value} (I:rE h x dx C mA):∃ od,PySem.W.InstAt h x (PySem.W.instObj C dx) C (some od)/\∀ name,PySem.W.lookIn name od=some (mA name) :=
 let ⟨od,ho,hl⟩:=u4 I.ns
 ⟨od,⟨I.obj,rfl,rfl,ho⟩,hl⟩
section
variable {prog:Program} {w:World} {A:Around} {E:Value->Shared->Prop} {s:Shared} {K:PySem.W.Frag} {x dx C f:Addr} {mA:Str->Option Value} {name:Str} {v:Value}
theorem get_map {expr:Bool} {Q:Value->Shared->Prop} (X:K.In s.heap) (I:rE s.heap x dx C mA) (hg:PySem.W.plainGet K C name=true) (hh:PySem.W.hasDictIn K C=true)
  (ha:PySem.W.findIn K (.ref C) name=some none) (hv:mA name=some v) (hv':PySem.W.handedIn v=true) (h:Q v { s with toks:=s.toks+1 }) :
  wpAny (model prog w) A (getAttr (.ref x) name expr) Q E s:=by
 obtain⟨od,J,hl⟩:=I.look
 exact PySem.W.get_value X J (PySem.W.plainGet_of hg).1 (PySem.W.findObj_own hh ha rfl (by rw [hl,hv])) hv' h
theorem wK {pl:Sem Bool} {Q:Value × List Value->Shared->Prop} (X:K.In s.heap) (I:rE s.heap x dx C mA) (hg:PySem.W.plainGet K C name=true)
  (hf:PySem.W.findIn K (.ref C) name=some (some (.ref f))) (ht:PySem.W.isFn K (.ref f)=true) (hv:mA name=none) (h:Q (.ref f,[.ref x]) s) :
  wpAny (model prog w) A (getMethod (.ref x) name pl) Q E s:=by
 obtain⟨od,J,hl⟩:=I.look
 exact PySem.W.method_fn X J (PySem.W.plainGet_of hg).1 (PySem.W.plainGet_of hg).2 hf (beq_iff_eq.mp ht) (by show (PySem.W.lookIn name od).map (·.isSome)=some false;rw [hl,hv];rfl) h
theorem AN {ns:List Str} {Q:Unit->Shared->Prop} (X:K.In s.heap) (I:rE s.heap x dx C mA)
  (hs:PySem.W.findIn K (.ref C) "__setattr__"=some (some (.builtin "object.__setattr__"))) (hp:PySem.W.plainOver K C=true) (ht:PySem.W.takerIn K C name=some none) (hh:PySem.W.hasDictIn K C=true)
  (hw:PySem.Within mA ns) (hsz:ns.length<=sizeLine)
  (h:∀ h',rE h' x dx C (λy=>if y=name then some v else mA y)->Heap.SameBut dx s.heap h'->Q () { s with heap:=h',toks:=s.toks+2 }) :
  wpAny (model prog w) A (setAttr (.ref x) name v) Q E s:=by
 obtain⟨od,J,hl⟩:=I.look
 refine PySem.W.set_plain X J hs (PySem.W.osa_open (s:={ s with toks:=s.toks+1 }) (r:=none) X J hp ht λb=>?_)
 obtain⟨cd,hc,hd'⟩:=PySem.W.any_some hh
 have hx:s.heap.get? x=some ⟨.ref C,some dx,.plain,#[]⟩:=I.obj
 refine wpAny_bind (wpAny_pure (wpAny_bind (wpAny_bind (wpAny_loadPart hx (wpAny_bind (PySem.W.Looks.here (s:={ s with toks:=s.toks+1 }) (PySem.W.looks_clsIn X hc) ?_))))))
 rw [hd']
 refine wpAny_pure (a:=some dx) (wpAny_bind (wpAny_pure (wpAny_bind ?_)))
 refine wpAny_nsSet1 (s:={ s with toks:=s.toks+1 }) I.ns λh' hn2 hs2=>?_
 obtain⟨oD,esD,epD,hoD,hdD,hcD⟩:=hn2.count (PySem.Within.cons name v hw)
 refine wpAny_bind (wpAny_lookBehind hoD (by rw [hdD];exact pastItsLine_dict (Nat.le_trans hcD (by rw [List.length_cons];omega))) ?_)
 exact wpAny_pure (h _ ⟨(hs2.2 _ (Ne.symm I.ne)).trans I.obj,hn2,I.ne⟩ hs2)
theorem w5 {R:Result->Shared->Prop} {vs:List Value} {kw:List (Str × Value)} (X:K.In s.heap) (hm:PySem.W.makesIn K C=true)
  (hi:PySem.W.findIn K (.ref C) "__init__"=some (some (.ref f))) (hf:PySem.W.typeIn K (.ref f)=some (.type "function"))
  (h:codeAny (model prog w) (A.under (.builtin "type.__call__" ⟨.ref C::vs,kw⟩)) (.call (.ref f) ⟨.ref (s.heap.objs.size+1)::vs,kw⟩) (PySem.W.InitBack (s.heap.objs.size+1) R)
   { s with heap:=(s.heap.push PySem.W.emptyDict).push (PySem.W.instObj C s.heap.objs.size) }) :
  codeAny (model prog w) A (.call (.ref C) ⟨vs,kw⟩) R s:=by
 obtain⟨hh,g,d,t,os⟩:=s
 exact PySem.W.make_core (PySem.W.makes_of X hm) (PySem.W.looks_findIn X hi) (λself=>PySem.W.bind_fn X self hf) (.inl rfl) h
end
def gi (f:Str) (v:V):List (Str × V)->List (Str × V)
 | []=>[(f,v)]
 | (g,x)::r=>if g=f then (g,v)::r else (g,x)::gi f v r
theorem jW (f g:Str) (v:V):∀ fs:List (Str × V),(gi f v fs).lookup g=if g=f then some v else fs.lookup g
 | []=>by
  show List.lookup g [(f,v)]=_
  by_cases h:g=f
  ·have hb:(g==f)=true:=beq_iff_eq.mpr h
   simp only [List.lookup,hb,if_pos h]
  ·have hb:(g==f)=false:=beq_eq_false_iff_ne.mpr h
   simp only [List.lookup,hb,if_neg h]
 | (k,x)::r=>by
  have ih:=jW f g v r
  rw [show gi f v ((k,x)::r)=(if k=f then (k,v)::r else (k,x)::gi f v r) from rfl]
  by_cases hk:k=f
  ·rw [if_pos hk]
   by_cases h:g=k
   ·have hb:(g==k)=true:=beq_iff_eq.mpr h
    simp only [List.lookup,hb,if_pos (h.trans hk)]
   ·have hb:(g==k)=false:=beq_eq_false_iff_ne.mpr h
    simp only [List.lookup,hb,if_neg (λe:g=f=>h (e.trans hk.symm))]
  ·rw [if_neg hk]
   by_cases h:g=k
   ·have hb:(g==k)=true:=beq_iff_eq.mpr h
    simp only [List.lookup,hb,if_neg (λe:g=f=>hk (h.symm.trans e))]
   ·have hb:(g==k)=false:=beq_eq_false_iff_ne.mpr h
    simp only [List.lookup,hb]
    exact ih
theorem jH (f:Str) (v:V):∀ fs:List (Str × V),f∈(gi f v fs).map (·.1)/\∀ g,g∈fs.map (·.1)->g∈(gi f v fs).map (·.1)
 | []=>⟨by simp [gi],λg h=>by simp at h⟩
 | (k,x)::r=>by
  obtain⟨i1,i2⟩:=jH f v r
  rw [show gi f v ((k,x)::r)=(if k=f then (k,v)::r else (k,x)::gi f v r) from rfl]
  by_cases hk:k=f
  ·rw [if_pos hk]
   subst hk
   exact⟨by simp,λg h=>by simpa using h⟩
  ·rw [if_neg hk]
   refine⟨?_,λg h=>?_⟩
   ·rw [List.map_cons]
    exact List.mem_cons_of_mem _ i1
   ·rw [List.map_cons] at h ⊢
    rcases List.mem_cons.mp h with e | e
    ·exact List.mem_cons.mpr (.inl e)
    ·exact List.mem_cons_of_mem _ (i2 g e)
theorem jV (f:Str) (v:V):∀ fs:List (Str × V),(gi f v fs).length<=fs.length+1
 | []=>by simp [gi]
 | (k,x)::r=>by
  have ih:=jV f v r
  rw [show gi f v ((k,x)::r)=(if k=f then (k,v)::r else (k,x)::gi f v r) from rfl]
  by_cases hk:k=f
  ·rw [if_pos hk,List.length_cons,List.length_cons];omega
  ·rw [if_neg hk,List.length_cons,List.length_cons];omega
theorem fc.some_of {v:V} {o:Option Value} (r:fc (some v) o):∃ u,o=some u/\RelV v u:=by
 cases o with
 | none=>exact (show False from r).elim
 | some u=>exact⟨u,rfl,r⟩
theorem fc.none_of {o:Option Value} (r:fc none o):o=none:=by
 cases o with
 | none=>rfl
 | some u=>exact (show False from r).elim
theorem uS {v:V} {u:Value} (r:RelV v u):PySem.W.handedIn u=true:=by
 cases v with
 | non=>cases (show u=Value.none from r);rfl
 | bl b=>cases (show u=Value.bool b from r);rfl
 | int i=>obtain⟨t,e⟩:=(show ∃ t,u=Value.int i t from r);cases e;rfl
 | str x=>obtain⟨t,e⟩:=(show ∃ t,u=Value.str x t from r);cases e;rfl
 | byt b=>obtain⟨t,e⟩:=(show ∃ t,u=Value.bytes b t from r);cases e;rfl
 | flt b=>obtain⟨t,e⟩:=(show ∃ t,u=Value.float b t from r);cases e;rfl
 | ref a=>cases (show u=Value.ref a from r);rfl
 | ty n=>cases (show u=Value.type n from r);rfl
section
variable {P:Program} {w:World} {H H':Hp} {h h':Heap} {a C dx:Addr} {fs fs':List (Str × V)}
theorem kK (hok:fP P w H h) (e:H a=some (.ins C dx fs)):∃ mA,rE h a dx C mA/\(∀ f,fc (fs.lookup f) (mA f))/\PySem.Within mA (fs.map (·.1))/\fs.length<=1000/\H dx=some (.own a):=by
 obtain⟨d,z,ne,ob,mA,n,r,q⟩:=(show bB P w H h a (.ins C dx fs) from hok a _ e)
 exact⟨mA,⟨ob,n,ne⟩,r,q,z,d⟩
end
structure mB (K:PySem.W.Frag) (C:Addr):Prop where
 pg:PySem.W.plainGet K C Str.empty=true
 hd:PySem.W.hasDictIn K C=true
 po:PySem.W.plainOver K C=true
 sa:PySem.W.findIn K (.ref C) "__setattr__"=some (some (.builtin "object.__setattr__"))
theorem mB.get {K:PySem.W.Frag} {C:Addr} (c:mB K C) (f:Str):PySem.W.plainGet K C f=true:=c.pg
def cP (K:PySem.W.Frag) (C:Addr) (f:Str):Prop:=PySem.W.findIn K (.ref C) f=some none
theorem cP.EJ {K:PySem.W.Frag} {C:Addr} {f:Str} (n:cP K C f):PySem.W.takerIn K C f=some none:=by
 unfold PySem.W.takerIn
 rw [show PySem.W.findIn K (.ref C) f=some none from n]
 rfl
structure Meth (K:PySem.W.Frag) (C:Addr) (m:Str) (f:Addr):Prop where
 at_:PySem.W.findIn K (.ref C) m=some (some (.ref f))
 fn:PySem.W.isFn K (.ref f)=true
 kp:PySem.W.keepIn K (.ref f)=true
section
variable {X:Cx} {pins:List (Addr × Obj)} {σ:St} {H:Hp} {s:Shared} {a C dx:Addr} {fs:List (Str × V)} {f:Str} {v:V} {A:Around} {E:Value->Shared->Prop}
theorem lj {b:Bool} {Q:Value->Shared->Prop} (I:Inv X pins σ H s) (e:H a=some (.ins C dx fs)) (c:mB X.K C) (n:cP X.K C f) (l:fs.lookup f=some v)
  (h:∀ u s',Inv X pins σ H s'->RelV v u->Q u s'):wpAny (model X.prog X.w) A (getAttr (.ref a) f b) Q E s:=by
 obtain⟨mA,O,r,_,_,_⟩:=kK I.hok e
 obtain⟨u,hu,ru⟩:=fc.some_of (v:=v) (o:=mA f) (by rw [<- l];exact r f)
 exact get_map I.fL O (c.get f) c.hd n hu (uS ru) (h u _ (I.tok _) ru)
theorem ll {m:Str} {g:Addr} {pl:Sem Bool} {Q:Value × List Value->Shared->Prop} (I:Inv X pins σ H s) (e:H a=some (.ins C dx fs)) (c:mB X.K C) (k:Meth X.K C m g) (l:fs.lookup m=none)
  (h:Q (.ref g,[.ref a]) s):wpAny (model X.prog X.w) A (getMethod (.ref a) m pl) Q E s:=by
 obtain⟨mA,O,r,_,_,_⟩:=kK I.hok e
 have hn:mA m=none:=fc.none_of (by rw [<- l];exact r m)
 exact wK I.fL O (c.get m) k.at_ k.fn hn h
theorem lV {y:V} {u:Value} {Q:Unit->Shared->Prop} (I:Inv X pins σ H s) (e:H a=some (.ins C dx fs)) (c:mB X.K C) (n:cP X.K C f) (hl:fs.length<1000) (ry:RelV y u)
  (h:∀ s',Inv X pins σ (upd H a (.ins C dx (gi f y fs))) s'->Q () s'):wpAny (model X.prog X.w) A (setAttr (.ref a) f u) Q E s:=by
 obtain⟨mA,O,r,wi,_,ho⟩:=kK I.hok e
 have hz:(fs.map (·.1)).length<=sizeLine:=by rw [List.length_map,sizeLine_eq];omega
 refine AN I.fL O c.sa c.po n.EJ c.hd wi hz λh' O' sb=>h _ ?_
 have hd:∃ o,h'.get? dx=some o:=let ⟨o,_,_,e',_⟩:=O'.ns;⟨o,e'⟩
 refine I.write (x:=a) (e:=dx) (by rw [e];exact True.intro) (.inr ho) (λb q hb z=>(sb.2 b hb).trans z) hd ?_
 refine⟨by rw [au O.ne];exact ho,?_,O.ne,O'.obj,_,O'.ns,λg=>?_,λg hg=>?_⟩
 ·have:=jV f y fs;omega
 ·show fc ((gi f y fs).lookup g) (if g=f then some u else mA g)
  rw [jW]
  by_cases q:g=f
  ·rw [if_pos q,if_pos q];exact ry
  ·rw [if_neg q,if_neg q];exact r g
 ·by_cases q:g=f
  ·rw [q];exact (jH f y fs).1
  ·refine (jH f y fs).2 g (wi g λz=>hg ?_)
   show (if g=f then some u else mA g)=none
   rw [if_neg q];exact z
theorem Inv.made (I:Inv X pins σ H s):Inv X pins σ (upd (upd H s.heap.objs.size (.own (s.heap.objs.size+1))) (s.heap.objs.size+1) (.ins C s.heap.objs.size []))
  { s with heap:=(s.heap.push PySem.W.emptyDict).push (PySem.W.instObj C s.heap.objs.size) }:=by
 have e1:(s.heap.push PySem.W.emptyDict).get? s.heap.objs.size=some PySem.W.emptyDict:=Heap.get?_push_size s.heap rfl
 have e2:((s.heap.push PySem.W.emptyDict).push (PySem.W.instObj C s.heap.objs.size)).get? (s.heap.objs.size+1)=some (PySem.W.instObj C s.heap.objs.size):=by
  have:=Heap.get?_push_size (s.heap.push PySem.W.emptyDict) (o:=PySem.W.instObj C s.heap.objs.size) rfl
  rwa [Heap.size_push] at this
 have e3:(s.heap.push PySem.W.emptyDict).Ns s.heap.objs.size (λ_=>none):=⟨PySem.W.emptyDict,#[],_,e1,rfl,(λe he=>absurd he (by simp)),λ_=>rfl⟩
 have I1:=I.laid (a:=s.heap.objs.size) (o:=.own (s.heap.objs.size+1)) (h':=s.heap.push PySem.W.emptyDict) (t':=s.toks) (λb u q=>Heap.get?_push_of_some _ q) (Nat.le_refl _) ⟨_,e1⟩
 refine I1.laid (a:=s.heap.objs.size+1) (o:=.ins C s.heap.objs.size []) (t':=s.toks) (λb u q=>Heap.get?_push_of_some _ q) (Nat.le_of_eq (Heap.size_push _ _)) ?_
 have ne:s.heap.objs.size≠s.heap.objs.size+1:=Nat.ne_of_lt (Nat.lt_succ_self _)
 refine⟨by rw [au ne,ag],Nat.zero_le _,ne,e2,λ_=>none,(Heap.Ns1.of_empty e3).at λo q=>Heap.get?_push_of_some _ q,λ_=>True.intro,λy hy=>absurd rfl hy⟩
theorem zE {prog:Program} {w:World} {env:Env} {e:Expr} {f:Str} {pos:Pos} {s:Shared} {Q:Value->Shared->Prop} (hb:attributeBase e f env (eval e env)=eval e env)
  (h:wpAny (model prog w) A (eval e env) (λo s₁=>wpAny (model prog w) A (getAttr o f true) Q E s₁) E s):wpAny (model prog w) A (eval (.Attribute e f pos) env) Q E s :=
 Attribute_any_ h (by rw [arm_eval_Attribute,hb])
end
def Ey (K:PySem.W.Frag) (ta:TE) (f:Str):TE:=λσ H Q=>ta σ H λx H1=>∃ a C dx fs v,x=.ref a/\H1 a=some (.ins C dx fs)/\mB K C/\cP K C f/\fs.lookup f=some v/\Q v H1
def Ej (K:PySem.W.Frag) (ta tv:TE) (f:Str):TS:=λD σ H=>tv σ H λy H1=>ta σ H1 λx H2=>∃ a C dx fs,x=.ref a/\H2 a=some (.ins C dx fs)/\mB K C/\cP K C f/\fs.length<1000 /\
 D.nx σ (upd H2 a (.ins C dx (gi f y fs)))
def DF (X:Cx) (op:Operator) (rd:V->V->Hp->VK->Prop):Prop :=
 ∀(pins:List (Addr × Obj)) (s:Shared) (σ:St) (H:Hp) (x y:V) (u v:Value) (Q:VK),Inv X pins σ H s->RelV x u->RelV y v->rd x y H Q->wpAny (model X.prog X.w) X.A (inplaceOp op u v) (EP X pins σ Q) X.xe s
def oF (K:PySem.W.Frag) (ta tv:TE) (rd:V->V->Hp->VK->Prop) (f:Str):TS:=λD σ H=>ta σ H λx H1=>∃ a C dx fs v,x=.ref a/\H1 a=some (.ins C dx fs)/\mB K C/\cP K C f/\fs.lookup f=some v /\
 tv σ H1 λy H2=>rd v y H2 λz H3=>∃ dx' fs',H3 a=some (.ins C dx' fs')/\fs'.length<1000/\D.nx σ (upd H3 a (.ins C dx' (gi f z fs')))
section
variable {X:Cx} {o e value:Expr} {f:Str} {pos pos' tpos:Pos} {ta tv:TE}
theorem iF (he:PE X e ta) (hb:attributeBase e f X.env (eval e X.env)=eval e X.env):PE X (.Attribute e f pos) (Ey X.K ta f):=by
 intro pins s σ H Q I h
 refine zE hb (bc (he pins s σ H _ I h) λu s1 ⟨x,H1,I1,rx,a,C,dx,fs,v,ex,ea,c,n,l,q⟩=>?_)
 subst ex
 obtain rfl:u=Value.ref a:=rx
 exact lj I1 ea c n l λu' s2 I2 ru=>⟨v,H1,I2,ru,q⟩
theorem sG (ha:PE X o ta) (hv:PE X value tv) (hs:swapsWith value (some (.Attribute o f pos')) pos.line X.env=pure false):PS X (.Assign [.Attribute o f pos'] value pos) (Ej X.K ta tv f):=by
 intro pins s σ H D I h
 refine plainObj_wpAny_Assign_Attribute (bc (hv pins s σ H _ I h) λu s1 ⟨y,H1,I1,ry,q⟩=>bc (ha pins s1 σ H1 _ I1 q) λov s2 ⟨x,H2,I2,rx,a,C,dx,fs,ex,ea,c,n,l,q2⟩=>?_) hs
 subst ex
 obtain rfl:ov=Value.ref a:=rx
 exact lV I2 ea c n l ry λs3 I3=>⟨σ,_,I3,q2⟩
theorem vI {op:Operator} {rd:V->V->Hp->VK->Prop} (ha:PE X o ta) (hv:PE X value tv) (hop:DF X op rd):PS X (.AugAssign (.Attribute o f tpos) op value pos) (oF X.K ta tv rd f):=by
 intro pins s σ H D I h
 refine wpAny_AugAssign_AttributeAny (bc (ha pins s σ H _ I h) λov s1 ⟨x,H1,I1,rx,a,C,dx,fs,v,ex,ea,c,n,l,q⟩=>?_)
 subst ex
 obtain rfl:ov=Value.ref a:=rx
 refine lj I1 ea c n l λu s2 I2 ru=>bc (hv pins s2 σ H1 _ I2 q) λw3 s3 ⟨y,H2,I3,ry,q3⟩=>bc (hop pins s3 σ H2 v y u w3 _ I3 ru ry q3) λw4 s4 ⟨z,H3,I4,rz,dx',fs',ea',l',q4⟩=>?_
 exact lV I4 ea' c n l' rz λs5 I5=>⟨σ,_,I5,q4⟩
def Fs:V->V->Hp->VK->Prop:=λx y H Q=>∃ i j,x=.int i/\y=.int j/\Q (.int (i+j)) H
theorem Ce:DF X .Add Fs:=by
 rintro pins s σ H x y u v Q I rx ry ⟨i,j,rfl,rfl,q⟩
 obtain⟨t,rfl⟩:=(show ∃ t,u=Value.int i t from rx)
 obtain⟨t',rfl⟩:=(show ∃ t',v=Value.int j t' from ry)
 exact PyProof.Rows.iadd_int ⟨.int (i+j),H,I.tok _,⟨_,rfl⟩,q⟩
end
section
variable {X:Cx} {pins:List (Addr × Obj)} {σ:St} {H:Hp} {s:Shared} {A:Around} {E:Value->Shared->Prop} {Q:Value->Shared->Prop} {c:Value} {b:Bool}
inductive gY (K:PySem.W.Frag) (H:Hp):V->Value->Prop where
 | non:gY K H .non (.type "NoneType")
 | bl (x:Bool):gY K H (.bl x) (.type "bool")
 | int (i:Int):gY K H (.int i) (.type "int")
 | str (x:Str):gY K H (.str x) (.type "str")
 | flt (x:UInt64):gY K H (.flt x) (.type "float")
 | lst {a:Addr} {xs:List V} (e:H a=some (.lst xs)):gY K H (.ref a) (.type "list")
 | frz {a:Addr} {o:Obj} {xs:List V} (e:H a=some (.frz o (.lst xs))):gY K H (.ref a) (.type "list")
 | tup {a:Addr} {xs:List V} (e:H a=some (.tup xs)):gY K H (.ref a) (.type "tuple")
 | dK {a:Addr} {kvs:List (Key × V)} (e:H a=some (.dK kvs)):gY K H (.ref a) (.type "dict")
 | dT {a:Addr} {kvs:List (List Key × V)} (e:H a=some (.dT kvs)):gY K H (.ref a) (.type "dict")
 | ins {a C dx:Addr} {fs:List (Str × V)} (e:H a=some (.ins C dx fs)) (cl:mB K C) (ha:PySem.W.findIn K (.ref C) "__class__"=some (some (.builtin "object.__class__")))
   (hn:PySem.W.specialIn K (.builtin "object.__class__") "__get__"=some (some (.builtin "getset_descriptor.__get__"))) (htk:PySem.W.takesIn K (.builtin "object.__class__")=some true)
   (hm:PySem.W.mroIn K C (.type "object")=some true):gY K H (.ref a) (.ref C)
theorem gO {x:V} {u t:Value} (I:Inv X pins σ H s) (rx:RelV x u) (ty:gY X.K H x t) (e:PySem.W.kitOne X.K t c=some b) (h:∀ tk,Q (.bool b) { s with toks:=tk }) :
  wpAny (model X.prog X.w) A (call (.builtin "isinstance") [u,c]) Q E s:=by
 cases ty with
 | non=>cases (show u=Value.none from rx);exact PySem.W.kia_one PySem.W.kitx_none I.fL True.intro e (λz=>nomatch z) h
 | bl y=>cases (show u=Value.bool y from rx);exact PySem.W.kia_one PySem.W.kitx_bool I.fL True.intro e (λz=>nomatch z) h
 | int i=>obtain⟨t,q⟩:=(show ∃ t,u=Value.int i t from rx);cases q;exact PySem.W.kia_one PySem.W.kitx_int I.fL True.intro e (λz=>nomatch z) h
 | str y=>obtain⟨t,q⟩:=(show ∃ t,u=Value.str y t from rx);cases q;exact PySem.W.kia_one PySem.W.kitx_str I.fL True.intro e (λz=>nomatch z) h
 | flt y=>obtain⟨t,q⟩:=(show ∃ t,u=Value.float y t from rx);cases q;exact PySem.W.kia_one PySem.W.kitx_float I.fL True.intro e (λz=>nomatch z) h
 | @lst a xs ea =>
  cases (show u=Value.ref a from rx)
  obtain⟨_,_,n,_,h1⟩:=(show bB X.prog X.w H s.heap a (.lst xs) from I.hok a _ ea)
  exact PySem.W.kia_one PySem.W.kitx_list I.fL ⟨_,h1,rfl⟩ e (λz=>nomatch z) h
 | @frz a ob xs ea =>
  cases (show u=Value.ref a from rx)
  obtain⟨_,_,_,n,_,h1⟩:=(show bB X.prog X.w H s.heap a (.frz ob (.lst xs)) from I.hok a _ ea)
  exact PySem.W.kia_one PySem.W.kitx_list I.fL ⟨_,h1,rfl⟩ e (λz=>nomatch z) h
 | @tup a xs ea =>
  cases (show u=Value.ref a from rx)
  obtain⟨_,_,_,p⟩:=(show bB X.prog X.w H s.heap a (.tup xs) from I.hok a _ ea)
  obtain⟨o,h1,h2,_⟩:=p
  exact PySem.W.kia_one PySem.W.kitx_tuple I.fL ⟨o,h1,h2⟩ e (λz=>nomatch z) h
 | @dK a kvs ea =>
  cases (show u=Value.ref a from rx)
  obtain⟨_,_,vs,_,p⟩:=(show bB X.prog X.w H s.heap a (.dK kvs) from I.hok a _ ea)
  obtain⟨o,es,ep,h1,h2,_⟩:=p
  exact PySem.W.kia_one PySem.W.kitx_dict I.fL ⟨o,h1,h2.1⟩ e (λz=>nomatch z) h
 | @dT a kvs ea =>
  cases (show u=Value.ref a from rx)
  obtain⟨_,_,xs,_,o,es,ep,h1,h2,_⟩:=(show bB X.prog X.w H s.heap a (.dT kvs) from I.hok a _ ea)
  exact PySem.W.kia_one PySem.W.kitx_dict I.fL ⟨o,h1,h2.1⟩ e (λz=>nomatch z) h
 | @ins a C dx fs ea cl ha hn htk hm =>
  cases (show u=Value.ref a from rx)
  obtain⟨mA,O,_⟩:=kK I.hok ea
  obtain⟨od,J,_⟩:=O.look
  exact PySem.W.kia_one (PySem.W.kitx_own (cl.get _) cl.hd ha hn htk hm) I.fL J e (λz=>nomatch z) h
end
structure bR (k:Nat) (A:Around):Prop where
 hd:A.handled=none
 dp:A.depth+3*k+5<recursionLimit
 un:A.units+16*k+200<cLine
theorem bR.mono {j k:Nat} {A:Around} (r:bR k A) (h:j<=k):bR j A:=⟨r.hd,by have:=r.dp;omega,by have:=r.un;omega⟩
theorem bR.deeper {k:Nat} {A:Around} (r:bR (k+1) A) (env:Env):bR k (A.deeper env) :=
 ⟨r.hd,by have:=r.dp;show A.depth+1+3*k+5<_;omega,by have:=r.un;show A.units+3+16*k+200<_;omega⟩
theorem rX {A:Around} {C:Addr} {us:List Value} {kw:List (Str × Value)}:(A.under (.builtin "type.__call__" ⟨.ref C::us,kw⟩)).depth=A.depth+1:=by
 first | rfl | simp [Around.under,Code.weight,Code.isCreation,Code.isGuard,Code.isCaller,Code.frames,Code.isFrame,guardIds]
theorem rY {A:Around} {C:Addr} {us:List Value} {kw:List (Str × Value)}:(A.under (.builtin "type.__call__" ⟨.ref C::us,kw⟩)).units=A.units+1:=by
 first | rfl | simp [Around.under,Code.cUnits,Code.frames,Code.isFrame]
theorem bR.make {k:Nat} {A:Around} (r:bR (k+1) A) (C:Addr) (us:List Value) (kw:List (Str × Value)):bR k (A.under (.builtin "type.__call__" ⟨.ref C::us,kw⟩)) :=
 ⟨r.hd,by have:=r.dp;rw [rX];omega,by have:=r.un;rw [rY];omega⟩
theorem bR.depth {k:Nat} {A:Around} (r:bR k A):A.depth<recursionLimit:=by have:=r.dp;omega
theorem bR.units {k:Nat} {A:Around} (r:bR k A):A.units+64<cLine:=by have:=r.un;omega
def yQ:TA:=λ_ H Q=>Q [] H
def uy (ta:TE) (tr:TA):TA:=λσ H Q=>ta σ H λx H1=>tr σ H1 λxs H2=>Q (x::xs) H2
section
variable {X:Cx} {e:Expr} {es:List Expr} {te:TE} {t:TA} {pos:Pos}
theorem af:PA X [] yQ:=λ_ _ _ _ H Q I h=>Calls.spliced_nil ⟨[],H,I,.nil,h⟩
theorem aa (ha:PE X e te) (hr:PA X es t) (hs:starEach (e::es) X.env=(false,eval e X.env)::starEach es X.env:=by rfl):PA X (e::es) (uy te t):=by
 intro pos pins s σ H Q I h
 rw [hs]
 show wpAny _ _ (spliced ((false,eval e X.env)::backTo pos (starEach es X.env))) _ _ s
 refine Calls.spliced_cons (bc (ha pins s σ H _ I h) λu s1 ⟨x,H1,I1,r1,q1⟩=>?_)
 exact bc (hr pos pins s1 σ H1 _ I1 q1) λus s2 ⟨xs,H2,I2,r2,q2⟩=>⟨x::xs,H2,I2,.cons r1 r2,q2⟩
def EI (t:TA):TE:=λσ H Q=>t σ H λxs H1=>xs.length<=sizeLine/\∀ p,H1 p=none->Q (.ref p) (upd H1 p (.tup xs))
def EB (t:TA):TE:=λσ H Q=>t σ H λxs H1=>xs.length<=sizeLine/\∀ p,H1 p=none->Q (.ref p) (upd H1 p (.lst xs))
theorem aI {x1} (h:PA X es t):PE X (.Tuple es x1 pos) (EI t):=by
 intro pins s σ H Q I hq
 refine wpAny_Tuple_spliced (bc (h pos pins s σ H _ I hq) λus s1 ⟨xs,H1,I1,r,z,q⟩=>⟨by rw [<- r.length];exact z,?_⟩)
 have hf:H1 s1.heap.objs.size=none:=I1.hok.fresh (Nat.le_refl _)
 refine⟨.ref s1.heap.objs.size,upd H1 s1.heap.objs.size (.tup xs),I1.laid (t':=s1.toks) (λb u e=>Heap.get?_push_of_some _ e) (Nat.le_refl _) ?_,rfl,q _ hf⟩
 exact⟨z,us,r,⟨_,Heap.get?_push_size _ rfl,rfl,_,rfl⟩⟩
theorem cf (h:PA X es t):PE X (.List es pos) (EB t):=by
 intro pins s σ H Q I hq
 refine wpAny_List_spliced (bc (h pos pins s σ H _ I hq) λus s1 ⟨xs,H1,I1,r,z,q⟩=>⟨by rw [<- r.length];exact z,?_⟩)
 have hf:H1 s1.heap.objs.size=none:=I1.hok.fresh (Nat.le_refl _)
 refine⟨.ref s1.heap.objs.size,upd H1 s1.heap.objs.size (.lst xs),I1.laid (t':=s1.toks) (λb u e=>Heap.get?_push_of_some _ e) (Nat.le_refl _) ?_,rfl,q _ hf⟩
 exact⟨z,us,0,r,Heap.get?_push_size _ rfl⟩
end
abbrev Sp:=List V->Hp->VK->XK->Prop
abbrev kE:=List Env->Hp->Shared->XK->Value->Shared->Prop
structure rC (P:Program) (w:World) (K:PySem.W.Frag) (mg:Str->Option Value) (base:Heap) (A:Around) (outer:List Env) (s:Shared) (H:Hp):Prop where
 frames:A.frames=some outer
 mod:Mod K mg base
 bs:∀ b o,base.get? b=some o->s.heap.get? b=some o/\H b=none
 bsz:base.objs.size<=s.heap.objs.size
 kr:s.heap.FunFrames base outer
 frf:∀ b∈hJ outer,H b=none
 hok:fP P w H s.heap
 bare:AllBare s.gens
def CE (outer:List Env) (P:Program) (w:World) (H:Hp) (s:Shared) (Q:VK) (u:Value) (s':Shared):Prop :=
 ∃ v H',s'.os=s.os/\AllBare s'.gens/\Un (hJ outer) [] H H' s.heap s'.heap/\fP P w H' s'.heap/\RelV v u/\Q v H'
def CR (CX:kE) (outer:List Env) (P:Program) (w:World) (H:Hp) (s:Shared) (Q:VK) (E:XK) (r:Result) (s':Shared):Prop :=
 match r with
 | .ok (.ret u)=>CE outer P w H s Q u s'
 | .ok _=>False
 | .error e=>CX outer H s E e s'
structure cV (P:Program) (w:World) (K:PySem.W.Frag) (mg:Str->Option Value) (base:Heap) (CX:kE) (k:Nat) (f:Addr) (fd:FuncData) (ps:List Str) (sp:Sp):Prop where
 len:∀ vs H Q E,sp vs H Q E->vs.length=ps.length
 run:∀(A:Around) (outer:List Env) (s:Shared) (H:Hp) (args:Args) (us:List Value) (vs:List V) (Q:VK) (E:XK),bR k A->rC P w K mg base A outer s H->BindsTo s fd args (ps.zip us)->Vals vs us->sp vs H Q E ->
  codeAny (model P w) A (.call (.ref f) args) (CR CX outer P w H s Q E) s
theorem cV.mono {P:Program} {w:World} {K:PySem.W.Frag} {mg:Str->Option Value} {base:Heap} {CX:kE} {j k:Nat} {f:Addr} {fd:FuncData} {ps:List Str} {sp:Sp} (F:cV P w K mg base CX j f fd ps sp) (h:j<=k) :
  cV P w K mg base CX k f fd ps sp:=⟨F.len,λA outer s H args us vs Q E hr=>F.run A outer s H args us vs Q E (hr.mono h)⟩
theorem cV.imp {P:Program} {w:World} {K:PySem.W.Frag} {mg:Str->Option Value} {base:Heap} {CX:kE} {k:Nat} {f:Addr} {fd:FuncData} {ps:List Str} {sp sp':Sp} (F:cV P w K mg base CX k f fd ps sp)
  (h:∀ vs H Q E,sp' vs H Q E->sp vs H Q E):cV P w K mg base CX k f fd ps sp' :=
 ⟨λvs H Q E q=>F.len vs H Q E (h _ _ _ _ q),λA outer s H args us vs Q E hr he hb hv hs=>F.run A outer s H args us vs Q E hr he hb hv (h _ _ _ _ hs)⟩
theorem rC.make {P:Program} {w:World} {K:PySem.W.Frag} {mg:Str->Option Value} {base:Heap} {A:Around} {outer:List Env} {s:Shared} {H:Hp} (e:rC P w K mg base A outer s H) (C:Addr) (us:List Value) (kw:List (Str × Value)) :
  rC P w K mg base (A.under (.builtin "type.__call__" ⟨.ref C::us,kw⟩)) outer s H:=⟨by first | exact e.frames | (simpa [Around.under,Code.envs,Code.isFrame,pushEnvs] using e.frames),e.mod,e.bs,e.bsz,e.kr,e.frf,e.hok,e.bare⟩
section
variable {X:Cx} {pins:List (Addr × Obj)} {σ:St} {H:Hp} {s s':Shared}
theorem Inv.B9 (I:Inv X pins σ H s):rC X.prog X.w X.K X.mg X.base X.A X.stack s H :=
 ⟨I.ok.frames,I.ok.mod,I.bs,Nat.le_trans I.ok.bsz I.sz,I.stack,I.jo,I.hok,I.bare⟩
theorem Inv.after {Q:VK} {u:Value} (I:Inv X pins σ H s) (h:CE X.stack X.prog X.w H s Q u s'):EP X pins σ Q u s':=by
 obtain⟨v,H',os,bare,un,hok,r,q⟩:=h
 obtain⟨hh,g,d,t,os'⟩:=s'
 obtain rfl:os'=s.os:=os
 exact⟨v,H',I.call (h':=hh) (g':=g) (d':=d) (t':=t) (ch:=[]) un hok bare (λb z=>absurd z (by simp)),r,q⟩
end
def nG (sp:Sp) (aQ:List V) (E:XK) (t:TA):TE:=λσ H Q=>t σ H λvs H1=>sp (vs++aQ) H1 Q E
def rm (C:Addr) (m:Str) (sp:Sp) (aQ:List V) (E:XK) (ta:TE) (t:TA):TE:=λσ H Q=>ta σ H λx H1=>∃ a dx fs,x=.ref a/\H1 a=some (.ins C dx fs)/\fs.lookup m=none /\
 t σ H1 λvs H2=>sp (x::(vs++aQ)) H2 Q E
def yP (C:Addr) (sp:Sp) (aQ:List V) (E:XK) (t:TA):TE:=λσ H Q=>t σ H λvs H1=>∀ x dx,H1 x=none->H1 dx=none->dx≠x ->
 sp (.ref x::(vs++aQ)) (upd (upd H1 dx (.own x)) x (.ins C dx [])) (λv H2=>v=.non/\Q (.ref x) H2) E
def Binds (K:PySem.W.Frag) (fd:FuncData) (ps:List Str) (ds:List Value):Prop :=
 ∀(s:Shared) (us:List Value),K.In s.heap->(us++ds).length=ps.length->BindsTo s fd ⟨us,[]⟩ (ps.zip (us++ds))
theorem Binds.all {K:PySem.W.Frag} {fd:FuncData} {ps:List Str} (h:∀ us:List Value,us.length=ps.length->bindArgs fd ⟨us,[]⟩=pure (ps.zip us)):Binds K fd ps []:=λs us _ hl=>by
 rw [List.append_nil] at hl ⊢
 exact .of_eq (h us hl)
def Passes (CX:kE) (X:Cx) (E:XK):Prop:=∀(pins:List (Addr × Obj)) (σ:St) (H:Hp) (s:Shared) (e:Value) (s':Shared),Inv X pins σ H s->CX X.stack H s E e s'->X.xe e s'
section
variable {X:Cx} {CX:kE} {k:Nat} {f C:Addr} {fd:FuncData} {ps:List Str} {sp:Sp} {aQ:List V} {ds:List Value} {E:XK} {x m:Str} {p pos apos:Pos} {e o:Expr} {es:List Expr} {ta:TE} {t:TA}
theorem sH {pins:List (Addr × Obj)} {σ:St} {H:Hp} {s:Shared} {Q:VK} {us:List Value} {vs:List V} (F:cV X.prog X.w X.K X.mg X.base CX k f fd ps sp) (hr:bR k X.A) (hb:Binds X.K fd ps ds) (hd:Vals aQ ds) (hx:Passes CX X E)
  (I:Inv X pins σ H s) (r:Vals vs us) (h:sp (vs++aQ) H Q E):wpAny (model X.prog X.w) X.A (call (.ref f) us) (EP X pins σ Q) X.xe s:=by
 have r2:Vals (vs++aQ) (us++ds):=r.append hd
 have hl:(us++ds).length=ps.length:=by rw [<- r2.length];exact F.len _ _ _ _ h
 refine wpAny_call (codeAny_mono (F.run X.A X.stack s H ⟨us,[]⟩ (us++ds) (vs++aQ) Q E hr I.B9 (hb s us I.fL hl) r2 h) λr s' hq=>?_)
 cases r with
 | error e=>exact hx pins σ H s e s' I hq
 | ok fl =>
  cases fl with
  | ret u=>exact I.after hq
  | next=>exact False.elim hq
  | brk=>exact False.elim hq
  | cont=>exact False.elim hq
theorem tQ (F:cV X.prog X.w X.K X.mg X.base CX k f fd ps sp) (hr:bR k X.A) (hg:Gl X x) (hm:X.mg x=some (.ref f)) (hk:PySem.W.keepIn X.K (.ref f)=true) (hb:Binds X.K fd ps ds) (hd:Vals aQ ds) (hx:Passes CX X E)
  (ha:PA X (e::es) t) (hdb:(x==("__debug__":Str))=false:=by decide) (he:starEach (e::es) X.env=(false,eval e X.env)::starEach es X.env:=by rfl) (hpl:(backTo pos (starEach es X.env)).any (·.1)=false:=by rfl) :
  PE X (.Call (.Name x p) (e::es) [] pos) (nG sp aQ E t):=by
 intro pins s σ H Q I h
 refine wpAny_Call_Name_kw (iZ I hg hm ?_ hdb)
 refine PySem.W.callWith_K (h₀:=X.base) I.ok.mod.kin hk (bc (ha pos pins s σ H _ I h) λus s1 ⟨vs,H1,I1,r,q⟩=>⟨I1.fL,?_⟩) he hpl
 exact sH F hr hb hd hx I1 r q
theorem Ar {pl:Sem Bool} (he:PE X o ta) (c:mB X.K C) (hm:Meth X.K C m f) (F:cV X.prog X.w X.K X.mg X.base CX k f fd ps sp) (hr:bR k X.A) (hb:Binds X.K fd ps ds) (hd:Vals aQ ds) (hx:Passes CX X E) (ha:PA X (e::es) t)
  (hst:starEach (e::es) X.env=(false,eval e X.env)::starEach es X.env:=by rfl) (hpl:(backTo pos (starEach es X.env)).any (·.1)=false:=by rfl)
  (ht:eval (.Call (.Attribute o m apos) (e::es) [] pos) X.env=(do
   let ov <- eval o X.env
   standAt apos.atName
   let (f,first) <- holding [ov] (getMethod ov m pl)
   callWith pos f first (backTo pos (starEach (e::es) X.env)) (backToKw pos (keywordEach [] X.env))):=by rfl) :
  PE X (.Call (.Attribute o m apos) (e::es) [] pos) (rm C m sp aQ E ta t):=by
 intro pins s σ H Q I h
 refine PySem.W.methodCall_KW (pl:=pl) (bc (he pins s σ H _ I h) λu s1 ⟨x,H1,I1,rx,a,dx,fs,ex,ea,l,q⟩=>?_) ht
 subst ex
 obtain rfl:u=Value.ref a:=rx
 refine ll I1 ea c hm l ?_
 refine PySem.W.callWith_K (first:=[.ref a]) (h₀:=X.base) I.ok.mod.kin hm.kp (bc (ha pos pins s1 σ H1 _ I1 q) λus s2 ⟨vs,H2,I2,r,q2⟩=>⟨I2.fL,?_⟩) hst hpl
 exact sH (us:=.ref a::us) (vs:=.ref a::vs) F hr hb hd hx I2 (.cons rfl r) q2
theorem x4 {pl:Sem Bool} (he:PE X o ta) (c:mB X.K C) (hm:Meth X.K C m f) (F:cV X.prog X.w X.K X.mg X.base CX k f fd ps sp) (hr:bR k X.A) (hb:Binds X.K fd ps ds) (hd:Vals aQ ds) (hx:Passes CX X E)
  (ht:eval (.Call (.Attribute o m apos) [] [] pos) X.env=(do
   let ov <- eval o X.env
   standAt apos.atName
   let (f,first) <- holding [ov] (getMethod ov m pl)
   callWith pos f first (backTo pos (starEach [] X.env)) (backToKw pos (keywordEach [] X.env))):=by rfl) :
  PE X (.Call (.Attribute o m apos) [] [] pos) (rm C m sp aQ E ta yQ):=by
 intro pins s σ H Q I h
 refine PySem.W.methodCall_KW (pl:=pl) (bc (he pins s σ H _ I h) λu s1 ⟨x,H1,I1,rx,a,dx,fs,ex,ea,l,q⟩=>?_) ht
 subst ex
 obtain rfl:u=Value.ref a:=rx
 refine ll I1 ea c hm l ?_
 exact PySem.W.callWith_K0 (first:=[.ref a]) I1.fL hm.kp (sH (us:=[.ref a]) (vs:=[.ref a]) F hr hb hd hx I1 (.cons rfl .nil) q)
structure Mk (K:PySem.W.Frag) (C f:Addr):Prop where
 makes:PySem.W.makesIn K C=true
 init:PySem.W.findIn K (.ref C) "__init__"=some (some (.ref f))
 fn:PySem.W.isFn K (.ref f)=true
 kp:PySem.W.keepIn K (.ref C)=true
theorem yt {pins:List (Addr × Obj)} {σ:St} {H:Hp} {s:Shared} {Q:VK} {us:List Value} {vs:List V} (M:Mk X.K C f) (F:cV X.prog X.w X.K X.mg X.base CX k f fd ps sp) (hr:bR (k+1) X.A) (hb:Binds X.K fd ps ds) (hd:Vals aQ ds)
  (hx:Passes CX X E) (I:Inv X pins σ H s) (r:Vals vs us)
  (h:∀ x dx,H x=none->H dx=none->dx≠x->sp (.ref x::(vs++aQ)) (upd (upd H dx (.own x)) x (.ins C dx [])) (λv H2=>v=.non/\Q (.ref x) H2) E) :
  wpAny (model X.prog X.w) X.A (call (.ref C) us) (EP X pins σ Q) X.xe s:=by
 have hq:=h (s.heap.objs.size+1) s.heap.objs.size (I.hok.fresh (Nat.le_succ _)) (I.hok.fresh (Nat.le_refl _)) (Nat.ne_of_lt (Nat.lt_succ_self _))
 have I2:=Inv.made (C:=C) I
 have r2:Vals (V.ref (s.heap.objs.size+1)::(vs++aQ)) (Value.ref (s.heap.objs.size+1)::(us++ds)):=.cons rfl (r.append hd)
 have hl:(Value.ref (s.heap.objs.size+1)::us++ds).length=ps.length:=by
  have e:=r2.length
  rw [F.len _ _ _ _ hq] at e
  exact e.symm
 refine wpAny_call (w5 (f:=f) I.fL M.makes M.init (beq_iff_eq.mp M.fn) (codeAny_mono (F.run _ X.stack _ _ ⟨Value.ref (s.heap.objs.size+1)::us,[]⟩ (Value.ref (s.heap.objs.size+1)::(us++ds)) _ _ E (hr.make C us [])
  (I2.B9.make C us []) (hb _ (Value.ref (s.heap.objs.size+1)::us) I2.fL hl) r2 hq) λr s' hq'=>?_))
 cases r with
 | error e=>exact hx pins σ _ _ e s' I2 hq'
 | ok fl =>
  cases fl with
  | ret u =>
   obtain⟨v,H',I3,rv,ev,q3⟩:=I2.after hq'
   subst ev
   exact⟨rv,⟨V.ref (s.heap.objs.size+1),H',I3,rfl,q3⟩⟩
  | next=>exact False.elim hq'
  | brk=>exact False.elim hq'
  | cont=>exact False.elim hq'
theorem Aq (M:Mk X.K C f) (F:cV X.prog X.w X.K X.mg X.base CX k f fd ps sp) (hr:bR (k+1) X.A) (hg:Gl X x) (hm:X.mg x=some (.ref C)) (hb:Binds X.K fd ps ds) (hd:Vals aQ ds) (hx:Passes CX X E)
  (ha:PA X (e::es) t) (hdb:(x==("__debug__":Str))=false:=by decide) (he:starEach (e::es) X.env=(false,eval e X.env)::starEach es X.env:=by rfl) (hpl:(backTo pos (starEach es X.env)).any (·.1)=false:=by rfl) :
  PE X (.Call (.Name x p) (e::es) [] pos) (yP C sp aQ E t):=by
 intro pins s σ H Q I h
 refine wpAny_Call_Name_kw (iZ I hg hm ?_ hdb)
 refine PySem.W.callWith_K (h₀:=X.base) I.ok.mod.kin M.kp (bc (ha pos pins s σ H _ I h) λus s1 ⟨vs,H1,I1,r,q⟩=>⟨I1.fL,?_⟩) he hpl
 exact yt M F hr hb hd hx I1 r q
end
section
variable {X:Cx} {CX:kE} {k:Nat} {f C:Addr} {fd:FuncData} {ps ks:List Str} {sp:Sp} {E:XK} {x m:Str} {p pos apos kpos:Pos} {e o:Expr} {es:List Expr} {kws:List Keyword} {te ta:TE} {t tk:TA} {nm:Option Str}
variable {g:List Value->List Value->List Value} {gV:List V->List V->List V}
end
structure aw (N P:List Str) (sc:Scope):Prop where
 kind:sc.kind=.function
 co:sc.isCoroutine=false
 gen:sc.isGenerator=false
 nd:N.Nodup
 pre:N.take P.length=P
 par:∀ x∈P,sc.names.lookup x=some .local∨sc.names.lookup x=some .cell
 nofree:∀ y∈sc.names,y.2≠.free
theorem mI {kindOf:Str->Option NameKind} {x:Str}:∀{binds:List (Str × Value)} {m:Str->Option Value},(∀ v,(x,v)∉binds)->bindL kindOf binds m x=m x
 | [],_,_=>rfl
 | (n,v)::r,m,h=>by
  unfold bindL
  rw [mI λw hw=>h w (List.mem_cons_of_mem _ hw)]
  split
  ·have:x≠n:=by rintro rfl;exact h v List.mem_cons_self
   simp [this]
  ·rfl
theorem mG {kindOf:Str->Option NameKind} {x:Str}:∀{binds:List (Str × Value)} {m:Str->Option Value},(∀ v,(x,v)∉binds)->bindC kindOf binds m x=m x
 | [],_,_=>rfl
 | (n,v)::r,m,h=>by
  unfold bindC
  rw [mG λw hw=>h w (List.mem_cons_of_mem _ hw)]
  split
  ·rfl
  ·have:x≠n:=by rintro rfl;exact h v List.mem_cons_self
   simp [this]
theorem mH {kindOf:Str->Option NameKind} {x:Str} {v:Value}:∀{P:List Str} {vs:List Value} {i:Nat} {m:Str->Option Value},P.Nodup->P[i]?=some x->vs[i]?=some v->kindOf x=some .local ->
  bindL kindOf (P.zip vs) m x=some v
 | [],_,_,_,_,h,_,_=>by simp at h
 | _::_,[],_,_,_,_,h,_=>by simp at h
 | p::P,w::vs,0,m,nd,h1,h2,hk=>by
  simp at h1 h2;subst h1;subst h2
  show bindL kindOf ((p,w)::P.zip vs) m p=_
  unfold bindL
  rw [mI λv hv=>(List.nodup_cons.mp nd).1 (List.of_mem_zip hv).1,if_pos hk]
  simp
 | p::P,w::vs,i+1,m,nd,h1,h2,hk=>by
  show bindL kindOf ((p,w)::P.zip vs) m x=_
  unfold bindL
  exact mH (i:=i) (List.nodup_cons.mp nd).2 (by simpa using h1) (by simpa using h2) hk
theorem mF {kindOf:Str->Option NameKind} {x:Str} {v:Value}:∀{P:List Str} {vs:List Value} {i:Nat} {m:Str->Option Value},P.Nodup->P[i]?=some x->vs[i]?=some v->kindOf x≠some .local ->
  bindC kindOf (P.zip vs) m x=some v
 | [],_,_,_,_,h,_,_=>by simp at h
 | _::_,[],_,_,_,_,h,_=>by simp at h
 | p::P,w::vs,0,m,nd,h1,h2,hk=>by
  simp at h1 h2;subst h1;subst h2
  show bindC kindOf ((p,w)::P.zip vs) m p=_
  unfold bindC
  rw [mG λv hv=>(List.nodup_cons.mp nd).1 (List.of_mem_zip hv).1,if_neg hk]
  simp
 | p::P,w::vs,i+1,m,nd,h1,h2,hk=>by
  show bindC kindOf ((p,w)::P.zip vs) m x=_
  unfold bindC
  exact mF (i:=i) (List.nodup_cons.mp nd).2 (by simpa using h1) (by simpa using h2) hk
def start (N:List Str) (vs:List V):St:=vs.map some++List.replicate (N.length-vs.length) none
def eV (CX:kE) (P:Program) (w:World) (K:PySem.W.Frag) (mg:Str->Option Value) (base:Heap) (N:List Str) (qual:Str) (scope:Scope) (f:Addr) (cd:Value) (A:Around) (outer:List Env) (s:Shared) (H:Hp) (E:XK):Cx where
 prog:=P
 w:=w
 K:=K
 mg:=mg
 base:=base
 A:=A.deeper (envOfC qual scope s.heap.objs.size f cd)
 N:=N
 s₀:=s
 H₀:=H
 env:=envOfC qual scope s.heap.objs.size f cd
 outer:=outer
 stack:=envOfC qual scope s.heap.objs.size f cd::outer
 ex:=[]
 calm:=true
 fn:=λ_=>true
 pn:=[]
 xe:=λe s'=>wpAny (model P w) (A.deeper (envOfC qual scope s.heap.objs.size f cd)) (leaving (envOfC qual scope s.heap.objs.size f cd) e) (λ_ s''=>CX outer H s E e s'') (λe' s''=>CX outer H s E e' s'') s'
theorem pM {sc:Scope} {n:Nat} {x:Str} (h:sc.names.lookup x=some .cell):∃ c,(cellsFrom n sc.names []).lookup x=some c:=by
 have q:=PySem.W.cellsFrom_some sc.names n [] (.inl h)
 exact Option.isSome_iff_exists.mp q
theorem uV {CX:kE} {P:Program} {w:World} {K:PySem.W.Frag} {mg:Str->Option Value} {base:Heap} {N ps:List Str} {qual:Str} {scope:Scope} {f:Addr} {cd:Value} {A:Around} {outer:List Env} {s s1:Shared} {H:Hp} {E:XK} {us:List Value} {vs:List V}
  (S:aw N ps scope) (hd:A.handled=none) (e0:rC P w K mg base A outer s H) (hl:vs.length=ps.length) (r:Vals vs us)
  (x:InCallC s s.heap.objs.size (bindL (envOfC qual scope s.heap.objs.size f cd).kindOf (ps.zip us) λ_=>none) (cellsFrom (s.heap.objs.size+1) scope.names []) (bindC (envOfC qual scope s.heap.objs.size f cd).kindOf (ps.zip us) λ_=>none) s1) :
  Inv (eV CX P w K mg base N qual scope f cd A outer s H E) [] (start N vs) H s1:=by
 have hpl:ps.length<=N.length:=by have:=congrArg List.length S.pre;rw [List.length_take] at this;omega
 obtain⟨h1,tk,rfl,hk⟩:=x.done
 have noA:∀ b:Addr,b∉(eV CX P w K mg base N qual scope f cd A outer s H E).ex:=λb z=>absurd (show b∈([]:List Addr) from z) (by simp)
 refine⟨⟨e0.mod,S.kind,rfl,rfl,Nat.le_refl _,λy z c h1 h2=>?_,λy hy=>?_,λy c _ h=>?_,λ_=>hd,Around.frames_deeper e0.frames,.inr ⟨rfl,rfl⟩,λb z=>absurd z (noA b),e0.bs,e0.bsz,λb _ _=>noA b,λb z=>absurd z (noA b),e0.kr,e0.frf⟩,
  rfl,e0.bare,Un.kept hk,⟨_,x.toInCall.ns,λi y v h1 h2 h3=>?_⟩,λy c h=>⟨_,x.cell y c h⟩,e0.hok.fresh (Nat.le_refl _),λy c h=>?_,λp hp=>absurd (show p∈([]:List (Addr × Obj)) from hp) (by simp),e0.hok.kept hk,?_⟩
 ·exact name_of_addr x.apart (PySem.mem_of_lookup h1) (PySem.mem_of_lookup h2)
 ·have hy:scope.names.lookup y=some .cell∨scope.names.lookup y=some .free:=hy
  rcases hy with hy | hy
  ·exact pM hy
  ·exact absurd rfl (S.nofree _ (PySem.mem_of_lookup hy))
 ·exact Nat.le_of_lt (x.above y c (PySem.mem_of_lookup h))
 ·have hi:i<vs.length:=by
   unfold start at h2
   by_cases hi:i<vs.length
   ·exact hi
   ·rw [List.getElem?_append_right (by simpa using hi)] at h2
    rw [List.getElem?_replicate] at h2
    split at h2<;>cases h2
  have ha:vs[i]?=some v:=by
   unfold start at h2
   rw [List.getElem?_append_left (by simpa using hi),List.getElem?_map] at h2
   cases e:vs[i]? with
   | none=>rw [e] at h2;cases h2
   | some a=>rw [e] at h2;cases h2;rfl
  obtain⟨u,hu,rv⟩:=r.get ha
  have hp:ps[i]?=some y:=by
   rw [<- S.pre,List.getElem?_take_of_lt (by omega)];exact h1
  have ndP:ps.Nodup:=by rw [<- S.pre];exact S.nd.sublist (List.take_sublist _ _)
  refine⟨u,rv,?_⟩
  rcases S.par y (List.mem_of_getElem? hp) with k | k
  ·exact .inl ⟨k,mH ndP hp hu k⟩
  ·obtain⟨c,e⟩:=pM (n:=s.heap.objs.size+1) k
   refine .inr ⟨.inl k,c,e,?_⟩
   have q:=x.cell y c e
   rw [mF ndP hp hu (by show scope.names.lookup y≠_;rw [k];decide)] at q
   exact q
 ·exact e0.hok.fresh (Nat.le_of_lt (x.above y c (PySem.mem_of_lookup h)))
 ·unfold start
  show _=N.length
  rw [List.length_append,List.length_map,List.length_replicate]
  omega
theorem wG {CX:kE} {P:Program} {w:World} {K:PySem.W.Frag} {mg:Str->Option Value} {base:Heap} {k:Nat} {f:Addr} {name qual:Str} {params:Arguments} {body:List Stmt} {scope:Scope} {dV kV doc pm cdv ct oc:Value} {an od:Option Addr}
  {osl:Array (Option Value)} {N ps:List Str} {sp:Sp} (lk:K.lookup f=some ⟨oc,od,.func (PySem.W.fnOf name qual params body scope dV kV doc pm an cdv ct),osl⟩) (hcd:PySem.W.codeIn K cdv qual=true) (S:aw N ps scope)
  (len:∀ vs H Q E,sp vs H Q E->vs.length=ps.length)
  (hbody:∀(A:Around) (outer:List Env) (s:Shared) (H:Hp) (vs:List V) (Q:VK) (E:XK),bR k (A.deeper (envOfC qual scope s.heap.objs.size f cdv))->sp vs H Q E ->
   ∃ t,gK (eV CX P w K mg base N qual scope f cdv A outer s H E) body t/\t { nx:=λ_ H'=>Q .non H',rt:=Q } (start N vs) H) :
  cV P w K mg base CX (k+1) f (PySem.W.fnOf name qual params body scope dV kV doc pm an cdv ct) ps sp:=by
 refine⟨len,λA outer s H args us vs Q E hr e0 hb r hsp=>?_⟩
 have hl:=len _ _ _ _ hsp
 have KX:K.In s.heap:=e0.mod.kin.keeps λb o e=>(e0.bs b o e).1
 have lim:s.heap.NoLimit:=e0.mod.nolimit.keeps λb o e=>(e0.bs b o e).1
 have hkind:∀ y∈ps.zip us,scope.names.lookup y.1=some .local∨(scope.names.lookup y.1=some .cell/\((cellsFrom (s.heap.objs.size+1) scope.names []).lookup y.1).isSome=true):=fun⟨n,v⟩ hy=>by
  rcases S.par n (List.of_mem_zip hy).1 with q | q
  ·exact .inl q
  ·exact .inr ⟨q,PySem.W.cellsFrom_some _ _ _ (.inl q)⟩
 refine codeAny_call_function hr.depth (KX _ _ lk) rfl S.co S.gen rfl (PySem.W.codeRec_of KX hcd) (hb _ _ _ _ ?_)
 refine wpAny_newFunctionEnv_cells S.kind hkind λenv he s1 x=>?_
 subst he
 refine⟨lim.keeps x.toInCall.keep,codeAny_func ?_⟩
 obtain⟨t,ht,hq⟩:=hbody A outer s H vs Q E (hr.deeper _) hsp
 have I:Inv (eV CX P w K mg base N qual scope f cdv A outer s H E) [] (start N vs) H s1:=uV S hr.hd e0 hl r x
 refine wpAny_mono (ht [] s1 (start N vs) H _ I hq) (λfl s' hs=>?_) λe s' hs=>hs
 have fin:∀{σ':St} {H':Hp} {v:V} {u:Value},Inv (eV CX P w K mg base N qual scope f cdv A outer s H E) [] σ' H' s'->RelV v u->Q v H'->CE outer P w H s Q u s' :=
  λ{σ' H' v u} J rv q=>⟨v,H',J.os,J.bare,J.base,J.hok,rv,q⟩
 cases fl with
 | ret u =>
  obtain⟨v,σ',H',J,rv,q⟩:=hs
  exact fin J rv q
 | next =>
  obtain⟨σ',H',J,q⟩:=hs
  exact fin (v:=V.non) (u:=Value.none) J rfl q
 | brk =>
  obtain⟨_,_,_,q⟩:=hs
  exact False.elim q
 | cont =>
  obtain⟨_,_,_,q⟩:=hs
  exact False.elim q
section
variable {X:Cx} {x:Str} {p pos:Pos} {e:Expr} {es:List Expr} {t:TA} {id T:String} {r:List V->Hp->VK->Prop}
def Fx (r:List V->Hp->VK->Prop) (t:TA):TE:=λσ H Q=>t σ H λvs H1=>r vs H1 Q
theorem aC (hc:cT X (.builtin id) r) (hg:Gl X x) (hm:X.mg x=none) (hv:bootBuiltins x=some (.builtin id)) (ha:PA X (e::es) t) (hn:x ≠ "__name__":=by decide) (hdb:(x==("__debug__":Str))=false:=by decide)
  (he:starEach (e::es) X.env=(false,eval e X.env)::starEach es X.env:=by rfl) (hpl:(backTo pos (starEach es X.env)).any (·.1)=false:=by rfl):PE X (.Call (.Name x p) (e::es) [] pos) (Fx r t):=by
 intro pins s σ H Q I h
 refine wpAny_Call_Name_kw (fU I hg hm hv ?_ hn hdb)
 exact PyProof.Rows.callWith_builtin1 (bc (ha pos pins s σ H _ I h) λus s1 ⟨vs,H1,I1,r1,q1⟩=>hc pins s1 σ H1 vs us Q I1 r1 q1) he hpl
theorem cF (hc:cT X (.type T) r) (hg:Gl X x) (hm:X.mg x=none) (hv:bootBuiltins x=some (.type T)) (ha:PA X (e::es) t) (hn:x ≠ "__name__":=by decide) (hdb:(x==("__debug__":Str))=false:=by decide)
  (he:starEach (e::es) X.env=(false,eval e X.env)::starEach es X.env:=by rfl) (hpl:(backTo pos (starEach es X.env)).any (·.1)=false:=by rfl):PE X (.Call (.Name x p) (e::es) [] pos) (Fx r t):=by
 intro pins s σ H Q I h
 refine wpAny_Call_Name_kw (fU I hg hm hv ?_ hn hdb)
 exact PyProof.Rows.callWith_type1 (bc (ha pos pins s σ H _ I h) λus s1 ⟨vs,H1,I1,r1,q1⟩=>hc pins s1 σ H1 vs us Q I1 r1 q1) he hpl
end
end L2
namespace HT
open PySem PyProof.Rows
section
open PySem.SeqAt
open PySem.AutoSeq1 (wpAny_loadPart')
open PySem.MeetsSeq PySem.MeetsSeq2 PySem.MeetsSeq3
end
section
variable {prog:Program} {w:World} {A:Around} {E:Value->Shared->Prop} {s:Shared}
def c9 (n d:Nat):Option Int->Nat
 | none=>d
 | some v=>if v<0 then (v+(n:Int)).toNat else min v.toNat n
theorem C7 (n d:Nat) (hd:d<=n) (o:Option Int):c9 n d o<=n:=by
 cases o with
 | none=>exact hd
 | some v =>
  show (if v<0 then (v+(n:Int)).toNat else min v.toNat n)<=n
  by_cases hv:v<0
  ·rw [if_pos hv];omega
  ·rw [if_neg hv];exact Nat.min_le_right _ _
theorem sY (v:Int) (n d:Nat):(if v<0 then max (v+(n:Int)) 0 else min v (n:Int))=((c9 n d (some v):Nat):Int):=by
 show (if v<0 then max (v+(n:Int)) 0 else min v (n:Int))=(((if v<0 then (v+(n:Int)).toNat else min v.toNat n):Nat):Int)
 by_cases hv:v<0
 ·simp only [if_pos hv];omega
 ·simp only [if_neg hv];omega
theorem rG (lo hi:Option Int) (n:Nat):Builtin.Slice.sliceAdjust lo hi 1 (n:Int)=(((c9 n 0 lo:Nat):Int),((c9 n n hi:Nat):Int)):=by
 have h1:¬((1:Int)<0):=by omega
 unfold Builtin.Slice.sliceAdjust
 simp only [h1,if_false]
 refine Prod.ext ?_ ?_
 ·cases lo with
  | none=>rfl
  | some v=>exact sY v n 0
 ·cases hi with
  | none=>rfl
  | some v=>exact sY v n n
theorem sF (i j:Nat):Builtin.Slice.slicePlaces (i:Int) (j:Int) 1=j-i:=by
 unfold Builtin.Slice.slicePlaces
 have h1:(1:Int) > 0:=by omega
 simp only [h1,if_true,Int.ediv_one]
 split<;>omega
theorem iJ {v:Value} {o:Option Int} {Q:Option Int->Shared->Prop} (p:IsPart v o) (h:Q o s):wpAny (model prog w) A (Builtin.Slice.slicePartIndex v) Q E s:=by
 cases p with
 | none=>exact slicePart_none h
 | int i t=>exact slicePart_int h
theorem jN {sl:Addr} {vl vu:Value} {lo hi:Option Int} {n:Nat} {Q:Int × Int × Nat->Shared->Prop} (hs:s.heap.IsSliceOf sl vl vu .none) (pl:IsPart vl lo) (pu:IsPart vu hi)
  (h:Q (((c9 n 0 lo:Nat):Int),1,c9 n n hi-c9 n 0 lo) s):wpAny (model prog w) A (Builtin.Slice.sliceApplied (.ref sl) (pure (n:Int))) Q E s:=by
 obtain⟨os,hos,hcs,hds⟩:=id hs
 unfold Builtin.Slice.sliceApplied Builtin.Slice.sliceFields
 refine wpAny_bind (wpAny_bind (wpAny_field hos hds (x:=vl) rfl (wpAny_bind (wpAny_field hos hds (x:=vu) rfl (wpAny_bind (wpAny_field hos hds (x:=.none) rfl (wpAny_pure ?_)))))))
 refine wpAny_bind (slicePart_none ?_)
 show wpAny _ _ (if ((1:Int)==0)=true then _ else _) _ _ s
 rw [if_neg (by decide)]
 refine wpAny_bind (iJ pl (wpAny_bind (iJ pu (wpAny_bind (wpAny_pure ?_)))))
 show wpAny _ _ (match Builtin.Slice.sliceAdjust lo hi 1 (n:Int) with | (lo,hi)=>pure (lo,(1:Int),Builtin.Slice.slicePlaces lo hi 1)) _ _ s
 rw [rG lo hi n]
 show wpAny _ _ (pure (((c9 n 0 lo:Nat):Int),(1:Int),Builtin.Slice.slicePlaces ((c9 n 0 lo:Nat):Int) ((c9 n n hi:Nat):Int) 1)) _ _ s
 rw [sF]
 exact wpAny_pure h
theorem x8 (xs:Array Value) (i k:Nat):((List.range k).filterMap fun(m:Nat)=>xs[((i:Int)+(m:Int)*1).toNat]?).toArray=((xs.toList.drop i).take k).toArray:=by
 have e:(fun(m:Nat)=>xs[((i:Int)+(m:Int)*1).toNat]?)=λm=>xs[i+m]?:=by
  funext m
  have:((i:Int)+(m:Int)*1).toNat=i+m:=by omega
  rw [this]
 rw [e]
 have:=pick_run xs i k
 rw [List.filterMap_map] at this
 have e2:((λx=>xs[x]?)∘λx=>i+x)=λm=>xs[i+m]?:=rfl
 rw [e2] at this
 rw [this]
theorem iX {t sl:Addr} {items:Array Value} {vl vu:Value} {lo hi:Option Int} {Q:Value->Shared->Prop} (ht:IsTup s.heap t items) (hs:s.heap.IsSliceOf sl vl vu .none) (pl:IsPart vl lo) (pu:IsPart vu hi)
  (hw:¬(c9 items.size 0 lo=0/\c9 items.size items.size hi=items.size))
  (h:Q (.ref s.heap.objs.size) { s with heap:=s.heap.push { cls:=.type "tuple",data:=.seq ((items.toList.drop (c9 items.size 0 lo)).take (c9 items.size items.size hi-c9 items.size 0 lo)).toArray } })
  (hsz:items.size<=sizeLine):wpAny (model prog w) A (getItem (.ref t) (.ref sl)) Q E s:=by
 have htake:sizeOk (.seq ((items.toList.drop (c9 items.size 0 lo)).take (c9 items.size items.size hi-c9 items.size 0 lo)).toArray):=by
  show ((items.toList.drop (c9 items.size 0 lo)).take (c9 items.size items.size hi-c9 items.size 0 lo)).toArray.size<=sizeLine
  rw [List.size_toArray,List.length_take,List.length_drop,Array.length_toList]
  omega
 have hj:c9 items.size items.size hi<=items.size:=C7 _ _ (Nat.le_refl _) hi
 obtain⟨os,hos,hcs,hds⟩:=id hs
 have hTs:s.TypeIs (.ref sl) "slice":=⟨os,hos,hcs⟩
 unfold getItem
 try with_reducible refine wpAny_holding ?_
 first | refine wpAny_bind (wpAny_pure ?_) | skip
 refine wpAny_bind (wpAny_sequenceKey ht.typeIs (by decide) ?_)
 refine wpAny_bind (wpAny_callSpecial?_slot (name:=Str.ofString "__getitem__") ht.typeIs PyProof.Rows.slot_tuple_getitem
  (wpAny_call_entry PyProof.Rows.slot_tuple_getitem ht.typeIs entry_tuple_getitem ?_ (args_tuple_getitem _ _)))
 show wpAny _ _ (Builtin.Tuple.tupleItemsOf (.ref t) >>= _) _ _ s
 refine wpAny_bind (tupleItemsOf_ ht ?_)
 refine wpAny_bind (wpAny_typeOf hTs ?_)
 rw [if_pos (by decide)]
 refine wpAny_bind (jN hs pl pu ?_)
 have hno:¬((((c9 items.size 0 lo:Nat):Int)==0 && (1:Int)==1 && (c9 items.size items.size hi-c9 items.size 0 lo)==items.size)=true):=by
  intro q
  rw [Bool.and_eq_true,Bool.and_eq_true] at q
  have q1:((c9 items.size 0 lo:Nat):Int)=0:=eq_of_beq q.1.1
  have q2:c9 items.size items.size hi-c9 items.size 0 lo=items.size:=eq_of_beq q.2
  exact hw ⟨by omega,by omega⟩
 show wpAny _ _ (if (((c9 items.size 0 lo:Nat):Int)==0 && (1:Int)==1 && (c9 items.size items.size hi-c9 items.size 0 lo)==items.size)=true then _ else _) _ _ s
 rw [if_neg hno,x8]
 first
  | exact wpAny_bind (m:=Builtin.Tuple.tupleExact _) (wpAny_newObj_type (wpAny_pure ⟨_,rfl,wpAny_pure h⟩) htake)
  | exact wpAny_bind (m:=Builtin.Tuple.tupleExact _) (wpAny_newObj_type (wpAny_bind (wpAny_pure (wpAny_pure ⟨_,rfl,wpAny_pure h⟩))) htake)
  | exact wpAny_bind (wpAny_bind (m:=Builtin.Tuple.tupleExact _) (wpAny_newObj_type (wpAny_pure (wpAny_pure ⟨_,rfl,wpAny_pure h⟩)) htake))
  | exact wpAny_bind (wpAny_bind (m:=Builtin.Tuple.tupleExact _) (wpAny_newObj_type (wpAny_pure ⟨_,rfl,wpAny_pure h⟩) htake))
end
end HT
namespace L2
open PySem PySem.Spec PyProof.Rows
abbrev TO:=St->Hp->(Option Int->Hp->Prop)->Prop
def PO (X:Cx) (e:Option Expr) (t:TO):Prop :=
 ∀(pins:List (Addr × Obj)) (s:Shared) (σ:St) (H:Hp) (Q:Option Int->Hp->Prop),Inv X pins σ H s->t σ H Q ->
  wpAny (model X.prog X.w) X.A (evalPart e X.env) (λu s'=>∃ o H',Inv X pins σ H' s'/\IsPart u o/\Q o H') X.xe s
def uA:TO:=λ_ H Q=>Q none H
def BJ (t:TE):TO:=λσ H Q=>t σ H λx H1=>∃ i,x=.int i/\Q (some i) H1
theorem intsAre_of {ns:List Int}:∀{us:List Value},Vals (ns.map V.int) us->IntsAre us ns:=by
 induction ns with
 | nil=>intro us r;rw [List.map_nil] at r;cases r;exact .nil
 | cons n ns ih =>
  intro us r
  rw [List.map_cons] at r
  cases r with
  | cons r1 r2 =>
   obtain⟨t,e⟩:=r1
   subst e
   exact .cons n t (ih r2)
section
variable {X:Cx} {e:Expr} {te:TE} {lo hi:Option Expr} {tl th:TO} {pos p2:Pos}
theorem kQ:PO X none uA:=by
 intro pins s σ H Q I h
 rw [evalPart_none]
 exact wpAny_pure ⟨none,H,I,.none,h⟩
theorem gR (h:PE X e te):PO X (some e) (BJ te):=by
 intro pins s σ H Q I hw
 rw [evalPart_some]
 refine bc (h pins s σ H _ I hw) λu s1 ⟨x,H1,I1,r1,q1⟩=>?_
 obtain⟨i,rfl,q⟩:=q1
 obtain⟨t,rfl⟩:=r1
 exact⟨some i,H1,I1,.int i t,q⟩
def E5 (X:Cx) (r:V->Option Int->Option Int->Hp->VK->Prop):Prop :=
 ∀(pins:List (Addr × Obj)) (s:Shared) (σ:St) (H:Hp) (x:V) (v vl vu:Value) (lo hi:Option Int) (sl:Addr) (Q:VK),Inv X pins σ H s->RelV x v->s.heap.IsSliceOf sl vl vu .none->IsPart vl lo->IsPart vu hi->r x lo hi H Q ->
  ∃ T id,typeLookup (.type T) "__getitem__"=pure (some (.builtin id))/\s.TypeIs v T/\wpAny (model X.prog X.w) X.A (getItem v (.ref sl)) (EP X pins σ Q) X.xe s
def FO (r:V->Option Int->Option Int->Hp->VK->Prop) (te:TE) (tl th:TO):TE:=λσ H Q=>te σ H λx H1=>tl σ H1 λl H2=>th σ H2 λu H3=>r x l u H3 Q
theorem i6 {r:V->Option Int->Option Int->Hp->VK->Prop} (hr:E5 X r) (he:PE X e te) (hl:PO X lo tl) (hu:PO X hi th):PE X (.Subscript e (.Slice lo hi none p2) pos) (FO r te tl th):=by
 intro pins s σ H Q I h
 refine Subscript_ (bc (he pins s σ H _ I h) λv s1 ⟨x,H1,I1,r1,q1⟩=>?_)
 refine wpAny_Slice (bc (hl pins s1 σ H1 _ I1 q1) λvl s2 ⟨l,H2,I2,pl,q2⟩=>bc (hu pins s2 σ H2 _ I2 q2) λvu s3 ⟨u,H3,I3,pu,q3⟩=>?_)
 rw [evalPart_none]
 refine wpAny_pure ?_
 have I4:Inv X pins σ H3 { s3 with heap:=s3.heap.push { cls:=.type "slice",data:=.fields #[vl,vu,.none] } }:=I3.kept (t':=s3.toks) λb ob q=>Heap.get?_push_of_some _ q
 obtain⟨T,id,hT,ht,hg⟩:=hr pins { s3 with heap:=s3.heap.push { cls:=.type "slice",data:=.fields #[vl,vu,.none] } } σ H3 x v vl vu l u s3.heap.objs.size Q I4 r1 (Heap.IsSliceOf.new ..) pl pu q3
 show wpAny (model X.prog X.w) X.A (subscriptTail e (.Slice lo hi none p2) v (.ref s3.heap.objs.size)) (EP X pins σ Q) X.xe { s3 with heap:=s3.heap.push { cls:=.type "slice",data:=.fields #[vl,vu,.none] } }
 exact tail_any (ops:=[.ref s3.heap.objs.size,v]) ht hT hg (by with_unfolding_all rfl)
def gZ (xs:List V) (lo hi:Option Int):List V:=(xs.drop (HT.c9 xs.length 0 lo)).take (HT.c9 xs.length xs.length hi-HT.c9 xs.length 0 lo)
theorem fQ (xs:List V) (lo hi:Option Int):(gZ xs lo hi).length<=xs.length:=by
 unfold gZ
 rw [List.length_take,List.length_drop]
 omega
def Fw (K:PySem.W.Frag):V->Option Int->Option Int->Hp->VK->Prop:=λx lo hi H Q=>∃ a xs,x=.ref a/\bG K H a xs /\
 ¬(HT.c9 xs.length 0 lo=0/\HT.c9 xs.length xs.length hi=xs.length)/\∀ p,H p=none->Q (.ref p) (upd H p (.tup (gZ xs lo hi)))
theorem C9:E5 X (Fw X.K):=by
 intro pins s σ H x v vl vu lo hi sl Q I rx hs pl pu h
 obtain⟨a,xs,rfl,hx,hw,q⟩:=h
 cases rx
 obtain⟨its,r,ht,hz⟩:=I.tuple hx
 have hlen:its.toArray.size=xs.length:=by rw [List.size_toArray];exact r.length.symm
 refine⟨"tuple",_,PyProof.Rows.slot_tuple_getitem.lookup,ht.typeIs,?_⟩
 refine HT.iX ht hs pl pu (by rw [hlen];exact hw) ?_ (by rw [hlen];exact hz)
 rw [hlen]
 refine⟨.ref s.heap.objs.size,_,I.laid (t':=s.toks) (o:=.tup (gZ xs lo hi)) (λb ob q=>Heap.get?_push_of_some _ q) (Nat.le_refl _) ?_,rfl,q _ (I.hok.fresh (Nat.le_refl _))⟩
 exact⟨Nat.le_trans (fQ xs lo hi) hz,_,(r.drop (HT.c9 xs.length 0 lo)).take (HT.c9 xs.length xs.length hi-HT.c9 xs.length 0 lo),IsTup.new _ _⟩
end
def Bk (n:Nat) (i:Int):Option Nat:=if 0<=i then (if i<n then some i.toNat else none) else if -(n:Int)<=i then some (i+n).toNat else none
def vV {α:Type} (xs:List α) (i:Int):Option α:=(Bk xs.length i).bind λj=>xs[j]?
theorem zT {n:Nat} {i:Int} {j:Nat} (h:Bk n i=some j):seqIndex? i n=some j/\j<n /\ -(n:Int)<=i/\i<n:=by
 unfold Bk at h
 by_cases h0:0<=i
 ·rw [if_pos h0] at h
  by_cases h1:i<n
  ·rw [if_pos h1] at h
   have e:i.toNat=j:=Option.some.inj h
   exact⟨by rw [seqIndex_of h0 h1,e],by omega,by omega,h1⟩
  ·rw [if_neg h1] at h;cases h
 ·rw [if_neg h0] at h
  by_cases h1:-(n:Int)<=i
  ·rw [if_pos h1] at h
   have e:(i+n).toNat=j:=Option.some.inj h
   exact⟨by rw [seqIndex_neg (by omega) h1,e],by omega,h1,by omega⟩
  ·rw [if_neg h1] at h;cases h
theorem sV {α:Type} {xs:List α} {i:Int} {v:α} (h:vV xs i=some v):∃ j,seqIndex? i xs.length=some j/\xs[j]?=some v/\j<xs.length /\ -(xs.length:Int)<=i/\i<xs.length:=by
 unfold vV at h
 cases e:Bk xs.length i with
 | none=>rw [e] at h;cases h
 | some j =>
  rw [e] at h
  obtain⟨h1,h2,h3,h4⟩:=zT e
  exact⟨j,h1,h,h2,h3,h4⟩
theorem sW {α:Type} {xs:List α} {j:Nat} {v:α} (h:xs[j]?=some v):vV xs (j:Int)=some v:=by
 have hj:j<xs.length:=(List.getElem?_eq_some_iff.mp h).1
 have e:Bk xs.length (j:Int)=some j:=by
  unfold Bk
  rw [if_pos (by omega),if_pos (by omega)];simp
 unfold vV;rw [e];exact h
def zt (b:Expr):Prop:=∀ o i,subscripted b false o i=operate [o,i] (getItem o i)
def EL (X:Cx) (r:R2):Prop :=
 ∀(value slice:Expr) (pins:List (Addr × Obj)) (s:Shared) (σ:St) (H:Hp) (x y:V) (v u:Value) (Q:VK),Inv X pins σ H s->RelV x v->RelV y u->r x y H Q ->
  subscripted slice false v u=operate [v,u] (getItem v u)->wpAny (model X.prog X.w) X.A (subscriptTail value slice v u) (EP X pins σ Q) X.xe s
def E4 (X:Cx) (id:String) (r:V->List V->Hp->VK->Prop):Prop :=
 ∀(pins:List (Addr × Obj)) (s:Shared) (σ:St) (H:Hp) (x:V) (xs:List V) (v:Value) (us:List Value) (Q:VK),Inv X pins σ H s->RelV x v->Vals xs us->r x xs H Q ->
  wpAny (model X.prog X.w) X.A (call (.builtin id) (v::us)) (EP X pins σ Q) X.xe s
section
variable {X:Cx} {a b:Expr} {ta tb:TE} {pos:Pos}
theorem aJ {r:R2} (hr:EL X r) (ha:PE X a ta) (hb:PE X b tb) (hs:zt b):PE X (.Subscript a b pos) (ED r ta tb):=by
 intro pins s σ H Q I h
 exact Subscript_ (B1 ha hb I h λv u s2 x y H2 I2 rx ry q=>hr a b pins s2 σ H2 x y v u Q I2 rx ry q (hs _ _))
def C3 (K:PySem.W.Frag):R2:=λx y H Q=>∃ p xs i v,x=.ref p/\y=.int i/\aO K H p xs/\vV xs i=some v/\Q v H
def Az (K:PySem.W.Frag):R2:=λx y H Q=>∃ p xs i v,x=.ref p/\y=.int i/\bG K H p xs/\vV xs i=some v/\Q v H
theorem fA:EL X (C3 X.K):=by
 intro value slice pins s σ H x y v u Q I rx ry h hs
 obtain⟨p,xs,i,z,rfl,rfl,hq,he,q⟩:=h
 cases rx
 obtain⟨t,rfl⟩:=ry
 obtain⟨its,r,pl,hz⟩:=I.list hq
 obtain⟨j,h1,h2,h3,h4,h5⟩:=sV he
 obtain⟨w,ew,rw'⟩:=r.get h2
 have hl:=r.length
 have hn:=nX
 have fin:EP X pins σ Q w s:=⟨z,H,I,rw',q⟩
 by_cases h0:0<=i
 ·have hj:i.toNat=j:=by
   rw [seqIndex_of h0 h5] at h1
   exact Option.some.inj h1
  exact item_listR pl.isList h0 (by omega) (by rw [hj];simpa using ew) fin hs
 ·have hj:(i+(its.toArray.size:Int)).toNat=j:=by
   rw [seqIndex_neg (by omega) h4] at h1
   rw [List.size_toArray,<- hl]
   exact Option.some.inj h1
  exact subscriptTail_builtinR (x:=w) pl.isList.typeIs slot_list_getitem.lookup
   (wpAny_getItem_list_neg (Q:=λr s'=>r=w/\EP X pins σ Q r s') pl.isList (by omega) (by rw [List.size_toArray]<;>omega) (by omega) (by rw [hj];simpa using ew) ⟨rfl,fin⟩) hs
theorem aS:EL X (Az X.K):=by
 intro value slice pins s σ H x y v u Q I rx ry h hs
 obtain⟨p,xs,i,z,rfl,rfl,hq,he,q⟩:=h
 cases rx
 obtain⟨t,rfl⟩:=ry
 obtain⟨its,r,pl,hz⟩:=I.tuple hq
 obtain⟨j,h1,h2,h3,h4,h5⟩:=sV he
 obtain⟨w,ew,rw'⟩:=r.get h2
 have hl:=r.length
 have hn:=nX
 have fin:EP X pins σ Q w s:=⟨z,H,I,rw',q⟩
 exact subscriptTail_builtinR (x:=w) pl.typeIs slot_tuple_getitem.lookup
  (getItem_tuple (j:=j) (Q:=λr s'=>r=w/\EP X pins σ Q r s') pl (by omega) (by omega) (by rw [List.size_toArray,<- hl];exact h1) (by simpa using ew) ⟨rfl,fin⟩) hs
theorem Inv.lst {pins:List (Addr × Obj)} {σ:St} {H:Hp} {s:Shared} {p:Addr} {xs:List V} (I:Inv X pins σ H s) (h:H p=some (.lst xs)) :
  ∃(its:List Value) (n:Nat),Vals xs its/\s.heap.get? p=some { cls:=.type "list",data:=.seq its.toArray n }/\xs.length<=sizeLine:=by
 obtain⟨z,its,n,r,e⟩:=I.hok p _ h
 exact⟨its,n,r,e,z⟩
theorem oJ (lo hi:Option Int) (n:Nat):(sliceBounds lo hi none n).1=((HT.c9 n 0 lo:Nat):Int)/\(sliceBounds lo hi none n).2.1=((HT.c9 n n hi:Nat):Int)/\(sliceBounds lo hi none n).2.2=1:=by
 refine⟨?_,?_,rfl⟩
 ·cases lo with
  | none=>simp [sliceBounds,HT.c9]
  | some i =>
   simp only [sliceBounds,HT.c9,Option.getD_none,show (1:Int) > 0 by decide,if_true]
   by_cases h:i<0
   ·simp only [h,if_true]<;>omega
   ·simp only [h,if_false]<;>omega
 ·cases hi with
  | none=>simp [sliceBounds,HT.c9]
  | some i =>
   simp only [sliceBounds,HT.c9,Option.getD_none,show (1:Int) > 0 by decide,if_true]
   by_cases h:i<0
   ·simp only [h,if_true]<;>omega
   ·simp only [h,if_false]<;>omega
theorem mn (its:List Value) (lo hi:Option Int):slicePick its.toArray lo hi none=((its.drop (HT.c9 its.length 0 lo)).take (HT.c9 its.length its.length hi-HT.c9 its.length 0 lo)).toArray:=by
 obtain⟨h1,h2,h3⟩:=oJ lo hi its.toArray.size
 unfold slicePick
 rw [h1,h2,h3]
 simp only [sliceRange_one,pick_run,List.size_toArray]<;>rfl
def Fv (K:PySem.W.Frag):V->Option Int->Option Int->Hp->VK->Prop:=λx lo hi H Q=>∃ a xs,x=.ref a/\aO K H a xs/\∀ p,H p=none->Q (.ref p) (upd H p (.lst (gZ xs lo hi)))
theorem oI:E5 X (Fv X.K):=by
 intro pins s σ H x v vl vu lo hi sl Q I rx hs pl pu h
 obtain⟨a,xs,rfl,hx,q⟩:=h
 cases rx
 obtain⟨its,r,ht,hz⟩:=I.list hx
 have hlen:=r.length
 refine⟨"list",_,slot_list_getitem.lookup,ht.isList.typeIs,?_⟩
 refine wpAny_getItem_list_slice ht.isList hs pl pu .none (by simp) ?_ (by rw [List.size_toArray]<;>omega)
 rw [mn,<- hlen]
 refine⟨.ref s.heap.objs.size,_,I.laid (t':=s.toks) (o:=.lst (gZ xs lo hi)) (λb ob q=>Heap.get?_push_of_some _ q) (Nat.le_refl _) ?_,rfl,q _ (I.hok.fresh (Nat.le_refl _))⟩
 exact⟨Nat.le_trans (fQ xs lo hi) hz,_,0,(r.drop (HT.c9 xs.length 0 lo)).take (HT.c9 xs.length xs.length hi-HT.c9 xs.length 0 lo),Heap.get?_push_size _ rfl⟩
def Bc:V->Bool
 | .non=>true
 | .bl _=>true
 | .int _=>true
 | .str _=>true
 | _=>false
def FU:V->V->Bool
 | .non,.non=>true
 | .bl a,.bl b=>a==b
 | .bl a,.int b=>(if a then 1 else 0)==b
 | .int a,.bl b=>a==(if b then 1 else 0)
 | .int a,.int b=>a==b
 | .str a,.str b=>a==b
 | _,_=>false
theorem nM:cT X (.builtin "len") (λxs H Q=>∃ p ys,xs=[.ref p]/\(aO X.K H p ys∨bG X.K H p ys)/\Q (.int ys.length) H):=by
 intro pins s σ H xs us Q I r h
 obtain⟨p,ys,rfl,hq,q⟩:=h
 obtain⟨u,rfl,rx⟩:=vals1 r
 cases rx
 have hn:=nX
 rcases hq with hq | hq
 ·obtain⟨its,r',pl,hz⟩:=I.list hq
  have hlen:=r'.length
  exact Calls.call_len_list pl.isList (by simp only [List.size_toArray]<;>omega) ⟨.int ys.length,H,I.tok _,⟨s.toks+1,by rw [List.size_toArray,hlen]⟩,q⟩
 ·obtain⟨its,r',pl,hz⟩:=I.tuple hq
  have hlen:=r'.length
  exact len_tuple pl (by simp only [List.size_toArray]<;>omega) ⟨.int ys.length,H,I.tok _,⟨s.toks+1,by rw [List.size_toArray,hlen]⟩,q⟩
theorem iR:cT X (.type "list") (λxs H Q=>∃ p ys,xs=[.ref p]/\(aO X.K H p ys∨bG X.K H p ys)/\∀ l,H l=none->Q (.ref l) (upd H l (.lst ys))):=by
 intro pins s σ H xs us Q I r h
 obtain⟨p,ys,rfl,hq,q⟩:=h
 obtain⟨u,rfl,rx⟩:=vals1 r
 cases rx
 have fin:∀(its:List Value),Vals ys its->ys.length<=sizeLine->∀(h':Heap) (c':Nat),(∀ b o',s.heap.get? b=some o'->h'.get? b=some o') ->
   h'.get? s.heap.objs.size=some { cls:=.type "list",dict:=none,data:=.seq its.toArray c',slots:=#[] }->EP X pins σ Q (.ref s.heap.objs.size) { s with heap:=h' }:=λits r' hz h' c' kp e =>
  ⟨.ref s.heap.objs.size,_,I.laid (t':=s.toks) kp (Nat.le_refl _) (show bB X.prog X.w _ h' _ (.lst ys) from ⟨hz,its,c',r',e⟩),rfl,q _ (I.hok.fresh (Nat.le_refl _))⟩
 rcases hq with hq | hq
 ·obtain⟨its,r',pl,hz⟩:=I.list hq
  have hlen:=r'.length
  obtain⟨o,ho,hc,n,hd⟩:=pl.isList
  exact call_list_seq p (.inl rfl) ho hc hd (λh' c' kp e=>fin its r' hz h' c' kp e) (by simp only [List.size_toArray]<;>omega)
 ·obtain⟨its,r',pl,hz⟩:=I.tuple hq
  have hlen:=r'.length
  obtain⟨o,ho,hc,n,hd⟩:=pl
  exact call_list_seq p (.inr rfl) ho hc hd (λh' c' kp e=>fin its r' hz h' c' kp e) (by simp only [List.size_toArray]<;>omega)
theorem dB:cT X (.type "tuple") (λxs H Q=>∃ p ys,xs=[.ref p]/\((aO X.K H p ys/\∀ l,H l=none->Q (.ref l) (upd H l (.tup ys)))∨(bG X.K H p ys/\Q (.ref p) H))):=by
 intro pins s σ H xs us Q I r h
 obtain⟨p,ys,rfl,h⟩:=h
 obtain⟨u,rfl,rx⟩:=vals1 r
 cases rx
 rcases h with⟨hq,q⟩|⟨hq,q⟩
 ·obtain⟨its,r',pl,hz⟩:=I.list hq
  have hlen:=r'.length
  refine call_tuple_list pl.isList (λh' kp=>?_) (by simp only [List.size_toArray]<;>omega)
  have I1:Inv X pins σ H { s with heap:=h' }:=I.kept (t':=s.toks) kp
  have I2:Inv X pins σ (upd H h'.objs.size (.tup ys)) { s with heap:=h'.push { cls:=.type "tuple",data:=.seq its.toArray } } :=
   I1.laid (t':=s.toks) (λb o e=>Heap.get?_push_of_some _ e) (Nat.le_refl _) (show bB X.prog X.w _ _ _ (.tup ys) from ⟨hz,its,r',IsTup.new _ _⟩)
  exact⟨.ref h'.objs.size,_,I2,rfl,q _ (I1.hok.fresh (Nat.le_refl _))⟩
 ·obtain⟨its,r',pl,hz⟩:=I.tuple hq
  exact call_tuple_same pl ⟨.ref p,H,I,rfl,q⟩
def FC (K:PySem.W.Frag) (T:String) (x:V) (H:Hp):Prop:=match x with
 | .str _=>T = "str"
 | .int _=>T = "int"
 | .ref p=>(T = "list"/\∃ xs,aO K H p xs)∨(T = "tuple"/\∃ o,K.lookup p=some o/\o.cls=.type "tuple"/\o.dict=none) ∨
   (T = "dict"/\((∃ kvs,H p=some (.dK kvs))∨∃ kvs,H p=some (.dT kvs)))∨(T = "set"/\∃ S n,H p=some (.set S n))
 | _=>False
theorem y4 {pins:List (Addr × Obj)} {σ:St} {H:Hp} {s:Shared} {T:String} {x:V} {v:Value} (I:Inv X pins σ H s) (r:RelV x v) (ty:FC X.K T x H) :
  s.TypeIs v T/\∀ a,v=.ref a->∃ ob,s.heap.get? a=some ob/\ob.dict=none:=by
 cases x with
 | str z =>
  obtain⟨t,rfl⟩:=r
  cases (show T = "str" from ty)
  exact⟨typeIs_str s z t,λ_ e=>nomatch e⟩
 | int i =>
  obtain⟨t,rfl⟩:=r
  cases (show T = "int" from ty)
  exact⟨typeIs_int s i t,λ_ e=>nomatch e⟩
 | ref p =>
  cases r
  rcases ty with⟨rfl,xs,hq⟩|⟨rfl,o,hk,hc,hd⟩|⟨rfl,hk⟩|⟨rfl,S,n,hk⟩
  ·obtain⟨its,_,pl,_⟩:=I.list hq
   refine⟨pl.isList.typeIs,λa e=>?_⟩
   cases e
   obtain⟨o,n,e,c,hd,_⟩:=pl
   exact⟨o,e,hd⟩
  ·refine⟨⟨o,I.fL p o hk,hc⟩,λa e=>?_⟩
   cases e
   exact⟨o,I.fL _ o hk,hd⟩
  ·have z:∃ o,s.heap.get? p=some o/\o.ExactDict:=by
    rcases hk with⟨kvs,hk⟩|⟨kvs,hk⟩
    ·obtain⟨_,_,_,_,o,_,_,e,ex,_⟩:=I.hok p _ hk
     exact⟨o,e,ex⟩
    ·obtain⟨_,_,_,_,o,_,_,e,ex,_⟩:=I.hok p _ hk
     exact⟨o,e,ex⟩
   obtain⟨o,e,ex⟩:=z
   refine⟨⟨o,e,ex.1⟩,λa e2=>?_⟩
   cases e2
   exact⟨o,e,ex.2.1⟩
  ·obtain⟨o,_,_,_,e,ex,_⟩:=I.hok p _ hk
   refine⟨⟨o,e,ex.1⟩,λa e2=>?_⟩
   cases e2
   exact⟨o,e,ex.2.1⟩
 | _=>exact False.elim ty
def Eu (K:PySem.W.Frag) (T:String) (r:V->List V->Hp->VK->Prop) (to:TE):TE:=λσ H Q=>to σ H λx H1=>FC K T x H1/\r x [] H1 Q
def FK (K:PySem.W.Frag) (T:String) (r:V->List V->Hp->VK->Prop) (to:TE) (t:TA):TE:=λσ H Q=>to σ H λx H1=>FC K T x H1/\t σ H1 λxs H2=>r x xs H2 Q
variable {o e:Expr} {es:List Expr} {to:TE} {t:TA} {name:Str} {apos cpos:Pos} {T id:String} {r:V->List V->Hp->VK->Prop}
theorem CS (pa:PlainAttrs T) (slot:Slot T name id) (hty:typeOf (.builtin id)=pure (.type "method_descriptor")) (hm:E4 X id r) (ho:PE X o to)
  (hbase:attributeBase o name X.env (eval o X.env)=eval o X.env:=by rfl) (hline:(apos.endLine==cpos.line)=true:=by rfl):PE X (.Call (.Attribute o name apos) [] [] cpos) (Eu X.K T r to):=by
 intro pins s σ H Q I h
 refine wpAny_Call_method0_late hbase hline (bc (ho pins s σ H _ I h) λv s1 ⟨x,H1,I1,r1,ty,q1⟩=>?_)
 obtain⟨h1,h2⟩:=y4 I1 r1 ty
 exact⟨T,id,pa,slot,hty,h1,h2,Calls.callWith_builtin rfl (PySem.evalArgs_none (hm pins s1 σ H1 x [] v [] Q I1 r1 .nil q1))⟩
theorem tP (pa:PlainAttrs T) (slot:Slot T name id) (hty:typeOf (.builtin id)=pure (.type "method_descriptor")) (hm:E4 X id r) (ho:PE X o to) (ha:PA X (e::es) t)
  (hbase:attributeBase o name X.env (eval o X.env)=eval o X.env:=by rfl)
  (hfew:((backTo cpos (starEach (e::es) X.env)).all (λx=>!x.1) && (backToKw cpos (keywordEach [] X.env)).all (λx=>x.1.isSome)
   && decide ((e::es).length+([]:List Keyword).length+(if ([]:List Keyword).isEmpty then 0 else 1)<30))=true:=by rfl)
  (hline:(apos.endLine==cpos.line)=true:=by rfl) (hs:starEach (e::es) X.env=(false,eval e X.env)::starEach es X.env:=by rfl) (hplain:(backTo cpos (starEach es X.env)).any (·.1)=false:=by rfl) :
  PE X (.Call (.Attribute o name apos) (e::es) [] cpos) (FK X.K T r to t):=by
 intro pins s σ H Q I h
 refine wpAny_Call_method_late hbase hfew hline rfl (bc (ho pins s σ H _ I h) λv s1 ⟨x,H1,I1,r1,ty,q1⟩=>?_)
 obtain⟨h1,h2⟩:=y4 I1 r1 ty
 refine⟨T,id,pa,slot,hty,h1,h2,?_⟩
 have hA:=ha cpos pins s1 σ H1 _ I1 q1
 rw [hs] at hA ⊢
 refine Calls.callWith_builtin (by show (false || (backTo cpos (starEach es X.env)).any (·.1))=false;rw [hplain]<;>rfl) (Calls.evalArgs_plain ?_)
 exact bc hA λus s2 ⟨vs,H2,I2,r2,q2⟩=>hm pins s2 σ H2 x vs v us Q I2 r1 r2 q2
/- xs.append(e),list.index on a module's tuple .. are E4 facts of 06m -/
end
def E3 (X:Cx) (id:String) (r:V->List V->Hp->VK->Prop):Prop :=
 ∀(pins:List (Addr × Obj)) (s:Shared) (σ:St) (H:Hp) (x:V) (xs:List V) (v:Value) (us:List Value) (Q:VK),Inv X pins σ H s->RelV x v->Vals xs us->r x xs H Q ->
  wpAny (model X.prog X.w) X.A (call (.builtin id) (v::us)) (EP X pins σ Q) X.xe s
theorem Vals.one:∀{x:V} {us:List Value},Vals [x] us->∃ u,us=[u]/\RelV x u
 | _,_,.cons r .nil=>⟨_,rfl,r⟩
theorem Vals.zero:∀{us:List Value},Vals [] us->us=[]
 | _,.nil=>rfl
theorem Vals.dropLast {xs:List V} {us:List Value} (h:Vals xs us):Vals xs.dropLast us.dropLast:=by
 induction h with
 | nil=>exact .nil
 | cons r t ih =>
  cases t with
  | nil=>exact .nil
  | cons q t'=>exact .cons r ih
theorem rP {α:Type} (l:List α):l.eraseIdx (l.length-1)=l.dropLast:=by
 induction l with
 | nil=>rfl
 | cons a r ih =>
  cases r with
  | nil=>rfl
  | cons b r =>
   have e:(a::b::r).length-1=((b::r).length-1)+1:=by
    have h1:(a::b::r).length=r.length+2:=rfl
    have h2:(b::r).length=r.length+1:=rfl
    omega
   rw [e,List.eraseIdx_cons_succ,ih]
   all_goals rfl
section
variable {X:Cx} {pins:List (Addr × Obj)} {σ:St} {H:Hp} {s:Shared} {l b:Addr} {xs ys zs:List V}
theorem Inv.Cq {its its':List Value} {n:Nat} {f:Array Value->Array Value} {t':Nat} (I:Inv X pins σ H s) (hH:H l=some (.lst xs))
  (e:s.heap.get? l=some { cls:=.type "list",data:=.seq its.toArray n }) (hf:f its.toArray=its'.toArray) (hv:Vals ys its') (hz:ys.length<=sizeLine) :
  Inv X pins σ (upd H l (.lst ys)) { s with heap:=s.heap.update l (Obj.mapSeq f),toks:=t' }:=by
 have q:=PySem.IsL.update e f
 rw [hf] at q
 refine I.write (x:=l) (e:=l) (by rw [hH];exact trivial) (.inl rfl) (λb' u hb hu=>(Heap.get?_update_other s.heap (Obj.mapSeq f) (Ne.symm hb)).trans hu) ⟨_,q⟩ ?_
 exact⟨hz,its',_,hv,q⟩
theorem Inv.Fl {its:List Value} {t':Nat} (I:Inv X pins σ H s) (hv:Vals ys its) (hz:ys.length<=sizeLine) :
  Inv X pins σ (upd H s.heap.objs.size (.lst ys)) { s with heap:=s.heap.push { cls:=.type "list",data:=.seq its.toArray },toks:=t' } :=
 I.laid (λ_ _ q=>Heap.get?_push_of_some _ q) (Nat.le_refl _) ⟨hz,its,0,hv,Heap.get?_push_size _ rfl⟩
theorem Inv.fresh (I:Inv X pins σ H s):H s.heap.objs.size=none:=I.hok.fresh (Nat.le_refl _)
theorem Inv.u5 (I:Inv X pins σ H s) (hH:H l=some (.lst xs)):xs.length<=sizeLine/\∃(its:List Value) (n:Nat),Vals xs its/\xs.length=its.length/\s.heap.get? l=some { cls:=.type "list",data:=.seq its.toArray n }:=by
 obtain⟨z,its,n,r,e⟩:=I.hok l _ hH
 exact⟨z,its,n,r,r.length,e⟩
theorem xi {n:Nat} (h:n<=sizeLine):Builtin.List.listTooLong n=false:=by
 unfold Builtin.List.listTooLong
 exact decide_eq_false (by omega)
end
section
variable {X:Cx}
def tY:V->List V->Hp->VK->Prop:=λx vs H Q=>∃ l xs y,x=.ref l/\vs=[y]/\H l=some (.lst xs)/\xs.length<sizeLine/\Q .non (upd H l (.lst (xs++[y])))
theorem jI:E3 X "list.append" tY:=by
 intro pins s σ H x vs v us Q I rx rv h
 obtain⟨l,xs,y,rfl,rfl,hH,hz,q⟩:=h
 cases rx
 obtain⟨u,rfl,ru⟩:=rv.one
 obtain⟨z,its,n,r,hl,e⟩:=I.u5 hH
 refine call_meets F.slot_list_append ⟨_,e,rfl⟩ F.entry_list_append (F.args_list_append_2 _ _) (PySem.list_append l its.toArray n u (by rw [List.size_toArray];omega)) ⟨e,?_⟩
 refine⟨.non,_,I.Cq (its':=its++[u]) hH e (by simp) (r.append (.cons ru .nil)) ?_,rfl,q⟩
 rw [List.length_append,List.length_singleton]
 omega
def Ay:V->List V->Hp->VK->Prop:=λx vs H Q=>∃ l b xs zs,x=.ref l/\vs=[.ref b]/\H l=some (.lst xs)/\H b=some (.lst zs)/\xs.length+zs.length<=sizeLine/\Q .non (upd H l (.lst (xs++zs)))
theorem u6:E3 X "list.extend" Ay:=by
 intro pins s σ H x vs v us Q I rx rv h
 obtain⟨l,b,xs,zs,rfl,rfl,hH,hB,hz,q⟩:=h
 cases rx
 obtain⟨u,rfl,ru⟩:=rv.one
 cases ru
 obtain⟨z,its,n,r,hl,e⟩:=I.u5 hH
 obtain⟨z2,its2,n2,r2,hl2,e2⟩:=I.u5 hB
 have hsz:its.toArray.size+its2.toArray.size<=sizeLine:=by rw [List.size_toArray,List.size_toArray];omega
 have hlong:¬(!its.toArray.isEmpty && Builtin.List.listTooLong (its.toArray.size+its2.toArray.size))=true:=by
  rw [xi hsz,Bool.and_false]
  exact Bool.false_ne_true
 refine call_meets F.slot_list_extend ⟨_,e,rfl⟩ F.entry_list_extend (F.args_list_extend_2 _ _)
  (AutoSeq1.list_extend_list_list_0 l its.toArray n b its2.toArray n2 hlong (by rw [List.size_toArray];omega) (by omega)) ⟨e,e2,?_⟩
 refine⟨.non,_,I.Cq (its':=its++its2) hH e (by simp) (r.append r2) ?_,rfl,q⟩
 rw [List.length_append]
 omega
def Fu:V->List V->Hp->VK->Prop:=λx vs H Q=>∃ l xs y,x=.ref l/\vs=[]/\H l=some (.lst xs)/\xs[xs.length-1]?=some y/\Q y (upd H l (.lst xs.dropLast))
theorem Ct:E3 X "list.pop" Fu:=by
 intro pins s σ H x vs v us Q I rx rv h
 obtain⟨l,xs,y,rfl,rfl,hH,hy,q⟩:=h
 cases rx
 have hus:=rv.zero
 subst hus
 obtain⟨z,its,n,r,hl,e⟩:=I.u5 hH
 obtain⟨u,hu,ru⟩:=r.get hy
 have hy':its.toArray[its.toArray.size-1]?=some u:=by
  show its.toArray[its.length-1]?=some u
  rw [<- Array.getElem?_toList,<- hl]
  exact hu
 refine call_meets F.slot_list_pop ⟨_,e,rfl⟩ F.entry_list_pop (F.args_list_pop_1 _) (MeetsSeq.list_pop_last l its.toArray n u hy' (by rw [List.size_toArray];omega)) ⟨e,?_⟩
 refine⟨y,_,I.Cq (its':=its.dropLast) hH e ?_ r.dropLast ?_,ru,q⟩
 ·show its.toArray.eraseIdxIfInBounds (its.toArray.size-1)=its.dropLast.toArray
  rw [List.size_toArray,List.eraseIdxIfInBounds_toArray,rP]
 ·rw [List.length_dropLast]
  omega
def Ft:R2:=λx y H Q=>∃ l b xs zs,x=.ref l/\y=.ref b/\H l=some (.lst xs)/\H b=some (.lst zs)/\xs.length+zs.length<=sizeLine/\∀ p,H p=none->Q (.ref p) (upd H p (.lst (xs++zs)))
theorem sy:iL X (binaryOp .Add) Ft:=by
 intro pins s σ H x y v u Q I rx ry h
 obtain⟨l,b,xs,zs,rfl,rfl,hH,hB,hz,q⟩:=h
 cases rx
 cases ry
 obtain⟨z,its,n,r,hl,e⟩:=I.u5 hH
 obtain⟨z2,its2,n2,r2,hl2,e2⟩:=I.u5 hB
 refine PySem.P.add_list e e2 ?_ (by rw [List.size_toArray,List.size_toArray];omega)
 have ea:its.toArray++its2.toArray=(its++its2).toArray:=by simp
 rw [ea]
 exact⟨.ref _,_,I.Fl (t':=s.toks) (r.append r2) (by rw [List.length_append];omega),rfl,q _ I.fresh⟩
end
section
variable {prog:Program} {w:World} {A:Around} {E:Value->Shared->Prop} {s:Shared}
end
section
variable {X:Cx}
end
end L2
namespace Att
open PySem PySem.W PySem.Calls PyProof.Rows
theorem kx {P:Params} {h:Heap}:∀(ns:List Int) (vs:List Value),WellAll P h vs (ns.map WData.int)->IntsAre vs ns:=by
 intro ns
 induction ns with
 | nil =>
  intro vs w
  rw [List.map_nil] at w
  cases w
  exact .nil
 | cons n ns ih =>
  intro vs w
  rw [List.map_cons] at w
  cases w with
  | cons a b =>
   cases a
   exact .cons _ _ (ih _ b)
theorem vK {l:OpenLaw} {n:Nat} (hn:l.most=some n) {P:Params} {h:Heap} {args:List WData} {vals:List Value}
  (hpre:l.row.toRowW.claim.pre args=true) (hwl:WellAll P h vals args) :
  ∃ a vs ns,vals=[Value.ref a]/\args=[WData.list (ns.map WData.int)]/\h.get? a=some { cls:=.type "list",data:=.seq vs.toArray }/\IntsAre vs ns/\ns.length<=n:=by
 have hsh:WShape.hasAll [] args [.list .int]=true:=(pre_splitW hpre).1
 have hc:l.pre.holds [] { args:=args }=true:=(pre_splitW hpre).2
 obtain⟨d,r,rfl,h1,h2⟩:=hasAllW_cons hsh
 obtain rfl:=hasAllW_nil h2
 obtain⟨xs,rfl,h3⟩:=hasW_list h1
 obtain⟨ns,rfl⟩:=items_int h3
 have hlen:ns.length<=n:=by
  unfold OpenLaw.pre at hc
  have h4:(WTm.not (.lt (.lit (.int (n:Int))) (.len (.arg 0)))).holds [] { args:=[.list (ns.map .int)] }=true:=by
   have h4:=(holds_andW hc).1
   rw [hn] at h4
   exact h4
  have h5:=condW_of h4 (w_not (w_lt w_lit (w_len_list (w_arg rfl))))
  rw [List.length_map] at h5
  refine Nat.le_of_not_lt λq=>?_
  have q':(n:Int)<((ns.length:Nat):Int):=by omega
  first
   | (rw [decide_eq_true q'] at h5;exact absurd h5 (by decide))
   | (simp at h5;omega)
 cases hwl with
 | cons w1 w2 =>
  cases w2
  cases w1 with
  | list ho hall=>exact⟨_,_,ns,rfl,rfl,ho,kx ns _ hall,hlen⟩
theorem vG (l:OpenLaw) (args:List WData):l.row.toRowW.claim.post args (.bool true) args=true :=
 postW_of (r:=l.row.toRowW) (X:=(true==true))
  (show WShape.has [] (.bool true) .bool=true by first | rfl | decide | simp [WShape.has,WShape.arms,WShape.armsAll])
  (show (WTm.eq .res (.lit (.bool true))).value [] { args:=args,res:=some (.bool true),after:=args }=some (.bool (true==true)) from w_eq_bool (w_res rfl) w_lit) rfl
theorem pE {l:OpenLaw} {n:Nat} {q:Program} {loose:List Str} {XP:(Str->Option Value)->Heap->Prop} {YP:World->Heap->Prop} {d:DefRec}
  (hn:l.most=some n) (hdf:d.params.defaults=[])
  (call:∀(w:World) (s₀ s₁:Shared) (mg mb:Str->Option Value) (fa:Addr) (o:Obj) (pm cd doc:Value) (a:Addr) (vs:List Value) (ns:List Int),
   Ground q loose [] XP w s₀ mg mb s₁.heap->YP w s₁.heap ->
   s₁.heap.get? fa=some o->o.data=.func (docDef d.name d.params d.body d.scope pm cd doc)->s₁.heap.CodeRec cd d.name->mg d.name=some (.ref fa) ->
   s₁.heap.get? a=some { cls:=.type "list",data:=.seq vs.toArray }->IntsAre vs ns->ns.length<=n->s₁.gens=#[] ->
   codeAny (model l.prog w) callerA (.call (.ref fa) ⟨[.ref a],[]⟩) (λr s'=>r=.ok (.ret (.bool true))/\OldK s₁.heap s'.heap/\s'.os=s₁.os/\AllBare s'.gens) s₁) :
  WalkO q loose XP YP l.row.toRowW d [] (λf vs=>PySem.call f vs):=by
 intro w s₀ s₁ mg mb G Y fa o pm cd doc dV kV ho hd hcd hD hmg hg args vals as hpre hlay hrd hwl hlo
 obtain rfl:dV=.none:=Dflts.none hD hdf
 obtain rfl:kV=.none:=Dflts.noKw hD
 obtain⟨a,vs,ns,rfl,rfl,hobj,hints,hlen⟩:=vK hn hpre hwl
 refine enter_call (codeAny_mono (call w s₀ s₁ mg mb fa o pm cd doc a vs ns G Y ho (fd_plain hd) hcd hmg hobj hints hlen hg) λr s' hq=>?_)
 obtain⟨rfl,h2,h3,h4⟩:=hq
 exact⟨.inl ⟨.bool true,.bool true,[],rfl,λ_=>rfl,.bool true,vG l _,λ_=>⟨List.Pairwise.nil,λ_ hm=>(nomatch hm)⟩⟩,h2,h3,h4⟩
section
variable {prog:Program} {w:World} {A:Around} {E:Value->Shared->Prop} {s:Shared} {K:Frag}
end
end Att
namespace L2
open PySem PySem.Spec PyProof.Rows
theorem nI:∀{vs:List Value} {ns:List Int},IntsAre vs ns->Vals (ns.map V.int) vs
 | _,_,.nil=>.nil
 | _,_,.cons n t h=>.cons ⟨t,rfl⟩ (nI h)
def zq (H:Hp):Prop:=∀ b,H b=none∨∃ o xs,H b=some (.frz o (.lst xs))
theorem wV {P:Program} {w:World} {K:PySem.W.Frag} {mg mb:Str->Option Value} {CX:kE} {k:Nat} {fa a:Addr} {fd:FuncData} {x:Str} {sp:Sp} {s₁:Shared} {vs:List Value} {ns:List Int}
  (KX:K.In s₁.heap) (hns:s₁.heap.Ns mainGlobals mg) (hb:s₁.heap.Ns builtinsNs mb) (hbb:∀ x:Str,x ≠ "__name__"->mb x=bootBuiltins x) (hlim:s₁.heap.NoLimit) (hg:s₁.gens=#[])
  (ha:s₁.heap.get? a=some { cls:=.type "list",data:=.seq vs.toArray }) (hi:IntsAre vs ns) (hl:ns.length<=sizeLine) (hr:bR k callerA)
  (F:∀ base:Heap,K.In base->base.Ns mainGlobals mg->cV P w K mg base CX k fa fd [x] sp) (hbind:∀(s:Shared) (u:Value),BindsTo s fd ⟨[u],[]⟩ [(x,u)])
  (hsp:∀ H:Hp,zq H->aO K H a (ns.map V.int)->sp [.ref a] H (λv _=>v=.bl true) λ_ _ _=>False)
  (hCX:∀ H e s',CX [] H s₁ (λ_ _ _=>False) e s'->False) :
  codeAny (model P w) callerA (.call (.ref fa) ⟨[.ref a],[]⟩) (λr s'=>r=.ok (.ret (.bool true))/\OldK s₁.heap s'.heap/\s'.os=s₁.os/\AllBare s'.gens) s₁:=by
 have rv:=nI hi
 have lenV:=hi.length
 -- from an abstract heap in which nothing but the script may be tracked
 have core:∀ H:Hp,zq H->aO K H a (ns.map V.int)->fP P w H s₁.heap->(∀ b,H b≠none->b=a)->(H a≠none->K.lookup a=none) ->
   codeAny (model P w) callerA (.call (.ref fa) ⟨[.ref a],[]⟩) (λr s'=>r=.ok (.ret (.bool true))/\OldK s₁.heap s'.heap/\s'.os=s₁.os/\AllBare s'.gens) s₁:=by
  intro H hO hS hok hA hK
  have base_of:∀{b:Addr} {o:Obj},s₁.heap.get? b=some o->H b=none->(nU s₁.heap H).get? b=some o:=λe n=>wN e n
  have noA:∀{b:Addr} {o:Obj} {es:Array DictEntry} {ep:Nat},s₁.heap.get? b=some o->o.data=.dict es ep->H b=none:=λ{b o es ep} e d=>by
   cases q:H b with
   | none=>rfl
   | some u =>
    have e':b=a:=hA b (by rw [q];simp)
    subst e'
    rw [ha] at e;cases e
    have d':Data.seq vs.toArray _=Data.dict es ep:=d
    cases d'
  have nsK:∀{b:Addr} {m:Str->Option Value},s₁.heap.Ns b m->(nU s₁.heap H).Ns b m:=λ{b m} ⟨o,es,ep,e,d,r⟩=>⟨o,es,ep,base_of e (noA e d),d,r⟩
  have hKb:K.In (nU s₁.heap H):=λb o e=>base_of (KX b o e) (by
   cases q:H b with
   | none=>rfl
   | some u =>
    have e':b=a:=hA b (by rw [q];simp)
    subst e'
    rw [hK (by rw [q];simp)] at e;cases e)
  have hM:Mod K mg (nU s₁.heap H):=⟨hKb,nsK hns,⟨mb,nsK hb,hbb⟩,let ⟨mc,h1,h2⟩:=hlim;⟨mc,nsK h1,h2⟩⟩
  have e0:rC P w K mg (nU s₁.heap H) callerA [] s₁ H:=⟨rfl,hM,λb o e=>zY e,Nat.le_of_eq (uT _ _),trivial,λb hb=>absurd (show b∈([]:List Addr) from hb) (by simp),hok,.of_eq hg⟩
  refine codeAny_mono ((F _ hKb (nsK hns)).run callerA [] s₁ H ⟨[.ref a],[]⟩ [.ref a] [.ref a] _ _ hr e0 (hbind s₁ (.ref a)) (.cons rfl .nil) (hsp H hO hS)) λr s' h=>?_
  cases r with
  | error e=>exact (hCX H e s' h).elim
  | ok fl =>
   cases fl with
   | next=>exact False.elim h
   | brk=>exact False.elim h
   | cont=>exact False.elim h
   | ret u =>
    obtain⟨v,H',os,bare,un,hok',r',q⟩:=h
    have q':v=.bl true:=q
    subst q'
    obtain rfl:u=Value.bool true:=r'
    refine⟨rfl,OldK.of_keep λb o e=>?_,os,bare⟩
    cases q:H b with
    | none=>exact un.keep b o e q (by intro z;exact absurd (show b∈([]:List Addr) from z) (by simp)) (by simp)
    | some u =>
     rcases hO b with z | ⟨ob,xs,z⟩
     ·rw [q] at z;cases z
     ·have z2:=un.frzs b ob _ z
      obtain⟨e1,_⟩:=hok b _ z
      obtain⟨e2,_⟩:=hok' b _ z2
      rw [e] at e1;cases e1
      exact e2
 cases hk:K.lookup a with
 | some o =>
  -- the script is one of the module's own objects
  have e:=KX a o hk
  rw [ha] at e
  cases e
  refine core (λ_=>none) (λ_=>.inl rfl) (.inr ⟨_,vs.toArray,_,hk,rfl,rfl,rfl,by rw [List.size_toArray,lenV];exact hl,by simpa using rv⟩) (λb u z=>by have z':(none:Option HO)=some u:=z;cases z') (λb z=>absurd rfl z) λz=>absurd rfl z
 | none =>
  refine core (λb=>if b=a then some (.frz { cls:=.type "list",data:=.seq vs.toArray } (.lst (ns.map V.int))) else none) (λb=>?_) (.inl (.inr ⟨{ cls:=.type "list",data:=.seq vs.toArray },if_pos rfl⟩)) (λb u z=>?_) (λb z=>?_) λ_=>hk
  ·by_cases hb:b=a
   ·exact .inr ⟨_,_,if_pos hb⟩
   ·exact .inl (if_neg hb)
  ·by_cases hb:b=a
   ·have z':=(if_pos hb).symm.trans z
    cases z'
    subst hb
    exact⟨ha,by rw [List.length_map];exact hl,vs,_,rv,ha⟩
   ·have z':=(if_neg hb).symm.trans z
    cases z'
  ·by_cases hb:b=a
   ·exact hb
   ·exact absurd (if_neg hb) z
abbrev cp {K:PySem.W.Frag} {h:Heap} (_:K.In h):PySem.W.Frag:=K
theorem uD {l:PySem.W.OpenLaw} {n k:Nat} {q:Program} {loose:List Str} {XP:(Str->Option Value)->Heap->Prop} {YP:World->Heap->Prop} {d:DefRec} {K:Params->PySem.W.Frag} {CX:World->kE} {sp:World->Sp} {x:Str}
  (hn:l.most=some n) (hn2:n<=sizeLine) (hdf:d.params.defaults=[]) (hr:bR k callerA)
  (hY:∀(w:World) (h:Heap),YP w h->(K w.params).In h)
  (F:∀(w:World) (mg:Str->Option Value) (fa:Addr) (h:Heap),(K w.params).In h->h.Ns mainGlobals mg->mg d.name=some (.ref fa) ->
   ∃ fd:FuncData,(∀(s:Shared) (u:Value),BindsTo s fd ⟨[u],[]⟩ [(x,u)]) /\
    ∀ base:Heap,(K w.params).In base->base.Ns mainGlobals mg->cV l.prog w (K w.params) mg base (CX w) k fa fd [x] (sp w))
  (hsp:∀(w:World) (H:Hp) (a:Addr) (ns:List Int),ns.length<=n->zq H->aO (K w.params) H a (ns.map V.int)->sp w [.ref a] H (λv _=>v=.bl true) λ_ _ _=>False)
  (hCX:∀(w:World) (H:Hp) (s:Shared) (e:Value) (s':Shared),CX w [] H s (λ_ _ _=>False) e s'->False) :
  PySem.W.WalkO q loose XP YP l.row.toRowW d [] (λf vs=>PySem.call f vs):=by
 refine Att.pE hn hdf λw s₀ s₁ mg mb fa o pm cd doc a vs ns G Y ho hd hcd hmg hobj hints hlen hg=>?_
 have KX:=hY w _ Y
 obtain⟨fd,hb,hF⟩:=F w mg fa _ KX G.T.g hmg
 exact wV KX G.T.g G.T.b G.T.builtins G.T.nolimit hg hobj hints (Nat.le_trans hlen hn2) hr hF hb (λH hO hS=>hsp w H a ns hlen hO hS) λH e s'=>hCX w H s₁ e s'
theorem y7 {l:PySem.W.OpenLaw} {n k:Nat} {q:Program} {loose:List Str} {XP:(Str->Option Value)->Heap->Prop} {YP:World->Heap->Prop} {d:DefRec} {K:Params->PySem.W.Frag} {CX:kE} {sp:PySem.W.Frag->Sp} {x:Str}
  (hn:l.most=some n) (hn2:n<=sizeLine) (hdf:d.params.defaults=[]) (hr:bR k callerA)
  (hY:∀(w:World) (h:Heap),YP w h->(K w.params).In h)
  (F:∀(w:World) (mg:Str->Option Value) (fa:Addr) (h:Heap),(K w.params).In h->h.Ns mainGlobals mg->mg d.name=some (.ref fa) ->
   ∃ fd:FuncData,(∀(s:Shared) (u:Value),BindsTo s fd ⟨[u],[]⟩ [(x,u)]) /\
    ∀ base:Heap,(K w.params).In base->base.Ns mainGlobals mg->cV l.prog w (K w.params) mg base CX k fa fd [x] (sp (K w.params)))
  (hsp:∀(K:PySem.W.Frag) (H:Hp) (a:Addr) (ns:List Int),ns.length<=n->zq H->aO K H a (ns.map V.int)->sp K [.ref a] H (λv _=>v=.bl true) λ_ _ _=>False)
  (hCX:∀(H:Hp) (s:Shared) (e:Value) (s':Shared),CX [] H s (λ_ _ _=>False) e s'->False) :
  PySem.W.WalkO q loose XP YP l.row.toRowW d [] (λf vs=>PySem.call f vs) :=
 uD (K:=K) (CX:=λ_=>CX) (sp:=λw=>sp (K w.params)) hn hn2 hdf hr hY F (λw H a ns h1 h2 h3=>hsp (K w.params) H a ns h1 h2 h3) λ_ H s e s'=>hCX H s e s'
end L2
/- THE LAST THEOREM (shape;LID,My.* are yours):
   My.Adr: a structure of the addresses that your layer names (classes,functions);My.Txt K t: a structure (Prop) of the equations over K;
   My.txt_mk:{K} {implicit addresses ..} (e1:nsIn K mainGlobals "law"=some (some (.ref f))) (e2:K.lookup f=some ⟨oc,od,.func (fnOf "law" "law" params body scope dV kV doc pm an cdv ct),sl⟩) (e3:codeIn K cdv "law"=true) ..:∃ t,My.Txt K t
set_option maxRecDepth 100000 in
set_option maxHeartbeats 0 in
theorem PySem.Challenge.cw_LID_holds : PySem.Challenge.rw_LID.Holds := by
 w_on;o_law;k_head;(case hw=>w_witness2)
 k_fill
 refine L2.uD (l:=PySem.Challenge.rw_LID) (n:=63) (k:=40) (x := "script") (CX:=λw=>..) (sp:=λ_=>My.sp_law) rfl (by decide) rfl ⟨rfl,by decide,by decide⟩ (λw h Y=>PySem.W.kIn_of Y) ?F ?S ?C
 case F =>
  intro w mg fa h KX G hmg
  have T:∃ t,My.Txt (L2.cp KX) t:=by
   dsimp only [L2.cp]                          -- K must stand as «<heap const> w.params» for k_is
   refine' My.txt_mk ?e1 ?e2 ?e3 ..
   (case e1=>PySem.W.k_is)                    -- in the order: a name -> its address -> its object -> its parts
   (case e2=>PySem.W.k_is)
   ..
  obtain⟨t,T⟩:=T
  have e0:=hmg.symm.trans (PySem.W.mg_of KX G T.law)
  cases e0                                       -- fa is the law's own address
  exact⟨_,λs u=>.of_eq rfl,λbase kb nb=>My.law_fn T kb nb⟩     -- if «.of_eq rfl» comes too early: refine' ⟨_,?b,λbase kb nb=>My.law_fn T kb nb⟩;exact λs u=>.of_eq rfl
 case S=>exact λw H a ns hl hO hS=>..
 case C=>exact ..
(the tactic k_is has no namespace: write k_is) -/
namespace L2
open PySem PySem.Spec PyProof.Rows
def inClass (s:Stmt) (j:Nat):Stmt:=match s with
 | .ClassDef _ _ _ body _ _ _ _ _ _ _=>body.getD j (.Pass ⟨0,0,0,0⟩)
 | _=>.Pass ⟨0,0,0,0⟩
def bw (s:Stmt):Arguments:=match s with
 | .FunctionDef _ a _ _ _ _ _ _ _ _=>a
 | _=>{ posonlyargs:=[],args:=[],vararg:=none,kwonlyargs:=[],kw_defaults:=[],kwarg:=none,defaults:=[] }
def aP (s:Stmt):List Stmt:=match s with
 | .FunctionDef _ _ b _ _ _ _ _ _ _=>b
 | _=>[]
def aj (s:Stmt):Scope:=match s with
 | .FunctionDef _ _ _ _ _ _ sc _ _ _=>sc
 | _=>{ kind:=.function,names:=[],isGenerator:=false,isCoroutine:=false }
abbrev aG:kE:=λ_ _ _ _ _ _=>False
abbrev E0:XK:=λ_ _ _=>False
theorem aB {X:Cx}:Passes aG X E0:=λ_ _ _ _ _ _ _ h=>h.elim
structure vZ (K:PySem.W.Frag) (x qual:Str) (st:Stmt) (f:Addr) (fd:FuncData):Prop where
 ex:∃(oc:Value) (od:Option Addr) (kV doc pm:Value) (an:Option Addr) (cdv ct:Value) (osl:Array (Option Value)),
  fd=PySem.W.fnOf x qual (bw st) (aP st) (aj st) .none kV doc pm an cdv ct/\K.lookup f=some ⟨oc,od,.func fd,osl⟩/\PySem.W.codeIn K cdv qual=true
 kp:PySem.W.keepIn K (.ref f)=true
section
variable {P:Program} {w:World} {K:PySem.W.Frag} {mg:Str->Option Value} {base:Heap}
theorem vZ.ok {x qual:Str} {st:Stmt} {f:Addr} {fd:FuncData} {N ps:List Str} {k:Nat} {sp:Sp} (F:vZ K x qual st f fd) (S:aw N ps (aj st)) (len:∀ vs H Q E,sp vs H Q E->vs.length=ps.length)
  (hbody:∀(cdv:Value) (A:Around) (outer:List Env) (s:Shared) (H:Hp) (vs:List V) (Q:VK) (E:XK),bR k (A.deeper (envOfC qual (aj st) s.heap.objs.size f cdv))->sp vs H Q E ->
   ∃ t,gK (eV aG P w K mg base N qual (aj st) f cdv A outer s H E).kA (aP st) t/\t { nx:=λ_ H'=>Q .non H',rt:=Q } (start N vs) H):cV P w K mg base aG (k+1) f fd ps sp:=by
 obtain⟨oc,od,kV,doc,pm,an,cdv,ct,osl,rfl,lk,hcd⟩:=F.ex
 refine wG lk hcd S len λA outer s H vs Q E hr hsp=>?_
 obtain⟨t,h,q⟩:=hbody cdv A outer s H vs Q E hr hsp
 exact⟨t,h.kA,q⟩
theorem vZ.binds {x qual:Str} {st:Stmt} {f:Addr} {fd:FuncData} {ps:List Str} (F:vZ K x qual st f fd)
  (h:∀(kV doc pm:Value) (an:Option Addr) (cdv ct:Value) (us:List Value),us.length=ps.length->bindArgs (PySem.W.fnOf x qual (bw st) (aP st) (aj st) .none kV doc pm an cdv ct) ⟨us,[]⟩=pure (ps.zip us)):Binds K fd ps []:=by
 obtain⟨oc,od,kV,doc,pm,an,cdv,ct,osl,rfl,lk,hcd⟩:=F.ex
 exact .all (h kV doc pm an cdv ct)
theorem rQ {x qual:Str} {st:Stmt} {f:Addr} {oc:Value} {od an:Option Addr} {osl:Array (Option Value)} {kV doc pm cdv ct:Value} (l:K.lookup f=some ⟨oc,od,.func (PySem.W.fnOf x qual (bw st) (aP st) (aj st) .none kV doc pm an cdv ct),osl⟩)
  (c:PySem.W.codeIn K cdv qual=true) (k:PySem.W.keepIn K (.ref f)=true):vZ K x qual st f (PySem.W.fnOf x qual (bw st) (aP st) (aj st) .none kV doc pm an cdv ct):=⟨⟨oc,od,kV,doc,pm,an,cdv,ct,osl,rfl,l,c⟩,k⟩
end
theorem d7 {A:Around} {k:Nat} (hr:bR k A):A.units+1<cLine:=Nat.lt_of_le_of_lt (Nat.add_le_add_left (by decide:1<=64) _) hr.units
theorem vL {n:Nat} (h:n<=1000):n<sizeLine:=Nat.lt_of_le_of_lt h (by decide)
section
variable {X:Cx}
theorem pv (i:Nat) {x:Str} {pos:Pos} (hN:X.N[i]?=some x:=by rfl) (hv:Dw X.env.scope x:=by first | exact Or.inl rfl | exact Or.inr (Or.inl rfl) | exact Or.inr (Or.inr rfl)) (hd:(x==("__debug__":Str))=false:=by decide)
  (hcd:(x==("__classdict__":Str))=false:=by decide):PE X (.Name x pos) (vO i):=sD hN hv hd hcd
end
theorem aK {c A B:Prop} [Decidable c] (h1:c->A) (h2:¬c->B):if c then A else B:=by
 by_cases h:c
 ·rw [if_pos h]
  exact h1 h
 ·rw [if_neg h]
  exact h2 h
def aA (H H':Hp):Prop:=∀ b o,H b=some o->H' b=some o
theorem aA.refl (H:Hp):aA H H:=λ_ _ h=>h
theorem aA.trans {H H1 H2:Hp} (a:aA H H1) (b:aA H1 H2):aA H H2:=λc o h=>b c o (a c o h)
theorem aA.free {H H':Hp} (e:aA H H') {l:Addr} (h:H' l=Option.none):H l=Option.none:=by
 cases q:H l with
 | none=>rfl
 | some o =>
  rw [e l o q] at h
  cases h
theorem aA.seq {K:PySem.W.Frag} {H H':Hp} {a:Addr} {xs:List V} (e:aA H H') (h:aO K H a xs):aO K H' a xs:=by
 rcases h with (h | ⟨o,h⟩) | h
 ·exact .inl (.inl (e _ _ h))
 ·exact .inl (.inr ⟨o,e _ _ h⟩)
 ·exact .inr h
end L2
set_option maxHeartbeats 1000000
namespace L2
open PySem PySem.Spec PyProof.Rows
theorem iT {Ex:Value->Shared->Prop} {prog:Program} {w:World} {A:Around} {R:Result->Shared->Prop} {s:Shared} {elt target:Expr} {gens:List Comprehension} {scope:Scope} {pos ps:Pos} {ifs:List Expr} {d:Nat} {B:Sem Unit} {it acc:Value} {env:Env} (I:Nat->Shared->Prop)
  (ht:compTurn (.ListComp elt gens scope pos) d it acc env=(do
   standAt ps
   match <- pyNext it with
   | none=>pure (.done .next)
   | some v =>
    letOwnedTupleGo target it v
    assign target env v
    let mut ok:=true
    for c in ifs do
     if ok then ok <- isTrue c env (eval c env)
    if ok then B
    again (.compLoop (.ListComp elt gens scope pos) d it acc env)))
  (turn:∀ n s,I n s->wpAny (model prog w) A (pyNext it) (λr s₁=>match r with
   | none=>R (.ok .next) s₁
   | some v=>wpAny (model prog w) A (letOwnedTupleGo target it v) (λ_ s₁'=>wpAny (model prog w) A (assign target env v) (λ_ s₂ =>
     wpAny (model prog w) A (forIn ifs true λc r=>if r=true then do let ok <- isTrue c env (eval c env);pure (ForInStep.yield ok) else pure (ForInStep.yield r)) (λok s₃ =>
      if ok=true then wpAny (model prog w) A B (λ_ s₅=>∃ m,m<n/\I m s₅) Ex s₃
      else ∃ m,m<n/\I m s₃) Ex s₂) Ex s₁') Ex s₁) Ex s)
  (n:Nat) (h:I n s) (hE:∀ e s',Ex e s'->notedBy (model prog w) A env (λe s''=>R (.error e) s'') e s') :
  codeAny (model prog w) A (.compLoop (.ListComp elt gens scope pos) d it acc env) R s:=by
 refine codeAny_loop rfl I (λn s hI=>?_) n h
 show wpAny _ A ((compTurn (.ListComp elt gens scope pos) d it acc env).onRaise (λx=>do noteFrame x env;theTreesLotGoes x)) _ _ s
 refine wpAny_noted ?_
 rw [ht]
 refine wpAny_bind (wpAny_standAt (wpAny_bind (wpAny_mono (turn n s hI) (λr s₁ h₁=>?_) λ_ _ h'=>hE _ _ h')))
 cases r with
 | none=>exact wpAny_pure h₁
 | some v =>
  refine wpAny_bind (wpAny_mono h₁ (λ_ s₁' h₁'=>?_) λ_ _ h'=>hE _ _ h')
  refine wpAny_bind (wpAny_mono h₁' (λ_ s₂ h₂=>wpAny_bind (wpAny_mono h₂ (λok s₃ h₃=>?_) λ_ _ h'=>hE _ _ h')) λ_ _ h'=>hE _ _ h')
  cases ok with
  | false=>exact wpAny_pure ⟨rfl,h₃⟩
  | true=>exact wpAny_bind (wpAny_mono h₃ (λ_ s₅ h₅=>wpAny_pure ⟨rfl,h₅⟩) λ_ _ h'=>hE _ _ h')
def pH (elt:Expr) (acc:Value) (env:Env):Sem Unit:=do let _ <- call (.builtin "list.append") [acc,<- eval elt env]
theorem yY (elt target iter:Expr) (ifs:List Expr) (scope:Scope) (pos:Pos) (it acc:Value) (env:Env) :
  compTurn (.ListComp elt [⟨target,iter,ifs,0⟩] scope pos) 0 it acc env=(do
   standAt iter.pos
   match <- pyNext it with
   | none=>pure (.done .next)
   | some v =>
    letOwnedTupleGo target it v
    assign target env v
    let mut ok:=true
    for c in ifs do
     if ok then ok <- isTrue c env (eval c env)
    if ok then pH elt acc env
    again (.compLoop (.ListComp elt [⟨target,iter,ifs,0⟩] scope pos) 0 it acc env)):=by rfl
theorem AW (elt t1 i1 t2 i2:Expr) (f1 f2:List Expr) (scope:Scope) (pos:Pos) (it acc:Value) (env:Env) :
  compTurn (.ListComp elt [⟨t1,i1,f1,0⟩,⟨t2,i2,f2,0⟩] scope pos) 1 it acc env=(do
   standAt i2.pos
   match <- pyNext it with
   | none=>pure (.done .next)
   | some v =>
    letOwnedTupleGo t2 it v
    assign t2 env v
    let mut ok:=true
    for c in f2 do
     if ok then ok <- isTrue c env (eval c env)
    if ok then pH elt acc env
    again (.compLoop (.ListComp elt [⟨t1,i1,f1,0⟩,⟨t2,i2,f2,0⟩] scope pos) 1 it acc env)):=by rfl
theorem yZ (elt t1 i1 t2 i2:Expr) (f1 f2:List Expr) (scope:Scope) (pos:Pos) (it acc:Value) (env:Env) :
  compTurn (.ListComp elt [⟨t1,i1,f1,0⟩,⟨t2,i2,f2,0⟩] scope pos) 0 it acc env=(do
   standAt i1.pos
   match <- pyNext it with
   | none=>pure (.done .next)
   | some v =>
    letOwnedTupleGo t1 it v
    assign t1 env v
    let mut ok:=true
    for c in f1 do
     if ok then ok <- isTrue c env (eval c env)
    if ok then
     let x <- eval i2 env
     standAt i2.pos
     let x <- foldedSetIterable i2 env x
     let _ <- runOwn (.compStart (.ListComp elt [⟨t1,i1,f1,0⟩,⟨t2,i2,f2,0⟩] scope pos) 1 (<- holding [x] (pyIter x)) acc env) env
    again (.compLoop (.ListComp elt [⟨t1,i1,f1,0⟩,⟨t2,i2,f2,0⟩] scope pos) 0 it acc env)):=by rfl
theorem nP {Ex:Value->Shared->Prop} {prog:Program} {w:World} {A:Around} {R:Result->Shared->Prop} {s:Shared} {elt t1 i1 t2 i2:Expr} {f1 f2:List Expr} {scope:Scope} {pos:Pos} {it acc:Value} {env:Env} (I:Nat->Shared->Prop) (hs:∀ x,foldedSetIterable i2 env x=pure x)
  (turn:∀ n s,I n s->wpAny (model prog w) A (pyNext it) (λr s₁=>match r with
   | none=>R (.ok .next) s₁
   | some v=>wpAny (model prog w) A (letOwnedTupleGo t1 it v) (λ_ s₁'=>wpAny (model prog w) A (assign t1 env v) (λ_ s₂ =>
     wpAny (model prog w) A (forIn f1 true λc r=>if r=true then do let ok <- isTrue c env (eval c env);pure (ForInStep.yield ok) else pure (ForInStep.yield r)) (λok s₃ =>
      if ok=true then wpAny (model prog w) A (eval i2 env) (λx s₄=>wpAny (model prog w) A (pyIter x) (λit2 s₅ =>
       codeAny (model prog w) A (.compStart (.ListComp elt [⟨t1,i1,f1,0⟩,⟨t2,i2,f2,0⟩] scope pos) 1 it2 acc env) (λr s₆=>match r with | .ok _=>∃ m,m<n/\I m s₆ | .error _=>False) s₅) Ex s₄) Ex s₃
      else ∃ m,m<n/\I m s₃) Ex s₂) Ex s₁') Ex s₁) Ex s)
  (n:Nat) (h:I n s) (hE:∀ e s',Ex e s'->notedBy (model prog w) A env (λe s''=>R (.error e) s'') e s'):codeAny (model prog w) A (.compLoop (.ListComp elt [⟨t1,i1,f1,0⟩,⟨t2,i2,f2,0⟩] scope pos) 0 it acc env) R s:=by
 refine codeAny_loop rfl I (λn s hI=>?_) n h
 show wpAny _ A ((compTurn (.ListComp elt [⟨t1,i1,f1,0⟩,⟨t2,i2,f2,0⟩] scope pos) 0 it acc env).onRaise (λx=>do noteFrame x env;theTreesLotGoes x)) _ _ s
 refine wpAny_noted ?_
 rw [yZ]
 refine wpAny_bind (wpAny_standAt (wpAny_bind (wpAny_mono (turn n s hI) (λr s₁ h₁=>?_) λ_ _ h'=>hE _ _ h')))
 cases r with
 | none=>exact wpAny_pure h₁
 | some v =>
  refine wpAny_bind (wpAny_mono h₁ (λ_ s₁' h₁'=>?_) λ_ _ h'=>hE _ _ h')
  refine wpAny_bind (wpAny_mono h₁' (λ_ s₂ h₂=>wpAny_bind (wpAny_mono h₂ (λok s₃ h₃=>?_) λ_ _ h'=>hE _ _ h')) λ_ _ h'=>hE _ _ h')
  cases ok with
  | false=>exact wpAny_pure ⟨rfl,h₃⟩
  | true =>
   refine wpAny_bind (wpAny_mono h₃ (λx s₄ h₄=>?_) λ_ _ h'=>hE _ _ h')
   refine wpAny_bind (wpAny_standAt (wpAny_bind (wpAny_of_eq (hs x) (wpAny_bind (wpAny_holding (wpAny_mono h₄ (λit2 s₅ h₅=>?_) λ_ _ h'=>hE _ _ h'))))))
   refine wpAny_bind (wpAny_runOwn (codeAny_mono h₅ λr s₆ h₆=>?_))
   cases r with
   | ok f=>exact wpAny_pure ⟨rfl,h₆⟩
   | error e=>exact h₆.elim
theorem yL {prog:Program} {w:World} {A:Around} {R:Result->Shared->Prop} {s:Shared} {elt t1 i1 t2 i2:Expr} {f1 f2:List Expr} {scope:Scope} {pos:Pos} {it acc:Value} {env:Env}
  (h0:codeAny (model prog w) A (.compLoop (.ListComp elt [⟨t1,i1,f1,0⟩,⟨t2,i2,f2,0⟩] scope pos) 1 it acc env) R s)
  (h:wpAny (model prog w) A (pyIter it) (λit' s'=>codeAny (model prog w) A (.compLoop (.ListComp elt [⟨t1,i1,f1,0⟩,⟨t2,i2,f2,0⟩] scope pos) 1 it' acc env) R s')
   (notedBy (model prog w) A env λx s'=>R (.error x) s') s) :
  codeAny (model prog w) A (.compStart (.ListComp elt [⟨t1,i1,f1,0⟩,⟨t2,i2,f2,0⟩] scope pos) 1 it acc env) R s:=by
 refine codeAny_of_tree ?_
 show wpAny _ _ ((compStart (.ListComp elt [⟨t1,i1,f1,0⟩,⟨t2,i2,f2,0⟩] scope pos) 1 it acc env).onRaise (λx=>do noteFrame x env;standAt theWindowsPlace)) _ _ s
 refine wpAny_notedAt ?_
 unfold compStart
 show wpAny _ _ (ask >>= _) _ _ s
 refine wpAny_bind (wpAny_askSetting (wpAny_ite ?_))
 split
 ·first
   | exact wpAny_bind (wpAny_pure (wpAny_pure (And.intro rfl h0)))
   | exact wpAny_pure (And.intro rfl h0)
 ·first
   | exact wpAny_bind (wpAny_rule (wpAny_bind (wpAny_standAt (wpAny_bind (wpAny_mono h (λit' s' h'=>wpAny_pure (And.intro rfl h')) λ_ _ x=>x)))))
   | (refine wpAny_bind (wpAny_rule ?_);show wpAny _ _ (standAt i2.pos >>= _) _ _ s;exact wpAny_bind (wpAny_standAt (wpAny_bind (wpAny_mono h (λit' s' h'=>wpAny_pure (And.intro rfl h')) λ_ _ x=>x))))
def cj (X:Cx) (Ex:Value->Shared->Prop) (N':List Str) (scope:Scope) (cl:List (Str × Addr)) (C:Addr) (s₂:Shared) (H₂:Hp) (fp:List Addr):Cx :=
 { X with N:=N',s₀:=s₂,H₀:=H₂,env:=compEnvC scope (cellsFrom (C+1) scope.names cl) C X.env,outer:=X.stack,stack:=X.stack,ex:=fp,fn:=λx=>scope.names.lookup x==some .cell,pn:=[],xe:=Ex }
abbrev cW (X:Cx):=cj X λ_ _=>False
def AllIn (env:Env):List (Str × Addr)->Prop
 | []=>True
 | p::r=>env.cells.lookup p.1=some p.2/\AllIn env r
theorem AllIn.get {env:Env}:∀{l:List (Str × Addr)},AllIn env l->∀ y c,l.lookup y=some c->env.cells.lookup y=some c
 | [],_,_,_,h=>by simp at h
 | (z,d)::r,a,y,c,h=>by
  rw [List.lookup_cons] at h
  cases e:y==z with
  | true =>
   rw [e] at h
   have q:y=z:=by simpa using e
   subst q
   cases h
   exact a.1
  | false =>
   rw [e] at h
   exact AllIn.get a.2 y c h
def b8 (js:List (Option Nat)) (σ:St):St:=js.map λo=>match o with | none=>none | some j=>(σ[j]?).join
structure fO (X:Cx) (N':List Str) (js:List (Option Nat)) (scope:Scope) (cl:List (Str × Addr)):Prop where
 clos:closureFor scope X.env=pure cl
 kind:scope.kind=.function
 nocell:∀ y∈scope.names,y.2=.cell->scope.names.lookup y.1=some .cell/\∀ p∈js.zip N',p.1.isSome=true->p.2≠y.1
 names:∀ y∈scope.names,y.2=.local->scope.names.lookup y.1=some .local
 sub:AllIn X.env cl
 has:∀ y∈scope.names,y.2=.free->(cl.lookup y.1).isSome=true
 jlen:js.length=N'.length
 jok:∀(i j:Nat) x,js[i]?=some (some j)->N'[i]?=some x->X.N[j]?=some x/\(cl.lookup x).isSome=true/\Dw X.env.scope x/\X.env.kindOf x≠some .local/\((relabel scope X.env).names.lookup x=some .cell∨(relabel scope X.env).names.lookup x=some .free)
theorem jX {scope:Scope} {env:Env} {x:Str} {k:NameKind} (h:(relabel scope env).names.lookup x=some k) (hk:k=.cell∨k=.free):∃ y∈scope.names,y.1=x/\(y.2=.free∨y.2=.cell):=by
 have hm:=PySem.mem_of_lookup h
 obtain⟨⟨n,q⟩,hm',e⟩:=List.mem_map.mp hm
 dsimp only at e
 split at e
 ·rename_i hc
  have e1:n=x:=congrArg Prod.fst e
  refine⟨(n,q),hm',e1,.inl ?_⟩
  have:(q==NameKind.free)=true:=by
   simp only [Bool.and_eq_true] at hc
   exact hc.1.1
  simpa using this
 ·have e1:n=x:=congrArg Prod.fst e
  have e2:q=k:=congrArg Prod.snd e
  refine⟨(n,q),hm',e1,?_⟩
  rcases hk with hk | hk
  ·exact .inr (e2.trans hk)
  ·exact .inl (e2.trans hk)
theorem iS {x:Str} {c:Addr}:∀(ns:List (Str × NameKind)) (n:Nat) (acc:List (Str × Addr)),(cellsFrom n ns acc).lookup x=some c->acc.lookup x=some c∨n<=c
 | [],_,_,h=>.inl h
 | (y,k)::r,n,acc,h=>by
  unfold cellsFrom at h
  split at h
  ·rcases iS r _ _ h with z | z
   ·rw [List.lookup_cons] at z
    split at z
    ·cases z;exact .inr (Nat.le_refl _)
    ·exact .inl z
   ·exact .inr (Nat.le_of_succ_le z)
  ·exact iS r _ _ h
theorem rM {x:Str} {c:Addr}:∀(ns:List (Str × NameKind)) (n:Nat) (acc:List (Str × Addr)),ns.lookup x=some .cell->(cellsFrom n ns acc).lookup x=some c->n<=c
 | [],_,_,h,_=>by cases h
 | (y,k)::r,n,acc,h,e=>by
  rw [List.lookup_cons] at h
  unfold cellsFrom at e
  split at h
  ·rename_i hy
   cases h
   rcases iS r _ _ e with z | z
   ·rw [List.lookup_cons,hy] at z
    cases z;exact Nat.le_refl _
   ·exact Nat.le_of_succ_le z
  ·split at e
   ·exact Nat.le_of_succ_le (rM r _ _ h e)
   ·exact rM r _ _ h e
theorem nO {x:Str}:∀(ns:List (Str × NameKind)) (n:Nat) (acc:List (Str × Addr)),(∀ y∈ns,y.2=.cell->x≠y.1)->(cellsFrom n ns acc).lookup x=acc.lookup x
 | [],_,_,_=>rfl
 | (y,k)::r,n,acc,h=>by
  unfold cellsFrom
  split
  ·rename_i hk
   rw [nO r _ _ λz hz=>h z (List.mem_cons_of_mem _ hz),List.lookup_cons]
   have:(x==y)=false:=by simpa using h (y,k) List.mem_cons_self (by simpa using hk)
   rw [this]
  ·exact nO r _ _ λz hz=>h z (List.mem_cons_of_mem _ hz)
theorem rL:∀(ns:List (Str × NameKind)) (n:Nat) (acc:List (Str × Addr)),(∀ x c,acc.lookup x=some c->c<n)->(∀ x y c,acc.lookup x=some c->acc.lookup y=some c->x=y) ->
  ∀ x y c,(cellsFrom n ns acc).lookup x=some c->(cellsFrom n ns acc).lookup y=some c->x=y
 | [],_,_,_,h=>h
 | (z,k)::r,n,acc,hl,hi=>by
  unfold cellsFrom
  split
  ·refine rL r _ _ (λx c e=>?_) λx y c e1 e2=>?_
   ·rw [List.lookup_cons] at e
    split at e
    ·cases e;exact Nat.lt_succ_self _
    ·exact Nat.lt_succ_of_lt (hl x c e)
   ·rw [List.lookup_cons] at e1 e2
    split at e1<;>split at e2
    ·rename_i a _ b
     rw [eq_of_beq a,eq_of_beq b]
    ·cases e1;exact absurd (hl y _ e2) (Nat.lt_irrefl _)
    ·cases e2;exact absurd (hl x _ e1) (Nat.lt_irrefl _)
    ·exact hi x y c e1 e2
  ·exact rL r _ _ hl hi
theorem nN:∀(ns:List (Str × NameKind)) (h:Heap) (acc:List (Str × Addr)),(∀ x c,acc.lookup x=some c->∃ v,h.IsCell c v)->∀ x c,(cellsFrom h.objs.size ns acc).lookup x=some c->∃ v,(pushCells h ns).IsCell c v
 | [],_,_,h=>h
 | (z,k)::r,h,acc,hl=>by
  unfold cellsFrom pushCells
  split
  ·have:=nN r (h.push { cls:=.type "cell",data:=.cell none }) ((z,h.objs.size)::acc) λx c e=>by
    rw [List.lookup_cons] at e
    split at e
    ·cases e;exact⟨none,_,Heap.get?_push_size _ rfl,rfl⟩
    ·obtain⟨v,q⟩:=hl x c e
     exact⟨v,q.keeps λb o e=>Heap.get?_push_of_some _ e⟩
   rwa [Heap.size_push] at this
  ·exact nN r h acc hl
theorem mv {M:Model} {A:Around} {E:Value->Shared->Prop} {s:Shared} {scope:Scope} {g:Addr} {cl:List (Str × Addr)} {qual:Str} {env:Env} {Q:Env->Shared->Prop}
  (h:Q (newEnv scope s.heap.objs.size g (cellsFrom (s.heap.objs.size+1) scope.names cl) qual none .none (some env) builtinsNs) { s with heap:=pushCells (s.heap.push { cls:=.type "dict",data:=.dict #[] }) scope.names }) :
  wpAny M A (newFunctionEnv scope g cl [] qual none .none (some env)) Q E s:=by
 simp only [newFunctionEnv,Option.isSome_some,if_true]
 refine wpAny_bind (wpAny_alloc ?_)
 refine wpAny_bind (wpAny_layCells _ (λname kind cells=>by cases hkc:kind==NameKind.cell<;>simp [hkc]) _ _ _ _ ?_)
 rw [show ({ s with heap:=s.heap.push { cls:=.type "dict",data:=.dict #[] } }:Shared).heap.objs.size=s.heap.objs.size+1 from Heap.size_push ..]
 exact wpAny_bind (wpAny_pure (wpAny_pure h))
def lobj (ys:List Value):Obj:={ cls:=.type "list",data:=.seq ys.toArray ys.length }
def l8 (X:Cx) (ifs:List Expr) (t:TT):Prop :=
 ∀(pins:List (Addr × Obj)) (s:Shared) (σ:St) (H:Hp) (Q:Bool->Hp->Prop),Inv X pins σ H s->t σ H Q ->
  wpAny (model X.prog X.w) X.A (forIn ifs true λc r=>if r=true then do let ok <- isTrue c X.env (eval c X.env);pure (ForInStep.yield ok) else pure (ForInStep.yield r)) (TP X pins σ Q) X.xe s
def yR:TT:=λ_ H Q=>Q true H
theorem aX {X:Cx}:l8 X [] yR:=λpins s σ H Q I h=>wpAny_tests_nil ⟨H,I,h⟩
theorem gb {X:Cx} {c:Expr} {t:TT} (h:PT X c t):l8 X [c] t:=λpins s σ H Q I q=>wpAny_tests_one (h pins s σ H Q I q)
def bD:List (Option V)->List (Option V)->Prop
 | [],[]=>True
 | none::r,_::r'=>bD r r'
 | some v::r,some u::r'=>u=v/\bD r r'
 | _,_=>False
theorem bD.len:∀{a b:List (Option V)},bD a b->a.length=b.length
 | [],[],_=>rfl
 | none::r,_::r',h=>by simp [bD.len (a:=r) (b:=r') h]
 | some v::r,some u::r',h=>by simp [bD.len (a:=r) (b:=r') h.2]
 | some v::r,none::r',h=>h.elim
 | some v::r,[],h=>h.elim
 | none::r,[],h=>h.elim
 | [],_::_,h=>h.elim
theorem bD.get:∀{a b:List (Option V)},bD a b->∀(i:Nat) v,a[i]?=some (some v)->b[i]?=some (some v)
 | [],[],_,i,v,h=>by simp at h
 | none::r,_::r',h,0,v,e=>by simp at e
 | none::r,_::r',h,i+1,v,e=>by
  have:=bD.get (a:=r) (b:=r') h i v (by simpa using e)
  simpa using this
 | some v::r,some u::r',h,0,v',e=>by
  have q:v=v':=by simpa using e
  have:=h.1
  simp [this,q]
 | some v::r,some u::r',h,i+1,v',e=>by
  have:=bD.get (a:=r) (b:=r') h.2 i v' (by simpa using e)
  simpa using this
 | some v::r,none::r',h,_,_,_=>h.elim
 | some v::r,[],h,_,_,_=>h.elim
 | none::r,[],h,_,_,_=>h.elim
 | [],_::_,h,_,_,_=>h.elim
def ES (js:List (Option Nat)) (wi:TI) (g:TG) (tt:TT) (te:TE):TE:=λσ H Q=>wi σ H λJ H1=>∃ W:Nat->Nat->List V->Hp->Prop,(∃ m,W 0 m [] H1)/\∀ i m ys H,W i m ys H ->
 (J.stop i H/\ys.length<=sizeLine/\∀ p,H p=none->Q (.ref p) (upd H p (.lst ys))) ∨
 (J.go i H/\ys.length<sizeLine/\∃ N:List V->Hp->Prop,(∀ ys' H',N ys' H'->∃ m',m'<m/\W (i+1) m' ys' H') /\
  ∀ x H',J.yld i H x H'->g x (b8 js σ) H' λσ2 H2=>bD (b8 js σ) σ2/\tt σ2 H2 λb H3=>if b=true then te σ2 H3 λv H4=>N (ys++[v]) H4 else N ys H3)
structure l7 (X:Cx) (C:Addr) (s₂:Shared) (H₂:Hp) (fp:List Addr):Prop where
 inv:∃ pins σ,Inv X pins σ H₂ s₂
 new:∀ b∈fp,X.s₀.heap.objs.size<=b∨b∈X.ex
 nof:∀ b∈hJ X.stack,b∉fp
 le:s₂.heap.objs.size<=C
def BU (X:Cx) (elt target:Expr) (gens:List Comprehension) (ifs:List Expr) (scope:Scope) (pos:Pos) (Bd:(Value->Shared->Prop)->Value->Env->(Shared->Prop)->Shared->Prop):Prop :=
 ∀(Ex:Value->Shared->Prop) (R:Result->Shared->Prop) (s:Shared) (it acc:Value) (env:Env) (I:Nat->Shared->Prop),
  (∀ n s,I n s->wpAny (model X.prog X.w) X.A (pyNext it) (λr s₁=>match r with
   | none=>R (.ok .next) s₁
   | some v=>wpAny (model X.prog X.w) X.A (letOwnedTupleGo target it v) (λ_ s₁'=>wpAny (model X.prog X.w) X.A (assign target env v) (λ_ s₂ =>
     wpAny (model X.prog X.w) X.A (forIn ifs true λc r=>if r=true then do let ok <- isTrue c env (eval c env);pure (ForInStep.yield ok) else pure (ForInStep.yield r)) (λok s₃ =>
      if ok=true then Bd Ex acc env (λs₅=>∃ m,m<n/\I m s₅) s₃ else ∃ m,m<n/\I m s₃) Ex s₂) Ex s₁') Ex s₁) Ex s) ->
  ∀ n,I n s->(∀ e s',Ex e s'->notedBy (model X.prog X.w) X.A env (λe s''=>R (.error e) s'') e s')->codeAny (model X.prog X.w) X.A (.compLoop (.ListComp elt gens scope pos) 0 it acc env) R s
structure mw (Y:Cx) (D:Addr) (P:List (Addr × Obj)):Prop where
 ne:∀ p∈P,p.1≠D
 new:Y.s₀.heap.objs.size<=D
 cell:∀ x c,Y.env.cells.lookup x=some c->c≠D
theorem wW {X:Cx} {Ex:Addr->Shared->Hp->List Addr->Value->Shared->Prop} {elt target iter:Expr} {rest:List Comprehension} {ifs:List Expr} {scope:Scope} {pos:Pos} {N':List Str} {js:List (Option Nat)} {cl:List (Str × Addr)} {g:TG} {tt:TT} {Cc:List V->Prop} {tb:List V->St->Hp->(List V->Hp->Prop)->Prop} {Bd:(Value->Shared->Prop)->Value->Env->(Shared->Prop)->Shared->Prop} (hcalm:X.calm=true) (hloop:BU X elt target (⟨target,iter,ifs,0⟩::rest) ifs scope pos Bd)
  (K:fO X N' js scope cl)
  (hg:∀ C s₂ H₂ fp,l7 X C s₂ H₂ fp->PG (cj X (Ex C s₂ H₂ fp) N' scope cl C s₂ H₂ fp) target g) (ht:∀ C s₂ H₂ fp,l7 X C s₂ H₂ fp->l8 (cj X (Ex C s₂ H₂ fp) N' scope cl C s₂ H₂ fp) ifs tt) (hB:∀ C s₂ H₂ fp,l7 X C s₂ H₂ fp->∀(D:Addr) ys vys P σ H s N Ps,Inv (cj X (Ex C s₂ H₂ fp) N' scope cl C s₂ H₂ fp) ([(D,lobj ys)]++P) σ H s->Vals vys ys->mw (cj X (Ex C s₂ H₂ fp) N' scope cl C s₂ H₂ fp) D P->Cc vys->tb vys σ H N ->
   (∀ ys' vys' H' s',Inv (cj X (Ex C s₂ H₂ fp) N' scope cl C s₂ H₂ fp) ([(D,lobj ys')]++P) σ H' s'->Vals vys' ys'->N vys' H'->Ps s')->Bd (Ex C s₂ H₂ fp) (.ref D) (cj X (Ex C s₂ H₂ fp) N' scope cl C s₂ H₂ fp).env Ps s)
  (herr:∀ C s₂ H₂ fp use Q' acc e s',Ex C s₂ H₂ fp e s'->notedBy (model X.prog X.w) X.A (compEnvC scope (cellsFrom (C+1) scope.names cl) C X.env) (λe s''=>compPost (model X.prog X.w) X.A X.xe use Q' acc C (.error e) s'') e s')
  {pins:List (Addr × Obj)} {σ:St} {Q:VK} {use:Option (Value->Sem Unit)} {Q':Value->Shared->Prop} {itv:Value} {s2:Shared}
  (h2:EM X pins σ target (λJ H1=>∃ W:Nat->Nat->List V->Hp->Prop,(∃ m,W 0 m [] H1)/\∀ i m ys H,W i m ys H ->
 (J.stop i H/\ys.length<=sizeLine/\∀ p,H p=none->Q (.ref p) (upd H p (.lst ys))) ∨
 (J.go i H/\Cc ys/\∃ N:List V->Hp->Prop,(∀ ys' H',N ys' H'->∃ m',m'<m/\W (i+1) m' ys' H') /\
  ∀ x H',J.yld i H x H'->g x (b8 js σ) H' λσ2 H2=>bD (b8 js σ) σ2/\tt σ2 H2 λb H3=>if b=true then tb ys σ2 H3 N else N ys H3)) itv s2)
  (hok:∀ C D vys H4 s5,(∃ m,s5.heap.Ns C m)->s2.heap.objs.size<=D->D<=C->D≠C->H4 D=none->H4 C=none->(∀ h',Heap.SameBut C s5.heap h'->Inv X pins σ (upd H4 D (.lst vys)) { s5 with heap:=h' })->Q (.ref D) (upd H4 D (.lst vys))->compPost (model X.prog X.w) X.A X.xe use Q' (.ref D) C (.ok .next) s5) :
  wpAny (model X.prog X.w) X.A (newList []) (λacc s₃=>wpAny (model X.prog X.w) X.A (newFunctionEnv scope X.env.globals cl [] X.env.qual none .none (some X.env)) (λcenv s₄ =>
   codeAny (model X.prog X.w) X.A (.compStart (.ListComp elt (⟨target,iter,ifs,0⟩::rest) scope pos) 0 itv acc { cenv with scope:=relabel scope X.env }) (compPost (model X.prog X.w) X.A X.xe use Q' acc cenv.locals) s₄) X.xe s₃) X.xe s2:=by
 obtain⟨it,fp,tn,J,H2,e,I2,T,st2,f2,W,⟨m0,w0⟩,turn⟩:=h2
 subst e
 refine wpAny_newObj_type (mv ?_)
 dsimp only
 generalize hP2:s2.heap.push { cls:=.type "list",dict:=none,data:=.seq ([]:List Value).toArray }=P2
 generalize hh₁:pushCells (P2.push { cls:=.type "dict",data:=.dict #[] }) scope.names=h₁
 have hns₁:h₁.Ns P2.objs.size λ_=>none:=hh₁▸(Heap.Ns.new P2 (.type "dict")).keeps (pushCells_keeps _ _)
 have upP:∀ b o,P2.get? b=some o->h₁.get? b=some o:=λb o e=>hh₁▸pushCells_keeps _ _ b o (Heap.get?_push_of_some _ e)
 have hcel:∀ x c,(cellsFrom (P2.objs.size+1) scope.names cl).lookup x=some c->∃ v,h₁.IsCell c v:=by
  have:=nN scope.names (P2.push { cls:=.type "dict",data:=.dict #[] }) cl λx c e=>by
   obtain⟨v,q⟩:=I2.cell x c (K.sub.get x c e)
   exact⟨v,q.keeps λb o e=>Heap.get?_push_of_some _ (hP2▸Heap.get?_push_of_some _ e)⟩
  rw [Heap.size_push,hh₁] at this
  exact this
 have hC:P2.objs.size=s2.heap.objs.size+1:=by rw [<- hP2,Heap.size_push]
 have hDC:s2.heap.objs.size≠P2.objs.size:=by rw [hC];exact Nat.ne_of_lt (Nat.lt_succ_self _)
 have below:∀ b,b<s2.heap.objs.size->b≠P2.objs.size/\b≠s2.heap.objs.size:=λb hb=>⟨by rw [hC];exact Nat.ne_of_lt (Nat.lt_succ_of_lt hb),Nat.ne_of_lt hb⟩
 have old:∀ b o,s2.heap.get? b=some o->h₁.get? b=some o:=λb o e=>upP b o (hP2▸Heap.get?_push_of_some _ e)
 have hacc:h₁.get? s2.heap.objs.size=some (lobj []):=upP _ _ (hP2▸Heap.get?_push_size _ rfl)
 generalize hCe:P2.objs.size=C at *
 generalize hDe:s2.heap.objs.size=D at *
 let Y:Cx:=cj X (Ex C s2 H2 fp) N' scope cl C s2 H2 fp
 have clLt:∀ y c,cl.lookup y=some c->c<D:=λy c e=>by
  obtain⟨v,q⟩:=I2.cell y c (K.sub.get y c e)
  rw [<- hDe]
  exact q.lt
 have cellsX:∀ y c,Y.env.cells.lookup y=some c->cl.lookup y=some c∨C+1<=c:=λy c e=>iS _ _ _ e
 have cellNe:∀ y c,Y.env.cells.lookup y=some c->c≠D:=λy c e=>by
  rcases cellsX y c e with z | z
  ·exact Nat.ne_of_lt (clLt y c z)
  ·exact Nat.ne_of_gt (by omega)
 have freshH:∀ a,D<=a->H2 a=none:=λa ha=>I2.hok.fresh (by rw [hDe];exact ha)
 have hDleC:D<=C:=by rw [hC];exact Nat.le_succ _
 have lc:l7 X C s2 H2 fp:=⟨⟨pins,σ,I2⟩,λb hb=>((f2 b hb).2.2.2.1).symm,λb hf hb=>by
   rcases List.mem_cons.mp (I2.gH b hf) with z | z
   ·exact (f2 b hb).2.1 z
   ·exact (f2 b hb).2.2.1 z,by rw [hDe];exact hDleC⟩
 have hbelowfp:∀ b∈fp,b<D:=λb hb=>by
  obtain⟨o,e,_⟩:=T.obj _ _ st2 b hb
  rw [<- hDe]
  exact Heap.lt_size e
 have okY:Y.Ok:=by
  refine⟨I2.ok.mod,K.kind,I2.ok.glob,I2.ok.blt,?_,rL _ _ _ (λx c e=>Nat.lt_succ_of_lt (Nat.lt_of_lt_of_le (clLt x c e) hDleC)) (λx y c e1 e2=>I2.ok.inj x y c (K.sub.get x c e1) (K.sub.get y c e2)),λx hx=>?_,λx c hf hc=>?_,I2.ok.hd,I2.ok.frames,.inl rfl,λb hb=>?_,I2.bs,Nat.le_trans I2.ok.bsz I2.sz,λb o e hb=>?_,λb hb hf=>?_,I2.stack,I2.jo⟩
  ·show s2.heap.objs.size<=C
   rw [hDe];exact hDleC
  ·have hx':(relabel scope X.env).names.lookup x=some .cell∨(relabel scope X.env).names.lookup x=some .free:=hx
   have:∃ y∈scope.names,y.1=x/\(y.2=.free∨y.2=.cell):=by
    rcases hx' with q | q
    ·exact jX q (.inl rfl)
    ·exact jX q (.inr rfl)
   obtain⟨y,hm,e1,e2⟩:=this
   refine Option.isSome_iff_exists.mp (PySem.W.cellsFrom_some _ _ _ ?_)
   rcases e2 with e2 | e2
   ·have q:=K.has y hm e2
    rw [e1] at q
    exact .inr q
   ·exact .inl (e1▸(K.nocell y hm e2).1)
  ·have hf':scope.names.lookup x=some .cell:=by simpa using (show (scope.names.lookup x==some .cell)=true from hf)
   have:=rM _ _ _ hf' hc
   show s2.heap.objs.size<=c
   rw [hDe];exact Nat.le_trans hDleC (Nat.le_of_succ_le this)
  ·refine⟨Nat.ne_of_lt (Nat.lt_of_lt_of_le (hbelowfp b hb) hDleC),λx c e=>?_⟩
   rcases cellsX x c e with z | z
   ·exact (f2 b hb).2.2.2.2.1 x c (K.sub.get x c z)
   ·exact Nat.ne_of_gt (Nat.lt_of_lt_of_le (Nat.lt_of_lt_of_le (hbelowfp b hb) hDleC) (Nat.le_of_succ_le z))
  ·rcases (f2 b hb).2.2.2.1 with z | z
   ·exact I2.ok.noex b o e z
   ·exact absurd (Nat.lt_of_lt_of_le (Heap.lt_size e) (Nat.le_trans I2.ok.bsz z)) (Nat.lt_irrefl _)
  ·rcases List.mem_cons.mp (I2.gH b hf) with z | z
   ·exact (f2 b hb).2.1 z
   ·exact (f2 b hb).2.2.1 z
 -- the block's names
 have locY:∀{s':Shared} {H':Hp} {σ':St},True:=λ{_ _ _}=>trivial
 have invY0:Inv Y [(D,lobj [])] (b8 js σ) H2 { s2 with heap:=h₁ }:=by
  refine⟨okY,rfl,I2.bare,Un.kept old,⟨_,hns₁,λi x v e1 e2 vis=>?_⟩,hcel,freshH C hDleC,λy c e=>?_,λp hp=>?_,I2.hok.kept old,?_⟩
  ·-- a name of the block that has a value stands outside in a cell
   have e2':(b8 js σ)[i]?=some (some v):=e2
   unfold b8 at e2'
   rw [List.getElem?_map] at e2'
   cases ej:js[i]? with
   | none=>rw [ej] at e2';cases e2'
   | some o =>
    rw [ej] at e2'
    cases o with
    | none=>cases e2'
    | some j =>
     obtain⟨n1,n2,n3,n4,n5⟩:=K.jok i j x ej e1
     have e3:(σ[j]?).join=some v:=by simpa using e2'
     have e4:σ[j]?=some (some v):=by
      cases q:σ[j]? with
      | none=>rw [q] at e3;cases e3
      | some z=>rw [q] at e3;simpa using e3
     obtain⟨m,hn,hl⟩:=I2.loc
     obtain⟨u,r,l⟩:=hl j x v n1 e4 n3
     refine⟨u,r,.inr ⟨n5,?_⟩⟩
     rcases l with⟨k,_⟩|⟨k,c,ec,z⟩
     ·exact absurd k n4
     ·obtain⟨c',ec'⟩:=Option.isSome_iff_exists.mp n2
      have ee:=K.sub.get x c' ec'
      rw [ec] at ee
      cases ee
      refine⟨c,(nO _ _ _ λy hy hk=>(K.nocell y hy hk).2 (some j,x) ?_ rfl).trans ec',?_⟩
      ·exact List.mem_of_getElem? (i:=i) (by rw [List.getElem?_zip_eq_some];exact⟨ej,e1⟩)
      obtain⟨o,ho,hd⟩:=z
      exact⟨o,old c o ho,hd⟩
  ·rcases cellsX y c e with z | z
   ·exact I2.freeC y c (K.sub.get y c z)
   ·exact freshH c (by omega)
  ·have hp':p∈[(D,lobj [])]:=hp
   have e:p=(D,lobj []):=by simpa using hp'
   subst e
   refine⟨hacc,freshH D (Nat.le_refl _),hDC,λz=>?_,λv z=>by cases z⟩
   rcases List.mem_cons.mp (I2.gH D z) with q | q
   ·exact absurd (q▸I2.lt) (by rw [hDe];exact Nat.lt_irrefl _)
   ·exact I2.zW (by rw [hDe];exact Nat.le_refl _) q
  ·show (b8 js σ).length=N'.length
   unfold b8
   rw [List.length_map]
   exact K.jlen
 have hDfs:D∉Y.fs:=λz=>by
  rcases List.mem_cons.mp (I2.gH D z) with q | q
  ·exact absurd (q▸I2.lt) (by rw [hDe];exact Nat.lt_irrefl _)
  ·exact I2.zW (by rw [hDe];exact Nat.le_refl _) q
 have stat:∀{H':Hp} {ys:List Value},(∀ b∈fp,H' b=none)->∀ b∈fp,l6 Y [(D,lobj ys)] H' b:=λ{H' ys} hn b hb=>by
  refine⟨hn b hb,Nat.ne_of_lt (Nat.lt_of_lt_of_le (hbelowfp b hb) hDleC),okY.exfs b hb,.inl hb,okY.exf b hb |>.2,λp hp=>?_⟩
  have hp':p∈[(D,lobj ys)]:=hp
  have e:p=(D,lobj ys):=by simpa using hp'
  subst e
  exact Nat.ne_of_gt (hbelowfp b hb)
 have loop:∀ s3:Shared,s3={ s2 with heap:=h₁ } ->
   codeAny (model X.prog X.w) X.A (.compLoop (.ListComp elt (⟨target,iter,ifs,0⟩::rest) scope pos) 0 (.ref it) (.ref D) (compEnvC scope (cellsFrom (C+1) scope.names cl) C X.env)) (compPost (model X.prog X.w) X.A X.xe use Q' (.ref D) C) s3:=by
  rintro s3 rfl
  refine hloop _ _ _ _ _ _ (λn s'=>∃ i ys vys H',Inv Y [(D,lobj ys)] (b8 js σ) H' s'/\tn i s'.heap/\(∀ b∈fp,H' b=none)/\Vals vys ys/\W i n vys H') ?_ m0
   ⟨0,[],[],H2,invY0,T.keep _ _ _ st2 λb _ o e=>old b o e,λb hb=>(f2 b hb).1,.nil,w0⟩ λe s' z=>herr C s2 H2 fp use Q' (.ref D) e s' z
  rintro n s4 ⟨i,ys,vys,H4,I4,st4,fr4,rv,w4⟩
  rcases turn i n vys H4 w4 with⟨stop,hz,qn⟩|⟨go,hz,Nn,hN,step⟩
  ·refine bc (T.done Y rfl rfl rfl hcalm i _ s4 _ H4 (Ex C s2 H2 fp) I4 (stat fr4) st4 stop) λr s5 ⟨hr,I5⟩=>?_
   subst hr
   obtain⟨m5,hn5,_⟩:=I5.loc
   obtain⟨pD,nD,_,_,_⟩:=I5.pin (D,lobj ys) (by show _∈[(D,lobj ys)];simp)
   have nC:H4 C=none:=I5.free
   refine hok C D vys H4 s5 ⟨m5,hn5⟩ (Nat.le_refl _) hDleC hDC nD nC (λh' hsb=>?_) (qn D nD)
   have pD':h'.get? D=some (lobj ys):=hsb.extBut _ _ hDC pD
   refine I2.DM (s':={ s5 with heap:=h' }) (ch:=fp) I5.os ?_ ?_ I5.bare (λb hb=>?_)
   ·-- kept
    have u:=I5.base
    have neC:∀ b o,s2.heap.get? b=some o->b≠C/\b≠D:=λb o e=>by
     have:=Heap.lt_size e
     rw [hDe] at this
     exact⟨Nat.ne_of_lt (Nat.lt_of_lt_of_le this hDleC),Nat.ne_of_lt this⟩
    refine⟨λb o e nn hb hx=>hsb.extBut b o (neC b o e).1 (u.keep b o e nn hb hx),λb o e nn hb hx=>?_,λb o e nn hx=>?_,λb o e hx=>?_,λb xs e=>?_,λb o xs e=>?_,λb ps e=>?_⟩
    ·obtain⟨sl,q⟩:=u.slot b o e nn hb hx
     exact⟨sl,hsb.extBut b _ (neC b o e).1 q⟩
    ·rw [au (neC b o e).2]
     exact u.free b o e nn hx
    ·obtain⟨o',q⟩:=u.there b o e hx
     exact⟨o',hsb.extBut b _ (neC b o e).1 q⟩
    ·rw [au (br (u.tups b xs e) nD)]
     exact u.tups b xs e
    ·rw [au (br (u.frzs b o xs e) nD)]
     exact u.frzs b o xs e
    ·obtain⟨more,q⟩:=u.tbls b ps e
     exact⟨more,by rw [au (br q nD)];exact q⟩
   ·intro b o e
    by_cases hb:b=D
    ·subst hb
     rw [ag] at e
     cases e
     exact⟨hz,ys,_,rv,pD'⟩
    ·rw [au hb] at e
     refine (I5.hok b o e).hZ (λc w' hc q=>hsb.extBut c w' ?_ q) (λc q=>by rw [au (br q nD)];exact q) λc xs q=>by rw [au (br q nD)];exact q
     rintro rfl
     rcases hc with rfl | hc
     ·rw [nC] at e;cases e
     ·rw [nC] at hc;cases hc
   ·exact⟨(f2 b hb).2.2.2.1,(f2 b hb).2.1,(f2 b hb).2.2.2.2.1,(f2 b hb).2.2.2.2.2⟩
  ·refine bc (T.item Y rfl rfl rfl hcalm i _ s4 _ H4 (Ex C s2 H2 fp) I4 (stat fr4) st4 go) λr s5 ⟨u,hr,h5⟩=>?_
   subst hr
   refine bc h5 λ_ s6 ⟨x,H6,I6,r6,y6,st6,fr6⟩=>?_
   have I6':=I6.pinned (stat fr6) (T.obj _ _ st6)
   refine bc (hg C s2 H2 fp lc _ s6 _ H6 x u _ I6' r6 (step x H6 y6)) λ_ s7 ⟨σ7,H7,I7,k7,q7⟩=>?_
   refine bc (ht C s2 H2 fp lc _ s7 σ7 H7 _ I7 q7) λb s8 ⟨H8,I8,q8⟩=>?_
   -- behind the tests and the element: the state goes back to what the next turn wants
   have again:∀{ys':List Value} {s9:Shared} {H9:Hp},Inv Y ([(D,lobj ys')]++gf fp s6.heap) σ7 H9 s9->Inv Y [(D,lobj ys')] (b8 js σ) H9 s9/\tn (i+1) s9.heap/\∀ b∈fp,H9 b=none:=λ{ys' s9 H9} I9=>by
    refine⟨(I9.gJ).weak k7.len k7.get,T.keep _ _ _ st6 λb hb o e=>(I9.pin (b,o) (List.mem_append_right _ (List.mem_append_right _ (dz hb e)))).1,λb hb=>?_⟩
    obtain⟨o,e,d⟩:=T.obj _ _ st6 b hb
    exact (I9.pin (b,o) (List.mem_append_right _ (List.mem_append_right _ (dz hb e)))).2.1
   cases b with
   | false =>
    rw [if_neg Bool.false_ne_true] at q8 ⊢
    obtain⟨m',hm,w8⟩:=hN _ _ q8
    obtain⟨J8,t8,f8⟩:=again I8
    exact⟨m',hm,i+1,ys,vys,H8,J8,t8,f8,rv,w8⟩
   | true =>
    rw [if_pos rfl] at q8 ⊢
    have aok:mw Y D (gf fp s6.heap):=⟨λp hp z=>absurd (hbelowfp p.1 (jJ hp).1) (by rw [z];exact Nat.lt_irrefl _),by show s2.heap.objs.size<=D;rw [hDe];exact Nat.le_refl _,λx c e=>cellNe x c e⟩
    refine hB C s2 H2 fp lc D ys vys _ σ7 H8 s8 Nn _ I8 rv aok hz q8 λys' vys' H9 s9 I9 rv' q9=>?_
    obtain⟨J9,t9,f9⟩:=again I9
    obtain⟨m',hm,w9⟩:=hN _ _ q9
    exact⟨m',hm,i+1,ys',vys',H9,J9,t9,f9,rv',w9⟩
 exact codeAny_compStart_list (loop _ rfl) (T.self _ 0 _ _ _ (T.keep _ _ _ st2 λb _ o e=>old b o e) (loop _ rfl))
theorem zA {Y:Cx} {D:Addr} {ys:List Value} {P:List (Addr × Obj)} {σ:St} {H:Hp} {s:Shared} {y:Value} {Q:Value->Shared->Prop} {E:Value->Shared->Prop} (hpn:Y.pn=[]) (I:Inv Y ([(D,lobj ys)]++P) σ H s) (ok:mw Y D P) (z:ys.length<sizeLine)
  (q:∀ s',Inv Y ([(D,lobj (ys++[y]))]++P) σ H s'->Q .none s'):wpAny (model Y.prog Y.w) Y.A (call (.builtin "list.append") [.ref D,y]) Q E s:=by
 obtain⟨pD,nD,neD,nfD,_⟩:=I.pin (D,lobj ys) (by rw [hpn];simp)
 refine append_at (hsz:=by show ys.toArray.size<=sizeLine;rw [List.size_toArray];exact Nat.le_of_lt z) (show s.heap.get? D=some { cls:=.type "list",data:=.seq ys.toArray ys.length } from pD) λh' hsb hD'=>q _ ?_
 have eD:h'.get? D=some (lobj (ys++[y])):=by
  rw [hD']
  unfold lobj
  rw [List.length_append,List.length_singleton,List.push_toArray]
 have J1:Inv Y P σ H s:=I.gQ λp hp=>I.pin p (List.mem_append_right _ (List.mem_append_right _ hp))
 have J2:Inv Y P σ H { s with heap:=h' }:=J1.turned (t':=s.toks) (it:=D) (λb o hb e=>hsb.extBut b o hb e) nD neD (.inr ok.new) ok.cell λp hp=>ok.ne p (by rw [hpn] at hp;simpa using hp)
 refine J2.gQ λp hp=>?_
 rcases List.mem_append.mp hp with hp | hp
 ·have e:p=(D,lobj (ys++[y])):=by simpa using hp
  subst e
  exact⟨eD,nD,neD,nfD,λv z=>by cases z⟩
 ·exact J2.pin p (List.mem_append_right _ hp)
theorem pI {Y:Cx} {D:Addr} {ys:List Value} {vys:List V} {P:List (Addr × Obj)} {σ:St} {H:Hp} {s:Shared} {elt:Expr} {te:TE} {N:List V->Hp->Prop} {Ps:Shared->Prop} (hpn:Y.pn=[]) (he:PE Y elt te) (I:Inv Y ([(D,lobj ys)]++P) σ H s) (rv:Vals vys ys) (ok:mw Y D P) (z:vys.length<sizeLine) (q:te σ H λv H4=>N (vys++[v]) H4)
  (k:∀ ys' vys' H' s',Inv Y ([(D,lobj ys')]++P) σ H' s'->Vals vys' ys'->N vys' H'->Ps s'):wpAny (model Y.prog Y.w) Y.A (pH elt (.ref D) Y.env) (λ_ s'=>Ps s') Y.xe s:=by
 unfold pH
 refine wpAny_bind (bc (he _ s σ H _ I q) λy s9 ⟨vy,H9,I9,r9,q9⟩=>?_)
 exact wpAny_bind (zA hpn I9 ok (by rw [<- rv.length];exact z) λs' I'=>wpAny_pure (k _ _ _ _ I' (rv.append (.cons r9 .nil)) q9))
theorem tH {X:Cx} {Ex:Addr->Shared->Hp->List Addr->Value->Shared->Prop} {elt target iter:Expr} {ifs:List Expr} {scope:Scope} {pos:Pos} {N':List Str} {js:List (Option Nat)} {cl:List (Str × Addr)} {g:TG} {tt:TT} {te:TE} (hcalm:X.calm=true)
  (K:fO X N' js scope cl)
  (hg:∀ C s₂ H₂ fp,l7 X C s₂ H₂ fp->PG (cj X (Ex C s₂ H₂ fp) N' scope cl C s₂ H₂ fp) target g) (ht:∀ C s₂ H₂ fp,l7 X C s₂ H₂ fp->l8 (cj X (Ex C s₂ H₂ fp) N' scope cl C s₂ H₂ fp) ifs tt) (he:∀ C s₂ H₂ fp,l7 X C s₂ H₂ fp->PE (cj X (Ex C s₂ H₂ fp) N' scope cl C s₂ H₂ fp) elt te)
  (herr:∀ C s₂ H₂ fp use Q' acc e s',Ex C s₂ H₂ fp e s'->notedBy (model X.prog X.w) X.A (compEnvC scope (cellsFrom (C+1) scope.names cl) C X.env) (λe s''=>compPost (model X.prog X.w) X.A X.xe use Q' acc C (.error e) s'') e s')
  {pins:List (Addr × Obj)} {σ:St} {Q:VK} {use:Option (Value->Sem Unit)} {Q':Value->Shared->Prop} {itv:Value} {s2:Shared}
  (h2:EM X pins σ target (λJ H1=>∃ W:Nat->Nat->List V->Hp->Prop,(∃ m,W 0 m [] H1)/\∀ i m ys H,W i m ys H ->
 (J.stop i H/\ys.length<=sizeLine/\∀ p,H p=none->Q (.ref p) (upd H p (.lst ys))) ∨
 (J.go i H/\ys.length<sizeLine/\∃ N:List V->Hp->Prop,(∀ ys' H',N ys' H'->∃ m',m'<m/\W (i+1) m' ys' H') /\
  ∀ x H',J.yld i H x H'->g x (b8 js σ) H' λσ2 H2=>bD (b8 js σ) σ2/\tt σ2 H2 λb H3=>if b=true then te σ2 H3 λv H4=>N (ys++[v]) H4 else N ys H3)) itv s2)
  (hok:∀ C D vys H4 s5,(∃ m,s5.heap.Ns C m)->s2.heap.objs.size<=D->D<=C->D≠C->H4 D=none->H4 C=none->(∀ h',Heap.SameBut C s5.heap h'->Inv X pins σ (upd H4 D (.lst vys)) { s5 with heap:=h' })->Q (.ref D) (upd H4 D (.lst vys))->compPost (model X.prog X.w) X.A X.xe use Q' (.ref D) C (.ok .next) s5) :
  wpAny (model X.prog X.w) X.A (newList []) (λacc s₃=>wpAny (model X.prog X.w) X.A (newFunctionEnv scope X.env.globals cl [] X.env.qual none .none (some X.env)) (λcenv s₄ =>
   codeAny (model X.prog X.w) X.A (.compStart (.ListComp elt [⟨target,iter,ifs,0⟩] scope pos) 0 itv acc { cenv with scope:=relabel scope X.env }) (compPost (model X.prog X.w) X.A X.xe use Q' acc cenv.locals) s₄) X.xe s₃) X.xe s2 :=
 wW (Bd:=λEx acc env Ps s=>wpAny (model X.prog X.w) X.A (pH elt acc env) (λ_ s'=>Ps s') Ex s) (Cc:=λys=>ys.length<sizeLine) (tb:=λys σ2 H3 N=>te σ2 H3 λv H4=>N (ys++[v]) H4) hcalm
  (λ_ _ _ it acc env I turn n h hE=>iT I (yY elt target iter ifs scope pos it acc env) turn n h hE) K hg ht
  (λC s₂ H₂ fp lc D ys vys P σ H s N Ps I rv ok z q k=>pI rfl (he C s₂ H₂ fp lc) I rv ok z q k) herr h2 hok
theorem dc {X:Cx} {elt target iter:Expr} {ifs:List Expr} {scope:Scope} {pos:Pos} {N':List Str} {js:List (Option Nat)} {cl:List (Str × Addr)} {wi:TI} {g:TG} {tt:TT} {te:TE} (hcalm:X.calm=true)
  (K:fO X N' js scope cl) (hi:PI X target iter wi)
  (hg:∀ C s₂ H₂ fp,PG (cW X N' scope cl C s₂ H₂ fp) target g) (ht:∀ C s₂ H₂ fp,l8 (cW X N' scope cl C s₂ H₂ fp) ifs tt) (he:∀ C s₂ H₂ fp,PE (cW X N' scope cl C s₂ H₂ fp) elt te)
  (hs:∀ x,foldedSetIterable iter X.env x=pure x:=by intro _;rfl):PE X (.ListComp elt [⟨target,iter,ifs,0⟩] scope pos) (ES js wi g tt te):=by
 intro pins s σ H Q I h
 rw [eval_ListComp]
 refine wpAny_comprehension_free (use:=none) rfl hs K.clos K.kind K.names (bc (hi pins s σ H _ I h) λv s1 h1=>bc h1 λitv s2 h2=>?_)
 exact tH (Ex:=λ_ _ _ _ _ _=>False) hcalm K (λC s H f _=>hg C s H f) (λC s H f _=>ht C s H f) (λC s H f _=>he C s H f) (λ_ _ _ _ _ _ _ _ _ z=>z.elim) h2 λC D vys H4 s5 ⟨m,hn⟩ _ _ _ _ _ hI q=>⟨m,hn,λh' hsb=>⟨.ref D,_,hI h' hsb,rfl,q⟩⟩
def Dt (wi:TI) (g:TG) (tt:TT) (te:TE) (ys:List V) (σ:St) (H:Hp) (N:List V->Hp->Prop):Prop:=wi σ H λJ H1=>∃ W:Nat->Nat->List V->Hp->Prop,(∃ m,W 0 m ys H1)/\∀ i m zs H,W i m zs H ->
 (J.stop i H/\N zs H) ∨
 (J.go i H/\zs.length<sizeLine/\∃ N2:List V->Hp->Prop,(∀ zs' H',N2 zs' H'->∃ m',m'<m/\W (i+1) m' zs' H') /\
  ∀ x H',J.yld i H x H'->g x σ H' λσ2 H2=>bD σ σ2/\tt σ2 H2 λb H3=>if b=true then te σ2 H3 λv H4=>N2 (zs++[v]) H4 else N2 zs H3)
def EA (js:List (Option Nat)) (wi1:TI) (g1:TG) (tt1:TT) (wi2:TI) (g2:TG) (tt2:TT) (te:TE):TE:=λσ H Q=>wi1 σ H λJ H1=>∃ W:Nat->Nat->List V->Hp->Prop,(∃ m,W 0 m [] H1)/\∀ i m ys H,W i m ys H ->
 (J.stop i H/\ys.length<=sizeLine/\∀ p,H p=none->Q (.ref p) (upd H p (.lst ys))) ∨
 (J.go i H/\True/\∃ N:List V->Hp->Prop,(∀ ys' H',N ys' H'->∃ m',m'<m/\W (i+1) m' ys' H') /\
  ∀ x H',J.yld i H x H'->g1 x (b8 js σ) H' λσ2 H2=>bD (b8 js σ) σ2/\tt1 σ2 H2 λb H3=>if b=true then Dt wi2 g2 tt2 te ys σ2 H3 N else N ys H3)
theorem wa {Y:Cx} {D:Addr} {ys:List Value} {vys:List V} {P:List (Addr × Obj)} {σ:St} {H:Hp} {s:Shared} {elt t1 i1 t2 i2:Expr} {f1 f2:List Expr} {scope:Scope} {pos:Pos} {wi:TI} {g:TG} {tt:TT} {te:TE} {N:List V->Hp->Prop} {Ps:Shared->Prop} (hpn:Y.pn=[]) (hcalm:Y.calm=true) (hxe:Y.xe=λ_ _=>False) (hi:PI Y t2 i2 wi) (hg:PG Y t2 g) (ht:l8 Y f2 tt) (he:PE Y elt te)
  (I:Inv Y ([(D,lobj ys)]++P) σ H s) (rv:Vals vys ys) (ok:mw Y D P) (q:Dt wi g tt te vys σ H N)
  (k:∀ ys' vys' H' s',Inv Y ([(D,lobj ys')]++P) σ H' s'->Vals vys' ys'->N vys' H'->Ps s') :
  wpAny (model Y.prog Y.w) Y.A (eval i2 Y.env) (λx s₄=>wpAny (model Y.prog Y.w) Y.A (pyIter x) (λit2 s₅=>codeAny (model Y.prog Y.w) Y.A (.compStart (.ListComp elt [⟨t1,i1,f1,0⟩,⟨t2,i2,f2,0⟩] scope pos) 1 it2 (.ref D) Y.env) (λr s₆=>match r with | .ok _=>Ps s₆ | .error _=>False) s₅) Y.xe s₄) Y.xe s:=by
 refine bc (hi _ s σ H _ I q) λv s1 h1=>bc h1 λitv s2 h2=>?_
 obtain⟨it,fp,tn,J,H2,e,I2,T,st2,f2',W,⟨m0,w0⟩,turn⟩:=h2
 subst e
 have nDb:∀ b∈fp,D≠b:=λb hb=>(f2' b hb).2.2.2.2.2 (D,lobj ys) (by rw [hpn];simp)
 have stat:∀{ys':List Value} {H':Hp},(∀ b∈fp,H' b=none)->∀ b∈fp,l6 Y ([(D,lobj ys')]++P) H' b:=λ{ys' H'} hn b hb=>by
  refine⟨hn b hb,(f2' b hb).2.1,(f2' b hb).2.2.1,(f2' b hb).2.2.2.1,(f2' b hb).2.2.2.2.1,λp hp=>?_⟩
  rw [hpn] at hp
  have hp':p∈[(D,lobj ys')]++P:=by simpa using hp
  rcases List.mem_append.mp hp' with z | z
  ·have e:p=(D,lobj ys'):=by simpa using z
   rw [e];exact nDb b hb
  ·exact (f2' b hb).2.2.2.2.2 p (by rw [hpn];exact List.mem_append_right _ (List.mem_append_right _ z))
 have loop:codeAny (model Y.prog Y.w) Y.A (.compLoop (.ListComp elt [⟨t1,i1,f1,0⟩,⟨t2,i2,f2,0⟩] scope pos) 1 (.ref it) (.ref D) Y.env) (λr s₆=>match r with | .ok _=>Ps s₆ | .error _=>False) s2:=by
  refine iT (Ex:=Y.xe) (λn s'=>∃ i zs vzs H',Inv Y ([(D,lobj zs)]++P) σ H' s'/\tn i s'.heap/\(∀ b∈fp,H' b=none)/\Vals vzs zs/\W i n vzs H') (AW elt t1 i1 t2 i2 f1 f2 scope pos (.ref it) (.ref D) Y.env) ?_ m0
   ⟨0,ys,vys,H2,I2,st2,λb hb=>(f2' b hb).1,rv,w0⟩ λe s' z=>by rw [hxe] at z;exact z.elim
  rintro n s4 ⟨i,zs,vzs,H4,I4,st4,fr4,rz,w4⟩
  rcases turn i n vzs H4 w4 with⟨stop,qn⟩|⟨go,hz,Nn,hN,step⟩
  ·refine bc (T.done Y rfl rfl rfl hcalm i _ s4 _ H4 Y.xe I4 (stat fr4) st4 stop) λr s5 ⟨hr,I5⟩=>?_
   subst hr
   exact k zs vzs H4 s5 I5 rz qn
  ·refine bc (T.item Y rfl rfl rfl hcalm i _ s4 _ H4 Y.xe I4 (stat fr4) st4 go) λr s5 ⟨u,hr,h5⟩=>?_
   subst hr
   refine bc h5 λ_ s6 ⟨x,H6,I6,r6,y6,st6,fr6⟩=>?_
   have I6':=I6.pinned (stat fr6) (T.obj _ _ st6)
   refine bc (hg _ s6 _ H6 x u _ I6' r6 (step x H6 y6)) λ_ s7 ⟨σ7,H7,I7,k7,q7⟩=>?_
   refine bc (ht _ s7 σ7 H7 _ I7 q7) λb s8 ⟨H8,I8,q8⟩=>?_
   have again:∀{zs':List Value} {s9:Shared} {H9:Hp},Inv Y (([(D,lobj zs')]++P)++gf fp s6.heap) σ7 H9 s9->Inv Y ([(D,lobj zs')]++P) σ H9 s9/\tn (i+1) s9.heap/\∀ b∈fp,H9 b=none:=λ{zs' s9 H9} I9=>by
    refine⟨(I9.gJ).weak k7.len k7.get,T.keep _ _ _ st6 λb hb o e=>(I9.pin (b,o) (List.mem_append_right _ (List.mem_append_right _ (dz hb e)))).1,λb hb=>?_⟩
    obtain⟨o,e,d⟩:=T.obj _ _ st6 b hb
    exact (I9.pin (b,o) (List.mem_append_right _ (List.mem_append_right _ (dz hb e)))).2.1
   cases b with
   | false =>
    rw [if_neg Bool.false_ne_true] at q8 ⊢
    obtain⟨m',hm,w8⟩:=hN _ _ q8
    obtain⟨J8,t8,f8⟩:=again I8
    exact⟨m',hm,i+1,zs,vzs,H8,J8,t8,f8,rz,w8⟩
   | true =>
    rw [if_pos rfl] at q8 ⊢
    have aok:mw Y D (P++gf fp s6.heap):=⟨λp hp z=>by
     rcases List.mem_append.mp hp with h | h
     ·exact ok.ne p h z
     ·exact nDb p.1 (jJ h).1 z.symm,ok.new,ok.cell⟩
    rw [List.append_assoc] at I8
    refine pI hpn he I8 rz aok hz q8 λys' vys' H9 s9 I9 rv' q9=>?_
    rw [<- List.append_assoc] at I9
    obtain⟨J9,t9,f9⟩:=again I9
    obtain⟨m',hm,w9⟩:=hN _ _ q9
    exact⟨m',hm,i+1,ys',vys',H9,J9,t9,f9,rv',w9⟩
 exact yL loop (T.self _ 0 _ _ _ st2 loop)
theorem CU {X:Cx} {elt t1 i1 t2 i2:Expr} {f1 f2:List Expr} {scope:Scope} {pos:Pos} {N':List Str} {js:List (Option Nat)} {cl:List (Str × Addr)} {wi1 wi2:TI} {g1 g2:TG} {tt1 tt2:TT} {te:TE} (hcalm:X.calm=true)
  (K:fO X N' js scope cl) (hi:PI X t1 i1 wi1)
  (hg:∀ C s₂ H₂ fp,PG (cW X N' scope cl C s₂ H₂ fp) t1 g1) (ht:∀ C s₂ H₂ fp,l8 (cW X N' scope cl C s₂ H₂ fp) f1 tt1)
  (hi2:∀ C s₂ H₂ fp,PI (cW X N' scope cl C s₂ H₂ fp) t2 i2 wi2) (hg2:∀ C s₂ H₂ fp,PG (cW X N' scope cl C s₂ H₂ fp) t2 g2) (ht2:∀ C s₂ H₂ fp,l8 (cW X N' scope cl C s₂ H₂ fp) f2 tt2) (he:∀ C s₂ H₂ fp,PE (cW X N' scope cl C s₂ H₂ fp) elt te)
  (hs:∀ x,foldedSetIterable i1 X.env x=pure x:=by intro _;rfl) (hs2:∀ env x,foldedSetIterable i2 env x=pure x:=by intro _ _;rfl) :
  PE X (.ListComp elt [⟨t1,i1,f1,0⟩,⟨t2,i2,f2,0⟩] scope pos) (EA js wi1 g1 tt1 wi2 g2 tt2 te):=by
 intro pins s σ H Q I h
 rw [eval_ListComp]
 refine wpAny_comprehension_free (use:=none) rfl hs K.clos K.kind K.names (bc (hi pins s σ H _ I h) λv s1 h1=>bc h1 λitv s2 h2=>?_)
 refine wW (Ex:=λ_ _ _ _ _ _=>False) (Bd:=λEx acc env Ps s=>wpAny (model X.prog X.w) X.A (eval i2 env) (λx s₄=>wpAny (model X.prog X.w) X.A (pyIter x) (λit2 s₅=>codeAny (model X.prog X.w) X.A (.compStart (.ListComp elt [⟨t1,i1,f1,0⟩,⟨t2,i2,f2,0⟩] scope pos) 1 it2 acc env) (λr s₆=>match r with | .ok _=>Ps s₆ | .error _=>False) s₅) Ex s₄) Ex s) (Cc:=λ_=>True) (tb:=Dt wi2 g2 tt2 te) hcalm
  (λ_ _ _ it acc env I turn n h hE=>nP I (hs2 env) turn n h hE) K (λC s H f _=>hg C s H f) (λC s H f _=>ht C s H f)
  (λC s₂ H₂ fp lc D ys vys P σ H s N Ps I rv ok z q k=>wa (Y:=cW X N' scope cl C s₂ H₂ fp) rfl hcalm rfl (hi2 C s₂ H₂ fp) (hg2 C s₂ H₂ fp) (ht2 C s₂ H₂ fp) (he C s₂ H₂ fp) I rv ok q k) (λ_ _ _ _ _ _ _ _ _ z=>z.elim) h2 λC D vys H4 s5 ⟨m,hn⟩ _ _ _ _ _ hI q=>⟨m,hn,λh' hsb=>⟨.ref D,_,hI h' hsb,rfl,q⟩⟩
def Bd (i:Int):Prop:=i.natAbs<2^4000
theorem v9:(10:Nat)^250<=2^4000:=by decide +kernel
theorem Bd.of {i:Int} (h1:-(10^250)<i) (h2:i<10^250):Bd i:=by
 refine Nat.lt_of_lt_of_le ?_ v9
 have:((10:Nat)^250:Nat)=((10:Int)^250).toNat:=by decide +kernel
 rw [this]
 omega
theorem Bd.mono {i j:Int} (h:Bd j) (h':i.natAbs<=j.natAbs):Bd i:=Nat.lt_of_le_of_lt h' h
theorem Bd.bits {i:Int} (h:Bd i):Builtin.Int.intBits i<=2^20 :=
 Nat.le_trans (intBits_le h) (by decide)
theorem Bd.FG {i j:Int} (h:Bd j):Builtin.divisionGoesByPylong i j=false:=by
 refine PyProof.noPylong_of_log2 ?_
 by_cases z:j.natAbs=0
 ·rw [z];decide
 ·exact Nat.lt_of_lt_of_le ((Nat.log2_lt z).mpr h) (by decide)
section
variable {X:Cx}
theorem aH:iL X (binaryOp .Mult) (rI (λi j=>Bd i/\Bd j) λi j=>.int (i*j)):=Dy λ_ _ _ _ _ _ _ hc q=>mul_int q (IntMulOk.of_bits hc.1.bits hc.2.bits)
theorem aZ:iL X (binaryOp .FloorDiv) (rI (λ_ j=>0<j/\Bd j) λi j=>.int (i/j)):=Dy λi j _ _ _ _ _ hc q=>by
 have h1:(0:Int)<j:=hc.1
 exact floordiv_int (by omega) (by rw [Int.fdiv_eq_ediv_of_nonneg i (by omega)];exact q) (.inl hc.2.FG)
theorem iY:iL X (inplaceOp .FloorDiv) (rI (λ_ j=>0<j/\Bd j) λi j=>.int (i/j)):=Dy λi j _ _ _ _ _ hc q=>by
 have h1:(0:Int)<j:=hc.1
 exact ifloordiv_int (by omega) (by rw [Int.fdiv_eq_ediv_of_nonneg i (by omega)];exact q) (.inl hc.2.FG)
theorem lq:iL X (inplaceOp .Mult) (rI (λi j=>Bd i/\Bd j) λi j=>.int (i*j)):=Dy λ_ _ _ _ _ _ _ hc q=>imul_int q (IntMulOk.of_bits hc.1.bits hc.2.bits)
theorem eJ {op:Operator} {r:R2} (ho:iL X (inplaceOp op) r):FE X op r:=λpins s σ H x y v u Q I r1 r2 h=>ho pins s σ H x y v u Q I r1 r2 h
def BI (i j k:Nat) (ta:TA):TS:=λD σ H=>ta σ H λvs H1=>∃ v w u,vs=[v,w,u]/\D.nx (((σ.set i (some v)).set j (some w)).set k (some u)) H1
theorem tX {i j k:Nat} {x y z:Str} {a b c:Expr} {ta:TA} {px py pz pt pos:Pos} {kt k2 pt2} (hc:X.calm=true) (hN:X.N.Nodup) (hi:X.N[i]?=some x) (hj:X.N[j]?=some y) (hk:X.N[k]?=some z) (hij:i≠j) (hik:i≠k) (hjk:j≠k)
  (hx:X.env.scope.names.lookup x=some .local) (hy:X.env.scope.names.lookup y=some .local) (hz:X.env.scope.names.lookup z=some .local) (ha:PA X [a,b,c] ta)
  (hw:swappedStores [.Tuple [.Name x px,.Name y py,.Name z pz] kt pt] (.Tuple [a,b,c] k2 pt2) X.env=pure (some [x,y,z]))
  (hs:swapsWithSole [.Tuple [.Name x px,.Name y py,.Name z pz] kt pt] (.Tuple [a,b,c] k2 pt2) pos.line X.env=pure false:=by rfl) :
  PS X (.Assign [.Tuple [.Name x px,.Name y py,.Name z pz] kt pt] (.Tuple [a,b,c] k2 pt2) pos) (BI i j k ta):=by
 intro pins s σ H D I h
 rw [exec_Assign_arm]
 refine wpAny_bind (wpAny_standAt ?_)
 rw [hs]
 refine wpAny_bind (wpAny_pure ?_)
 rw [if_neg (by decide)]
 refine wpAny_bind (Tuple_ (bc (ha _ pins s σ H _ I h) λus s1 ⟨vs,H1,I1,r1,q1⟩=>?_))
 obtain⟨v,w,u,e1,q1⟩:=q1
 subst e1
 obtain⟨u1,u2,u3,rfl,rv,rw',ru⟩:∃ u1 u2 u3,us=[u1,u2,u3]/\RelV v u1/\RelV w u2/\RelV u u3:=by
  cases r1 with
  | cons p q =>
   cases q with
   | cons p' q' =>
    cases q' with
    | cons p'' q'' =>
     cases q''
     exact⟨_,_,_,rfl,p,p',p''⟩
 refine wpAny_newObj_type ?_ (by show 3<=sizeLine;decide)
 have I2:Inv X pins σ H1 { s1 with heap:=s1.heap.push { cls:=.type "tuple",data:=.seq [u1,u2,u3].toArray } }:=I1.kept (t':=s1.toks) λb o e=>Heap.get?_push_of_some _ e
 rw [hw]
 refine wpAny_bind (wpAny_pure ?_)
 show wpAny (model X.prog X.w) X.A (do rule "assign.swapped-stores";let items <- unpackItems (.ref s1.heap.objs.size) 3 none;assignInOrder [λv=>bindName X.env z v,λv=>bindName X.env y v,λv=>bindName X.env x v] items.reverse;pure Flow.next) _ _ _
 refine wpAny_bind (wpAny_rule (wpAny_bind (unpackItems_tuple (items:=#[u1,u2,u3]) (I.ok.hd hc) (IsTup.new s1.heap _) λh' hx'=>?_)))
 have I3:=I2.kept (h':=h') (t':=s1.toks) λb o e=>hx' b o (Nat.ne_of_lt (Heap.lt_size e)) e
 show wpAny _ _ (assignInOrder [λv=>bindName X.env z v,λv=>bindName X.env y v,λv=>bindName X.env x v] [u3,u2,u1] >>= λ_=>pure Flow.next) _ _ _
 refine wpAny_bind (assignInOrder_cons (wpAny_bindName (c8 I3 hN hk (.inl hz) ru (λs2 I4=>?_) (.inr hz))))
 refine assignInOrder_cons (wpAny_bindName (c8 I4 hN hj (.inl hy) rw' (λs3 I5=>?_) (.inr hy)))
 refine assignInOrder_cons (wpAny_bindName (c8 I5 hN hi (.inl hx) rv (λs4 I6=>assignInOrder_nil (wpAny_pure ?_)) (.inr hx)))
 have e:((σ.set k (some u)).set j (some w)).set i (some v)=((σ.set i (some v)).set j (some w)).set k (some u):=by
  rw [List.set_comm _ _ (Ne.symm hij),List.set_comm _ _ (Ne.symm hik),List.set_comm _ _ (Ne.symm hjk)]
 rw [e] at I6
 exact⟨_,H1,I6,q1⟩
def C2 (K:PySem.W.Frag):List V->Hp->VK->Prop:=λxs H Q=>∃(a:Addr) (bs:List Bool),xs=[.ref a]/\aO K H a (bs.map V.bl)/\Q (.bl (bs.all id)) H
theorem fe (hc:X.calm=true):cT X (.builtin "all") (C2 X.K):=by
 intro pins s σ H xs us Q I r h
 obtain⟨a,bs,rfl,hq,q⟩:=h
 obtain⟨u,rfl,ru⟩:=vals1 r
 cases ru
 obtain⟨its,rv,p,hz⟩:=I.list hq
 have hl:=p.isList
 have hlt:a<s.heap.objs.size:=by obtain⟨_,e,_⟩:=hl;exact Heap.lt_size e
 have hb:∀(i:Nat) v,its[i]?=some v->∃ b,bs[i]?=some b/\v=.bool b:=λi v e=>by
  have hi:i<its.length:=(List.getElem?_eq_some_iff.mp e).1
  have hi2:i<bs.length:=by have:=rv.length;rw [List.length_map] at this;omega
  obtain⟨u,e1,e2⟩:=rv.get (i:=i) (x:=V.bl bs[i]) (by rw [List.getElem?_map,List.getElem?_eq_getElem hi2];rfl)
  rw [e] at e1
  cases e1
  exact⟨bs[i],List.getElem?_eq_getElem hi2,e2⟩
 have hln:its.length=bs.length:=by have:=rv.length;rw [List.length_map] at this;omega
 refine call_all_walk (wpAny_pyIter_list hl ?_)
 refine⟨s.heap.objs.size,[s.heap.objs.size,a],[s.heap.objs.size],its.toArray.size,_,_,λi=>(bs[i]?).getD true,rfl,Walks.list (A:=X.A.in1) (I.ok.hd hc) _ a (Nat.ne_of_lt hlt) its.toArray,
  ⟨⟨_,Heap.get?_push_size _ rfl,rfl,rfl⟩,hl.push _⟩,λi v s' Q' E' hP hQ=>?_,λh' tk hk=>?_⟩
 ·obtain⟨b,e,rfl⟩:=hb i v (by simpa using hP)
  simp only [e,Option.getD_some] at hQ
  exact wpAny_truthy_bool hQ
 ·have e:((List.range its.toArray.size).all λi=>(bs[i]?).getD true)=bs.all id:=by
   rw [List.size_toArray,hln,Bool.eq_iff_iff]
   simp only [List.all_eq_true,List.mem_range,id]
   constructor
   ·intro z b hb'
    obtain⟨i,hi,rfl⟩:=List.mem_iff_getElem.mp hb'
    have:=z i hi
    rwa [List.getElem?_eq_getElem hi,Option.getD_some] at this
   ·intro z i hi
    rw [List.getElem?_eq_getElem hi,Option.getD_some]
    exact z _ (List.getElem_mem hi)
  rw [e]
  exact⟨.bl _,H,I.kept λb o eb=>hk b o (λhm=>by rw [List.mem_singleton.mp hm] at eb;exact Nat.lt_irrefl _ (Heap.lt_size eb)) (Heap.get?_push_of_some _ eb),rfl,q⟩
end
def ar (K:PySem.W.Frag) (mg:Str->Option Value) (x:Str) (st:Stmt):Prop:=∃ f fd,vZ K x x st f fd/\mg x=some (.ref f)
structure Callee (P:Program) (w:World) (K:PySem.W.Frag) (mg:Str->Option Value) (base:Heap) (CX:kE) (k:Nat) (x:Str) (ps:List Str) (sp:Sp):Prop where
 ex:∃ f fd,cV P w K mg base CX k f fd ps sp/\mg x=some (.ref f)/\PySem.W.keepIn K (.ref f)=true/\Binds K fd ps []
section
variable {P:Program} {w:World} {K:PySem.W.Frag} {mg:Str->Option Value} {base:Heap} {CX:kE} {k:Nat} {x:Str} {ps:List Str} {sp:Sp}
theorem Callee.imp {sp':Sp} (C:Callee P w K mg base CX k x ps sp) (h:∀ vs H Q E,sp' vs H Q E->sp vs H Q E):Callee P w K mg base CX k x ps sp':=by
 obtain⟨f,fd,F,a,b,c⟩:=C.ex
 exact⟨f,fd,F.imp h,a,b,c⟩
theorem Callee.mono {j:Nat} (C:Callee P w K mg base CX k x ps sp) (h:k<=j):Callee P w K mg base CX j x ps sp:=by
 obtain⟨f,fd,F,a,b,c⟩:=C.ex
 exact⟨f,fd,F.mono h,a,b,c⟩
theorem bf {X:Cx} {E:XK} {e:Expr} {es:List Expr} {t:TA} {p pos:Pos} (C:Callee X.prog X.w X.K X.mg X.base CX k x ps sp) (hr:bR k X.A) (hg:Gl X x) (hx:Passes CX X E)
  (ha:PA X (e::es) t) (hdb:(x==("__debug__":Str))=false:=by decide) (he:starEach (e::es) X.env=(false,eval e X.env)::starEach es X.env:=by rfl) (hpl:(backTo pos (starEach es X.env)).any (·.1)=false:=by rfl) :
  PE X (.Call (.Name x p) (e::es) [] pos) (nG sp [] E t):=by
 obtain⟨f,fd,F,hm,hk,hb⟩:=C.ex
 exact tQ F hr hg hm hk hb .nil hx ha hdb he hpl
theorem uK {st:Stmt} {N:List Str} (D:ar K mg x st)
  (hb:∀(kV doc pm:Value) (an:Option Addr) (cdv ct:Value) (us:List Value),us.length=ps.length->bindArgs (PySem.W.fnOf x x (bw st) (aP st) (aj st) .none kV doc pm an cdv ct) ⟨us,[]⟩=pure (ps.zip us))
  (S:aw N ps (aj st)) (len:∀ vs H Q E,sp vs H Q E->vs.length=ps.length)
  (hbody:∀(f:Addr) (cdv:Value) (A:Around) (outer:List Env) (s:Shared) (H:Hp) (vs:List V) (Q:VK) (E:XK),bR k (A.deeper (envOfC x (aj st) s.heap.objs.size f cdv))->sp vs H Q E ->
   ∃ t,gK (eV aG P w K mg base N x (aj st) f cdv A outer s H E).kA (aP st) t/\t { nx:=λ_ H'=>Q .non H',rt:=Q } (start N vs) H):Callee P w K mg base aG (k+1) x ps sp:=by
 obtain⟨f,fd,F,hm⟩:=D
 exact⟨f,fd,F.ok S len λcdv A outer s H vs Q E hr h=>hbody f cdv A outer s H vs Q E hr h,hm,F.kp,F.binds hb⟩
theorem wk {h:Heap} {f:Addr} {st:Stmt} {oc:Value} {od an:Option Addr} {osl:Array (Option Value)} {kV doc pm cdv ct:Value} (X:K.In h) (G:h.Ns mainGlobals mg)
  (a:PySem.W.nsIn K mainGlobals x=some (some (.ref f))) (l:K.lookup f=some ⟨oc,od,.func (PySem.W.fnOf x x (bw st) (aP st) (aj st) .none kV doc pm an cdv ct),osl⟩)
  (c:PySem.W.codeIn K cdv x=true) (kk:PySem.W.keepIn K (.ref f)=true):ar K mg x st:=⟨f,_,rQ l c kk,PySem.W.mg_of X G a⟩
end
def jy (cl:List (Str × Addr)):List (Str × NameKind)->Prop
 | []=>True
 | y::r=>(match y.2 with | .free=>(cl.lookup y.1).isSome=true | _=>True)/\jy cl r
theorem jy.get {cl:List (Str × Addr)}:∀{l:List (Str × NameKind)},jy cl l->∀ y∈l,y.2=.free->(cl.lookup y.1).isSome=true
 | [],_,_,h,_=>nomatch h
 | z::r,a,y,h,e=>by
  rcases List.mem_cons.mp h with q | q
  ·subst q
   have:=a.1
   rw [e] at this
   exact this
  ·exact jy.get a.2 y q e
def iM (X:Cx) (scope:Scope) (cl:List (Str × Addr)):List (Option Nat)->List Str->Prop
 | none::r,_::n=>iM X scope cl r n
 | some j::r,x::n=>(X.N[j]?=some x/\(cl.lookup x).isSome=true/\(X.env.scope.names.lookup x=some .cell∨X.env.scope.names.lookup x=some .free)/\((relabel scope X.env).names.lookup x=some .cell∨(relabel scope X.env).names.lookup x=some .free))/\iM X scope cl r n
 | [],[]=>True
 | _,_=>False
theorem iM.len {X:Cx} {scope:Scope} {cl:List (Str × Addr)}:∀{js:List (Option Nat)} {N:List Str},iM X scope cl js N->js.length=N.length
 | [],[],_=>rfl
 | none::r,_::n,h=>by
  have h':iM X scope cl r n:=h
  simp [iM.len h']
 | some j::r,x::n,h=>by
  have h':iM X scope cl r n:=h.2
  simp [iM.len h']
 | [],_::_,h=>h.elim
 | none::_,[],h=>h.elim
 | some _::_,[],h=>h.elim
theorem iM.get {X:Cx} {scope:Scope} {cl:List (Str × Addr)}:∀{js:List (Option Nat)} {N:List Str},iM X scope cl js N->∀(i j:Nat) x,js[i]?=some (some j)->N[i]?=some x ->
  X.N[j]?=some x/\(cl.lookup x).isSome=true/\Dw X.env.scope x/\X.env.kindOf x≠some .local/\((relabel scope X.env).names.lookup x=some .cell∨(relabel scope X.env).names.lookup x=some .free)
 | [],[],_,i,j,x,e,_=>by simp at e
 | none::r,y::n,h,0,j,x,e,_=>by simp at e
 | none::r,y::n,h,i+1,j,x,e,e2=>iM.get (js:=r) (N:=n) h i j x (by simpa using e) (by simpa using e2)
 | some k::r,y::n,h,0,j,x,e,e2=>by
  have q:k=j:=by simpa using e
  have q2:y=x:=by simpa using e2
  subst q;subst q2
  obtain⟨a,b,c,d⟩:=h.1
  refine⟨a,b,?_,?_,d⟩
  ·rcases c with c | c
   ·exact .inr (.inl c)
   ·exact .inr (.inr c)
  ·intro z
   have z':X.env.scope.names.lookup y=some .local:=z
   rcases c with c | c
   ·rw [c] at z';cases z'
   ·rw [c] at z';cases z'
 | some k::r,y::n,h,i+1,j,x,e,e2=>iM.get (js:=r) (N:=n) h.2 i j x (by simpa using e) (by simpa using e2)
 | [],_::_,h,_,_,_,_,_=>h.elim
 | none::_,[],h,_,_,_,_,_=>h.elim
 | some _::_,[],h,_,_,_,_,_=>h.elim
theorem B5 {X:Cx} {N':List Str} {js:List (Option Nat)} {scope:Scope} {cl:List (Str × Addr)} (clos:closureFor scope X.env=pure cl) (kind:scope.kind=.function) (nocell:∀ y∈scope.names,y.2=.cell->scope.names.lookup y.1=some .cell/\∀ p∈js.zip N',p.1.isSome=true->p.2≠y.1)
  (names:∀ y∈scope.names,y.2=.local->scope.names.lookup y.1=some .local) (sub:AllIn X.env cl) (has:jy cl scope.names) (j:iM X scope cl js N'):fO X N' js scope cl :=
 ⟨clos,kind,nocell,names,sub,has.get,j.len,j.get⟩
theorem boot_int:bootBuiltins "int"=some (.type "int"):=by decide +kernel
theorem boot_bool:bootBuiltins "bool"=some (.type "bool"):=by decide +kernel
theorem boot_tuple:bootBuiltins "tuple"=some (.type "tuple"):=by decide +kernel
theorem boot_list:bootBuiltins "list"=some (.type "list"):=by decide +kernel
theorem boot_abs:bootBuiltins "abs"=some (.builtin "abs"):=by decide +kernel
theorem boot_all:bootBuiltins "all"=some (.builtin "all"):=by decide +kernel
theorem boot_max:bootBuiltins "max"=some (.builtin "max"):=by decide +kernel
theorem boot_min:bootBuiltins "min"=some (.builtin "min"):=by decide +kernel
theorem ak {H:Hp} {p:Addr} {o:HO} (h:H p=none):aA H (upd H p o):=λb u q=>by rw [au (br q h)];exact q
theorem bo {α:Type} {c:TT} {tb:TS} {D:Ends} {σ:St} {H:Hp} (S:α->St) (Pv:α->Hp->Prop) (μ:α->Nat) (x₀:α) (hσ:σ=S x₀) (h0:Pv x₀ H)
  (hs:∀ x H,Pv x H->c (S x) H λb H1=>if b=true then (∃ N:St->Hp->Prop,(∀ σ' H',N σ' H'->∃ y,σ'=S y/\Pv y H'/\μ y<μ x)/\tb { D with nx:=N,ct:=N,bk:=D.nx } (S x) H1) else D.nx (S x) H1):yT c tb D σ H:=by
 subst hσ
 refine⟨λm σ H=>∃ x,σ=S x/\Pv x H/\m=μ x,⟨_,x₀,rfl,h0,rfl⟩,?_⟩
 rintro m σ H ⟨x,rfl,p,rfl⟩
 have q:=hs x H p
 have e:(λb H1=>if b=true then (∃ N:St->Hp->Prop,(∀ σ' H',N σ' H'->∃ y,σ'=S y/\Pv y H'/\μ y<μ x)/\tb { D with nx:=N,ct:=N,bk:=D.nx } (S x) H1) else D.nx (S x) H1) =
   (λb H1=>if b=true then (∃ N:St->Hp->Prop,(∀ σ' H',N σ' H'->∃ m',m'<μ x/\∃ y,σ'=S y/\Pv y H'/\m'=μ y)/\tb { D with nx:=N,ct:=N,bk:=D.nx } (S x) H1) else D.nx (S x) H1):=by
  funext b H1
  cases b with
  | false=>rfl
  | true =>
   simp only [if_true]
   refine propext ⟨fun⟨N,hN,z⟩=>⟨N,λσ' H' n=>?_,z⟩,fun⟨N,hN,z⟩=>⟨N,λσ' H' n=>?_,z⟩⟩
   ·obtain⟨y,e1,e2,e3⟩:=hN σ' H' n
    exact⟨_,e3,y,e1,e2,rfl⟩
   ·obtain⟨m',l,y,e1,e2,e3⟩:=hN σ' H' n
    exact⟨y,e1,e2,e3▸l⟩
 rw [e] at q
 exact q
end L2
namespace Gcd
structure J (A B g u v ng nu nv:Int):Prop where
 g0:0<=g
 n0:0<=ng
 e1:u*A+v*B=g
 e2:nu*A+nv*B=ng
 ex:∃ s U NU V NV:Int,(s=1∨s = -1)/\0<=U/\0<=NU/\0<=V/\0<=NV/\u=s*U/\nu = -s*NU/\v = -s*V/\nv=s*NV/\g*NU+ng*U=B/\g*NV+ng*V=A /\
  (U<=1∨U<=B)/\(NU<=1∨NU<=B)/\(V<=1∨V<=A)/\(NV<=1∨NV<=A)
theorem J.start {A B:Int} (ha:0<=A) (hb:0<=B):J A B A 1 0 B 0 1 :=
 ⟨ha,hb,by grind,by grind,1,1,0,0,1,.inl rfl,by decide,by decide,by decide,by decide,by grind,by grind,by grind,by grind,by grind,by grind,.inl (by decide),.inl (by decide),.inl (by decide),.inl (by decide)⟩
theorem mV {n x B:Int} (hn:0<n) (hx:0<=x) (h:n*x<=B):x<=B:=by
 have:1*x<=n*x:=Int.mul_le_mul_of_nonneg_right hn hx
 omega
theorem J.turn {A B g u v ng nu nv:Int} (j:J A B g u v ng nu nv) (hn:0<ng) :
  J A B ng nu nv (g-g/ng*ng) (u-g/ng*nu) (v-g/ng*nv)/\(g-g/ng*ng)<ng/\0<=g/ng/\g/ng<=g:=by
 have q0:0<=g/ng:=Int.ediv_nonneg j.g0 j.n0
 have r:=Int.emod_def g ng
 have r0:=Int.emod_nonneg g (show ng≠0 by omega)
 have r1:=Int.emod_lt_of_pos g hn
 have ql:g/ng<=g:=Int.ediv_le_self ng j.g0
 have e1:=j.e1
 have e2:=j.e2
 have hc:g/ng*ng=ng*(g/ng):=Int.mul_comm _ _
 generalize g/ng=q at *
 obtain⟨s,U,NU,V,NV,hs,hU,hNU,hV,hNV,eu,enu,ev,env,b1,b2,l1,l2,l3,l4⟩:=j.ex
 have hqNU:0<=q*NU:=Int.mul_nonneg q0 hNU
 have hqNV:0<=q*NV:=Int.mul_nonneg q0 hNV
 have rr:0<=g-q*ng:=by omega
 have i1:ng*(U+q*NU)+(g-q*ng)*NU=B:=by grind
 have i2:ng*(V+q*NV)+(g-q*ng)*NV=A:=by grind
 have n1:0<=(g-q*ng)*NU:=Int.mul_nonneg rr hNU
 have n2:0<=(g-q*ng)*NV:=Int.mul_nonneg rr hNV
 refine⟨⟨j.n0,rr,e2,by grind,-s,NU,U+q*NU,NV,V+q*NV,by omega,hNU,by omega,hNV,by omega,by grind,by grind,by grind,by grind,i1,i2,l2,.inr (mV hn (by omega) (by omega)),l4,.inr (mV hn (by omega) (by omega))⟩,by omega,q0,ql⟩
structure BN (a b g u v:Int):Prop where
 g0:0<=g
 lin:u*a+v*b=g
 da:g∣a
 db:g∣b
 bu:u.natAbs<=max 1 b.natAbs
 bv:v.natAbs<=max 1 a.natAbs
theorem J.done {a b g u v nu nv:Int} (j:J (if a<0 then -a else a) (if b<0 then -b else b) g u v 0 nu nv):BN a b g (if a<0 then -u else u) (if b<0 then -v else v):=by
 have e1:=j.e1
 obtain⟨s,U,NU,V,NV,hs,hU,hNU,hV,hNV,eu,enu,ev,env,b1,b2,l1,l2,l3,l4⟩:=j.ex
 have hu:u.natAbs=U.toNat:=by
  rcases hs with rfl | rfl
  ·omega
  ·omega
 have hv:v.natAbs=V.toNat:=by
  rcases hs with rfl | rfl
  ·omega
  ·omega
 refine⟨j.g0,?_,?_,?_,?_,?_⟩
 ·split<;>split<;>rename_i h1 h2<;>simp only [h1,h2,if_true,if_false] at e1<;>grind
 ·have:g∣(if a<0 then -a else a):=⟨NV,by omega⟩
  by_cases h:a<0
  ·rw [if_pos h] at this
   exact Int.dvd_neg.mp this
  ·rw [if_neg h] at this
   exact this
 ·have:g∣(if b<0 then -b else b):=⟨NU,by omega⟩
  by_cases h:b<0
  ·rw [if_pos h] at this
   exact Int.dvd_neg.mp this
  ·rw [if_neg h] at this
   exact this
 ·have:(if a<0 then -u else u).natAbs=u.natAbs:=by split<;>omega
  rw [this,hu]
  split at l1<;>omega
 ·have:(if b<0 then -v else v).natAbs=v.natAbs:=by split<;>omega
  rw [this,hv]
  split at l3<;>omega
theorem J.small {A B g u v ng nu nv M:Int} (j:J A B g u v ng nu nv) (hA:0<=A) (hB:0<=B) (hAM:A<=M) (hBM:B<=M) (hM:1<=M):(-M<=u/\u<=M)/\(-M<=v/\v<=M)/\(-M<=nu/\nu<=M)/\(-M<=nv/\nv<=M):=by
 obtain⟨s,U,NU,V,NV,hs,hU,hNU,hV,hNV,eu,enu,ev,env,b1,b2,l1,l2,l3,l4⟩:=j.ex
 rcases hs with rfl | rfl
 ·refine⟨⟨?_,?_⟩,⟨?_,?_⟩,⟨?_,?_⟩,⟨?_,?_⟩⟩<;>omega
 ·refine⟨⟨?_,?_⟩,⟨?_,?_⟩,⟨?_,?_⟩,⟨?_,?_⟩⟩<;>omega
end Gcd
namespace L2
open PySem PySem.Spec PyProof.Rows
theorem aA.upd {H H1:Hp} {p:Addr} {o:HO} (h:aA H H1) (hp:H p=none):aA H (upd H1 p o):=λb u q=>by rw [au (br q hp)];exact h b u q
theorem aA.Dm {H H1:Hp} {p:Addr} {o:HO} (h:aA H H1) (hp:H1 p=none):aA H (L2.upd H1 p o):=h.upd (h.free hp)
theorem B0 {α:Type} {xs:List α} {k:Int} (h0:0<=k) (h1:k<xs.length):∃ v,vV xs k=some v/\xs[k.toNat]?=some v:=by
 have hk:k.toNat<xs.length:=by omega
 refine⟨xs[k.toNat],?_,List.getElem?_eq_getElem hk⟩
 have:=sW (xs:=xs) (j:=k.toNat) (List.getElem?_eq_getElem hk)
 rwa [Int.toNat_of_nonneg h0] at this
theorem kL {K:PySem.W.Frag} {H:Hp} {p:Addr} {xs:List V} {k:Int} {Q:VK} (h:aO K H p xs) (h0:0<=k) (h1:k<xs.length) (q:∀ v∈xs,Q v H):C3 K (.ref p) (.int k) H Q:=by
 obtain⟨v,e,e2⟩:=B0 h0 h1
 exact⟨p,xs,k,v,rfl,rfl,h,e,q v (List.mem_of_getElem? e2)⟩
theorem wU {K:PySem.W.Frag} {H:Hp} {p:Addr} {xs:List V} {k:Int} {v:V} {Q:VK} (h:aO K H p xs) (h0:0<=k) (e:xs[k.toNat]?=some v) (q:Q v H):C3 K (.ref p) (.int k) H Q:=by
 have:=sW e
 rw [Int.toNat_of_nonneg h0] at this
 exact⟨p,xs,k,v,rfl,rfl,h,this,q⟩
theorem zz {H:Hp} {p:Addr} {xs:List Int} {i:Int} {Q:VK} (h:H p=some (.lst (xs.map V.int))) (hz:xs.length<sizeLine) (q:Q .non (upd H p (.lst ((xs++[i]).map V.int)))):tY (.ref p) [.int i] H Q :=
 ⟨p,xs.map V.int,.int i,rfl,rfl,h,by rw [List.length_map];exact hz,by rw [List.map_append] at q;exact q⟩
def Loop (J:It) (g:TG) (tb:TS) (D:Ends) (σ:St) (H:Hp):Prop:=∃ W:Nat->Nat->St->Hp->Prop,(∃ m,W 0 m σ H)/\∀ i m σ H,W i m σ H ->
 (J.stop i H/\D.nx σ H)∨(J.go i H/\∃ N:St->Hp->Prop,(∀ σ' H',N σ' H'->∃ m',m'<m/\W (i+1) m' σ' H')/\∀ x H',J.yld i H x H'->g x σ H' λσ2 H2=>tb { D with nx:=N,ct:=N,bk:=D.nx } σ2 H2)
theorem AQ {wi:TI} {g:TG} {tb:TS} {D:Ends} {σ:St} {H:Hp}:Ez wi g tb D σ H=wi σ H λJ H1=>Loop J g tb D σ H1:=rfl
theorem eh {lo:Int} {n:Nat} {g:TG} {tb:TS} {D:Ends} {σ:St} {H:Hp} (Pv:Nat->St->Hp->Prop) (h0:Pv 0 σ H)
  (hs:∀ i σ H,i<n->Pv i σ H->g (.int (lo+i)) σ H λσ2 H2=>tb { D with nx:=Pv (i+1),ct:=Pv (i+1),bk:=D.nx } σ2 H2) (hd:∀ σ H,Pv n σ H->D.nx σ H):Loop (zo lo n) g tb D σ H:=uR Pv h0 hs hd
theorem dW {K:PySem.W.Frag} {a:Addr} {xs:List V} {g:TG} {tb:TS} {D:Ends} {σ:St} {H:Hp} (Pv:Nat->St->Hp->Prop) (h0:Pv 0 σ H) (hl:∀ i σ H,i<=xs.length->Pv i σ H->aO K H a xs)
  (hs:∀ i x σ H,xs[i]?=some x->Pv i σ H->g x σ H λσ2 H2=>tb { D with nx:=Pv (i+1),ct:=Pv (i+1),bk:=D.nx } σ2 H2) (hd:∀ σ H,Pv xs.length σ H->D.nx σ H):Loop (zm K a) g tb D σ H:=wH Pv h0 hl hs hd
theorem qg {K:PySem.W.Frag} {a:Addr} {xs:List V} {g:TG} {tb:TS} {D:Ends} {σ:St} {H:Hp} (Pv:Nat->St->Hp->Prop) (h0:Pv 0 σ H) (hl:∀ i σ H,i<=xs.length->Pv i σ H->bG K H a xs)
  (hs:∀ i x σ H,xs[i]?=some x->Pv i σ H->g x σ H λσ2 H2=>tb { D with nx:=Pv (i+1),ct:=Pv (i+1),bk:=D.nx } σ2 H2) (hd:∀ σ H,Pv xs.length σ H->D.nx σ H):Loop (BS K a) g tb D σ H:=zM Pv h0 hl hs hd
def mx (J:It) (js:List (Option Nat)) (g:TG) (tt:TT) (te:TE) (σ:St) (Q:VK) (H1:Hp):Prop:=∃ W:Nat->Nat->List V->Hp->Prop,(∃ m,W 0 m [] H1)/\∀ i m ys H,W i m ys H ->
 (J.stop i H/\ys.length<=sizeLine/\∀ p,H p=none->Q (.ref p) (upd H p (.lst ys))) ∨
 (J.go i H/\ys.length<sizeLine/\∃ N:List V->Hp->Prop,(∀ ys' H',N ys' H'->∃ m',m'<m/\W (i+1) m' ys' H') /\
  ∀ x H',J.yld i H x H'->g x (b8 js σ) H' λσ2 H2=>bD (b8 js σ) σ2/\tt σ2 H2 λb H3=>if b=true then te σ2 H3 λv H4=>N (ys++[v]) H4 else N ys H3)
theorem Di {js:List (Option Nat)} {wi:TI} {g:TG} {tt:TT} {te:TE} {σ:St} {H:Hp} {Q:VK}:ES js wi g tt te σ H Q=wi σ H λJ H1=>mx J js g tt te σ Q H1:=rfl
theorem bH {K:PySem.W.Frag} {a:Addr} {xs:List V} {js:List (Option Nat)} {g:TG} {tt:TT} {te:TE} {σ:St} {Q:VK} {H1:Hp} (Pv:Nat->List V->Hp->Prop) (h0:Pv 0 [] H1) (hx:xs.length<=sizeLine) (hl:∀ i ys H,i<=xs.length->Pv i ys H->aO K H a xs/\ys.length<=i)
  (hs:∀ i x ys H,xs[i]?=some x->Pv i ys H->g x (b8 js σ) H λσ2 H2=>bD (b8 js σ) σ2/\tt σ2 H2 λb H3=>if b=true then te σ2 H3 λv H4=>Pv (i+1) (ys++[v]) H4 else Pv (i+1) ys H3)
  (hd:∀ ys H p,Pv xs.length ys H->H p=none->Q (.ref p) (upd H p (.lst ys))):mx (zm K a) js g tt te σ Q H1:=by
 refine⟨λi m ys H=>m=xs.length-i/\i<=xs.length/\Pv i ys H,⟨xs.length,by simp,Nat.zero_le _,h0⟩,?_⟩
 rintro i m ys H ⟨rfl,hi,p⟩
 obtain⟨q,hy⟩:=hl i ys H hi p
 by_cases hlt:i<xs.length
 ·refine .inr ⟨⟨xs,xs[i],q,by simp [hlt]⟩,by omega,Pv (i+1),λys' H' p'=>⟨xs.length-(i+1),by omega,rfl,hlt,p'⟩,λx H' y=>?_⟩
  obtain⟨e,y⟩:=y
  subst e
  exact hs i x ys _ (y xs q) p
 ·have e:i=xs.length:=by omega
  subst e
  exact .inl ⟨⟨xs,q,Nat.le_refl _⟩,by omega,λp' hp'=>hd ys H p' p hp'⟩
theorem dS {K:PySem.W.Frag} {a:Addr} {xs:List V} {js:List (Option Nat)} {g:TG} {tt:TT} {te:TE} {σ:St} {Q:VK} {H1:Hp} (Pv:Nat->List V->Hp->Prop) (h0:Pv 0 [] H1) (hx:xs.length<=sizeLine) (hl:∀ i ys H,i<=xs.length->Pv i ys H->bG K H a xs/\ys.length<=i)
  (hs:∀ i x ys H,xs[i]?=some x->Pv i ys H->g x (b8 js σ) H λσ2 H2=>bD (b8 js σ) σ2/\tt σ2 H2 λb H3=>if b=true then te σ2 H3 λv H4=>Pv (i+1) (ys++[v]) H4 else Pv (i+1) ys H3)
  (hd:∀ ys H p,Pv xs.length ys H->H p=none->Q (.ref p) (upd H p (.lst ys))):mx (BS K a) js g tt te σ Q H1:=by
 refine⟨λi m ys H=>m=xs.length-i/\i<=xs.length/\Pv i ys H,⟨xs.length,by simp,Nat.zero_le _,h0⟩,?_⟩
 rintro i m ys H ⟨rfl,hi,p⟩
 obtain⟨q,hy⟩:=hl i ys H hi p
 by_cases hlt:i<xs.length
 ·refine .inr ⟨⟨xs,xs[i],q,by simp [hlt]⟩,by omega,Pv (i+1),λys' H' p'=>⟨xs.length-(i+1),by omega,rfl,hlt,p'⟩,λx H' y=>?_⟩
  obtain⟨e,y⟩:=y
  subst e
  exact hs i x ys _ (y xs q) p
 ·have e:i=xs.length:=by omega
  subst e
  exact .inl ⟨⟨xs,q,Nat.le_refl _⟩,by omega,λp' hp'=>hd ys H p' p hp'⟩
theorem FT {CX:kE} {P:Program} {w:World} {K:PySem.W.Frag} {mg:Str->Option Value} {base:Heap} {N:List Str} {qual:Str} {scope:Scope} {f:Addr} {cd:Value} {A:Around} {outer:List Env} {s:Shared} {H:Hp} {E:XK} :
  (eV CX P w K mg base N qual scope f cd A outer s H E).K=K:=rfl
theorem DO {X:Cx} {N':List Str} {scope:Scope} {cl:List (Str × Addr)} {C:Addr} {s₂:Shared} {H₂:Hp} {fp:List Addr}:(cW X N' scope cl C s₂ H₂ fp).K=X.K:=rfl
theorem aM {K:PySem.W.Frag} {b k:Bool} {H:Hp}:zw K (.bl b) H k=(k=b):=rfl
theorem yX {K:PySem.W.Frag} {i:Int} {k:Bool} {H:Hp}:zw K (.int i) H k=(k=(i != 0)):=rfl
def yk (K:PySem.W.Frag):List V->Hp->VK->Prop:=λxs H Q=>∃ p ys,xs=[.ref p]/\(aO K H p ys∨bG K H p ys)/\Q (.int ys.length) H
theorem bp {X:Cx}:cT X (.builtin "len") (yk X.K):=nM
theorem cM {K:PySem.W.Frag} {H:Hp} {p:Addr} {xs:List V} {Q:VK} (h:aO K H p xs) (q:Q (.int xs.length) H):yk K [.ref p] H Q:=⟨p,xs,rfl,.inl h,q⟩
theorem i3 {K:PySem.W.Frag} {H:Hp} {p:Addr} {xs:List V} {Q:VK} (h:bG K H p xs) (q:Q (.int xs.length) H):yk K [.ref p] H Q:=⟨p,xs,rfl,.inr h,q⟩
theorem jz {K:PySem.W.Frag} {H:Hp} {p:Addr} {bs:List Bool} {Q:VK} (h:aO K H p (bs.map V.bl)) (q:Q (.bl (bs.all id)) H):C2 K [.ref p] H Q:=⟨p,bs,rfl,h,q⟩
theorem kR {a b:Int}:oG (.int a) (.int b)=true:=rfl
theorem AH {a b:Bool}:oG (.bl a) (.bl b)=true:=rfl
theorem AJ {a:Int}:oG (.int a) .non=true:=rfl
theorem AK {a:Int}:oG .non (.int a)=true:=rfl
theorem AL:oG .non .non=true:=rfl
theorem AI {a:Bool}:oG (.bl a) .non=true:=rfl
theorem AM {a b:Str}:oG (.str a) (.str b)=true:=rfl
def Fy (t:TS):TS:=λD σ H=>∃ R:St->Hp->Prop,t { D with nx:=R } σ H/\∀ σ' H',R σ' H'->D.nx σ' H'
theorem iG {X:Cx} {st:Stmt} {t:TS} (h:PS X st t):PS X st (Fy t):=by
 intro pins s σ H D I ⟨R,hw,hR⟩
 refine bc (h pins s σ H _ I hw) λf s' q=>?_
 cases f with
 | next=>obtain⟨σ',H',I',r⟩:=q;exact⟨σ',H',I',hR _ _ r⟩
 | brk=>exact q
 | cont=>exact q
 | ret u=>exact q
theorem zL {P:Program} {w:World} {K:PySem.W.Frag} {mg:Str->Option Value} {base:Heap} {k:Nat} {x:Str} {ps:List Str} {sp:Sp} {st:Stmt} {N:List Str} {f:Addr} {fd:FuncData} (F:vZ K x x st f fd)
  (S:aw N ps (aj st)) (len:∀ vs H Q E,sp vs H Q E->vs.length=ps.length)
  (hbody:∀(cdv:Value) (A:Around) (outer:List Env) (s:Shared) (H:Hp) (vs:List V) (Q:VK) (E:XK),bR k (A.deeper (envOfC x (aj st) s.heap.objs.size f cdv))->sp vs H Q E ->
   ∃ t,gK (eV aG P w K mg base N x (aj st) f cdv A outer s H E).kA (aP st) t/\t { nx:=λ_ H'=>Q .non H',rt:=Q } (start N vs) H):cV P w K mg base aG (k+1) f fd ps sp :=
 F.ok S len λcdv A outer s H vs Q E hr h=>hbody cdv A outer s H vs Q E hr h
theorem zU {P:Program} {w:World} {K:PySem.W.Frag} {mg:Str->Option Value} {k:Nat} {x y:Str} {sp:Sp} {st:Stmt} {fa:Addr} (hfa:mg x=some (.ref fa)) (D:ar K mg x st)
  (hb:∀(kV doc pm:Value) (an:Option Addr) (cdv ct:Value) (u:Value),bindArgs (PySem.W.fnOf x x (bw st) (aP st) (aj st) .none kV doc pm an cdv ct) ⟨[u],[]⟩=pure [(y,u)])
  (ok:∀(base:Heap) (f:Addr) (fd:FuncData),K.In base->vZ K x x st f fd->cV P w K mg base aG k f fd [y] sp) :
  ∃ fd:FuncData,(∀(s:Shared) (u:Value),BindsTo s fd ⟨[u],[]⟩ [(y,u)])/\∀ base:Heap,K.In base->base.Ns mainGlobals mg->cV P w K mg base aG k fa fd [y] sp:=by
 obtain⟨f,fd,F,hm⟩:=D
 have e:=hfa.symm.trans hm
 cases e
 refine⟨fd,λs u=>?_,λbase kb _=>ok base _ _ kb F⟩
 obtain⟨oc,od,kV,doc,pm,an,cdv,ct,osl,rfl,lk,hcd⟩:=F.ex
 exact .of_eq (hb kV doc pm an cdv ct u)
end L2
namespace L2
open PySem PySem.Spec PyProof.Rows PySem.W
def cL:List Value:=[.type "ValueError",.type "Exception",.type "BaseException",.type "object"]
def cw:List Value->Bool
 | .ref _::r=>cw r
 | l=>l==cL
theorem qM (self:Value):refuseLoop self "__setattr__" cL=pure ():=by kernel_rfl
theorem lN (self:Value):∀{l:List Value},cw l=true->refuseLoop self "__setattr__" l=pure ()
 | .ref c::r,e=>by rw [refuseLoop_ref];exact lN self (l:=r) e
 | [],e=>by cases e
 | .type n::r,e=>by
  have:Value.type n::r=cL:=by simpa [cw] using e
  rw [this];exact qM self
 | .none::r,e=>by simp [cw,cL] at e
 | .bool _::r,e=>by simp [cw,cL] at e
 | .int _ _::r,e=>by simp [cw,cL] at e
 | .str _ _::r,e=>by simp [cw,cL] at e
 | .bytes _ _::r,e=>by simp [cw,cL] at e
 | .float _ _::r,e=>by simp [cw,cL] at e
 | .builtin _::r,e=>by simp [cw,cL] at e
theorem nQ {l:List Value}:cw l=true->l.contains (.type "object")=true/\l.contains (.type "BaseException")=true/\l.isEmpty=false:=by
 intro h
 induction l with
 | nil=>cases h
 | cons a r ih =>
  cases a with
  | ref c =>
   obtain⟨h1,h2,_⟩:=ih h
   exact⟨by rw [List.contains_cons,h1,Bool.or_true],by rw [List.contains_cons,h2,Bool.or_true],rfl⟩
  | type n =>
   have e:Value.type n::r=cL:=by simpa [cw] using h
   rw [e]
   exact⟨by decide,by decide,rfl⟩
  | _=>simp [cw,cL] at h
section
variable {prog:Program} {w:World} {A:Around} {E:Value->Shared->Prop} {s:Shared} {K:PySem.W.Frag} {x C:Addr} {name:Str} {v:Value} {cd:ClassData}
theorem zK {vs:Array Value} {sl:Array (Option Value)} {Q:Unit->Shared->Prop} (X:K.In s.heap) (hx:s.heap.get? x=some ⟨.ref C,none,.fields vs,sl⟩) (hc:clsIn K C=some cd) (hm:cw cd.mro=true) (hh:cd.hasDict=true)
  (hs:findIn K (.ref C) "__setattr__"=some (some (.builtin "object.__setattr__"))) (hn:findIn K (.ref C) name=some none)
  (h:∀ h',h'.get? x=some ⟨.ref C,some s.heap.objs.size,.fields vs,sl⟩->h'.Ns1 s.heap.objs.size (λy=>if y=name then some v else none)->(∀ b ob,b≠x->s.heap.get? b=some ob->h'.get? b=some ob)->Q () { s with heap:=h',toks:=s.toks+2 }) :
  wpAny (model prog w) A (setAttr (.ref x) name v) Q E s:=by
 have I:PySem.W.InstAt s.heap x ⟨.ref C,none,.fields vs,sl⟩ C none:=⟨hx,rfl,rfl,True.intro⟩
 obtain⟨m1,m2,m3⟩:=nQ hm
 refine PySem.W.set_plain X I hs ?_
 have SF:=PySem.F.store_object
 have sub:Looks (model prog w) s.heap (isInstance (.ref x) (.type "object")) true:=I.type.andThen (looks_mroIn X (by unfold mroIn;rw [hc,Option.bind_some,if_neg (by rw [m3];decide),m1]))
 refine codeAny_call_builtin SF.slot.plain SF.entry (@check_slot (model prog w) _ _ { s with toks:=s.toks+1 } "object.__setattr__" "object" "__setattr__" (.ref x) [.str name s.toks,v] [] _ SF.kind SF.split sub (SF.args (.ref x) (.str name s.toks) v) ?_)
 have L1:Looks (model prog w) s.heap (mroOf (.ref C)) cd.mro:=(looks_clsIn X hc).andThen .now
 rw [osa_eq,refuse_eq]
 refine wpAny_bind (wpAny_bind (Looks.here (s:={ s with toks:=s.toks+1 }) I.type (wpAny_bind (Looks.here (s:={ s with toks:=s.toks+1 }) L1 ?_))))
 rw [lN _ hm]
 refine wpAny_pure (wpAny_bind (Looks.here (s:={ s with toks:=s.toks+1 }) I.type (wpAny_bind (Looks.here (s:={ s with toks:=s.toks+1 }) (looks_findIn X hn) (wpAny_bind (wpAny_pure ?_))))))
 show wpAny _ _ (Builtin.ObjectAttr.storeInOwnDict (.ref x) (.ref C) (.str name s.toks) name v false) _ _ _
 refine wpAny_bind (wpAny_pure (wpAny_bind (wpAny_bind (wpAny_loadPart hx (wpAny_bind (Looks.here (s:={ s with toks:=s.toks+1 }) (looks_clsIn X hc) ?_))))))
 rw [hh]
 refine wpAny_bind (wpAny_alloc ?_)
 have hlt:x≠s.heap.objs.size:=Nat.ne_of_lt (Heap.lt_size hx)
 have hp:(s.heap.push { cls:=.type "dict",data:=.dict #[] }).get? x=some ⟨.ref C,none,.fields vs,sl⟩:=Heap.get?_push_of_some _ hx
 refine wpAny_bind (wpAny_update (s:={ s with toks:=s.toks+1,heap:=s.heap.push { cls:=.type "dict",data:=.dict #[] } }) hp ?_)
 refine wpAny_pure ?_
 show wpAny _ _ (Builtin.ObjectAttr.storeInDict s.heap.objs.size (.str name s.toks) name v) _ _ _
 generalize hu:(s.heap.push { cls:=.type "dict",data:=.dict #[] }).update x (λo=>{ o with dict:=some s.heap.objs.size })=h1
 have g1:h1.get? x=some ⟨.ref C,some s.heap.objs.size,.fields vs,sl⟩:=by rw [<- hu];exact Heap.get?_update_self _ hp rfl
 have g2:∀ b,b≠x->h1.get? b=(s.heap.push { cls:=.type "dict",data:=.dict #[] }).get? b:=λb hb=>by rw [<- hu];exact Heap.get?_update_other _ _ (Ne.symm hb)
 have g3:h1.Ns1 s.heap.objs.size (λ_=>none):=by
  have e1:h1.get? s.heap.objs.size=some { cls:=.type "dict",data:=.dict #[] }:=by rw [g2 _ (Ne.symm hlt)];exact Heap.get?_push_size _ rfl
  have e3:h1.Ns s.heap.objs.size (λ_=>none):=⟨_,#[],_,e1,rfl,(λe he=>absurd he (by simp)),λ_=>rfl⟩
  exact Heap.Ns1.of_empty e3
 refine wpAny_bind (wpAny_pure (wpAny_bind ?_))
 refine wpAny_nsSet1 (s:={ s with toks:=s.toks+1,heap:=h1 }) g3 λh' hn2 hs2=>?_
 obtain⟨oD,esD,epD,hoD,hdD,hcD⟩:=hn2.count (ns:=[name]) (PySem.Within.cons name v (ns:=[]) (λy hy=>absurd rfl hy))
 refine wpAny_bind (wpAny_lookBehind hoD (by rw [hdD];exact pastItsLine_dict (Nat.le_trans hcD (by show 1<=sizeLine+1;decide))) ?_)
 refine wpAny_pure (h h' ((hs2.2 _ hlt).trans g1) hn2 λb ob hb e=>?_)
 have hb2:b≠s.heap.objs.size:=Nat.ne_of_lt (Heap.lt_size e)
 exact (hs2.2 b hb2).trans ((g2 b hb).trans (Heap.get?_push_of_some _ e))
structure eI (K:PySem.W.Frag) (C:Addr):Prop where
 cls:∃ cd,clsIn K C=some cd/\cw cd.mro=true/\cd.hasDict=true
 at_:∃ od cd sl,K.lookup C=some ⟨.type "type",od,.cls cd,sl⟩
 sa:findIn K (.ref C) "__setattr__"=some (some (.builtin "object.__setattr__"))
 ga:findIn K (.ref C) "__getattribute__"=some (some (.builtin "BaseException.__getattribute__"))
 gx:findIn K (.ref C) "__getattr__"=some none
 ca:findIn K (.ref C) "__class__"=some (some (.builtin "object.__class__"))
 gs:specialIn K (.builtin "object.__class__") "__get__"=some (some (.builtin "getset_descriptor.__get__"))
 tk:takesIn K (.builtin "object.__class__")=some true
theorem eI.there (c:eI K C) {h:Heap} (X:K.In h):∃ oc od cd sl,h.get? C=some ⟨oc,od,.cls cd,sl⟩:=by
 obtain⟨cd,hc,_⟩:=c.cls
 unfold clsIn at hc
 split at hc
 ·rename_i c' d' cd' sl' ho
  exact⟨_,_,_,_,X _ _ ho⟩
 ·cases hc
end
section
variable {prog:Program} {w:World} {A:Around} {E:Value->Shared->Prop} {h:Heap} {g:Array GenState} {d:Drawn} {t:Nat} {os:OsState}
variable {nm q:Str} {C N:Addr} {bs bm:List Value} {hdct:Bool} {sn:List Str} {sub:List Value} {ab:Bool} {col:Option Bool} {dd:Option Addr} {k0 k1 k2 k3 k5:Option Value}
abbrev mr:String := "ValueError.__new__"
abbrev newExc (C a:Addr):Obj:={ cls:=.ref C,data:=.fields #[.ref a,.none,.none,.none,.bool false,.none] }
theorem zJ (hB:bm.contains (.type "ValueError")=true) (hA:bm.contains (.type "AttributeError")=false) (hN:bm.contains (.type "NameError")=false) {rest:List Value} {R:Result->Shared->Prop}
  (hC:h.get? C=some (excClassObj nm q C N bs bm hdct sn sub ab col dd k0 k1 k2 k3 k5 mr)) (hrest:rest.length<=sizeLine)
  (hq:R (.ok (.ret (.ref (h.objs.size+1)))) ⟨(h.push { cls:=.type "tuple",data:=.seq rest.toArray }).push (newExc C h.objs.size),g,d,t,os⟩) :
  codeAny (model prog w) A (.builtin mr ⟨.ref C::rest,[]⟩) R ⟨h,g,d,t,os⟩:=by
 have Fn:=PySem.F.excBase_ValueError
 have hends:=Fn.ends
 have cB:(Value.ref C::bm).contains (.type "ValueError")=true:=by rw [List.contains_cons,hB,Bool.or_true]
 have cA:(Value.ref C::bm).contains (.type "AttributeError")=false:=by rw [List.contains_cons,hA];rfl
 have cN:(Value.ref C::bm).contains (.type "NameError")=false:=by rw [List.contains_cons,hN];rfl
 refine codeAny_builtinAt Fn.entry ?_
 unfold Builtin.«BaseException.__new__»
 refine PySem.wpAt_bind ?_
 show PySem.wpAt _ _ _ (stack >>= _) _ _ _
 refine PySem.wpAt_bind (PySem.wpAt_stack λp below=>PySem.wpAt_of_wpAny ?_)
 wp_walk
 refine PySem.wpAt_of_wpAny ?_
 rw [Fn.owner]
 repeat (first | with_reducible refine wpAny_madeHere_exc Fn.canon hC ?_ | with_reducible refine wpAny_loadPart_at hC ?_ | (with_reducible refine wpAny_isSubtype_exc hC ?_;first | rw [cB] | rw [cA] | rw [cN]) | wp_step)
 show R _ _
 rw [Heap.size_push]
 exact hq
theorem ma (hB:bm.contains (.type "ValueError")=true) {rest:List Value} {M:Model} {Q:Unit->Shared->Prop} (hC:h.get? C=some (excClassObj nm q C N bs bm hdct sn sub ab col dd k0 k1 k2 k3 k5 mr))
  (hq:Q () ⟨h,g,d,t,os⟩):wpAny M A (checkBuiltinCall mr ⟨.ref C::rest,[]⟩) Q E ⟨h,g,d,t,os⟩:=by
 have Fn:=PySem.F.excBase_ValueError
 have cB:(Value.ref C::bm).contains (.type "ValueError")=true:=by rw [List.contains_cons,hB,Bool.or_true]
 have hstar:=Fn.noStar
 simp only [checkBuiltinCall,Fn.newKind,Fn.newSplit,Fn.newRow]
 repeat (first | refine wpAny_loadPart_at hC ?_ | (refine wpAny_isSubtype_exc hC ?_;rw [cB]) | refine wpAny_staticBase_exc hC ?_ | refine wpAny_madeBy_exc hC ?_ | simp only [bne_self_eq_false,Bool.false_eq_true,if_false] | wp_step)
 exact hq
theorem nR {K:PySem.W.Frag} {i:Value} {rest:List Value} {Q:Fin->Shared->Prop} (X:K.In h) (hB:bm.contains (.type "ValueError")=true) (hA:bm.contains (.type "AttributeError")=false) (hN:bm.contains (.type "NameError")=false)
  (hC:h.get? C=some (excClassObj nm q C N bs bm hdct sn sub ab col dd k0 k1 k2 k3 k5 mr)) (hrest:rest.length<=sizeLine) (hi:findIn K (.ref C) "__init__"=some (some i)) {j:Value}
  (hb:Looks (model prog w) h (bindSpecial i (.ref (h.objs.size+1))) (j,[.ref (h.objs.size+1)]))
  (hq:codeAny (model prog w) A (.call j ⟨.ref (h.objs.size+1)::rest,[]⟩) (λr s'=>match r with | .ok (.ret v)=>v=.none/\Q (.done (.ret (.ref (h.objs.size+1)))) s' | .ok _=>False | .error e=>E e s')
   ⟨(h.push { cls:=.type "tuple",data:=.seq rest.toArray }).push (newExc C h.objs.size),g,d,t,os⟩) :
  wpAny (model prog w) A (Builtin.«type.__call__» ⟨.ref C::rest,[]⟩) Q E ⟨h,g,d,t,os⟩:=by
 have Fn:=PySem.F.excBase_ValueError
 repeat (first | with_reducible refine wpAny_loadPart_at hC ?_ | with_reducible refine wpAny_madeBy_exc hC ?_ | wp_step)
 refine codeAny_call_builtin_code (Code.quiet_builtin _ Fn.quiet) (ma hB hC ?_)
 refine zJ hB hA hN hC hrest ?_
 show wpAny _ _ _ _ _ _
 have kp:∀ b o,h.get? b=some o->((h.push { cls:=.type "tuple",data:=.seq rest.toArray }).push (newExc C h.objs.size)).get? b=some o:=λb o e=>Heap.get?_push_of_some _ (Heap.get?_push_of_some _ e)
 have hget:((h.push { cls:=.type "tuple",data:=.seq rest.toArray }).push (newExc C h.objs.size)).get? (h.objs.size+1)=some (newExc C h.objs.size):=by
  have:=Heap.get?_push_size (h.push { cls:=.type "tuple",data:=.seq rest.toArray }) (o:=newExc C h.objs.size) rfl
  rwa [Heap.size_push] at this
 have cC:(Value.ref C::bm).contains (.ref C)=true:=by simp
 have hC₁:=kp _ _ hC
 have L1:=(looks_findIn (M:=model prog w) X hi).keeps kp
 have L2:=hb.keeps kp
 unfold isInstance
 repeat (first | with_reducible refine wpAny_loadPart_at hget ?_ | (with_reducible refine wpAny_isSubtype_exc hC₁ ?_;rw [cC]) | wp_step)
 show wpAny _ _ (typeLookup (.ref C) _) _ _ _
 refine L1.at (wpAny_holding (wpAny_bind (L2.at (wpAny_bind (wpAny_call (codeAny_mono hq λr s' z=>?_))))))
 rcases r with e | (_ | _ | _ | v)
 ·exact z
 ·exact z.elim
 ·exact z.elim
 ·exact z.elim
 ·obtain⟨rfl,z⟩:=z
  exact wpAny_pure (wpAny_pure z)
theorem pX {K:PySem.W.Frag} {i:Value} {rest:List Value} {Q:Value->Shared->Prop} (X:K.In h) (hB:bm.contains (.type "ValueError")=true) (hA:bm.contains (.type "AttributeError")=false) (hN:bm.contains (.type "NameError")=false)
  (hC:h.get? C=some (excClassObj nm q C N bs bm hdct sn sub ab col dd k0 k1 k2 k3 k5 mr)) (hrest:rest.length<=sizeLine) (hi:findIn K (.ref C) "__init__"=some (some i)) {j:Value}
  (hb:Looks (model prog w) h (bindSpecial i (.ref (h.objs.size+1))) (j,[.ref (h.objs.size+1)]))
  (hq:codeAny (model prog w) (A.under (.builtin "type.__call__" ⟨.ref C::rest,[]⟩)) (.call j ⟨.ref (h.objs.size+1)::rest,[]⟩) (λr s'=>match r with | .ok (.ret v)=>v=.none/\Q (.ref (h.objs.size+1)) s' | .ok _=>False | .error e=>E e s')
   ⟨(h.push { cls:=.type "tuple",data:=.seq rest.toArray }).push (newExc C h.objs.size),g,d,t,os⟩) :
  wpAny (model prog w) A (call (.ref C) rest) Q E ⟨h,g,d,t,os⟩:=by
 have f1:=tc_lookup
 have f2:=tc_bind (.ref C)
 have hT:(⟨h,g,d,t,os⟩:Shared).TypeIs (.ref C) "type":=⟨_,hC,rfl⟩
 refine wpAny_call (codeAny_of_tree ?_)
 show wpAny _ _ (callAny (.ref C) _) _ _ _
 repeat (any_goals (first | assumption | with_reducible refine wpAny_loadPart_at hC ?_ | wp_step))
 refine⟨rfl,?_⟩
 refine codeAny_call_builtin_at (Code.quiet_builtin _ (by decide +kernel)) entry_typeCall (wpAny_check_type_call_sub hC ?_)
 exact nR X hB hA hN hC hrest hi hb hq
end
def Tr (h:Heap) (e:Addr) (C:Value) (dd:Option Addr) (T:Addr) (fl:Value):Prop :=
 ∃ vs sl oT ts,h.get? e=some ⟨C,dd,.fields vs,sl⟩/\vs[1]?=some (.ref T)/\T≠e/\h.get? T=some oT/\oT.data=.fields ts/\ts[3]?=some fl
structure Kp (fs ch:List Addr) (h h':Heap):Prop where
 keep:∀ b o,b∉ch->b∉fs->h.get? b=some o->h'.get? b=some o
 slot:∀ b o,b∉ch->h.get? b=some o->∃ sl,h'.get? b=some { o with slots:=sl }
theorem Kp.mono {fs ch ch':List Addr} {h h':Heap} (a:Kp fs ch h h') (hs:∀ b∈ch,b∈ch'):Kp fs ch' h h' :=
 ⟨λc o hc hf e=>a.keep c o (λz=>hc (hs c z)) hf e,λc o hc e=>a.slot c o (λz=>hc (hs c z)) e⟩
section
variable {M:Model} {A:Around} {E:Value->Shared->Prop} {s:Shared} {base:Heap} {env:Env} {outer:List Env} {L e T:Addr} {C:Value} {dd:Option Addr} {fl:Value}
theorem pZ {vs:Array Value} {sl:Array (Option Value)} {head:Value} {hadNext:Bool} {Q:Unit->Shared->Prop} (hfr:A.frames=some (env::outer)) (hl:s.heap.FunFrames base (env::outer)) (hf:env.frame=some L)
  (he:s.heap.get? e=some ⟨C,dd,.fields vs,sl⟩) (hsz:1<vs.size)
  (h:∀ h' T,Tr h' e C dd T (rawInt L)->s.heap.objs.size<=T->Kp (hJ (env::outer)) [e] s.heap h'->Q () { s with heap:=h' }) :
  wpAny M A (do let a <- frameOf env;let pl <- entryPlaceOf L hadNext;let b <- EntryCells.newEntry head a .none (rawInt L) .none pl;setField (.ref e) 1 b) Q E s:=by
 have hne:e∉hJ (env::outer):=λhm=>by
  obtain⟨_,o,ho,hnf⟩:=hl.mem hm
  rw [he] at ho
  cases ho
  exact hnf vs rfl
 refine wpAny_bind (wpAny_frameOf_fun hfr hl hf λh1 so=>?_)
 refine wpAny_bind (wpAny_entryPlaceOf λpl hpl=>?_)
 unfold EntryCells.newEntry newFields
 refine wpAny_bind (wpAny_newObj_type ?_ (hpl.sizeOk5 _ _ _ _ _))
 have e1:h1.get? e=some ⟨C,dd,.fields vs,sl⟩:=(so.2.1 e hne).trans he
 generalize hO:({ cls:=.type "traceback",dict:=none,data:=.fields ([head,.ref L,.none,rawInt L,.none]++(if pl.isEmpty then List.replicate 6 Value.none else pl)).toArray }:Obj)=oT
 have hTd:oT.data=.fields ([head,.ref L,.none,rawInt L,.none]++(if pl.isEmpty then List.replicate 6 Value.none else pl)).toArray:=by rw [<- hO]
 have hTf:oT.isFreed=false:=by rw [<- hO];rfl
 have e2:(h1.push oT).get? e=some ⟨C,dd,.fields vs,sl⟩:=Heap.get?_push_of_some oT e1
 refine wpAny_setField e2 rfl hsz (h _ h1.objs.size ?_ ?_ ?_)
 ·have ne:h1.objs.size≠e:=Nat.ne_of_gt (Heap.lt_size e1)
  refine⟨vs.setIfInBounds 1 (.ref h1.objs.size),sl,oT,_,Heap.get?_update_self _ e2 rfl,by simp [hsz],ne,?_,hTd,by simp⟩
  rw [Heap.get?_update_other _ _ (Ne.symm ne)]
  exact Heap.get?_push_size h1 hTf
 ·exact Nat.le_of_eq (Eq.symm so.1)
 ·refine⟨λb o hb hf' q=>?_,λb o hb q=>?_⟩
  ·have hb':b≠e:=λz=>hb (by simp [z])
   rw [Heap.get?_update_other _ _ (Ne.symm hb')]
   exact Heap.get?_push_of_some oT ((so.2.1 b hf').trans q)
  ·have hb':b≠e:=λz=>hb (by simp [z])
   obtain⟨sl',q'⟩:=so.2.2 b o q
   refine⟨sl',?_⟩
   rw [Heap.get?_update_other _ _ (Ne.symm hb')]
   exact Heap.get?_push_of_some oT q'
theorem rZ {vs:Array Value} {sl:Array (Option Value)} {Q:Unit->Shared->Prop} (hfr:A.frames=some (env::outer)) (hl:s.heap.FunFrames base (env::outer)) (hf:env.frame=some L)
  (he:s.heap.get? e=some ⟨C,dd,.fields vs,sl⟩) (h1:vs[1]?=some .none)
  (h:∀ h' T,Tr h' e C dd T (rawInt L)->s.heap.objs.size<=T->Kp (hJ (env::outer)) [e] s.heap h'->Q () { s with heap:=h' }):wpAny M A (noteFrame (.ref e) env) Q E s:=by
 unfold noteFrame
 simp only [hf]
 refine wpAny_bind (wpAny_field he rfl h1 ?_)
 rw [if_neg (by decide)]
 exact pZ hfr hl hf he (Array.getElem?_eq_some_iff.mp h1).1 h
theorem u7 {Q:Unit->Shared->Prop} (hfr:A.frames=some (env::outer)) (hl:s.heap.FunFrames base (env::outer)) (hf:env.frame=some L) (ht:Tr s.heap e C dd T .none)
  (h:∀ h' T',Tr h' e C dd T' (rawInt L)->s.heap.objs.size<=T'->Kp (hJ (env::outer)) [e,T] s.heap h'->Q () { s with heap:=h' }):wpAny M A (noteFrame (.ref e) env) Q E s:=by
 obtain⟨vs,sl,oT,ts,he,h1,hTe,hT,hdT,h3⟩:=ht
 unfold noteFrame
 simp only [hf]
 refine wpAny_bind (wpAny_field he rfl h1 ?_)
 rw [if_pos (show (Value.ref T != Value.none)=true from by simp)]
 refine wpAny_bind (wpAny_field hT hdT h3 ?_)
 rw [if_neg (show ¬((Value.none==rawInt L)=true) from by simp [rawInt])]
 refine wpAny_bind (wpAny_setField hT hdT (Array.getElem?_eq_some_iff.mp h3).1 ?_)
 generalize hu:s.heap.update T (Obj.mapFields (·.setIfInBounds 3 Value.none))=h1'
 have oth:∀ b,b≠T->h1'.get? b=s.heap.get? b:=λb hb=>by rw [<- hu];exact Heap.get?_update_other _ _ (Ne.symm hb)
 have hT1:∃ o,h1'.get? T=some o:=⟨_,by rw [<- hu];exact Heap.get?_update_self _ hT (Obj.isFreed_of_fields (Obj.data_mapFields hdT _))⟩
 have hl1:h1'.FunFrames base (env::outer):=hl.of_keeps λb o hb hnf=>⟨o,(oth b λq=>by rw [q,hT] at hb;cases hb;exact hnf ts hdT).trans hb,rfl⟩
 refine pZ (s:={ s with heap:=h1' }) hfr hl1 hf ((oth e (Ne.symm hTe)).trans he) (Array.getElem?_eq_some_iff.mp h1).1 λh' T' t' n' k'=>h h' T' t' ?_ ?_
 ·have z:h1'.objs.size=s.heap.objs.size:=by rw [<- hu];exact Heap.size_update ..
  rw [<- z];exact n'
 ·refine⟨λb o hb hf' q=>k'.keep b o (λz=>hb (by simp at z;simp [z])) hf' ((oth b λz=>hb (by simp [z])).trans q),λb o hb q=>k'.slot b o (λz=>hb (by simp at z;simp [z])) ((oth b λz=>hb (by simp [z])).trans q)⟩
theorem land {Q:Unit->Shared->Prop} {fs:List Addr} (ht:Tr s.heap e C dd T fl) (h:∀ h',Tr h' e C dd T .none->Kp fs [T] s.heap h'->Q () { s with heap:=h' }):wpAny M A (setFlight (.ref e) none) Q E s:=by
 obtain⟨vs,sl,oT,ts,he,h1,hTe,hT,hdT,h3⟩:=ht
 unfold setFlight
 refine wpAny_bind (wpAny_field he rfl h1 ?_)
 rw [if_pos (show (Value.ref T != Value.none)=true from by simp)]
 have hsz:=(Array.getElem?_eq_some_iff.mp h3).1
 refine wpAny_setField hT hdT hsz (h _ ?_ ?_)
 ·refine⟨vs,sl,_,_,(Heap.get?_update_other _ _ hTe).trans he,h1,hTe,Heap.get?_update_self _ hT (Obj.isFreed_of_fields (Obj.data_mapFields hdT _)),Obj.data_mapFields hdT _,by simp [hsz]⟩
 ·refine⟨λb o hb _ q=>(Heap.get?_update_other _ _ λz=>hb (by simp [z])).trans q,λb o hb q=>⟨o.slots,(Heap.get?_update_other _ _ λz=>hb (by simp [z])).trans q⟩⟩
theorem qf {vs:Array Value} {sl:Array (Option Value)} {Q:Unit->Shared->Prop} (hfr:A.frames=some (env::outer)) (hl:s.heap.FunFrames base (env::outer)) (hf:env.frame=some L)
  (he:s.heap.get? e=some ⟨C,dd,.fields vs,sl⟩) (h1:vs[1]?=some .none)
  (h:∀ h' T,Tr h' e C dd T .none->s.heap.objs.size<=T->Kp (hJ (env::outer)) [e] s.heap h'->Q () { s with heap:=h' }):wpAny M A (leaving env (.ref e)) Q E s:=by
 unfold leaving
 refine wpAny_bind (rZ hfr hl hf he h1 λh1' T t1 n1 k1=>?_)
 refine land (fs:=hJ (env::outer)) t1 λh2 t2 k2=>h h2 T t2 n1 ⟨λb o hb hf' q=>?_,λb o hb q=>?_⟩
 ·exact k2.keep b o (λz=>by simp at z;rw [z] at q;exact absurd (Heap.lt_size q) (Nat.not_lt.mpr n1)) hf' (k1.keep b o hb hf' q)
 ·obtain⟨s1,q1⟩:=k1.slot b o hb q
  obtain⟨s2,q2⟩:=k2.slot b _ (λz=>by simp at z;rw [z] at q;exact absurd (Heap.lt_size q) (Nat.not_lt.mpr n1)) q1
  exact⟨s2,q2⟩
theorem rW {Q:Unit->Shared->Prop} (hfr:A.frames=some (env::outer)) (hl:s.heap.FunFrames base (env::outer)) (hf:env.frame=some L) (ht:Tr s.heap e C dd T .none)
  (h:∀ h' T',Tr h' e C dd T' .none->s.heap.objs.size<=T'->Kp (hJ (env::outer)) [e,T] s.heap h'->Q () { s with heap:=h' }):wpAny M A (leaving env (.ref e)) Q E s:=by
 unfold leaving
 refine wpAny_bind (u7 hfr hl hf ht λh1' T' t1 n1 k1=>?_)
 refine land (fs:=hJ (env::outer)) t1 λh2 t2 k2=>h h2 T' t2 n1 ⟨λb o hb hf' q=>?_,λb o hb q=>?_⟩
 ·exact k2.keep b o (λz=>by simp at z;rw [z] at q;exact absurd (Heap.lt_size q) (Nat.not_lt.mpr n1)) hf' (k1.keep b o hb hf' q)
 ·obtain⟨s1,q1⟩:=k1.slot b o hb q
  obtain⟨s2,q2⟩:=k2.slot b _ (λz=>by simp at z;rw [z] at q;exact absurd (Heap.lt_size q) (Nat.not_lt.mpr n1)) q1
  exact⟨s2,q2⟩
end
def XO (x C:Addr) (dd:Option Addr):HO:=.ext λh=>∃ vs sl,h.get? x=some ⟨.ref C,dd,.fields vs,sl⟩
def XN (x C:Addr) (dd:Option Addr):HO:=.ext λh=>∃ t sl,h.get? x=some ⟨.ref C,dd,.fields #[.ref t,.none,.none,.none,.bool false,.none],sl⟩
section
variable {P:Program} {w:World} {H H':Hp} {h h':Heap} {x C:Addr} {dd:Option Addr}
theorem XO.ok {vs:Array Value} {sl:Array (Option Value)} (e:h.get? x=some ⟨.ref C,dd,.fields vs,sl⟩):bB P w H h x (XO x C dd) :=
 ⟨⟨vs,sl,e⟩,⟨_,e⟩,λ_ _ ⟨vs,sl,q⟩ k=>⟨vs,sl,k _ q⟩⟩
theorem XN.ok {t:Addr} {sl:Array (Option Value)} (e:h.get? x=some ⟨.ref C,dd,.fields #[.ref t,.none,.none,.none,.bool false,.none],sl⟩):bB P w H h x (XN x C dd) :=
 ⟨⟨t,sl,e⟩,⟨_,e⟩,λ_ _ ⟨vs,sl,q⟩ k=>⟨vs,sl,k _ q⟩⟩
theorem XN.get (hok:fP P w H h) (e:H x=some (XN x C dd)):∃ t sl,h.get? x=some ⟨.ref C,dd,.fields #[.ref t,.none,.none,.none,.bool false,.none],sl⟩:=by
 obtain⟨q,_⟩:=(show bB P w H h x (XN x C dd) from hok x _ e)
 exact q
end
def dh (P:Program) (w:World):kE:=λouter H s E e s'=>∃(x C T:Addr) (dd:Option Addr) (H':Hp),e=.ref x/\s'.os=s.os/\AllBare s'.gens/\Un (hJ outer) [] H H' s.heap s'.heap/\fP P w H' s'.heap /\
 Tr s'.heap x (.ref C) dd T .none/\s.heap.get? x=none/\s.heap.get? T=none/\H' T=none/\H' x=some (XO x C dd)/\E (.ref C) (some x) H'
theorem tF {base h h':Heap} {H H':Hp} {ex:List Addr}:∀{l:List Env} {fs:List Addr},h.FunFrames base l->Un fs ex H H' h h'->(∀ b∈hJ l,H b=none)->(∀ b∈hJ l,b∉ex)->h'.FunFrames base l
 | [],_,_,_,_,_=>trivial
 | env::r,fs,hl,u,hn,hx=>by
  obtain⟨hk,⟨L,o,hf,hb,ho,hd⟩,hr⟩:=hl
  have hL:L∈hJ (env::r):=by unfold hJ;rw [List.filterMap_cons,hf];exact List.mem_cons_self
  have sub:∀ b∈hJ r,b∈hJ (env::r):=λb hb'=>by unfold hJ;rw [List.filterMap_cons,hf];exact List.mem_cons_of_mem _ hb'
  obtain⟨sl,e⟩:=u.any ho (hn L hL) (hx L hL)
  exact⟨hk,⟨L,_,hf,hb,e,hd⟩,tF hr u (λb hb'=>hn b (sub b hb')) λb hb'=>hx b (sub b hb')⟩
theorem tE {P:Program} {w:World} {H':Hp} {h h':Heap} {x C:Addr} {dd:Option Addr} {fs ch:List Addr} (hok:fP P w H' h) (k:Kp fs ch h h') (hch:∀ b∈ch,b=x∨H' b=none) (hfs:∀ b∈fs,H' b=none)
  (hx:H' x=some (XO x C dd)) {vs:Array Value} {sl:Array (Option Value)} (e:h'.get? x=some ⟨.ref C,dd,.fields vs,sl⟩):fP P w H' h':=by
 intro b o q
 by_cases hb:b=x
 ·subst hb
  rw [hx] at q
  cases q
  exact XO.ok e
 ·refine (hok b o q).hZ (λc u hc r=>k.keep c u (λz=>?_) (λz=>?_) r) (λ_ r=>r) λ_ _ r=>r
  ·rcases hch c z with q1 | q1
   ·rcases hc with q2 | q2
    ·exact hb (q2.symm.trans q1)
    ·rw [q1,hx] at q2;cases q2
   ·rcases hc with q2 | q2
    ·rw [q2,q] at q1;cases q1
    ·rw [q2] at q1;cases q1
  ·have q1:=hfs c z
   rcases hc with q2 | q2
   ·rw [q2,q] at q1;cases q1
   ·rw [q2] at q1;cases q1
theorem lF {P:Program} {w:World} {K:PySem.W.Frag} {mg:Str->Option Value} {base:Heap} {N:List Str} {qual:Str} {scope:Scope} {f:Addr} {cd:Value} {A:Around} {outer:List Env} {s:Shared} {H:Hp} {E:XK} :
  Passes (dh P w) (eV (dh P w) P w K mg base N qual scope f cd A outer s H E) E:=by
 intro pins σ H1 s1 e s' I hq
 obtain⟨x,C,T,dd,H',rfl,os,bare,un,hok,tr,nx,nT,hT,hx,hE⟩:=hq
 have hl:=tF I.stack un I.jo (λb _=>by simp)
 have frN:∀ b∈hJ (envOfC qual scope s.heap.objs.size f cd::outer),H' b=none:=λb hb=>by
  obtain⟨_,o,ho,_⟩:=I.stack.mem hb
  exact un.free b o ho (I.jo b hb) (by simp)
 show wpAny (model P w) (A.deeper (envOfC qual scope s.heap.objs.size f cd)) (leaving (envOfC qual scope s.heap.objs.size f cd) (.ref x)) _ _ s'
 refine rW (L:=s.heap.objs.size) I.ok.frames hl rfl tr λh'' T' t' n' k'=>?_
 have old:∀ b o,s.heap.get? b=some o->b∉[x,T]:=λb o q hb=>by
  obtain⟨o1,q1⟩:=I.base.there b o q (by intro z;exact absurd (show b∈([]:List Addr) from z) (by simp))
  rcases List.mem_cons.mp hb with z | z
  ·rw [z,nx] at q1;cases q1
  ·rw [List.mem_singleton.mp z,nT] at q1;cases q1
 have nex:∀ b:Addr,b∉(eV (dh P w) P w K mg base N qual scope f cd A outer s H E).ex:=λb z=>absurd (show b∈([]:List Addr) from z) (by simp)
 have nfr:∀ b o,s.heap.get? b=some o->b∉hJ outer->b∉hJ (envOfC qual scope s.heap.objs.size f cd::outer):=λb o q hb hm=>by
  rcases List.mem_cons.mp (I.gH b hm) with z | z
  ·exact absurd (Heap.lt_size q) (by rw [z];exact Nat.lt_irrefl _)
  ·exact hb z
 obtain⟨vs,sl,oT,ts,he,r'⟩:=t'
 have tr':Tr h'' x (.ref C) dd T' .none:=⟨vs,sl,oT,ts,he,r'⟩
 refine⟨x,C,T',dd,H',rfl,os.trans I.os,bare,?_,?_,tr',?_,?_,hok.fresh n',hx,hE⟩
 ·refine⟨λb o q nn hb _=>?_,λb o q nn hb _=>?_,λb o q nn _=>?_,λb o q _=>?_,λb xs q=>un.tups b xs (I.base.tups b xs q),λb o xs q=>un.frzs b o xs (I.base.frzs b o xs q),λb ps q=>?_⟩
  ·have q1:=I.base.keep b o q nn hb (nex b)
   have q2:=un.keep b o q1 (I.base.free b o q nn (nex b)) (nfr b o q hb) (by simp)
   exact k'.keep b o (old b o q) (nfr b o q hb) q2
  ·obtain⟨s1',q1⟩:=I.base.slot b o q nn hb (nex b)
   obtain⟨s2',q2⟩:=un.any q1 (I.base.free b o q nn (nex b)) (by simp)
   obtain⟨s3',q3⟩:=k'.slot b _ (old b o q) q2
   exact⟨s3',q3⟩
  ·obtain⟨o1,q1⟩:=I.base.there b o q (nex b)
   exact un.free b o1 q1 (I.base.free b o q nn (nex b)) (by simp)
  ·obtain⟨o1,q1⟩:=I.base.there b o q (nex b)
   obtain⟨o2,q2⟩:=un.there b o1 q1 (by simp)
   obtain⟨s3',q3⟩:=k'.slot b _ (old b o q) q2
   exact⟨_,q3⟩
  ·obtain⟨m1,e1⟩:=I.base.tbls b ps q
   obtain⟨m2,e2⟩:=un.tbls b _ e1
   exact⟨m1++m2,by rw [e2,Array.append_assoc]⟩
 ·exact tE hok k' (λb hb=>by
   rcases List.mem_cons.mp hb with z | z
   ·exact .inl z
   ·exact .inr (by rw [List.mem_singleton.mp z];exact hT)) frN hx he
 ·cases q:s.heap.get? x with
  | none=>rfl
  | some o=>exact absurd (List.mem_cons_self) (old x o q)
 ·cases q:s.heap.get? T' with
  | none=>rfl
  | some o =>
   obtain⟨o1,q1⟩:=I.base.there T' o q (nex T')
   obtain⟨o2,q2⟩:=un.there T' o1 q1 (by simp)
   exact absurd (Heap.lt_size q2) (Nat.not_lt.mpr n')
section
variable {prog:Program} {w:World} {A:Around} {E:Value->Shared->Prop} {s:Shared} {K:PySem.W.Frag} {env:Env}
theorem mf {x:Sem Value} {Q:Flow->Shared->Prop} (hh:A.handled=none)
  (h:wpAny (model prog w) A x (λv s₁=>∃ e C t dd sl,v=.ref e/\K.In s₁.heap/\eI K C/\s₁.heap.get? e=some ⟨.ref C,dd,.fields #[.ref t,.none,.none,.none,.bool false,.none],sl⟩/\E (.ref e) s₁) E s) :
  wpAny (model prog w) A (raiseStmt env (some x) none) Q E s:=by
 unfold raiseStmt
 refine wpAny_bind (wpAny_mono h (λv s₁ h₁=>?_) λ_ _ z=>z)
 obtain⟨e,C,t,dd,sl,rfl,X,c,he,hE⟩:=h₁
 obtain⟨hp,g,d,tk,os⟩:=s₁
 have L1:Looks (model prog w) hp (isSubtype (.ref C) (.type "BaseException")) true:=by
  obtain⟨cd,hc,hm,_⟩:=c.cls
  obtain⟨m1,m2,m3⟩:=nQ hm
  exact looks_mroIn X (by unfold mroIn;rw [hc,Option.bind_some,if_neg (by rw [m3];decide),m2])
 obtain⟨od,cd,sc,hk⟩:=c.at_
 have hC:=X _ _ hk
 repeat (first | with_reducible refine wpAny_loadPart_at he ?_ | with_reducible refine wpAny_loadPart_at hC ?_ | with_reducible refine Looks.at L1 ?_ | wp_step)
 exact wpAny_raiseNew_none hh hE
end
def yS (K:PySem.W.Frag) (H₀:Hp) (E:XK) (te:TE):TS:=λ_ σ H=>te σ H λv H1=>∃ x C dd,v=.ref x/\H1 x=some (XN x C dd)/\eI K C/\H₀ x=none/\E (.ref C) (some x) (upd H1 x (XO x C dd))
section
variable {P:Program} {w:World} {K:PySem.W.Frag} {mg:Str->Option Value} {base:Heap} {N:List Str} {qual:Str} {scope:Scope} {f:Addr} {cd:Value} {A:Around} {outer:List Env} {s:Shared} {H:Hp} {E:XK}
theorem vJ {pins:List (Addr × Obj)} {σ:St} {H2:Hp} {s2:Shared} {x C:Addr} {dd:Option Addr} (I:Inv (eV (dh P w) P w K mg base N qual scope f cd A outer s H E) pins σ H2 s2) (hx:H2 x=some (XN x C dd)) (hn:H x=none)
  (hE:E (.ref C) (some x) (upd H2 x (XO x C dd))):(eV (dh P w) P w K mg base N qual scope f cd A outer s H E).xe (.ref x) s2:=by
 obtain⟨t,sl,he⟩:=XN.get I.hok hx
 have nex:∀ b:Addr,b∉(eV (dh P w) P w K mg base N qual scope f cd A outer s H E).ex:=λb z=>absurd (show b∈([]:List Addr) from z) (by simp)
 have nx:s.heap.get? x=none:=by
  cases q:s.heap.get? x with
  | none=>rfl
  | some o =>
   have:=I.base.free x o q hn (nex x)
   rw [hx] at this
   cases this
 have old:∀ b o,s.heap.get? b=some o->b≠x:=λb o q z=>by rw [z,nx] at q;cases q
 have nfr:∀ b o,s.heap.get? b=some o->b∉hJ outer->b∉hJ (envOfC qual scope s.heap.objs.size f cd::outer):=λb o q hb hm=>by
  rcases List.mem_cons.mp (I.gH b hm) with z | z
  ·exact absurd (Heap.lt_size q) (by rw [z];exact Nat.lt_irrefl _)
  ·exact hb z
 have hok':fP P w (upd H2 x (XO x C dd)) s2.heap:=λb o q=>by
  by_cases hb:b=x
  ·subst hb
   rw [ag] at q
   cases q
   exact XO.ok he
  ·rw [au hb] at q
   refine (I.hok b o q).hZ (λ_ _ _ r=>r) (λc r=>?_) λc xs r=>?_
   ·rw [au (λz=>by rw [z,hx] at r;cases r)];exact r
   ·rw [au (λz=>by rw [z,hx] at r;cases r)];exact r
 show wpAny (model P w) (A.deeper (envOfC qual scope s.heap.objs.size f cd)) (leaving (envOfC qual scope s.heap.objs.size f cd) (.ref x)) _ _ s2
 refine qf (L:=s.heap.objs.size) I.ok.frames I.stack rfl he rfl λh'' T t' n' k'=>?_
 obtain⟨vs,sl',oT,ts,he',r'⟩:=t'
 have tr':Tr h'' x (.ref C) dd T .none:=⟨vs,sl',oT,ts,he',r'⟩
 have nT:T≠x:=r'.2.1
 refine⟨x,C,T,dd,upd H2 x (XO x C dd),rfl,I.os,I.bare,?_,?_,tr',nx,?_,?_,ag,hE⟩
 ·refine⟨λb o q nn hb _=>?_,λb o q nn hb _=>?_,λb o q nn _=>?_,λb o q _=>?_,λb xs q=>?_,λb o xs q=>?_,λb ps q=>?_⟩
  ·exact k'.keep b o (by simp [old b o q]) (nfr b o q hb) (I.base.keep b o q nn hb (nex b))
  ·obtain⟨s1',q1⟩:=I.base.slot b o q nn hb (nex b)
   obtain⟨s3',q3⟩:=k'.slot b _ (by simp [old b o q]) q1
   exact⟨s3',q3⟩
  ·rw [au (old b o q)]
   exact I.base.free b o q nn (nex b)
  ·obtain⟨o1,q1⟩:=I.base.there b o q (nex b)
   obtain⟨s3',q3⟩:=k'.slot b _ (by simp [old b o q]) q1
   exact⟨_,q3⟩
  ·have:=I.base.tups b xs q
   rw [au (λz=>by rw [z,hx] at this;cases this)];exact this
  ·have:=I.base.frzs b o xs q
   rw [au (λz=>by rw [z,hx] at this;cases this)];exact this
  ·obtain⟨m1,e1⟩:=I.base.tbls b ps q
   exact⟨m1,by rw [au (λz=>by rw [z,hx] at e1;cases e1)];exact e1⟩
 ·exact tE hok' k' (λb hb=>.inl (by simpa using hb)) (λb hb=>by
   have z:=I.jo b hb
   rw [au (λy=>by rw [y,hx] at z;cases z)];exact z) ag he'
 ·cases q:s.heap.get? T with
  | none=>rfl
  | some o =>
   obtain⟨o1,q1⟩:=I.base.there T o q (nex T)
   exact absurd (Heap.lt_size q1) (Nat.not_lt.mpr n')
 ·rw [au nT]
  exact I.hok.fresh n'
theorem cz {e:Expr} {te:TE} {pos:Pos} (he:PE (eV (dh P w) P w K mg base N qual scope f cd A outer s H E) e te):PS (eV (dh P w) P w K mg base N qual scope f cd A outer s H E) (.Raise (some e) none pos) (yS K H E te):=by
 intro pins s1 σ H1 D I h
 rw [arm_exec_Raise]
 refine wpAny_bind (wpAny_standAt (mf (K:=K) (I.ok.hd rfl) (wpAny_bind (bc (he pins s1 σ H1 _ I h) λv s2 ⟨y,H2,I2,r,x,C,dd,ey,hx,c,hn,hE⟩=>?_))))
 subst ey
 obtain rfl:v=Value.ref x:=r
 obtain⟨t,sl,hg⟩:=XN.get I2.hok hx
 exact wpAny_bind (wpAny_standAt (wpAny_pure ⟨x,C,t,dd,sl,rfl,I2.fL,c,hg,vJ I2 hx hn hE⟩))
end
section
variable {prog:Program} {w:World} {A:Around} {E:Value->Shared->Prop} {h:Heap} {g:Array GenState} {d:Drawn} {t:Nat} {os:OsState}
variable {nm q:Str} {C N:Addr} {bs bm:List Value} {hdct:Bool} {sn:List Str} {sub:List Value} {ab:Bool} {col:Option Bool} {dd:Option Addr} {k0 k1 k2 k3 k5:Option Value}
theorem uQ {R:Result->Shared->Prop} {e a:Addr} (hB:bm.contains (.type "ValueError")=true) (hC:h.get? C=some (excClassObj nm q C N bs bm hdct sn sub ab col dd k0 k1 k2 k3 k5 mr)) (he:h.get? e=some (newExc C a))
  (hq:∀ h',h'.get? e=some (newExc C h.objs.size)->(∀ b o,b≠e->h.get? b=some o->h'.get? b=some o)->R (.ok (.ret .none)) ⟨h',g,d,t,os⟩) :
  codeAny (model prog w) A (.call (.builtin "ValueError.__init__") ⟨[.ref e],[]⟩) R ⟨h,g,d,t,os⟩:=by
 have Fn:=PySem.F.excBase_ValueError
 have cB:(Value.ref C::bm).contains (.type "ValueError")=true:=by rw [List.contains_cons,hB,Bool.or_true]
 have hshort:=Fn.noStar
 refine codeAny_call_builtin Fn.init.plain Fn.initEntry ?_
 have chk:∀{Q:Unit->Shared->Prop} {E:Value->Shared->Prop} {A:Around},Q () ⟨h,g,d,t,os⟩->wpAny (model prog w) A (checkBuiltinCall "ValueError.__init__" ⟨[.ref e],[]⟩) Q E ⟨h,g,d,t,os⟩:=by
  intro Q E A hq
  simp only [checkBuiltinCall,Fn.initKind,Fn.initSplit,Fn.initRow]
  repeat (first | with_reducible refine wpAny_loadPart_at he ?_ | with_reducible refine wpAny_loadPart_at hC ?_ | (with_reducible refine wpAny_isSubtype_exc hC ?_;rw [cB]) | wp_step)
  exact hq
 refine chk ?_
 wp_walk
 have hp:=Heap.get?_push_of_some (h:=h) { cls:=.type "tuple",data:=.seq ([]:List Value).toArray } he
 refine hq _ ?_ λb o hb z=>?_
 ·exact Heap.get?_update_self _ hp rfl
 ·rw [Heap.get?_update_other _ _ (Ne.symm hb)]
  exact Heap.get?_push_of_some _ z
end
theorem cV.any {P:Program} {w:World} {K:PySem.W.Frag} {mg:Str->Option Value} {base:Heap} {CX:kE} {k:Nat} {f:Addr} {fd:FuncData} {ps:List Str} {sp:Sp} (F:cV P w K mg base aG k f fd ps sp):cV P w K mg base CX k f fd ps sp :=
 ⟨F.len,λA outer s H args us vs Q E hr he hb hv hs=>codeAny_mono (F.run A outer s H args us vs Q E hr he hb hv hs) λr s' q=>by
  cases r with
  | error e=>exact False.elim q
  | ok fl =>
   cases fl with
   | ret u=>exact q
   | next=>exact q
   | brk=>exact q
   | cont=>exact q⟩
def Ek (K:PySem.W.Frag) (ta tv:TE) (f:Str):TS:=λD σ H=>tv σ H λy H1=>ta σ H1 λxv H2=>∃ x C,xv=.ref x/\H2 x=some (XN x C none)/\eI K C/\findIn K (.ref C) f=some none /\
 ∀ dx,H2 dx=none->dx≠x->D.nx σ (upd (upd H2 dx (.xd [(f,y)])) x (XN x C (some dx)))
section
variable {X:Cx} {o value:Expr} {f:Str} {pos pos':Pos} {ta tv:TE}
theorem Aw (ha:PE X o ta) (hv:PE X value tv) (hs:swapsWith value (some (.Attribute o f pos')) pos.line X.env=pure false:=by rfl):PS X (.Assign [.Attribute o f pos'] value pos) (Ek X.K ta tv f):=by
 intro pins s σ H D I h
 refine plainObj_wpAny_Assign_Attribute (bc (hv pins s σ H _ I h) λu s1 ⟨y,H1,I1,ry,q⟩=>bc (ha pins s1 σ H1 _ I1 q) λov s2 ⟨xv,H2,I2,rx,x,C,ex,hx,c,hf,q2⟩=>?_) hs
 subst ex
 obtain rfl:ov=Value.ref x:=rx
 obtain⟨t,sl,hg⟩:=XN.get I2.hok hx
 obtain⟨cd,hc,hm,hh⟩:=c.cls
 refine zK I2.fL hg hc hm hh c.sa hf λh' g1 g2 g3=>?_
 have hd0:H2 s2.heap.objs.size=none:=I2.hok.fresh (Nat.le_refl _)
 have hne:s2.heap.objs.size≠x:=λz=>by rw [z,hx] at hd0;cases hd0
 have bx:∀ b,H2 b=none->b≠x:=λb z y=>by rw [y,hx] at z;cases z
 have bd:∀ b o,s2.heap.get? b=some o->b≠s2.heap.objs.size:=λb o q=>Nat.ne_of_lt (Heap.lt_size q)
 have tb:∀ b u,H2 b=some u->b≠s2.heap.objs.size:=λb u q z=>by rw [z,hd0] at q;cases q
 refine⟨σ,upd (upd H2 s2.heap.objs.size (.xd [(f,y)])) x (XN x C (some s2.heap.objs.size)),I2.un ⟨λb o q n _ _=>g3 b o (bx b n) q,λb o q n _ _=>⟨o.slots,g3 b o (bx b n) q⟩,λb o q n _=>?_,λb o q _=>?_,λb xs q=>?_,λb o xs q=>?_,λb ps q=>?_⟩ ?_,q2 _ hd0 hne⟩
 ·rw [au (bx b n),au (bd b o q)];exact n
 ·by_cases z:b=x
  ·exact⟨_,by rw [z];exact g1⟩
  ·exact⟨o,g3 b o z q⟩
 ·rw [au (λz=>by rw [z,hx] at q;cases q),au (tb b _ q)];exact q
 ·rw [au (λz=>by rw [z,hx] at q;cases q),au (tb b _ q)];exact q
 ·exact⟨#[],by rw [au (λz=>by rw [z,hx] at q;cases q),au (tb b _ q),q];simp⟩
 ·intro b o q
  by_cases z:b=x
  ·subst z
   rw [ag] at q
   cases q
   exact XN.ok g1
  ·rw [au z] at q
   by_cases z2:b=s2.heap.objs.size
   ·subst z2
    rw [ag] at q
    cases q
    refine⟨_,g2,λk=>?_⟩
    show fc (List.lookup k [(f,y)]) (if k=f then some u else none)
    by_cases e:k=f
    ·subst e
     rw [if_pos rfl,List.lookup_cons,beq_self_eq_true]
     exact ry
    ·have e':(k==f)=false:=by simpa using e
     rw [if_neg e,List.lookup_cons,e']
     exact True.intro
   ·rw [au z2] at q
    refine (I2.hok b o q).hZ (λc' u' hc' r=>g3 c' u' (λz3=>?_) r) (λc' r=>?_) λc' xs r=>?_
    ·rcases hc' with e | e
     ·exact z (e.symm.trans z3)
     ·rw [z3,hx] at e;cases e
    ·rw [au (λz3=>by rw [z3,hx] at r;cases r),au (tb c' _ r)];exact r
    ·rw [au (λz3=>by rw [z3,hx] at r;cases r),au (tb c' _ r)];exact r
end
structure A4 (K:PySem.W.Frag) (C:Addr):Prop where
 obj:∃ nm q N bs bm hdct sn sub ab col dd k0 k1 k2 k3 k5,K.lookup C=some (excClassObj nm q C N bs bm hdct sn sub ab col dd k0 k1 k2 k3 k5 mr)/\bm.contains (.type "ValueError")=true/\bm.contains (.type "AttributeError")=false/\bm.contains (.type "NameError")=false
 kp:keepIn K (.ref C)=true
def oM (K:PySem.W.Frag) (f:Str):Sp:=λvs H Q _=>∃ x C v,vs=[.ref x,v]/\H x=some (XN x C none)/\eI K C/\findIn K (.ref C) f=some none /\
 ∀ dx,H dx=none->dx≠x->Q .non (upd (upd H dx (.xd [(f,v)])) x (XN x C (some dx)))
def Dk (C:Addr) (f:Str) (t:TA):TE:=λσ H Q=>t σ H λvs H1=>∃ v,vs=[v]/\∀ x dx,H1 x=none->H1 dx=none->dx≠x->Q (.ref x) (upd (upd (upd H1 x (XN x C none)) dx (.xd [(f,v)])) x (XN x C (some dx)))
def Dj (C:Addr):TE:=λ_ H Q=>∀ x,H x=none->Q (.ref x) (upd H x (XN x C none))
section
variable {X:Cx} {C fi:Addr} {fd:FuncData} {p f x:Str} {k:Nat} {pos np:Pos} {e:Expr} {t:TA}
theorem Inv.newExc {pins:List (Addr × Obj)} {σ:St} {H:Hp} {s:Shared} (I:Inv X pins σ H s) (us:List Value):Inv X pins σ (upd H (s.heap.objs.size+1) (XN (s.heap.objs.size+1) C none))
  { s with heap:=(s.heap.push { cls:=.type "tuple",data:=.seq us.toArray }).push (L2.newExc C s.heap.objs.size) }:=by
 have I1:Inv X pins σ H { s with heap:=s.heap.push { cls:=.type "tuple",data:=.seq us.toArray } }:=I.kept (t':=s.toks) λb u q=>Heap.get?_push_of_some _ q
 refine I1.laid (a:=s.heap.objs.size+1) (t':=s.toks) (λb u q=>Heap.get?_push_of_some _ q) (Nat.le_of_eq (Heap.size_push _ _)) ?_
 refine XN.ok (t:=s.heap.objs.size) (sl:=#[]) ?_
 have:=Heap.get?_push_size (s.heap.push { cls:=.type "tuple",data:=.seq us.toArray }) (o:=L2.newExc C s.heap.objs.size) rfl
 rwa [Heap.size_push] at this
theorem vE (M:A4 X.K C) (c:eI X.K C) (hi:findIn X.K (.ref C) "__init__"=some (some (.ref fi))) (fn:isFn X.K (.ref fi)=true) (hf:findIn X.K (.ref C) f=some none) (F:cV X.prog X.w X.K X.mg X.base aG k fi fd ["self",p] (oM X.K f)) (hr:bR (k+1) X.A) (hg:Gl X x)
  (hm:X.mg x=some (.ref C)) (hb:Binds X.K fd ["self",p] []) (ha:PA X [e] t) (hdb:(x==("__debug__":Str))=false:=by decide) (he:starEach [e] X.env=(false,eval e X.env)::starEach [] X.env:=by rfl) (hpl:(backTo pos (starEach [] X.env)).any (·.1)=false:=by rfl) :
  PE X (.Call (.Name x np) [e] [] pos) (Dk C f t):=by
 intro pins s σ H Q I h
 refine wpAny_Call_Name_kw (iZ I hg hm ?_ hdb)
 refine PySem.W.callWith_K (h₀:=X.base) I.ok.mod.kin M.kp (bc (ha pos pins s σ H _ I h) λus s1 ⟨vs,H1,I1,r,q⟩=>⟨I1.fL,?_⟩) he hpl
 obtain⟨v,rfl,q⟩:=q
 obtain⟨u,rfl,ru⟩:=vals1 r
 obtain⟨nm,qn,Nn,bs,bm,hdct,sn,sub,ab,col,dd,k0,k1,k2,k3,k5,hk,hB,hA,hN⟩:=M.obj
 have I2:=Inv.newExc (C:=C) I1 [u]
 have n1:H1 (s1.heap.objs.size+1)=none:=I1.hok.fresh (Nat.le_succ _)
 have r2:Vals [V.ref (s1.heap.objs.size+1),v] [Value.ref (s1.heap.objs.size+1),u]:=.cons rfl (.cons ru .nil)
 have hq:oM X.K f [V.ref (s1.heap.objs.size+1),v] (upd H1 (s1.heap.objs.size+1) (XN (s1.heap.objs.size+1) C none)) (λz H3=>z=.non/\Q (.ref (s1.heap.objs.size+1)) H3) E0 :=
  ⟨_,C,v,rfl,ag,c,hf,λdx hd hne=>⟨rfl,q _ dx n1 (by rw [au hne] at hd;exact hd) hne⟩⟩
 obtain⟨hh,g,d,tk,os⟩:=s1
 refine pX (K:=X.K) I1.fL hB hA hN (I1.fL _ _ hk) (by show 1<=sizeLine;decide) hi (bind_fn I1.fL _ (beq_iff_eq.mp fn)) ?_
 refine codeAny_mono (F.run _ X.stack _ _ ⟨[Value.ref (hh.objs.size+1),u],[]⟩ [Value.ref (hh.objs.size+1),u] _ _ E0 (hr.make C [u] []) (I2.B9.make C [u] []) (by have:=hb _ [Value.ref (hh.objs.size+1),u] I2.fL rfl;rwa [List.append_nil] at this) r2 hq) λr s' hq'=>?_
 cases r with
 | error e=>exact False.elim hq'
 | ok fl =>
  cases fl with
  | ret u' =>
   obtain⟨v',H',I3,rv,ev,q3⟩:=I2.after hq'
   subst ev
   exact⟨rv,⟨V.ref (hh.objs.size+1),H',I3,rfl,q3⟩⟩
  | next=>exact False.elim hq'
  | brk=>exact False.elim hq'
  | cont=>exact False.elim hq'
theorem vD (M:A4 X.K C) (hi:findIn X.K (.ref C) "__init__"=some (some (.builtin "ValueError.__init__"))) (hg:Gl X x) (hm:X.mg x=some (.ref C)) (hdb:(x==("__debug__":Str))=false:=by decide) :
  PE X (.Call (.Name x np) [] [] pos) (Dj C):=by
 intro pins s σ H Q I h
 refine wpAny_Call_Name_kw (iZ I hg hm ?_ hdb)
 refine PySem.W.callWith_K0 I.fL M.kp ?_
 obtain⟨nm,qn,Nn,bs,bm,hdct,sn,sub,ab,col,dd,k0,k1,k2,k3,k5,hk,hB,hA,hN⟩:=M.obj
 have I2:=Inv.newExc (C:=C) I []
 have n1:H (s.heap.objs.size+1)=none:=I.hok.fresh (Nat.le_succ _)
 have Fn:=PySem.F.excBase_ValueError
 obtain⟨hh,g,d,tk,os⟩:=s
 have hC:=I.fL _ _ hk
 refine pX (K:=X.K) I.fL hB hA hN hC (by show 0<=sizeLine;decide) hi (j:=.builtin "ValueError.__init__") (Looks.of_pure (Fn.init.bind _)) ?_
 have hC2:((hh.push { cls:=.type "tuple",data:=.seq ([]:List Value).toArray }).push (L2.newExc C hh.objs.size)).get? C=some _:=Heap.get?_push_of_some _ (Heap.get?_push_of_some _ hC)
 have he2:((hh.push { cls:=.type "tuple",data:=.seq ([]:List Value).toArray }).push (L2.newExc C hh.objs.size)).get? (hh.objs.size+1)=some (L2.newExc C hh.objs.size):=by
  have:=Heap.get?_push_size (hh.push { cls:=.type "tuple",data:=.seq ([]:List Value).toArray }) (o:=L2.newExc C hh.objs.size) rfl
  rwa [Heap.size_push] at this
 refine uQ hB hC2 he2 λh' g1 g3=>⟨rfl,.ref (hh.objs.size+1),_,?_,rfl,h _ n1⟩
 have e:upd (upd H (hh.objs.size+1) (XN (hh.objs.size+1) C none)) (hh.objs.size+1) (XN (hh.objs.size+1) C none)=upd H (hh.objs.size+1) (XN (hh.objs.size+1) C none):=by
  funext b
  by_cases z:b=hh.objs.size+1
  ·rw [z,ag,ag]
  ·rw [au z]
 have W:=I2.write (x:=hh.objs.size+1) (e:=hh.objs.size+1) (o:=XN (hh.objs.size+1) C none) (h':=h') (t':=tk) (by rw [ag];exact True.intro) (.inl rfl) (λb u hb q=>g3 b u hb q) ⟨_,g1⟩ (XN.ok g1)
 rw [e] at W
 exact W
end
def FR (H:Hp) (x C:Addr) (dd:Option Addr):Prop:=H x=some (XO x C dd)∨H x=some (XN x C dd)
def F0 (K:PySem.W.Frag) (ta:TE) (f:Str):TE:=λσ H Q=>ta σ H λxv H1=>∃ x C dx fs v,xv=.ref x/\FR H1 x C (some dx)/\eI K C/\findIn K (.ref C) f=some none/\H1 dx=some (.xd fs)/\fs.lookup f=some v/\Q v H1
section
variable {X:Cx} {e:Expr} {f:Str} {pos:Pos} {ta:TE}
end
section
variable {prog:Program} {w:World} {A:Around} {E:Value->Shared->Prop} {K:PySem.W.Frag} {h:Heap} {g:Array GenState} {d:Drawn} {t:Nat} {os:OsState} {x C B:Addr}
theorem eI.base (c:eI K C):mroIn K C (.type "BaseException")=some true:=by
 obtain⟨cd,hc,hm,_⟩:=c.cls
 obtain⟨m1,m2,m3⟩:=nQ hm
 unfold mroIn
 rw [hc,Option.bind_some,if_neg (by rw [m3];decide),m2]
end
section
variable {M:Model} {A:Around} {E:Value->Shared->Prop} {s:Shared}
end
section
variable {X:Cx} {pins:List (Addr × Obj)} {σ:St} {H:Hp} {s:Shared} {M:Model} {A:Around} {E:Value->Shared->Prop}
end
section
variable {X:Cx} {pins:List (Addr × Obj)} {σ:St} {H:Hp} {s:Shared} {x:Addr}
def zO (n:Option Nat) (x:Addr) (σ:St):St:=match n with | some i=>σ.set i (some (.ref x)) | none=>σ
def tG (n:Option Nat) (D:Ends):Ends:=match n with
 | some i=>{ nx:=λσ H=>D.nx (σ.set i none) H,rt:=D.rt,bk:=λσ H=>D.bk (σ.set i none) H,ct:=λσ H=>D.ct (σ.set i none) H }
 | none=>D
end
def FA (K:PySem.W.Frag) (B:Addr) (n:Option Nat) (sp:Sp) (ta:TA) (put:V->St->St) (ts:TS):TS:=λD σ H=>ta σ H λvs H1=>sp vs H1 (λv H2=>D.nx (put v σ) H2)
 (λcv xo H2=>∃ C x dd,cv=.ref C/\xo=some x/\H2 x=some (XO x C dd)/\eI K C/\mroIn K C (.ref B)=some true/\ts (tG n D) (zO n x σ) H2)
section
variable {X:Cx} {B:Addr} {n:Option Nat} {hd:ExceptHandler} {ts:TS}
variable {k:Nat} {f:Str} {ps:List Str} {sp:Sp} {e:Expr} {es:List Expr} {t:TA} {p cpos epos pos:Pos}
end
section
variable {P:Program} {w:World} {K:PySem.W.Frag} {mg:Str->Option Value} {base:Heap} {k:Nat} {x:Str} {ps:List Str} {sp:Sp}
theorem rK {st:Stmt} {N:List Str} (D:ar K mg x st)
  (hb:∀(kV doc pm:Value) (an:Option Addr) (cdv ct:Value) (us:List Value),us.length=ps.length->bindArgs (PySem.W.fnOf x x (bw st) (aP st) (aj st) .none kV doc pm an cdv ct) ⟨us,[]⟩=pure (ps.zip us))
  (S:aw N ps (aj st)) (len:∀ vs H Q E,sp vs H Q E->vs.length=ps.length)
  (hbody:∀(f:Addr) (cdv:Value) (A:Around) (outer:List Env) (s:Shared) (H:Hp) (vs:List V) (Q:VK) (E:XK),bR k (A.deeper (envOfC x (aj st) s.heap.objs.size f cdv))->sp vs H Q E ->
   ∃ t,gK (eV (dh P w) P w K mg base N x (aj st) f cdv A outer s H E) (aP st) t/\t { nx:=λ_ H'=>Q .non H',rt:=Q } (start N vs) H):Callee P w K mg base (dh P w) (k+1) x ps sp:=by
 obtain⟨f,fd,F,hm⟩:=D
 obtain⟨oc,od,kV,doc,pm,an,cdv,ct,osl,rfl,lk,hcd⟩:=F.ex
 exact⟨f,_,wG lk hcd S len λA outer s H vs Q E hr h=>hbody f cdv A outer s H vs Q E hr h,hm,F.kp,F.binds hb⟩
theorem Callee.any {CX:kE} (C:Callee P w K mg base aG k x ps sp):Callee P w K mg base CX k x ps sp:=by
 obtain⟨f,fd,F,a,b,c⟩:=C.ex
 exact⟨f,fd,F.any,a,b,c⟩
end
theorem zP {P:Program} {w:World} {K:PySem.W.Frag} {mg:Str->Option Value} {base:Heap} {qual f p:Str} {st:Stmt} {fi:Addr} {fd:FuncData} {p1 p2 p3 p4:Pos} (F:vZ K "__init__" qual st fi fd) (S:aw ["self",p] ["self",p] (aj st))
  (hb:aP st=[.Assign [.Attribute (.Name "self" p1) f p2] (.Name p p3) p4]) (h1:(aj st).names.lookup ("self":Str)=some .local) (h2:(aj st).names.lookup p=some .local) (hd:(p==("__debug__":Str))=false) (hcd:(p==("__classdict__":Str))=false)
  (ab:∀ env:Env,attributeBase (.Name "self" p1) f env (eval (.Name "self" p1) env)=eval (.Name "self" p1) env) (sw:∀ env:Env,swapsWith (.Name p p3) (some (.Attribute (.Name "self" p1) f p2)) p4.line env=pure false):cV P w K mg base aG 1 fi fd ["self",p] (oM K f):=by
 refine F.ok S (λvs H Q E h=>?_) (λcdv A outer s H vs Q E hr h=>?_)
 ·obtain⟨x,C,v,rfl,_⟩:=h
  rfl
 ·obtain⟨x,C,v,rfl,hx,c,hf,q⟩:=h
  rw [hb]
  refine⟨_,ai (Aw (sD (i:=0) rfl (.inl h1) (by decide) (by decide)) (sD (i:=1) rfl (.inl h2) hd hcd) (sw _)),?_⟩
  exact⟨v,rfl,.ref x,rfl,x,C,rfl,hx,c,hf,λdx n ne=>q dx n ne⟩
structure nL (P:Program) (w:World) (K:PySem.W.Frag) (mg:Str->Option Value) (base:Heap) (x:Str) (C:Addr) (f:Str):Prop where
 mkd:A4 K C
 cls:eI K C
 at_:mg x=some (.ref C)
 nof:findIn K (.ref C) f=some none
 ex:∃ fi fd p,findIn K (.ref C) "__init__"=some (some (.ref fi))/\isFn K (.ref fi)=true/\cV P w K mg base aG 1 fi fd ["self",p] (oM K f)/\Binds K fd ["self",p] []
structure rF (K:PySem.W.Frag) (mg:Str->Option Value) (x:Str) (C:Addr):Prop where
 mkd:A4 K C
 cls:eI K C
 at_:mg x=some (.ref C)
 ini:findIn K (.ref C) "__init__"=some (some (.builtin "ValueError.__init__"))
section
variable {X:Cx} {C:Addr} {f x:Str} {pos np:Pos} {e:Expr} {t:TA}
theorem jM (c:nL X.prog X.w X.K X.mg X.base x C f) (hr:bR 2 X.A) (hg:Gl X x) (ha:PA X [e] t) (hdb:(x==("__debug__":Str))=false:=by decide)
  (he:starEach [e] X.env=(false,eval e X.env)::starEach [] X.env:=by rfl) (hpl:(backTo pos (starEach [] X.env)).any (·.1)=false:=by rfl):PE X (.Call (.Name x np) [e] [] pos) (Dk C f t):=by
 obtain⟨fi,fd,p,hi,fn,F,hb⟩:=c.ex
 exact vE c.mkd c.cls hi fn c.nof F hr hg c.at_ hb ha hdb he hpl
theorem lH (c:rF X.K X.mg x C) (hg:Gl X x) (hdb:(x==("__debug__":Str))=false:=by decide):PE X (.Call (.Name x np) [] [] pos) (Dj C):=vD c.mkd c.ini hg c.at_ hdb
end
inductive BP (K:PySem.W.Frag) (H:Hp):Nat->V->V->Bool->Prop
 | flat {d:Nat} {y x:V}:Bc y=true->Bc x=true->BP K H d y x (FU y x)
 | same {d:Nat} {p:Addr}:BP K H d (.ref p) (.ref p) true
 | lists {d:Nat} {p q:Addr} {xs ys:List V} {e:Nat->Bool}:p≠q->aO K H p xs->aO K H q ys->xs.length=ys.length->(∀ j y x,xs[j]?=some y->ys[j]?=some x->BP K H d y x (e j))->BP K H (d+1) (.ref p) (.ref q) ((List.range xs.length).all e)
 | unlike {d:Nat} {p q:Addr} {xs ys:List V}:p≠q->aO K H p xs->aO K H q ys->xs.length≠ys.length->BP K H (d+1) (.ref p) (.ref q) false
 | tups {d:Nat} {p q:Addr} {xs ys:List V} {e:Nat->Bool}:p≠q->bG K H p xs->bG K H q ys->(∀ j y x,xs[j]?=some y->ys[j]?=some x->BP K H d y x (e j))->BP K H (d+1) (.ref p) (.ref q) ((List.range (min xs.length ys.length)).all e && xs.length==ys.length)
section
variable {X:Cx} {pins:List (Addr × Obj)} {σ:St} {H:Hp} {s:Shared}
theorem Vals.at {xs:List V} {us:List Value} (r:Vals xs us):∀{j:Nat} {u:Value},us[j]?=some u->∃ x,xs[j]?=some x/\RelV x u:=by
 induction r with
 | nil=>intro j u h;simp at h
 | cons r t ih =>
  intro j u h
  cases j with
  | zero=>simp only [List.getElem?_cons_zero,Option.some.injEq] at h;subst h;exact⟨_,rfl,r⟩
  | succ j=>simp only [List.getElem?_cons_succ] at h ⊢;exact ih h
theorem Vals.len {xs:List V} {us:List Value} (r:Vals xs us):us.length=xs.length:=by
 induction r with
 | nil=>rfl
 | cons r t ih=>simp only [List.length_cons,ih]
end
theorem b7 {A B:Prop} (a:A) (f:A->B):B:=f a
section
variable {K:PySem.W.Frag} {mg:Str->Option Value} {h:Heap} {x f p qual:Str} {C D fi N:Addr}
section
variable {nm q:Str} {bs bm:List Value} {hdct ab:Bool} {sn:Option Str} {od:Option Addr} {cd:ClassData} {sl:Array (Option Value)}
theorem Dr {o:Obj} (l:K.lookup C=some o) (ob:∃ nm q N bs bm hdct sn sub ab col dd k0 k1 k2 k3 k5,o=excClassObj nm q C N bs bm hdct sn sub ab col dd k0 k1 k2 k3 k5 mr/\bm.contains (.type "ValueError")=true/\bm.contains (.type "AttributeError")=false/\bm.contains (.type "NameError")=false) (kp:keepIn K (.ref C)=true):A4 K C:=by
 obtain⟨nm,q,N,bs,bm,hdct,sn,sub,ab,col,dd,k0,k1,k2,k3,k5,e,r⟩:=ob
 subst e
 exact⟨⟨nm,q,N,bs,bm,hdct,sn,sub,ab,col,dd,k0,k1,k2,k3,k5,l,r⟩,kp⟩
theorem AY (l:K.lookup C=some ⟨.type "type",od,.cls cd,sl⟩) (h2:cw cd.mro=true) (h3:cd.hasDict=true)
  (sa:findIn K (.ref C) "__setattr__"=some (some (.builtin "object.__setattr__"))) (ga:findIn K (.ref C) "__getattribute__"=some (some (.builtin "BaseException.__getattribute__"))) (gx:findIn K (.ref C) "__getattr__"=some none)
  (ca:findIn K (.ref C) "__class__"=some (some (.builtin "object.__class__"))) (gs:specialIn K (.builtin "object.__class__") "__get__"=some (some (.builtin "getset_descriptor.__get__"))) (tk:takesIn K (.builtin "object.__class__")=some true):L2.eI K C :=
 ⟨⟨cd,by unfold clsIn;rw [l],h2,h3⟩,⟨_,_,_,l⟩,sa,ga,gx,ca,gs,tk⟩
theorem kW (a:mg x=some (.ref C)) (M:A4 K C) (c:eI K C) (ini:findIn K (.ref C) "__init__"=some (some (.builtin "ValueError.__init__"))):rF K mg x C:=⟨M,c,a,ini⟩
structure kY (qual f p:Str) (st:Stmt):Prop where
 S:aw ["self",p] ["self",p] (aj st)
 hb:∃ p1 p2 p3 p4,aP st=[.Assign [.Attribute (.Name "self" p1) f p2] (.Name p p3) p4]/\(∀ env:Env,attributeBase (.Name "self" p1) f env (eval (.Name "self" p1) env)=eval (.Name "self" p1) env)/\(∀ env:Env,swapsWith (.Name p p3) (some (.Attribute (.Name "self" p1) f p2)) p4.line env=pure false)
 h1:(aj st).names.lookup ("self":Str)=some .local
 h2:(aj st).names.lookup p=some .local
 hd:(p==("__debug__":Str))=false
 hcd:(p==("__classdict__":Str))=false
 bd:∀(kV doc pm:Value) (an:Option Addr) (cdv ct:Value) (us:List Value),us.length=2->bindArgs (PySem.W.fnOf "__init__" qual (bw st) (aP st) (aj st) .none kV doc pm an cdv ct) ⟨us,[]⟩=pure ((["self",p]:List Str).zip us)
theorem kX {st:Stmt} {oc:Value} {od an:Option Addr} {osl:Array (Option Value)} {kV doc pm cdv ct:Value} (I:kY qual f p st) (a:mg x=some (.ref C)) (M:A4 K C) (c:eI K C) (nof:findIn K (.ref C) f=some none)
  (ini:findIn K (.ref C) "__init__"=some (some (.ref fi))) (fn:isFn K (.ref fi)=true) (l:K.lookup fi=some ⟨oc,od,.func (PySem.W.fnOf "__init__" qual (bw st) (aP st) (aj st) .none kV doc pm an cdv ct),osl⟩) (cc:codeIn K cdv qual=true) (kk:keepIn K (.ref fi)=true) :
  ∀(P:Program) (w:World) (base:Heap),nL P w K mg base x C f:=λP w base=>by
 obtain⟨p1,p2,p3,p4,hb,ab,sw⟩:=I.hb
 have F:=rQ l cc kk
 exact⟨M,c,a,nof,fi,_,p,ini,fn,zP F I.S hb I.h1 I.h2 I.hd I.hcd ab sw,F.binds I.bd⟩
end
theorem eU {od:Option Addr} {cd:ClassData} {sl:Array (Option Value)} (_:K.In h) (_:mg x=some (.ref C)) (l:K.lookup C=some ⟨.type "type",od,.cls cd,sl⟩) (h2:cw cd.mro=true) (h3:cd.hasDict=true)
  (sa:findIn K (.ref C) "__setattr__"=some (some (.builtin "object.__setattr__"))) (ga:findIn K (.ref C) "__getattribute__"=some (some (.builtin "BaseException.__getattribute__"))) (gx:findIn K (.ref C) "__getattr__"=some none)
  (ca:findIn K (.ref C) "__class__"=some (some (.builtin "object.__class__"))) (gs:specialIn K (.builtin "object.__class__") "__get__"=some (some (.builtin "getset_descriptor.__get__"))) (tk:takesIn K (.builtin "object.__class__")=some true)
  (ob:∃ nm q N bs bm hdct sn sub ab col dd k0 k1 k2 k3 k5,(⟨.type "type",od,.cls cd,sl⟩:Obj)=excClassObj nm q C N bs bm hdct sn sub ab col dd k0 k1 k2 k3 k5 mr/\bm.contains (.type "ValueError")=true/\bm.contains (.type "AttributeError")=false/\bm.contains (.type "NameError")=false) (kp:keepIn K (.ref C)=true):eI K C/\A4 K C :=
 ⟨AY l h2 h3 sa ga gx ca gs tk,Dr l ob kp⟩
end
end L2
namespace Pw
theorem lI (x n:Int):∀ k:Nat,(x%n)^k%n=x^k%n
 | 0=>by rw [Int.pow_zero,Int.pow_zero]
 | k+1=>by rw [Int.pow_succ,Int.pow_succ,Int.mul_emod,lI x n k,Int.emod_emod,<- Int.mul_emod]
theorem yJ (b:Int):∀ k:Nat,(b*b)^k=b^(2*k)
 | 0=>by rw [Nat.mul_zero,Int.pow_zero,Int.pow_zero]
 | k+1=>by
  rw [Int.pow_succ,yJ b k,Nat.mul_add,Nat.mul_one,Int.pow_succ,Int.pow_succ,Int.mul_assoc]
theorem Bp (x y n:Int):x%n*y%n=x*y%n:=by rw [Int.mul_emod,Int.emod_emod,<- Int.mul_emod]
theorem Bo {x x' y y' n:Int} (h:x%n=x'%n) (h':y%n=y'%n):x*y%n=x'*y'%n:=by rw [Int.mul_emod,h,h',<- Int.mul_emod]
theorem step (r b n:Int) (l:Nat):(if l%2=1 then r*b%n else r)*(b*b%n)^(l/2)%n=r*b^l%n:=by
 have e:(b*b%n)^(l/2)%n=b^(2*(l/2))%n:=by rw [lI,yJ]
 by_cases c:l%2=1
 ·rw [if_pos c]
  have h:l=2*(l/2)+1:=by omega
  have e2:b^l=b^(2*(l/2))*b:=by rw [<- Int.pow_succ];exact congrArg _ h
  rw [Bo (Int.emod_emod_of_dvd (r*b) (Int.dvd_refl n)) e,e2]
  congr 1
  rw [Int.mul_assoc,Int.mul_comm b]
 ·rw [if_neg c]
  have h:l=2*(l/2):=by omega
  rw [Bo (rfl:r%n=r%n) e,<- h]
theorem pow_add (a:Int) (m:Nat):∀ k:Nat,a^(m+k)=a^m*a^k
 | 0=>by rw [Nat.add_zero,Int.pow_zero,Int.mul_one]
 | k+1=>by rw [<- Nat.add_assoc,Int.pow_succ,pow_add a m k,Int.pow_succ,Int.mul_assoc]
theorem mul_pow (a b:Int):∀ k:Nat,(a*b)^k=a^k*b^k
 | 0=>by rw [Int.pow_zero,Int.pow_zero,Int.pow_zero,Int.mul_one]
 | k+1=>by
  rw [Int.pow_succ,Int.pow_succ,Int.pow_succ,mul_pow a b k]
  grind
theorem pow_mul (a:Int) (m:Nat):∀ k:Nat,a^(m*k)=(a^m)^k
 | 0=>by rw [Nat.mul_zero,Int.pow_zero,Int.pow_zero]
 | k+1=>by rw [Nat.mul_add,Nat.mul_one,pow_add,pow_mul a m k,Int.pow_succ]
theorem one_pow:∀ k:Nat,(1:Int)^k=1
 | 0=>Int.pow_zero 1
 | k+1=>by rw [Int.pow_succ,one_pow k,Int.mul_one]
theorem BY {n x y:Int}:x%n=y%n↔n∣x-y:=by
 rw [Int.emod_eq_emod_iff_emod_sub_eq_zero,Int.dvd_iff_emod_eq_zero]
end Pw
namespace L2
open PySem PySem.Spec PyProof.Rows
end L2
namespace L2
open PySem PySem.Spec PyProof.Rows PySem.W
theorem Vals.rev:∀{xs:List V} {us:List Value},Vals xs us->Vals xs.reverse us.reverse
 | [],[],_=>.nil
 | x::xs,u::us,.cons r t=>by
  rw [List.reverse_cons,List.reverse_cons]
  exact (Vals.rev t).append (.cons r .nil)
def EG (K:PySem.W.Frag) (te:TE) (tk:TO):TE:=λσ H Q=>te σ H λx H1=>tk σ H1 λo H2=>o=some (-1)/\∃ a xs,x=.ref a/\aO K H2 a xs/\∀ p,H2 p=none->Q (.ref p) (upd H2 p (.lst xs.reverse))
section
variable {X:Cx} {e k:Expr} {te:TE} {tk:TO} {p2 pos:Pos}
theorem CW (he:PE X e te) (hk:PO X (some k) tk)
  (hs:∀ a b:Addr,∃ ops,subscripted (.Slice none none (some k) p2) false (.ref a) (.ref b)=operate ops (getItem (.ref a) (.ref b)):=by intro a b;exact⟨_,by with_unfolding_all rfl⟩):PE X (.Subscript e (.Slice none none (some k) p2) pos) (EG X.K te tk):=by
 intro pins s σ H Q I h
 refine Subscript_ (bc (he pins s σ H _ I h) λv s1 ⟨x,H1,I1,r1,q1⟩=>?_)
 refine wpAny_Slice ?_
 rw [evalPart_none]
 refine wpAny_pure (wpAny_pure ?_)
 refine bc (hk pins s1 σ H1 _ I1 q1) λvk s3 ⟨o,H3,I3,pk,eo,a,xs,ex,hx,q3⟩=>?_
 subst eo
 subst ex
 cases r1
 have I4:Inv X pins σ H3 { s3 with heap:=s3.heap.push { cls:=.type "slice",data:=.fields #[.none,.none,vk] } }:=I3.kept (t':=s3.toks) λb ob q=>Heap.get?_push_of_some _ q
 obtain⟨its,r,ht,hz⟩:=I4.list hx
 have hlen:=r.length
 show wpAny (model X.prog X.w) X.A (subscriptTail e (.Slice none none (some k) p2) (.ref a) (.ref s3.heap.objs.size)) (EP X pins σ Q) X.xe { s3 with heap:=s3.heap.push { cls:=.type "slice",data:=.fields #[.none,.none,vk] } }
 obtain⟨ops,hops⟩:=hs a s3.heap.objs.size
 refine tail_any (ops:=ops) ht.isList.typeIs slot_list_getitem.lookup ?_ hops
 refine wpAny_getItem_list_slice ht.isList (Heap.IsSliceOf.new ..) .none .none pk (by simp) ?_ (by rw [List.size_toArray]<;>omega)
 rw [krv_pick]
 refine⟨.ref _,_,I4.laid (t':=s3.toks) (o:=.lst xs.reverse) (λb ob q=>Heap.get?_push_of_some _ q) (Nat.le_refl _) ?_,rfl,q3 _ (I4.hok.fresh (Nat.le_refl _))⟩
 exact⟨by rw [List.length_reverse];exact hz,_,0,r.rev,Heap.get?_push_size _ rfl⟩
end
mutual
def dv (K:PySem.W.Frag) (H:Hp):PyData->V->Prop
 | .none,v=>v=.non
 | .bool b,v=>v=.bl b
 | .int i,v=>v=.int i
 | .str x,v=>v=.str x
 | .list ds,v=>∃ p xs,v=.ref p/\aO K H p xs/\aQ K H ds xs
 | .tuple ds,v=>∃ p xs,v=.ref p/\bG K H p xs/\aQ K H ds xs
 | .dict _,_=>False
def aQ (K:PySem.W.Frag) (H:Hp):List PyData->List V->Prop
 | [],xs=>xs=[]
 | d::ds,xs=>∃ x r,xs=x::r/\dv K H d x/\aQ K H ds r
end
section
variable {K:PySem.W.Frag} {H H':Hp}
theorem Rd.same {a:Addr} {o:HO} (h:Rd H a o) (s:aA H H'):Rd H' a o:=by
 rcases h with h | ⟨b,h⟩
 ·exact .inl (s _ _ h)
 ·exact .inr ⟨b,s _ _ h⟩
theorem aO.same {a:Addr} {xs:List V} (h:aO K H a xs) (s:aA H H'):aO K H' a xs:=h.imp (λz=>z.same s) id
theorem bG.same {a:Addr} {xs:List V} (h:bG K H a xs) (s:aA H H'):bG K H' a xs:=h.imp (λz=>z.same s) id
mutual
theorem dv.same (s:aA H H'):∀(d:PyData) {v:V},dv K H d v->dv K H' d v
 | .none,_,h=>h
 | .bool _,_,h=>h
 | .int _,_,h=>h
 | .str _,_,h=>h
 | .list ds,_,⟨p,xs,e,h,t⟩=>⟨p,xs,e,h.same s,aQ.same s ds t⟩
 | .tuple ds,_,⟨p,xs,e,h,t⟩=>⟨p,xs,e,h.same s,aQ.same s ds t⟩
 | .dict _,_,h=>h.elim
theorem aQ.same (s:aA H H'):∀(ds:List PyData) {xs:List V},aQ K H ds xs->aQ K H' ds xs
 | [],_,h=>h
 | d::ds,_,⟨x,r,e,h,t⟩=>⟨x,r,e,dv.same s d h,aQ.same s ds t⟩
end
theorem aQ.length:∀{ds:List PyData} {xs:List V},aQ K H ds xs->xs.length=ds.length
 | [],_,h=>by cases h;rfl
 | d::ds,_,⟨x,r,e,h,t⟩=>by subst e;rw [List.length_cons,List.length_cons,aQ.length t]
theorem aQ.get:∀{ds:List PyData} {xs:List V},aQ K H ds xs->∀{i:Nat} {x:V},xs[i]?=some x->∃ d,ds[i]?=some d/\dv K H d x
 | [],_,h,i,x,e=>by cases h;simp at e
 | d::ds,_,⟨y,r,ey,h,t⟩,0,x,e=>by subst ey;simp at e;subst e;exact⟨d,rfl,h⟩
 | d::ds,_,⟨y,r,ey,h,t⟩,i+1,x,e=>by subst ey;simp at e;simpa using aQ.get t e
theorem aQ.append:∀{ds es:List PyData} {xs ys:List V},aQ K H ds xs->aQ K H es ys->aQ K H (ds++es) (xs++ys)
 | [],_,_,_,h,h'=>by cases h;exact h'
 | d::ds,_,_,_,⟨x,r,e,h,t⟩,h'=>by subst e;exact⟨x,_,rfl,h,t.append h'⟩
theorem aQ.one {d:PyData} {x:V} (h:dv K H d x):aQ K H [d] [x]:=⟨x,[],rfl,h,rfl⟩
theorem aQ.ints:∀ ns:List Int,aQ K H (ns.map PyData.int) (ns.map V.int)
 | []=>rfl
 | n::ns=>⟨_,_,rfl,rfl,aQ.ints ns⟩
theorem dv.lst {p:Addr} {xs:List V} {ds:List PyData} (h:H p=some (.lst xs)) (t:aQ K H ds xs):dv K H (.list ds) (.ref p):=⟨p,xs,rfl,aO.of h,t⟩
theorem dv.tup {p:Addr} {xs:List V} {ds:List PyData} (h:H p=some (.tup xs)) (t:aQ K H ds xs):dv K H (.tuple ds) (.ref p):=⟨p,xs,rfl,bG.of h,t⟩
mutual
def qj:PyData->Bool
 | .list _=>false
 | .tuple ds=>fC ds
 | _=>true
def fC:List PyData->Bool
 | []=>true
 | d::ds=>qj d && fC ds
end
def SameBut (p:Addr) (H H':Hp):Prop:=∀ b o,b≠p->H b=some o->H' b=some o
theorem bG.but {p a:Addr} {us xs:List V} (hp:H p=some (.lst us)) (s:SameBut p H H') (h:bG K H a xs):bG K H' a xs:=by
 rcases h with (h | ⟨o,h⟩) | h
 ·exact .inl (.inl (s _ _ (λe=>by rw [e,hp] at h;cases h) h))
 ·exact .inl (.inr ⟨o,s _ _ (λe=>by rw [e,hp] at h;cases h) h⟩)
 ·exact .inr h
mutual
theorem dv.but {p:Addr} {us:List V} (hp:H p=some (.lst us)) (s:SameBut p H H'):∀(d:PyData) {v:V},qj d=true->dv K H d v->dv K H' d v
 | .none,_,_,h=>h
 | .bool _,_,_,h=>h
 | .int _,_,_,h=>h
 | .str _,_,_,h=>h
 | .list ds,_,z,_=>by cases z
 | .tuple ds,_,z,⟨q,xs,e,h,t⟩=>⟨q,xs,e,h.but hp s,aQ.but hp s ds z t⟩
 | .dict _,_,_,h=>h.elim
theorem aQ.but {p:Addr} {us:List V} (hp:H p=some (.lst us)) (s:SameBut p H H'):∀(ds:List PyData) {xs:List V},fC ds=true->aQ K H ds xs->aQ K H' ds xs
 | [],_,_,h=>h
 | d::ds,_,z,⟨x,r,e,h,t⟩=>by
  have z':qj d=true/\fC ds=true:=by simpa [fC] using z
  exact⟨x,r,e,dv.but hp s d z'.1 h,aQ.but hp s ds z'.2 t⟩
end
theorem i4 {α:Type} {f:α->PyData} (h:∀ x,qj (f x)=true):∀ xs:List α,fC (xs.map f)=true
 | []=>rfl
 | x::xs=>by rw [List.map_cons,fC,h,i4 h xs];rfl
end
section
variable {X:Cx} {pins:List (Addr × Obj)} {σ:St} {H:Hp} {s:Shared}
mutual
theorem lM (I:Inv X pins σ H s):∀(d:PyData) {v:V} {u:Value},dv X.K H d v->RelV v u->∃ as,Reads s.heap u d as
 | .none,_,u,h,r=>by cases h;cases r;exact⟨_,.none⟩
 | .bool _,_,u,h,r=>by cases h;cases r;exact⟨_,.bool _⟩
 | .int _,_,u,h,r=>by cases h;obtain⟨t,rfl⟩:=r;exact⟨_,.int _ _⟩
 | .str _,_,u,h,r=>by cases h;obtain⟨t,rfl⟩:=r;exact⟨_,.str _ _⟩
 | .list ds,_,u,⟨p,xs,e,h,t⟩,r=>by
  subst e
  cases r
  obtain⟨its,rr,pl,_⟩:=I.list h
  obtain⟨o,h1,h2,n,h3⟩:=pl.isList
  obtain⟨as,ra⟩:=gq I ds t rr
  exact⟨_,.list h1 h2 h3 (by simpa using ra)⟩
 | .tuple ds,_,u,⟨p,xs,e,h,t⟩,r=>by
  subst e
  cases r
  obtain⟨its,rr,pl,_⟩:=I.tuple h
  obtain⟨o,h1,h2,n,h3⟩:=pl
  obtain⟨as,ra⟩:=gq I ds t rr
  exact⟨_,.tuple h1 h2 h3 (by simpa using ra)⟩
 | .dict _,_,_,h,_=>h.elim
theorem gq (I:Inv X pins σ H s):∀(ds:List PyData) {xs:List V} {us:List Value},aQ X.K H ds xs->Vals xs us->∃ as,ReadsAll s.heap us ds as
 | [],_,us,h,r=>by cases h;cases r;exact⟨_,.nil⟩
 | d::ds,_,us,⟨x,r,e,h,t⟩,rr=>by
  subst e
  cases rr with
  | cons r1 r2 =>
   obtain⟨a1,q1⟩:=lM I d h r1
   obtain⟨a2,q2⟩:=gq I ds t r2
   exact⟨_,.cons q1 q2⟩
end
def Ee (K:PySem.W.Frag) (neg:Bool):R2:=λy x H Q=>∃ d e,dv K H d y/\dv K H e x/\d.canLay0=true/\e.canLay0=true/\min d.depth e.depth<=60/\Q (.bl (if neg then !PyData.eqv d e else PyData.eqv d e)) H
theorem xS (hu:X.A.units+64<cLine):iL X (compareOp .Eq) (Ee X.K false):=by
 intro pins s σ H y x u v Q I ry rx h
 obtain⟨d,e,hd,he,c1,c2,c3,q⟩:=h
 obtain⟨as,ra⟩:=lM I d hd ry
 obtain⟨bs,rb⟩:=lM I e he rx
 exact SeqAt.compareEq_reads ra rb c1 c2 (by omega) ⟨.bl _,H,I,rfl,q⟩
end
end L2
namespace Pw
def lst (xs:List Nat):Nat:=xs.getLast?.getD 0
end Pw
namespace L2
open PySem PySem.Spec PyProof.Rows PySem.W
def Ds (C:Addr) (H:Hp) (E:XK):Prop:=∀ x H',aA H H'->H x=none->H' x=some (XO x C none)->E (.ref C) (some x) H'
def zh (C:Addr) (f:Str) (v:V) (H:Hp) (E:XK):Prop:=∀ x dx H',aA H H'->H x=none->H' x=some (XO x C (some dx))->H' dx=some (.xd [(f,v)])->E (.ref C) (some x) H'
theorem dU {K:PySem.W.Frag} {C x:Addr} {H H1:Hp} {E:XK} (c:eI K C) (hs:aA H H1) (hx:H1 x=none) (e:Ds C H E) :
  ∃(C':Addr) (dd:Option Addr),upd H1 x (XN x C none) x=some (XN x C' dd)/\eI K C'/\H x=none/\E (.ref C') (some x) (upd (upd H1 x (XN x C none)) x (XO x C' dd)):=by
 refine⟨C,none,ag,c,hs.free hx,e x _ ?_ (hs.free hx) ag⟩
 intro b o q
 have q1:=hs _ _ q
 have bx:b≠x:=λy=>by rw [y,hx] at q1;cases q1
 rw [au bx,au bx]
 exact q1
theorem gM {K:PySem.W.Frag} {C x dx:Addr} {f:Str} {v:V} {H H1:Hp} {E:XK} (c:eI K C) (hs:aA H H1) (hx:H1 x=none) (hdx:H1 dx=none) (ne:dx≠x) (e:zh C f v H E) :
  ∃(C':Addr) (dd:Option Addr),upd (upd (upd H1 x (XN x C none)) dx (.xd [(f,v)])) x (XN x C (some dx)) x=some (XN x C' dd)/\eI K C'/\H x=none/\E (.ref C') (some x) (upd (upd (upd (upd H1 x (XN x C none)) dx (.xd [(f,v)])) x (XN x C (some dx))) x (XO x C' dd)):=by
 refine⟨C,some dx,ag,c,hs.free hx,e x dx _ ?_ (hs.free hx) ag ?_⟩
 ·intro b o q
  have q1:=hs _ _ q
  have bx:b≠x:=λy=>by rw [y,hx] at q1;cases q1
  have bd:b≠dx:=λy=>by rw [y,hdx] at q1;cases q1
  rw [au bx,au bx,au bd,au bx]
  exact q1
 ·rw [au ne,au ne,ag]
end L2
namespace Ld
structure jS (n r:Int):Prop where
 two:2<=r
 dv:r∣n
 no:∀ d:Int,2<=d->d<r->¬d∣n
theorem jS.le {n r:Int} (h:jS n r) (hn:0<n):r<=n:=Int.le_of_dvd hn h.dv
structure Inv (n k:Int):Prop where
 two:2<=k
 odd:k=2∨k%2=1
 no:∀ d:Int,2<=d->d<k->¬d∣n
theorem Inv.step {n k:Int} (h:Inv n k) (hk:¬k∣n):Inv n (k+if k=2 then 1 else 2):=by
 have h2:=h.two
 by_cases c:k=2
 ·rw [if_pos c]
  refine⟨by omega,.inr (by omega),λd d0 d1=>?_⟩
  have:d=k:=by omega
  rw [this];exact hk
 ·rw [if_neg c]
  have ho:k%2=1:=by rcases h.odd with z | z;exact absurd z c;exact z
  refine⟨by omega,.inr (by omega),λd d0 d1 hd=>?_⟩
  rcases (by omega:d<k∨d=k∨d=k+1) with z | z | z
  ·exact h.no d d0 z hd
  ·subst z;exact hk hd
  ·have e2:(2:Int)∣d:=Int.dvd_of_emod_eq_zero (by omega)
   exact h.no 2 (by omega) (by omega) (Int.dvd_trans e2 hd)
theorem Inv.found {n k:Int} (h:Inv n k) (hk:k∣n):jS n k:=⟨h.two,hk,h.no⟩
theorem Inv.done {n k:Int} (h:Inv n k) (hn:2<=n) (hk:n<k*k):jS n n:=by
 refine⟨hn,Int.dvd_refl n,λd d0 d1 hd=>?_⟩
 obtain⟨c,hc⟩:=hd
 have h2:=h.two
 by_cases z:d<k
 ·exact h.no d d0 z ⟨c,hc⟩
 ·have c0:0<c:=by
   rcases (by omega:c<=0∨0<c) with y | y
   ·have:=Int.mul_nonpos_of_nonneg_of_nonpos (show 0<=d by omega) y
    omega
   ·exact y
  have c2:2<=c:=by
   rcases (by omega:c=1∨2<=c) with y | y
   ·subst y;omega
   ·exact y
  have ck:c<k:=by
   rcases (by omega:c<k∨k<=c) with y | y
   ·exact y
   ·have:=Int.mul_le_mul (show k<=d by omega) y (by omega) (by omega)
    omega
  exact h.no c c2 ck ⟨d,by rw [Int.mul_comm];exact hc⟩
end Ld
namespace L2
open PySem PySem.Spec PyProof.Rows PySem.W
section
variable {K:PySem.W.Frag} {H:Hp}
theorem pW:∀ bs cs:List Int,PyData.eqvAll (bs.map PyData.int) (cs.map PyData.int)=decide (bs=cs)
 | [],[]=>by simp [PyData.eqvAll]
 | [],_::_=>by simp [PyData.eqvAll]
 | _::_,[]=>by simp [PyData.eqvAll]
 | a::r,b::t=>by
  simp only [List.map_cons,PyData.eqvAll,PyData.eqv,pW r t]
  by_cases h:a=b<;>by_cases h':r=t<;>simp [h,h']
theorem wc {neg:Bool} {p q:Addr} {bs cs:List Int} {Q:VK} (h1:aO K H p (bs.map V.int)) (h2:aO K H q (cs.map V.int)) (h:Q (.bl (if neg then !decide (bs=cs) else decide (bs=cs))) H):Ee K neg (.ref p) (.ref q) H Q:=by
 refine⟨.list (bs.map PyData.int),.list (cs.map PyData.int),⟨_,_,rfl,h1,aQ.ints _⟩,⟨_,_,rfl,h2,aQ.ints _⟩,ke_canLayAll0 _,ke_canLayAll0 _,?_,?_⟩
 ·simp [PyData.depth,ke_depthAll]
 ·show Q (.bl (if neg then !PyData.eqvAll _ _ else PyData.eqvAll _ _)) H
  rw [pW]
  exact h
mutual
theorem eqv_refl:∀ d:PyData,d.canLay0=true->PyData.eqv d d=true
 | .none,_=>by simp [PyData.eqv]
 | .bool _,_=>by simp [PyData.eqv]
 | .int _,_=>by simp [PyData.eqv]
 | .str _,_=>by simp [PyData.eqv]
 | .list ds,h=>by simpa [PyData.eqv] using jC ds h
 | .tuple ds,h=>by simpa [PyData.eqv] using jC ds h
 | .dict _,h=>by simp [PyData.canLay0] at h
theorem jC:∀ ds:List PyData,PyData.canLayAll0 ds=true->PyData.eqvAll ds ds=true
 | [],_=>by simp [PyData.eqvAll]
 | d::ds,h=>by
  have h':d.canLay0=true/\PyData.canLayAll0 ds=true:=by simpa [PyData.canLayAll0] using h
  simp [PyData.eqvAll,eqv_refl d h'.1,jC ds h'.2]
end
end
end L2
namespace L2
open PySem PySem.Spec PyProof.Rows
def EY (lo k:Int) (n:Nat):It:=⟨λi _=>i<n,λi H x H'=>H'=H/\x=.int (lo+i*k),λi _=>n<=i⟩
def D0 (lo hi k:Int):Nat:=if lo<hi then ((hi-lo-1)/k+1).toNat else 0
def DU (ta:TA):TI:=λσ H R=>ta σ H λvs H1=>∃ i j k:Int,vs=[.int i,.int j,.int k]/\(-(2^60)<=i/\i<2^60 /\ -(2^60)<=j/\j<2^60/\0<k/\k<2^29)/\R (EY i k (D0 i j k)) H1
section
variable {X:Cx} {tg:Expr}
end
end L2
namespace Sv
def Df (d:Nat) (arr:Nat->Bool):Nat->Bool:=λj=>arr j || (decide (d*d<=j) && decide (j%d=0))
def sv:Nat->(Nat->Bool) × List Nat
 | 0=>(λ_=>false,[])
 | i+1=>if (sv i).1 (i+2) then sv i else (Df (i+2) (sv i).1,(sv i).2++[i+2])
theorem len:∀ i,(sv i).2.length<=i
 | 0=>Nat.le_refl _
 | i+1=>by
  have:=len i
  rw [sv]
  split
  ·omega
  ·rw [List.length_append,List.length_singleton];omega
end Sv
namespace L2
open PySem PySem.Spec PyProof.Rows
theorem uF {X:Cx}:cT X (.type "int") (λxs H Q=>∃ k,xs=[.bl k]/\Q (.int (if k=true then 1 else 0)) H):=λpins s σ H xs us Q I r h=>mK pins s σ H xs us Q I r (.inr h)
section
variable {X:Cx} {pins:List (Addr × Obj)} {σ:St} {H:Hp} {s:Shared} {h':Heap}
theorem Inv.kT {t':Nat} {ch:List Addr} (I:Inv X pins σ H s) (k:∀ b o,b∉ch->s.heap.get? b=some o->h'.get? b=some o) (hf:∀ b∈ch,l6 X pins H b):Inv X pins σ H { s with heap:=h',toks:=t' }:=by
 have nit:∀ b u,H b=some u->b∉ch:=λb u e z=>by rw [(hf b z).1] at e;cases e
 refine I.step (g':=s.gens) (d':=s.drawn) (ch:=ch) (λb hb=>?_) (λb o _ _ hc e _=>k b o hc e) (λb o _ _ hc e _=>⟨o.slots,k b o hc e⟩) (λ_ _ _ _ n=>n)
  (λb o hc e=>⟨o,k b o hc e⟩) (λ_ _ e=>e) (λ_ _ _ e=>e) (λb ps e=>⟨#[],by rw [e];simp⟩) (λm hm=>?_) (λb u e=>?_) I.bare
 ·obtain⟨_,f1,_,f3,f4,f5⟩:=hf b hb
  exact⟨f3,f1,f4,f5⟩
 ·obtain⟨o,es,ep,ho,r⟩:=hm
  exact⟨o,es,ep,k _ o (λz=>(hf _ z).2.1 rfl) ho,r⟩
 ·refine (I.hok b u e).hZ (λc v hc q=>k c v ?_ q) (λ_ q=>q) λ_ _ q=>q
  rcases hc with z | z
  ·rw [z];exact nit b u e
  ·exact nit c _ z
theorem Inv.adopt {T:Addr} {o:HO} (I:Inv X pins σ H s) (hf:l6 X pins H T) (new:bB X.prog X.w (upd H T o) s.heap T o):Inv X pins σ (upd H T o) s:=by
 have nT:∀ b u,H b=some u->b≠T:=λb u e z=>by rw [z,hf.1] at e;cases e
 refine I.step (h':=s.heap) (g':=s.gens) (d':=s.drawn) (t':=s.toks) (ch:=[T]) (λb hb=>?_) (λb o _ _ hc e _=>e) (λb o _ _ hc e _=>⟨o.slots,e⟩) (λb o hc e n=>by rw [au (λz=>hc (by simp [z]))];exact n)
  (λb o hc e=>⟨o,e⟩) (λb xs e=>by rw [au (nT _ _ e)];exact e) (λb o u e=>by rw [au (nT _ _ e)];exact e) (λb ps e=>⟨#[],by rw [au (nT _ _ e),e];simp⟩) (λm hm=>hm) (λb u e=>?_) I.bare
 ·have e:b=T:=by simpa using hb
  subst e
  obtain⟨_,f1,_,f3,f4,f5⟩:=hf
  exact⟨f3,f1,f4,f5⟩
 ·by_cases z:b=T
  ·subst z
   rw [ag] at e
   cases e
   exact new
  ·rw [au z] at e
   exact (I.hok b u e).hZ (λc v _ q=>q) (λc q=>by rw [au (nT _ _ q)];exact q) λc xs q=>by rw [au (nT _ _ q)];exact q
end
def EW (K:PySem.W.Frag) (a:Addr):It :=
 ⟨λi H=>∃ xs x,aO K H a xs/\xs[i]?=some x,λi H x H'=>∃ p v,H p=none/\x=.ref p/\(∀ xs,aO K H a xs->xs[i]?=some v)/\H'=upd H p (.tup [.int i,v]),λi H=>∃ xs,aO K H a xs/\xs.length<=i⟩
theorem vR {P:Program} {w:World} {K:PySem.W.Frag} {elts:List Expr} {x1} {pos:Pos} (a it e:Addr) (ne:e≠it):Turn P w K (.Tuple elts x1 pos) (EW K a) [e,it] e (λi h=>(∃ old,IsEnum h e it i old)/\h.IsListIter it a i) where
 mem:=by simp
 obj:=λi h st b hb=>by
  obtain⟨⟨old,he⟩,hit⟩:=st
  rcases List.mem_cons.mp hb with z | z
  ·subst z
   exact⟨_,he,λv z=>by cases z⟩
  ·have z:b=it:=by simpa using z
   subst z
   obtain⟨o,e,c,d⟩:=hit
   exact⟨o,e,λv z=>by rw [d] at z;cases z⟩
 keep:=λi h h' st k=>by
  obtain⟨⟨old,he⟩,hit⟩:=st
  exact⟨⟨old,k e (by simp) _ he⟩,hit.at λo x=>k it (by simp) o x⟩
 item:=by
  intro X hP hw hK hc i pins s σ H E I hf st hg
  subst hP hw hK
  obtain⟨xs,x,hq,hx⟩:=hg
  obtain⟨its,rv,p,hz⟩:=I.list hq
  obtain⟨u,hu,ru⟩:=rv.get hx
  obtain⟨⟨old,he⟩,hit⟩:=st
  refine wpAny_pyNext_enum_item he hit p.isList (x:=u) (by simpa using hu) ne λh' ho hit' hT hsz hk=>?_
  refine⟨_,rfl,?_⟩
  have fT:H s.heap.objs.size=none:=I.hok.fresh (Nat.le_refl _)
  refine wpAny_letOwnedTupleGo_enum ho λh2 he2 hs2=>?_
  have hke:∀ b o,b∉[e,it]->s.heap.get? b=some o->h2.get? b=some o:=λb o hb q=>by
   have n1:b≠e:=λz=>hb (by simp [z])
   have n2:b≠it:=λz=>hb (by simp [z])
   exact (hs2.2 b n1).trans (hk b o n1 n2 q)
  have I1:Inv X pins σ H { s with heap:=h2,toks:=s.toks+1 }:=I.kT hke hf
  have ne1:s.heap.objs.size≠e:=Nat.ne_of_gt (Heap.lt_size he)
  have hT2:h2.get? s.heap.objs.size=some { cls:=.type "tuple",data:=.seq #[.int i s.toks,u] }:=(hs2.2 _ ne1).trans hT
  refine⟨.ref s.heap.objs.size,upd H s.heap.objs.size (.tup [.int i,x]),?_,rfl,⟨_,x,fT,rfl,λys hy=>by rw [I.lz hy hq];exact hx,rfl⟩,⟨⟨u,by simpa using he2⟩,hit'.at λo q=>(hs2.2 it (Ne.symm ne)).trans q⟩,λb hb=>?_⟩
  ·have:=I1.adopt (T:=s.heap.objs.size) (o:=.tup [.int i,x]) (I.mh (Nat.le_refl _) fT) ⟨by show 2<=sizeLine;decide,[.int i s.toks,u],.cons ⟨_,rfl⟩ (.cons ru .nil),⟨_,hT2,rfl,_,rfl⟩⟩
   exact this
  ·have ne2:s.heap.objs.size≠it:=by obtain⟨o,q,_⟩:=hit;exact Nat.ne_of_gt (Heap.lt_size q)
   have nb:b≠s.heap.objs.size:=λz=>by
    subst z
    simp only [List.mem_cons,List.not_mem_nil,or_false] at hb
    rcases hb with y | y
    ·exact ne1 y
    ·exact ne2 y
   rw [au nb]
   exact (hf b hb).1
 done:=by
  intro X hP hw hK hc i pins s σ H E I hf st hg
  subst hP hw hK
  obtain⟨xs,hq,hx⟩:=hg
  obtain⟨its,rv,p,hz⟩:=I.list hq
  have hl:=rv.length
  obtain⟨⟨old,he⟩,hit⟩:=st
  exact wpAny_pyNext_enum_end (I.ok.hd hc) he hit p.isList (by simp;omega) λh' eb=>⟨rfl,I.kT (t':=s.toks) (ch:=[it]) (λb o hb q=>eb b o (λz=>hb (by simp [z])) q) (λb hb=>hf b (List.mem_cons_of_mem _ hb))⟩
 self:=λ_ _ _ _ _ st h=>by
  obtain⟨⟨old,he⟩,_⟩:=st
  exact wpAny_pyIter_enum he h
def Bg (K:PySem.W.Frag) (ta:TA):TI:=λσ H R=>ta σ H λvs H1=>∃ a,vs=[.ref a]/\(∃ xs,aO K H1 a xs)/\R (EW K a) H1
theorem kq:bootBuiltins "enumerate"=some (.type "enumerate"):=by decide +kernel
theorem tR {X:Cx} {elts:List Expr} {x1} {tpos:Pos} {a:Expr} {ta:TA} {p pos:Pos} (hg:Gl X "enumerate") (hm:X.mg "enumerate"=none) (ha:PA X [a] ta) (hs:starEach [a] X.env=[(false,eval a X.env)]:=by rfl) :
  PI X (.Tuple elts x1 tpos) (.Call (.Name "enumerate" p) [a] [] pos) (Bg X.K ta):=by
 intro pins s σ H R I h
 refine Call_ (fU I hg hm kq (PyProof.Rows.callWith_type1 (bc (ha pos pins s σ H _ I h) λus s1 ⟨vs,H1,I1,r1,q1⟩=>?_) hs rfl))
 obtain⟨b,e,⟨xs,hq⟩,q⟩:=q1
 subst e
 cases r1 with
 | cons r rr =>
  cases rr
  cases r
  obtain⟨its,rv,pl,hz⟩:=I1.list hq
  refine call_enumerate_list pl.isList λh' he hit hsz hk=>?_
  refine wpAny_pyIter_enum he ?_
  have I2:Inv X pins σ H1 { s1 with heap:=h' }:=I1.kept (t':=s1.toks) hk
  refine⟨_,[s1.heap.objs.size+1,s1.heap.objs.size],_,_,H1,rfl,I2,vR b s1.heap.objs.size (s1.heap.objs.size+1) (Nat.succ_ne_self _),⟨⟨_,he⟩,hit⟩,λc hc=>?_,q⟩
  simp only [List.mem_cons,List.not_mem_nil,or_false] at hc
  rcases hc with rfl | rfl
  ·exact I1.mh (by omega) (I1.hok.fresh (by omega))
  ·exact I1.mh (by omega) (I1.hok.fresh (by omega))
theorem mW {K:PySem.W.Frag} {a:Addr} {xs:List V} {g:TG} {tb:TS} {D:Ends} {σ:St} {H:Hp} (Pv:Nat->St->Hp->Prop) (h0:Pv 0 σ H) (hl:∀ i σ H,i<=xs.length->Pv i σ H->aO K H a xs)
  (hs:∀ i x σ H p,xs[i]?=some x->Pv i σ H->H p=none->g (.ref p) σ (upd H p (.tup [.int i,x])) λσ2 H2=>tb { D with nx:=Pv (i+1),ct:=Pv (i+1),bk:=D.nx } σ2 H2) (hd:∀ σ H,Pv xs.length σ H->D.nx σ H):Loop (EW K a) g tb D σ H:=by
 refine⟨λi m σ H=>m=xs.length-i/\i<=xs.length/\Pv i σ H,⟨xs.length,by simp,Nat.zero_le _,h0⟩,?_⟩
 rintro i m σ H ⟨rfl,hi,p⟩
 have q:=hl i σ H hi p
 by_cases hlt:i<xs.length
 ·have hx:xs[i]?=some xs[i]:=List.getElem?_eq_getElem hlt
  refine .inr ⟨⟨xs,_,q,hx⟩,Pv (i+1),λσ' H' p'=>⟨xs.length-(i+1),by omega,rfl,hlt,p'⟩,λx H' y=>?_⟩
  obtain⟨pt,v,f,e1,e2,e3⟩:=y
  subst e1 e3
  have:=e2 xs q
  exact hs i v σ H pt this p f
 ·have e:i=xs.length:=by omega
  subst e
  exact .inl ⟨⟨xs,q,Nat.le_refl _⟩,hd σ H p⟩
end L2
namespace Crt
structure G (a b g:Int):Prop where
 pos:0<g
 da:g∣a
 db:g∣b
 lin:∃ u v:Int,u*a+v*b=g
theorem G.gr {a b g d:Int} (h:G a b g) (h1:d∣a) (h2:d∣b):d∣g:=by
 obtain⟨u,v,e⟩:=h.lin
 rw [<- e]
 exact Int.dvd_add (Int.dvd_mul_of_dvd_right h1) (Int.dvd_mul_of_dvd_right h2)
theorem G.one {a b g g':Int} (h:G a b g) (h':G a b g'):g=g':=Int.le_antisymm (Int.le_of_dvd h'.pos (h'.gr h.da h.db)) (Int.le_of_dvd h.pos (h.gr h'.da h'.db))
theorem a1 {g u A v L:Int} (e:u*(g*A)+v*(g*L)=g):g*(u*A+v*L)=g*1:=by grind
theorem a2 {g A k L l y:Int} (h1:y=g*A*k) (h2:y=g*L*l):g*(A*k)=g*(L*l):=by grind
theorem a3 {u A v L k l:Int} (e4:u*A+v*L=1) (e5:A*k=L*l):k=L*(u*l+v*k):=by
 have z:k*(u*A+v*L)=k:=by rw [e4,Int.mul_one]
 grind
theorem a4 {A D r L q1 t:Int} (et:L*q1+t=D*r):A*t=A*(D*r)-A*(L*q1):=by grind
theorem a5 {D r A L c:Int} (hc:r*A-1=L*c):D*(r*A)-D=D*(L*c):=by rw [<- hc];grind
theorem a6 {M L t q2 N x:Int} (ex:M*L*q2+x=N+M*t):x-N=M*(t-L*q2):=by grind
theorem a7 {g A L t q1 q2 c D r N x:Int} (z3:x=N+g*A*t-g*A*L*q2) (z1:A*t=A*(D*r)-A*(L*q1)) (z2:D*(r*A)-D=D*(L*c)):x-(N+g*D)=g*L*(c*D-q1*A-A*q2):=by grind
theorem a8 {M L k w:Int} (h:k=L*w):M*k=M*L*w:=by rw [h,Int.mul_assoc]
structure BO (M N m n W x:Int):Prop where
 pos:0<W
 dM:M∣W
 dm:m∣W
 le:∀ y:Int,M∣y->m∣y->W∣y
 x0:0<=x
 x1:x<W
 eM:M∣x-N
 em:m∣x-n
theorem both {M N m n g r:Int} (hM:0<M) (hm:0<m) (h:G M m g) (hd:g∣n-N) (hr:m/g∣r*(M/g)-1):BO M N m n (M*(m/g)) ((N+M*((n-N)/g*r%(m/g)))%(M*(m/g))):=by
 obtain⟨A,hA⟩:=h.da
 obtain⟨L,hL⟩:=h.db
 obtain⟨D,hD⟩:=hd
 have g0:=h.pos
 have e1:m/g=L:=by rw [hL];exact Int.mul_ediv_cancel_left _ (by omega)
 have e2:M/g=A:=by rw [hA];exact Int.mul_ediv_cancel_left _ (by omega)
 have e3:(n-N)/g=D:=by rw [hD];exact Int.mul_ediv_cancel_left _ (by omega)
 rw [e1,e2] at hr
 rw [e1,e3]
 have L0:0<L:=by
  rcases (by omega:L<=0∨0<L) with z | z
  ·have:=Int.mul_nonpos_of_nonneg_of_nonpos (Int.le_of_lt g0) z
   omega
  ·exact z
 have W0:0<M*L:=Int.mul_pos hM L0
 have dm:m∣M*L:=⟨A,by rw [hA,hL,Int.mul_assoc,Int.mul_assoc,Int.mul_comm A L]⟩
 have et:=Int.mul_ediv_add_emod (D*r) L
 have ex:=Int.mul_ediv_add_emod (N+M*(D*r%L)) (M*L)
 generalize hT:D*r%L=t at *
 generalize D*r/L=q1 at *
 have X0:=Int.emod_nonneg (N+M*t) (show M*L≠0 by omega)
 have X1:=Int.emod_lt_of_pos (N+M*t) W0
 generalize (N+M*t)%(M*L)=x at *
 generalize (N+M*t)/(M*L)=q2 at *
 obtain⟨c,hc⟩:=hr
 refine⟨W0,⟨L,rfl⟩,dm,λy h1 h2=>?_,X0,X1,⟨t-L*q2,a6 ex⟩,?_⟩
 ·obtain⟨k,hk⟩:=h1
  obtain⟨l,hl⟩:=h2
  obtain⟨u,v,e⟩:=h.lin
  have e4:u*A+v*L=1:=Int.eq_of_mul_eq_mul_left (show g≠0 by omega) (a1 (by rw [hA,hL] at e;exact e))
  have e5:A*k=L*l:=Int.eq_of_mul_eq_mul_left (show g≠0 by omega) (a2 (y:=y) (by rw [hA] at hk;exact hk) (by rw [hL] at hl;exact hl))
  exact⟨u*l+v*k,by rw [hk];exact a8 (a3 e4 e5)⟩
 ·refine⟨c*D-q1*A-A*q2,?_⟩
  have hN:n=N+g*D:=by omega
  have z3:x=N+g*A*t-g*A*L*q2:=by rw [hA] at ex;omega
  rw [hN,hL]
  exact a7 z3 (a4 et) (a5 hc)
theorem EV:∀(b a:Nat),0<a->∃ g,G (a:Int) (b:Int) g:=by
 intro b
 induction b using Nat.strongRecOn with
 | ind b ih =>
  intro a ha
  rcases Nat.eq_zero_or_pos b with z | z
  ·subst z
   exact⟨a,by omega,Int.dvd_refl _,Int.dvd_zero _,1,0,by simp⟩
  ·obtain⟨g,h⟩:=ih (a%b) (Nat.mod_lt a z) b z
   obtain⟨u,v,e⟩:=h.lin
   have ed:(a:Int)=(b:Int)*((a/b:Nat):Int)+((a%b:Nat):Int):=by
    have:=Nat.div_add_mod a b
    rw [<- Int.natCast_mul,<- Int.natCast_add,this]
   refine⟨g,h.pos,?_,h.da,v,u-v*((a/b:Nat):Int),?_⟩
   ·rw [ed]
    exact Int.dvd_add (Int.dvd_mul_of_dvd_left h.da) h.db
   ·rw [ed,<- e]
    generalize ((a/b:Nat):Int)=q
    generalize ((a%b:Nat):Int)=r
    generalize (b:Int)=b'
    grind
theorem A1 {a b:Int} (ha:0<a) (hb:0<b):∃ g,G a b g:=by
 obtain⟨g,h⟩:=EV b.toNat a.toNat (by omega)
 rw [Int.toNat_of_nonneg (by omega),Int.toNat_of_nonneg (by omega)] at h
 exact⟨g,h⟩
structure Told (ps:List (Int × Int)) (M N:Int):Prop where
 pos:0<M
 x0:0<=N
 x1:N<M
 dv:∀ p∈ps,p.1∣M
 le:∀ y:Int,(∀ p∈ps,p.1∣y)->M∣y
 al:∀ p∈ps,p.1∣N-p.2
theorem Told.nil:Told [] 1 0:=⟨by decide,by decide,by decide,λ_ h=>by simp at h,λy _=>⟨y,by omega⟩,λ_ h=>by simp at h⟩
theorem Told.step {ps:List (Int × Int)} {M N m n W x:Int} (h:Told ps M N) (b:BO M N m n W x):Told (ps++[(m,n)]) W x:=by
 refine⟨b.pos,b.x0,b.x1,λp hp=>?_,λy hy=>?_,λp hp=>?_⟩
 ·rcases List.mem_append.mp hp with z | z
  ·exact Int.dvd_trans (h.dv p z) b.dM
  ·rw [List.mem_singleton.mp z];exact b.dm
 ·exact b.le y (h.le y λp hp=>hy p (List.mem_append_left _ hp)) (hy (m,n) (List.mem_append_right _ (by simp)))
 ·rcases List.mem_append.mp hp with z | z
  ·have e1:=Int.dvd_trans (h.dv p z) b.eM
   have e2:=h.al p z
   have:=Int.dvd_add e1 e2
   rwa [show x-N+(N-p.2)=x-p.2 by omega] at this
  ·rw [List.mem_singleton.mp z];exact b.em
theorem Told.fits {ps:List (Int × Int)} {M N m n g:Int} (h:Told ps M N) (G0:G M m g) (hp:∀ p∈ps,∀ d,G p.1 m d->d∣p.2-n) (hG:∀ p∈ps,∃ d,G p.1 m d):g∣n-N:=by
 obtain⟨A,hA⟩:=G0.da
 obtain⟨L,hL⟩:=G0.db
 have g0:=G0.pos
 have key:M∣(n-N)*A:=by
  refine h.le _ λp hm=>?_
  obtain⟨d,hd⟩:=hG p hm
  obtain⟨u,v,e⟩:=hd.lin
  have d1:d∣n-N:=by
   have z1:=hp p hm d hd
   have z2:=Int.dvd_trans hd.da (h.al p hm)
   have:=Int.dvd_add z1 z2
   have w:=(Int.dvd_neg).mpr this
   rwa [show -(p.2-n+(N-p.2))=n-N by omega] at w
  obtain⟨c,hc⟩:=d1
  obtain⟨B,hB⟩:=h.dv p hm
  refine⟨c*(u*A+v*L*B),?_⟩
  rw [hc,<- e]
  have:m*A=p.1*(L*B):=by
   have z:g*(m*A)=g*(p.1*(L*B)):=by
    have:m*M=g*L*(p.1*B):=by rw [hL,hB]
    have z2:g*(m*A)=m*M:=by rw [hA];grind
    rw [z2,this];grind
   exact Int.eq_of_mul_eq_mul_left (by omega) z
  grind
 obtain⟨c,hc⟩:=key
 have A0:A≠0:=λz=>by rw [z] at hA;have:=h.pos;omega
 refine⟨c,?_⟩
 have:A*(n-N)=A*(g*c):=by rw [Int.mul_comm A (n-N),hc,hA];grind
 exact Int.eq_of_mul_eq_mul_left A0 this
theorem Told.one {ps:List (Int × Int)} {M N M' N':Int} (h:Told ps M N) (h':Told ps M' N'):M=M'/\N=N':=by
 have e:M=M':=Int.le_antisymm (Int.le_of_dvd h'.pos (h.le _ h'.dv)) (Int.le_of_dvd h.pos (h'.le _ h.dv))
 subst e
 refine⟨rfl,?_⟩
 have z:M∣N-N':=h.le _ λp hp=>by
  have:=Int.dvd_sub (h.al p hp) (h'.al p hp)
  rwa [show N-p.2-(N' - p.2)=N-N' by omega] at this
 have w:=Int.emod_emod_of_dvd
 have:=(Int.emod_eq_emod_iff_emod_sub_eq_zero (m:=N) (n:=M) (k:=N')).mpr (Int.emod_eq_zero_of_dvd z)
 rwa [Int.emod_eq_of_lt h.x0 h.x1,Int.emod_eq_of_lt h'.x0 h'.x1] at this
end Crt
namespace Num
def Al (n x y:Int):Prop:=n∣x-y
theorem Al.refl (n x:Int):Al n x x:=⟨0,by omega⟩
theorem Al.symm {n x y:Int} (h:Al n x y):Al n y x:=by
 have:=(Int.dvd_neg).mpr h
 rwa [show -(x-y)=y-x by omega] at this
theorem Al.trans {n x y z:Int} (h:Al n x y) (h':Al n y z):Al n x z:=by
 have:=Int.dvd_add h h'
 rwa [show x-y+(y-z)=x-z by omega] at this
theorem Al.mul {n x y u v:Int} (h:Al n x y) (h':Al n u v):Al n (x*u) (y*v):=by
 have h1:n∣(x-y)*u:=Int.dvd_mul_of_dvd_left h
 have h2:n∣y*(u-v):=Int.dvd_mul_of_dvd_right h'
 have:=Int.dvd_add h1 h2
 rwa [show (x-y)*u+y*(u-v)=x*u-y*v by rw [Int.sub_mul,Int.mul_sub];omega] at this
theorem Al.pow {n x y:Int} (h:Al n x y):∀ k:Nat,Al n (x^k) (y^k)
 | 0=>by rw [Int.pow_zero,Int.pow_zero];exact Al.refl _ _
 | k+1=>by rw [Int.pow_succ,Int.pow_succ];exact (Al.pow h k).mul h
theorem Al.iff {n x y:Int}:Al n x y↔x%n=y%n:=Pw.BY.symm
theorem Al.rest (n x:Int):Al n (x%n) x:=Al.iff.mpr (Int.emod_emod_of_dvd x (Int.dvd_refl n))
def Co (a n:Int):Prop:=∃ u v:Int,u*a+v*n=1
theorem Co.dvd {a n b:Int} (h:Co a n) (hd:n∣a*b):n∣b:=by
 obtain⟨u,v,e⟩:=h
 have h1:n∣u*(a*b):=Int.dvd_mul_of_dvd_right hd
 have h2:n∣(v*b)*n:=⟨v*b,Int.mul_comm _ _⟩
 have:=Int.dvd_add h1 h2
 have e2:u*(a*b)+v*b*n=(u*a+v*n)*b:=by
  rw [Int.add_mul,Int.mul_assoc u a b,Int.mul_assoc v n b,Int.mul_comm n b,Int.mul_assoc v b n]
 rw [e2,e,Int.one_mul] at this
 exact this
theorem Co.cancel {a n x y:Int} (h:Co a n) (e:Al n (a*x) (a*y)):Al n x y:=by
 refine h.dvd ?_
 rw [Int.mul_sub]
 exact e
theorem Co.mul {a b n:Int} (h:Co a n) (h':Co b n):Co (a*b) n:=by
 obtain⟨u,v,e⟩:=h
 obtain⟨u',v',e'⟩:=h'
 refine⟨u*u',u*a*v'+v*(u'*b+v'*n),?_⟩
 have:(u*a+v*n)*(u'*b+v'*n)=1:=by rw [e,e'];rfl
 grind
theorem Co.pow {a n:Int} (h:Co a n):∀ k:Nat,Co (a^k) n
 | 0=>⟨1,0,by rw [Int.pow_zero];simp⟩
 | k+1=>by rw [Int.pow_succ];exact (Co.pow h k).mul h
theorem Co.xj {a b n:Int} (h:Co a n) (e:Al n a b):Co b n:=by
 obtain⟨u,v,e1⟩:=h
 obtain⟨c,hc⟩:=e
 refine⟨u,v+u*c,?_⟩
 have:b=a-n*c:=by omega
 rw [this]
 grind
theorem aL {n a:Int} {d k:Nat} (h:Al n (a^d) 1):Al n (a^(d*k)) 1:=by
 rw [Pw.pow_mul]
 have:=h.pow k
 rwa [Pw.one_pow] at this
structure Ord (n a:Int) (m:Nat):Prop where
 pos:0<m
 one:Al n (a^m) 1
 dv:∀ j:Nat,Al n (a^j) 1->m∣j
theorem pow_mod {n a:Int} {m j:Nat} (h:Al n (a^m) 1) (hj:Al n (a^j) 1):Al n (a^(j%m)) 1:=by
 have e:a^j=a^(m*(j/m))*a^(j%m):=by rw [<- Pw.pow_add,Nat.div_add_mod]
 rw [e] at hj
 have h1:=(aL (k:=j/m) h).mul (Al.refl n (a^(j%m)))
 rw [Int.one_mul] at h1
 exact h1.symm.trans hj
theorem ou {n a:Int} {m:Nat} (pos:0<m) (one:Al n (a^m) 1) (no:∀ j,0<j->j<m->¬Al n (a^j) 1):Ord n a m:=by
 refine⟨pos,one,λj hj=>?_⟩
 have h:=pow_mod one hj
 rcases Nat.eq_zero_or_pos (j%m) with z | z
 ·exact Nat.dvd_of_mod_eq_zero z
 ·exact absurd h (no _ z (Nat.mod_lt _ pos))
theorem fV {P:Nat->Prop}:∀ N:Nat,P N->∃ m,P m/\∀ j,j<m->¬P j:=by
 intro N
 induction N using Nat.strongRecOn with
 | ind N ih =>
  intro h
  by_cases z:∃ j,j<N/\P j
  ·obtain⟨j,hj,pj⟩:=z
   exact ih j hj pj
  ·exact⟨N,h,λj hj pj=>z ⟨j,hj,pj⟩⟩
theorem jL {n a:Int} {N:Nat} (pos:0<N) (h:Al n (a^N) 1):∃ m,Ord n a m/\m<=N:=by
 obtain⟨m,⟨m0,m1⟩,no⟩:=fV (P:=λj=>0<j/\Al n (a^j) 1) N ⟨pos,h⟩
 refine⟨m,ou m0 m1 λj j0 jm z=>no j jm ⟨j0,z⟩,?_⟩
 by_cases z:m<=N
 ·exact z
 ·exact absurd ⟨pos,h⟩ (no N (by omega))
theorem Ord.sx {n a:Int} {m m':Nat} (h:Ord n a m) (h':Ord n a m'):m=m':=Nat.dvd_antisymm (h.dv _ h'.one) (h'.dv _ h.one)
theorem Ord.inj {n a:Int} {m i j:Nat} (h:Ord n a m) (c:Co a n) (hi:i<m) (hj:j<m) (e:Al n (a^i) (a^j)):i=j:=by
 have aux:∀ i j:Nat,i<m->j<m->i<=j->Al n (a^i) (a^j)->i=j:=by
  intro i j hi hj hij e
  have e1:a^j=a^i*a^(j-i):=by rw [<- Pw.pow_add];congr 1;omega
  rw [e1] at e
  have e2:Al n (a^i*1) (a^i*a^(j-i)):=by rw [Int.mul_one];exact e
  have e3:=(c.pow i).cancel e2
  have:=h.dv _ e3.symm
  rcases Nat.eq_zero_or_pos (j-i) with z | z
  ·omega
  ·have:=Nat.le_of_dvd z this
   omega
 rcases Nat.le_total i j with z | z
 ·exact aux i j hi hj z e
 ·exact (aux j i hj hi z e.symm).symm
theorem ya:∀(n:Nat) (l:List Nat),l.Nodup->(∀ x∈l,x<n)->l.length<=n:=by
 intro n
 induction n with
 | zero =>
  intro l _ h
  cases l with
  | nil=>exact Nat.le_refl _
  | cons x r=>exact absurd (h x (by simp)) (by omega)
 | succ n ih =>
  intro l nd h
  by_cases c:n∈l
  ·have h1:=ih (l.erase n) (nd.erase n) λx hx=>by
    have hx':=List.mem_of_mem_erase hx
    have ne:x≠n:=λz=>by
     subst z
     exact absurd hx (List.Nodup.not_mem_erase nd)
    have:=h x hx'
    omega
   rw [List.length_erase_of_mem c] at h1
   omega
  ·have h1:=ih l nd λx hx=>by
    have:=h x hx
    have ne:x≠n:=λz=>c (z▸hx)
    omega
   omega
end Num
namespace Num
structure Pm (p:Int):Prop where
 two:2<=p
 no:∀ d:Int,2<=d->d<p->¬d∣p
theorem Pm.co {p a:Int} (h:Pm p) (ha:¬p∣a):Co a p:=by
 have h2:=h.two
 have r0:=Int.emod_nonneg a (show p≠0 by omega)
 have r1:=Int.emod_lt_of_pos a (show 0<p by omega)
 have rn:a%p≠0:=λz=>ha (Int.dvd_of_emod_eq_zero z)
 obtain⟨g,G⟩:=Crt.A1 (a:=a%p) (b:=p) (by omega) (by omega)
 have gl:=Int.le_of_dvd (show 0<a%p by omega) G.da
 have g1:g=1:=by
  have g0:=G.pos
  rcases (by omega:g=1∨2<=g) with z | z
  ·exact z
  ·exact absurd G.db (h.no g z (by omega))
 obtain⟨u,v,e⟩:=G.lin
 rw [g1] at e
 exact Co.xj ⟨u,v,e⟩ (Al.rest p a)
theorem Pm.or {p a b:Int} (h:Pm p) (hd:p∣a*b) (ha:¬p∣a):p∣b:=(h.co ha).dvd hd
theorem Pm.kN {p:Int} (h:Pm p):¬Al p 0 1:=λz=>by
 have h2:=h.two
 have z':p∣0-1:=z
 have z2:=(Int.dvd_neg).mpr z'
 rw [show -((0:Int)-1)=1 by decide] at z2
 have:=Int.le_of_dvd (show (0:Int)<1 by decide) z2
 omega
def H:Int->List Int->Int->Int
 | acc,[],_=>acc
 | acc,c::cs,x=>H (acc*x+c) cs x
theorem v3 (x:Int):∀(cs:List Int) (a b:Int),H (a+b) cs x=H a cs x+b*x^cs.length
 | [],a,b=>by rw [List.length_nil,Int.pow_zero,Int.mul_one];rfl
 | c::cs,a,b=>by
  show H ((a+b)*x+c) cs x=H (a*x+c) cs x+b*x^(cs.length+1)
  rw [show (a+b)*x+c=(a*x+c)+b*x by rw [Int.add_mul];omega,v3 x cs,Int.pow_succ,Int.mul_assoc,Int.mul_comm x]
def Ax (r:Int):Int->List Int->List Int
 | _,[]=>[]
 | _,[_]=>[]
 | c0,c::c'::cs=>(c0*r+c)::Ax r (c0*r+c) (c'::cs)
theorem oB (r:Int):∀(cs:List Int) (c0:Int),(Ax r c0 cs).length=cs.length-1
 | [],_=>rfl
 | [_],_=>rfl
 | c::c'::cs,c0=>by
  show (Ax r (c0*r+c) (c'::cs)).length+1=_
  rw [oB r (c'::cs)]
  simp
theorem factor (x r:Int):∀(cs:List Int) (c0:Int),cs≠[]->H c0 cs x-H c0 cs r=(x-r)*H c0 (Ax r c0 cs) x
 | [],_,h=>absurd rfl h
 | [c],c0,_=>by
  show c0*x+c-(c0*r+c)=(x-r)*c0
  rw [Int.sub_mul,Int.mul_comm c0 x,Int.mul_comm c0 r]
  omega
 | c::c'::cs,c0,_=>by
  have ih:=factor x r (c'::cs) (c0*r+c) (by simp)
  show H (c0*x+c) (c'::cs) x-H (c0*r+c) (c'::cs) r=(x-r)*H (c0*x+(c0*r+c)) (Ax r (c0*r+c) (c'::cs)) x
  have e1:c0*x+c=(c0*r+c)+c0*(x-r):=by rw [Int.mul_sub];omega
  have e2:H (c0*x+(c0*r+c)) (Ax r (c0*r+c) (c'::cs)) x=H (c0*r+c) (Ax r (c0*r+c) (c'::cs)) x+c0*x*x^cs.length:=by
   rw [Int.add_comm (c0*x),v3,oB]
   simp
  rw [e1,v3,e2,List.length_cons,Int.pow_succ,Int.mul_add,<- ih]
  generalize H (c0*r+c) (c'::cs) x=A
  generalize H (c0*r+c) (c'::cs) r=B
  generalize x^cs.length=Y
  grind
theorem roots {p:Int} (hp:Pm p):∀(n:Nat) (cs:List Int) (c0:Int),cs.length=n->¬p∣c0->∀ rs:List Int,rs.Pairwise (λa b=>¬Al p a b)->(∀ r∈rs,p∣H c0 cs r)->rs.length<=n:=by
 intro n
 induction n with
 | zero =>
  intro cs c0 hl h0 rs hr hz
  have:cs=[]:=List.eq_nil_of_length_eq_zero hl
  subst this
  cases rs with
  | nil=>exact Nat.le_refl _
  | cons r rs=>exact absurd (hz r (by simp)) h0
 | succ n ih =>
  intro cs c0 hl h0 rs hr hz
  cases rs with
  | nil=>exact Nat.zero_le _
  | cons r rs =>
   have hne:cs≠[]:=λz=>by rw [z] at hl;simp at hl
   obtain⟨h1,h2⟩:=List.pairwise_cons.mp hr
   have:=ih (Ax r c0 cs) c0 (by rw [oB,hl];rfl) h0 rs h2 λs hs=>by
    have e:=factor s r cs c0 hne
    have d1:=hz s (List.mem_cons_of_mem _ hs)
    have d2:=hz r (by simp)
    have d3:=Int.dvd_sub d1 d2
    rw [e] at d3
    exact hp.or d3 λz=>h1 s hs (Al.symm z)
   simpa using this
theorem v5 (x:Int):∀(n:Nat) (a:Int),H a (List.replicate n 0++[-1]) x=a*x^(n+1)-1
 | 0,a=>by
  show a*x + -1=_
  rw [Int.pow_succ,Int.pow_zero,Int.one_mul];omega
 | n+1,a=>by
  show H (a*x+0) (List.replicate n 0++[-1]) x=_
  rw [v5 x n,Int.add_zero,Int.pow_succ x (n+1),Int.mul_comm (x^(n+1)) x,Int.mul_assoc]
theorem zy {p:Int} (hp:Pm p) {n:Nat} (hn:0<n) (h:∀ a:Int,¬p∣a->Al p (a^n) 1):p-1<=n:=by
 have h2:=hp.two
 obtain⟨m,rfl⟩:∃ m,n=m+1:=⟨n-1,by omega⟩
 have key:=roots hp (m+1) (List.replicate m 0++[-1]) 1 (by simp) (λz=>by have:=Int.le_of_dvd (by decide) z;omega) ((List.range (p-1).toNat).map λi:Nat=>(i:Int)+1) ?_ ?_
 ·rw [List.length_map,List.length_range] at key
  omega
 ·rw [List.pairwise_map]
  refine List.Pairwise.imp_of_mem (R:=(·<·)) (λ{a b} ha hb hab z=>?_) List.pairwise_lt_range
  have hb':=List.mem_range.mp hb
  have:=Int.le_of_dvd (by omega) (Al.symm z)
  omega
 ·intro r hr
  obtain⟨i,hi,rfl⟩:=List.mem_map.mp hr
  have hi':=List.mem_range.mp hi
  rw [v5,Int.one_mul]
  exact h _ λz=>by have:=Int.le_of_dvd (by omega) z;omega
theorem mX {f:Nat->Nat} {n:Nat} (h:∀ i j,i<j->j<n->f i≠f j):((List.range n).map f).Nodup:=by
 show List.Pairwise _ _
 rw [List.pairwise_map]
 exact List.Pairwise.imp_of_mem (R:=(·<·)) (λ{a b} ha hb hab=>h a b hab (List.mem_range.mp hb)) List.pairwise_lt_range
theorem rest_eq {p x y:Int} (hp:0<p) (e:(x%p).toNat=(y%p).toNat):Al p x y:=by
 have h1:=Int.emod_nonneg x (show p≠0 by omega)
 have h2:=Int.emod_nonneg y (show p≠0 by omega)
 exact Al.iff.mpr (by omega)
theorem back {n a:Int} (hn:2<=n) (c:Co a n):∃ d:Nat,0<d/\(d:Int)<=n/\Al n (a^d) 1:=by
 by_cases z:∃ i j:Nat,i<j/\j<n.toNat+1/\Al n (a^i) (a^j)
 ·obtain⟨i,j,ij,jn,e⟩:=z
  refine⟨j-i,by omega,by omega,?_⟩
  have e1:a^j=a^i*a^(j-i):=by rw [<- Pw.pow_add];congr 1;omega
  rw [e1] at e
  have e2:Al n (a^i*1) (a^i*a^(j-i)):=by rw [Int.mul_one];exact e
  exact ((c.pow i).cancel e2).symm
 ·exfalso
  have nd:=mX (f:=λi=>(a^i%n).toNat) (n:=n.toNat+1) λi j ij jn e=>z ⟨i,j,ij,jn,rest_eq (by omega) e⟩
  have:=ya n.toNat _ nd λx hx=>by
   obtain⟨i,_,rfl⟩:=List.mem_map.mp hx
   have h1:=Int.emod_nonneg (a^i) (show n≠0 by omega)
   have h2:=Int.emod_lt_of_pos (a^i) (show 0<n by omega)
   show (a^i%n).toNat<n.toNat
   omega
  rw [List.length_map,List.length_range] at this
  omega
def fact:Nat->Nat
 | 0=>1
 | n+1=>(n+1)*fact n
theorem pY:∀ n,0<fact n
 | 0=>by decide
 | n+1=>Nat.mul_pos (Nat.succ_pos n) (pY n)
theorem pS {d:Nat}:∀ n,0<d->d<=n->d∣fact n
 | 0,h,h'=>by omega
 | n+1,h,h'=>by
  by_cases c:d=n+1
  ·subst c;exact⟨fact n,rfl⟩
  ·exact Nat.dvd_trans (pS n h (by omega)) ⟨n+1,Nat.mul_comm _ _⟩
theorem Ord.mul {n a b:Int} {k m:Nat} (ha:Ord n a k) (hb:Ord n b m) (ca:Co a n) (cb:Co b n) (co:Nat.Coprime k m):Ord n (a*b) (k*m):=by
 refine⟨Nat.mul_pos ha.pos hb.pos,?_,λj hj=>?_⟩
 ·rw [Pw.mul_pow]
  have h1:=aL (k:=m) ha.one
  have h2:=aL (k:=k) hb.one
  rw [Nat.mul_comm m k] at h2
  exact h1.mul h2
 ·rw [Pw.mul_pow] at hj
  have d1:k∣j:=by
   have e:=hj.pow m
   rw [Pw.one_pow,Pw.mul_pow,<- Pw.pow_mul,<- Pw.pow_mul] at e
   have h2:=aL (k:=j) hb.one
   rw [Nat.mul_comm m j] at h2
   have e2:Al n (a^(j*m)) 1:=by
    have:=(Al.refl n (a^(j*m))).mul h2.symm
    rw [Int.mul_one] at this
    exact this.trans e
   exact Nat.Coprime.dvd_of_dvd_mul_right co (ha.dv _ e2)
  have d2:m∣j:=by
   have e:=hj.pow k
   rw [Pw.one_pow,Pw.mul_pow,<- Pw.pow_mul,<- Pw.pow_mul] at e
   have h2:=aL (k:=j) ha.one
   rw [Nat.mul_comm k j] at h2
   have e2:Al n (b^(j*k)) 1:=by
    have:=h2.symm.mul (Al.refl n (b^(j*k)))
    rw [Int.one_mul] at this
    exact this.trans e
   exact Nat.Coprime.dvd_of_dvd_mul_right co.symm (hb.dv _ e2)
  exact Nat.Coprime.mul_dvd_of_dvd_of_dvd co d1 d2
end Num
namespace Num
def Nm (q:Nat):Prop:=2<=q/\∀ d,2<=d->d<q->¬d∣q
theorem Bq {m:Nat} (h:2<=m):∃ q,Nm q/\q∣m:=by
 obtain⟨q,⟨q2,qm⟩,no⟩:=fV (P:=λd=>2<=d/\d∣m) m ⟨h,Nat.dvd_refl m⟩
 exact⟨q,⟨q2,λd d2 dq hd=>no d dq ⟨d2,Nat.dvd_trans hd qm⟩⟩,qm⟩
theorem Nm.co {q m:Nat} (h:Nm q) (hm:¬q∣m):Nat.Coprime q m:=by
 have hg:=Nat.gcd_dvd_left q m
 have g0:0<Nat.gcd q m:=Nat.gcd_pos_of_pos_left m (by have:=h.1;omega)
 have gl:=Nat.le_of_dvd (by have:=h.1;omega) hg
 rcases (by omega:Nat.gcd q m=1∨(2<=Nat.gcd q m/\Nat.gcd q m<q)∨Nat.gcd q m=q) with z | ⟨z1,z2⟩ | z
 ·exact z
 ·exact absurd hg (h.2 _ z1 z2)
 ·exact absurd (z▸Nat.gcd_dvd_right q m) hm
theorem yI {q:Nat} (hq:2<=q):∀ m:Nat,0<m->∃ k m',m=q^k*m'/\¬q∣m':=by
 intro m
 induction m using Nat.strongRecOn with
 | ind m ih =>
  intro hm
  by_cases c:q∣m
  ·obtain⟨t,ht⟩:=c
   have t0:0<t:=by
    rcases Nat.eq_zero_or_pos t with z | z
    ·subst z;omega
    ·exact z
   have tm:t<m:=by
    rw [ht]
    have:=Nat.mul_le_mul_right t hq
    omega
   obtain⟨k,m',e,hn⟩:=ih t tm t0
   exact⟨k+1,m',by rw [ht,e,Nat.pow_succ,Nat.mul_comm (q^k) q,Nat.mul_assoc],hn⟩
  ·exact⟨0,m,by simp,c⟩
theorem tW {q:Nat} (h:Nm q):∀(k d:Nat),d∣q^(k+1)->¬d∣q^k->d=q^(k+1):=by
 intro k
 induction k with
 | zero =>
  intro d h1 h2
  rw [Nat.zero_add,Nat.pow_one] at h1 ⊢
  rw [Nat.pow_zero] at h2
  have q2:=h.1
  have d0:0<d:=Nat.pos_of_dvd_of_pos h1 (by omega)
  have dl:=Nat.le_of_dvd (by omega) h1
  rcases (by omega:d=1∨(2<=d/\d<q)∨d=q) with z | ⟨z1,z2⟩ | z
  ·exact absurd (z▸Nat.dvd_refl 1) h2
  ·exact absurd h1 (h.2 d z1 z2)
  ·exact z
 | succ k ih =>
  intro d h1 h2
  by_cases c:q∣d
  ·obtain⟨t,ht⟩:=c
   have q0:0<q:=by have:=h.1;omega
   rw [ht,Nat.pow_succ,Nat.mul_comm (q^(k+1)) q] at h1
   rw [ht,Nat.pow_succ,Nat.mul_comm (q^k) q] at h2
   have e1:=Nat.dvd_of_mul_dvd_mul_left q0 h1
   have e2:¬t∣q^k:=λz=>h2 (Nat.mul_dvd_mul_left q z)
   rw [ht,ih t e1 e2,Nat.pow_succ q (k+1),Nat.mul_comm]
  ·have co:Nat.Coprime (q^(k+1+1)) d:=Nat.Coprime.pow_left _ (h.co c)
   have:d∣1:=by
    have:=Nat.dvd_gcd h1 (Nat.dvd_refl d)
    rwa [co] at this
   exact absurd (Nat.dvd_trans this (Nat.one_dvd _)) h2
section
variable {p:Int} {L:Nat}
structure Ex (p:Int) (L:Nat):Prop where
 pos:0<L
 all:∀ a:Int,¬p∣a->Al p (a^L) 1
 no:∀ j,0<j->j<L->∃ a:Int,¬p∣a/\¬Al p (a^j) 1
theorem Pm.unit {p a:Int} (hp:Pm p) (c:Co a p):¬p∣a:=λh=>by
 obtain⟨u,v,e⟩:=c
 have h1:p∣u*a:=Int.dvd_mul_of_dvd_right h
 have h2:p∣v*p:=⟨v,Int.mul_comm _ _⟩
 have:=Int.dvd_add h1 h2
 rw [e] at this
 have:=Int.le_of_dvd (by decide) this
 have:=hp.two
 omega
theorem Ba (hp:Pm p):∃ L,Ex p L:=by
 have h2:=hp.two
 have uni:∀ a:Int,¬p∣a->Al p (a^fact p.toNat) 1:=λa ha=>by
  obtain⟨d,d0,d1,e⟩:=back h2 (hp.co ha)
  obtain⟨t,ht⟩:=pS p.toNat d0 (by omega)
  rw [ht]
  exact aL e
 obtain⟨L,⟨l0,l1⟩,no⟩:=fV (P:=λj=>0<j/\∀ a:Int,¬p∣a->Al p (a^j) 1) (fact p.toNat) ⟨pY _,uni⟩
 refine⟨L,l0,l1,λj j0 jl=>?_⟩
 have:=no j jl
 by_cases z:∃ a:Int,¬p∣a/\¬Al p (a^j) 1
 ·exact z
 ·exact absurd ⟨j0,λa ha=>Classical.byContradiction λw=>z ⟨a,ha,w⟩⟩ this
theorem qC (hp:Pm p) (h:Ex p L):∀ m:Nat,0<m->m∣L->∃ x:Int,Co x p/\Ord p x m:=by
 intro m
 induction m using Nat.strongRecOn with
 | ind m ih =>
  intro hm hd
  by_cases c:m=1
  ·subst c
   exact⟨1,⟨1,0,by omega⟩,by decide,by rw [Int.pow_succ,Int.pow_zero];exact Al.refl _ _,λj _=>Nat.one_dvd j⟩
  ·obtain⟨q,hq,qm⟩:=Bq (show 2<=m by omega)
   obtain⟨k,m',e,hn⟩:=yI hq.1 m hm
   have q0:0<q:=by have:=hq.1;omega
   obtain⟨k',rfl⟩:∃ k',k=k'+1:=by
    cases k with
    | zero=>rw [Nat.pow_zero,Nat.one_mul] at e;exact absurd (e▸qm) hn
    | succ k'=>exact⟨k',rfl⟩
   have m0:0<m':=by
    rcases Nat.eq_zero_or_pos m' with z | z
    ·rw [z,Nat.mul_zero] at e;omega
    ·exact z
   have qk:2<=q^(k'+1):=by
    rw [Nat.pow_succ]
    have:=Nat.mul_le_mul (Nat.pow_pos (n:=k') q0) hq.1
    omega
   have mm:m'<m:=by
    rw [e]
    have:=Nat.mul_le_mul_right m' qk
    omega
   obtain⟨y,cy,oy⟩:=ih m' mm m0 (Nat.dvd_trans ⟨q^(k'+1),by rw [e,Nat.mul_comm]⟩ hd)
   have dq:q^(k'+1)∣L:=Nat.dvd_trans ⟨m',e⟩ hd
   obtain⟨T,hT⟩:=dq
   have T0:0<T:=by
    rcases Nat.eq_zero_or_pos T with z | z
    ·rw [z,Nat.mul_zero] at hT;have:=h.pos;omega
    ·exact z
   have eL:L=q*(q^k'*T):=by rw [hT,Nat.pow_succ,Nat.mul_comm (q^k') q,Nat.mul_assoc]
   have jp:0<q^k'*T:=Nat.mul_pos (Nat.pow_pos q0) T0
   have jl:q^k'*T<L:=by
    rw [eL]
    have:=Nat.mul_le_mul_right (q^k'*T) hq.1
    omega
   obtain⟨a,ha,hna⟩:=h.no _ jp jl
   have ca:=hp.co ha
   have z1:Al p ((a^T)^(q^(k'+1))) 1:=by
    rw [<- Pw.pow_mul,Nat.mul_comm,<- hT]
    exact h.all a ha
   have z2:¬Al p ((a^T)^(q^k')) 1:=by
    rw [<- Pw.pow_mul,Nat.mul_comm]
    exact hna
   obtain⟨d,od,_⟩:=jL (Nat.pow_pos q0) z1
   have d1:=od.dv _ z1
   have d2:¬d∣q^k':=λw=>z2 (by obtain⟨t,ht⟩:=w;rw [ht];exact aL od.one)
   have ed:=tW hq k' d d1 d2
   subst ed
   refine⟨a^T*y,(ca.pow T).mul cy,?_⟩
   rw [e]
   exact od.mul oy (ca.pow T) cy (Nat.Coprime.pow_left _ (hq.co hn))
theorem Bb (hp:Pm p) (h:Ex p L):(L:Int)=p-1:=by
 have h2:=hp.two
 have h1:=zy hp h.pos h.all
 obtain⟨g,cg,og⟩:=qC hp h L h.pos (Nat.dvd_refl L)
 have nd:=mX (f:=λi=>(g^i%p).toNat-1) (n:=L) λi j ij jn e=>by
  have r1:∀ k:Nat,1<=(g^k%p).toNat:=λk=>by
   have a1:=Int.emod_nonneg (g^k) (show p≠0 by omega)
   have:g^k%p≠0:=λz=>hp.unit (cg.pow k) (Int.dvd_of_emod_eq_zero z)
   omega
  have e':(g^i%p).toNat=(g^j%p).toNat:=by
   have:=r1 i
   have:=r1 j
   have e:(g^i%p).toNat-1=(g^j%p).toNat-1:=e
   omega
  have:=og.inj cg (by omega) jn (rest_eq (by omega) e')
  omega
 have:=ya (p-1).toNat _ nd λx hx=>by
  obtain⟨i,_,rfl⟩:=List.mem_map.mp hx
  have a1:=Int.emod_nonneg (g^i) (show p≠0 by omega)
  have a2:=Int.emod_lt_of_pos (g^i) (show 0<p by omega)
  have:g^i%p≠0:=λz=>hp.unit (cg.pow i) (Int.dvd_of_emod_eq_zero z)
  show (g^i%p).toNat-1<(p-1).toNat
  omega
 rw [List.length_map,List.length_range] at this
 omega
theorem fR (hp:Pm p) {a:Int} (ha:¬p∣a):Al p (a^(p-1).toNat) 1:=by
 obtain⟨L,h⟩:=Ba hp
 have:=Bb hp h
 rw [show (p-1).toNat=L by omega]
 exact h.all a ha
theorem rN (hp:Pm p) {m:Nat} (h0:0<m) (hd:m∣(p-1).toNat):∃ x:Int,1<=x/\x<p/\Ord p x m:=by
 obtain⟨L,h⟩:=Ba hp
 have:=Bb hp h
 have h2:=hp.two
 obtain⟨x,cx,ox⟩:=qC hp h m h0 (by rwa [show (p-1).toNat=L by omega] at hd)
 have a1:=Int.emod_nonneg x (show p≠0 by omega)
 have a2:=Int.emod_lt_of_pos x (show 0<p by omega)
 have a3:x%p≠0:=λz=>hp.unit cx (Int.dvd_of_emod_eq_zero z)
 refine⟨x%p,by omega,a2,ox.pos,((Al.rest p x).pow m).trans ox.one,λj hj=>ox.dv j (((Al.rest p x).pow j).symm.trans hj)⟩
theorem zN (hp:Pm p):∃ g:Int,1<=g/\g<p/\Ord p g (p-1).toNat:=rN hp (by have:=hp.two;omega) (Nat.dvd_refl _)
end
end Num
namespace Num
theorem Co.Cw {n a:Int} {m:Nat} (h:Al n (a^(m+1)) 1):Co a n:=by
 obtain⟨c,hc⟩:=h
 refine⟨a^m,-c,?_⟩
 rw [Int.pow_succ] at hc
 rw [Int.neg_mul,Int.mul_comm c n]
 omega
theorem xT {n a:Int} {e:Nat} (h0:0<e) (h1:Al n (a^e) 1) (no:∀ q,Nm q->q∣e->¬Al n (a^(e/q)) 1):Ord n a e:=by
 obtain⟨m,om,_⟩:=jL h0 h1
 have d:=om.dv _ h1
 by_cases z:m=e
 ·subst z;exact om
 ·exfalso
  obtain⟨t,ht⟩:=d
  have t2:2<=t:=by
   rcases (by omega:t=0∨t=1∨2<=t) with w | w | w
   ·rw [w] at ht;omega
   ·rw [w,Nat.mul_one] at ht;exact absurd ht.symm z
   ·exact w
  obtain⟨q,hq,r,hr⟩:=Bq t2
  have q0:0<q:=by have:=hq.1;omega
  have e1:e=q*(m*r):=by rw [ht,hr,<- Nat.mul_assoc,Nat.mul_comm m q,Nat.mul_assoc]
  refine no q hq ⟨m*r,e1⟩ ?_
  rw [e1,Nat.mul_div_cancel_left _ q0]
  exact aL om.one
theorem Ord.FF {n a:Int} {e:Nat} (h:Ord n a e) {q:Nat} (hq:Nm q) (hd:q∣e):¬Al n (a^(e/q)) 1:=λz=>by
 have q0:0<q:=by have:=hq.1;omega
 obtain⟨r,hr⟩:=hd
 rw [hr,Nat.mul_div_cancel_left _ q0] at z
 have d:=h.dv _ z
 have r0:0<r:=by
  rcases Nat.eq_zero_or_pos r with w | w
  ·rw [w,Nat.mul_zero] at hr;have:=h.pos;omega
  ·exact w
 have:=Nat.le_of_dvd r0 d
 have:=Nat.mul_le_mul_right r hq.1
 omega
end Num
namespace Num
theorem yb {n r:Int} (h:Ld.jS n r):Pm r:=⟨h.two,λd d2 dr hd=>h.no d d2 dr (Int.dvd_trans hd h.dv)⟩
def bU:List (Int × Int)->Int
 | []=>1
 | p::r=>p.1^p.2.toNat*bU r
theorem lK:∀(ps:List (Int × Int)) (p:Int × Int),bU (ps++[p])=bU ps*p.1^p.2.toNat
 | [],p=>by show p.1^_*1=1*_;omega
 | q::r,p=>by
  show q.1^q.2.toNat*bU (r++[p])=q.1^q.2.toNat*bU r*_
  rw [lK r p,Int.mul_assoc]
structure Part (n:Int) (ps:List (Int × Int)):Prop where
 ok:∀ p∈ps,Pm p.1/\1<=p.2/\p.2<=30
 rise:ps.Pairwise λa b=>a.1<b.1
 prod:bU ps=n
theorem bJ {q:Int} (h:0<q):∀ k:Nat,0<q^k
 | 0=>by rw [Int.pow_zero];decide
 | k+1=>by rw [Int.pow_succ];exact Int.mul_pos (bJ h k) h
theorem two_pow_le {q:Int} (h:2<=q):∀ k:Nat,(2:Int)^k<=q^k
 | 0=>by rw [Int.pow_zero,Int.pow_zero];exact Int.le_refl _
 | k+1=>by
  rw [Int.pow_succ,Int.pow_succ]
  exact Int.mul_le_mul (two_pow_le h k) h (by decide) (Int.le_of_lt (bJ (by omega) k))
theorem two_le:∀{k:Nat},(2:Int)^k<=10^9->k<=29:=by
 intro k h
 by_cases c:k<=29
 ·exact c
 ·exfalso
  have e:k=30+(k-30):=by omega
  rw [e,Pw.pow_add] at h
  have:=bJ (show (0:Int)<2 by decide) (k-30)
  have h2:=Int.mul_le_mul_of_nonneg_left (show (1:Int)<=2^(k-30) by omega) (show (0:Int)<=2^30 by decide)
  have:(2:Int)^30=1073741824:=by decide
  omega
structure Way (n:Int) (ps:List (Int × Int)) (left prime:Int):Prop where
 ok:∀ p∈ps,Pm p.1/\1<=p.2/\p.2<=30
 rise:ps.Pairwise λa b=>a.1<b.1
 prod:bU ps*left=n
 pos:1<=left
 inv:Ld.Inv left prime
 le:∀ p∈ps,p.1<=prime
 gone:ps=[]∨¬prime∣left
 two:(2:Int)^ps.length*left<=n
theorem Way.start {n:Int} (h:1<=n):Way n [] n 2:=⟨λ_ z=>by simp at z,List.Pairwise.nil,by show 1*n=n;omega,h,⟨by decide,.inl rfl,λd d0 d1=>by omega⟩,λ_ z=>by simp at z,.inl rfl,by rw [List.length_nil,Int.pow_zero];omega⟩
theorem Way.step {n left prime r left':Int} {ps:List (Int × Int)} {k:Nat} (w:Way n ps left prime) (hn:n<=10^9) (hl:1<left) (h:Ld.jS left r) (e:left=r^k*left') (l0:1<=left') (hk:1<=k) (hg:¬r∣left'):Way n (ps++[(r,(k:Int))]) left' r:=by
 have r2:=h.two
 have pm:=yb h
 have rp:prime<=r:=by
  rcases (by omega:prime<=r∨r<prime) with z | z
  ·exact z
  ·exact absurd h.dv (w.inv.no r r2 z)
 have rk:=bJ (show 0<r by omega) k
 have k2:=two_pow_le r2 k
 have kl:(2:Int)^k<=left:=by
  have:=Int.mul_le_mul k2 l0 (by decide) (Int.le_of_lt rk)
  rw [Int.mul_one] at this
  omega
 have ln:left<=n:=by
  have z:=w.two
  have p0:=bJ (show (0:Int)<2 by decide) ps.length
  have:=Int.mul_le_mul_of_nonneg_right (show (1:Int)<=2^ps.length by omega) (show 0<=left by omega)
  omega
 have k29:=two_le (k:=k) (by omega)
 refine⟨λp hp=>?_,?_,?_,l0,?_,λp hp=>?_,.inr hg,?_⟩
 ·rcases List.mem_append.mp hp with z | z
  ·exact w.ok p z
  ·rw [List.mem_singleton.mp z]
   exact⟨pm,by show (1:Int)<=k;omega,by show (k:Int)<=30;omega⟩
 ·refine List.pairwise_append.mpr ⟨w.rise,List.pairwise_singleton _ _,λa ha b hb=>?_⟩
  rw [List.mem_singleton.mp hb]
  show a.1<r
  have:=w.le a ha
  rcases w.gone with z | z
  ·rw [z] at ha;simp at ha
  ·have:prime≠r:=λy=>z (y▸h.dv)
   omega
 ·rw [lK,<- w.prod,e]
  show bU ps*r^((k:Int).toNat)*left'=_
  rw [Int.toNat_natCast,Int.mul_assoc]
 ·refine⟨r2,?_,λd d0 d1 hd=>h.no d d0 d1 (by rw [e];exact Int.dvd_mul_of_dvd_right hd)⟩
  rcases (by omega:r=2∨2<r) with z | z
  ·exact .inl z
  ·refine .inr ?_
   rcases (by omega:r%2=1∨r%2=0) with y | y
   ·exact y
   ·exact absurd (Int.dvd_of_emod_eq_zero y) (pm.no 2 (by decide) z)
 ·rcases List.mem_append.mp hp with z | z
  ·have:=w.le p z;omega
  ·rw [List.mem_singleton.mp z];exact Int.le_refl _
 ·rw [List.length_append,List.length_singleton,Pw.pow_add,Int.pow_succ,Int.pow_zero,Int.one_mul,Int.mul_assoc]
  refine Int.le_trans (Int.mul_le_mul_of_nonneg_left ?_ (Int.le_of_lt (bJ (by decide) _))) w.two
  rw [e]
  obtain⟨k',rfl⟩:∃ k',k=k'+1:=⟨k-1,by omega⟩
  have p0:=bJ (show 0<r by omega) k'
  have h1:r<=r^(k'+1):=by
   rw [Int.pow_succ]
   have:=Int.mul_le_mul_of_nonneg_right (show 1<=r^k' by omega) (show 0<=r by omega)
   omega
  exact Int.mul_le_mul_of_nonneg_right (show 2<=r^(k'+1) by omega) (show 0<=left' by omega)
theorem Way.done {n prime:Int} {ps:List (Int × Int)} (w:Way n ps 1 prime):Part n ps:=⟨w.ok,w.rise,by have:=w.prod;omega⟩
theorem Way.len {n left prime:Int} {ps:List (Int × Int)} (w:Way n ps left prime) (hn:n<=10^9):ps.length<=29:=by
 refine two_le ?_
 have z:=w.two
 have p0:=bJ (show (0:Int)<2 by decide) ps.length
 have:=Int.mul_le_mul_of_nonneg_left w.pos (Int.le_of_lt p0)
 omega
end Num
namespace Num
open PySem
theorem d5:∀{ps:List (Int × Int)} {p:Int × Int},p∈ps->1<=p.2->p.1∣bU ps
 | a::r,p,h,hk=>by
  rcases List.mem_cons.mp h with z | z
  ·subst z
   obtain⟨k,hk'⟩:∃ k,p.2.toNat=k+1:=⟨p.2.toNat-1,by omega⟩
   show p.1∣p.1^p.2.toNat*bU r
   rw [hk',Int.pow_succ]
   exact Int.dvd_mul_of_dvd_left ⟨p.1^k,Int.mul_comm _ _⟩
  ·exact Int.dvd_mul_of_dvd_right (d5 z hk)
theorem Bu {q:Nat} (h:Nm q):Pm (q:Int):=⟨by have:=h.1;omega,λd d2 dq hd=>h.2 d.toNat (by omega) (by omega) (by
 obtain⟨c,hc⟩:=hd
 have:(d.toNat:Int)=d:=by omega
 exact Int.natCast_dvd_natCast.mp (by rw [this];exact⟨c,hc⟩))⟩
theorem tJ {p:Int} (h:Pm p):Nm p.toNat:=⟨by have:=h.two;omega,λd d2 dp hd=>h.no d (by omega) (by omega) (by
 have:=Int.natCast_dvd_natCast.mpr hd
 rwa [show (p.toNat:Int)=p by have:=h.two;omega] at this)⟩
theorem yc {p q:Int} (hp:Pm p) (hq:Pm q):∀ k:Nat,q∣p^k->q=p
 | 0,h=>by
  rw [Int.pow_zero] at h
  have:=Int.le_of_dvd (by decide) h
  have:=hq.two
  omega
 | k+1,h=>by
  rw [Int.pow_succ] at h
  by_cases c:q∣p^k
  ·exact yc hp hq k c
  ·have d:=hq.or h c
   have l:=Int.le_of_dvd (by have:=hp.two;omega) d
   rcases (by omega:q<p∨q=p) with z | z
   ·exact absurd d (hp.no q hq.two z)
   ·exact z
theorem fX {q:Int} (hq:Pm q):∀{ps:List (Int × Int)},(∀ p∈ps,Pm p.1)->q∣bU ps->∃ p∈ps,p.1=q
 | [],_,h=>by
  have:=Int.le_of_dvd (by decide) (show q∣1 from h)
  have:=hq.two
  omega
 | a::r,hp,h=>by
  by_cases c:q∣a.1^a.2.toNat
  ·exact⟨a,by simp,(yc (hp a (by simp)) hq _ c).symm⟩
  ·obtain⟨p,h1,h2⟩:=fX hq (λp z=>hp p (List.mem_cons_of_mem _ z)) (hq.or h c)
   exact⟨p,List.mem_cons_of_mem _ h1,h2⟩
theorem xV {n a e:Int} {ps:List (Int × Int)} (h:Part e ps) (he:1<=e):(Al n (a^e.toNat) 1/\∀ q∈ps.map (·.1),¬Al n (a^(e/q).toNat) 1)↔Ord n a e.toNat:=by
 constructor
 ·rintro⟨h1,h2⟩
  refine xT (by omega) h1 λq hq hd=>?_
  have hd':(q:Int)∣e:=by
   have:=Int.natCast_dvd_natCast.mpr hd
   rwa [show (e.toNat:Int)=e by omega] at this
  obtain⟨p,hp,ep⟩:=fX (Bu hq) (λp z=>(h.ok p z).1) (by rw [h.prod];exact hd')
  have:=h2 q (List.mem_map.mpr ⟨p,hp,ep⟩)
  rwa [show (e/(q:Int)).toNat=e.toNat/q by
   have:e/(q:Int)=((e.toNat/q:Nat):Int):=by rw [Int.natCast_ediv];congr 1;omega
   rw [this,Int.toNat_natCast]] at this
 ·intro h1
  refine⟨h1.one,λq hq=>?_⟩
  obtain⟨p,hp,rfl⟩:=List.mem_map.mp hq
  obtain⟨o1,o2,_⟩:=h.ok p hp
  have d:p.1∣e:=by rw [<- h.prod];exact d5 hp o2
  have t:=o1.two
  have:=h1.FF (tJ o1) (by
   have:(p.1.toNat:Int)∣(e.toNat:Int):=by rw [show (p.1.toNat:Int)=p.1 by omega,show (e.toNat:Int)=e by omega];exact d
   exact Int.natCast_dvd_natCast.mp this)
  rwa [show e.toNat/p.1.toNat=(e/p.1).toNat by
   have:e/p.1=((e.toNat/p.1.toNat:Nat):Int):=by rw [Int.natCast_ediv];congr 1<;>omega
   rw [this,Int.toNat_natCast]] at this
structure LF (p g:Int):Prop where
 one:1<=g
 lt:g<p
 ord:Ord p g (p-1).toNat
 no:∀ a:Int,1<=a->a<g->¬Ord p a (p-1).toNat
def rowsOf (ps:List (Int × Int)) (ds:Nat->PyData):List PyData:=(List.range ps.length).map λi=>.tuple [ds i,.int (ps.getD i (0,0)).2]
theorem bK {ps:List (Int × Int)} {ds:Nat->PyData}:(rowsOf ps ds).length=ps.length:=by unfold rowsOf;rw [List.length_map,List.length_range]
theorem iH {ps:List (Int × Int)} {ds:Nat->PyData} {i:Nat} {p:Int × Int} (h:ps[i]?=some p):(rowsOf ps ds)[i]?=some (.tuple [ds i,.int p.2]):=by
 have hi:=(List.getElem?_eq_some_iff.mp h).1
 unfold rowsOf
 rw [List.getElem?_map,List.getElem?_range hi]
 show some (PyData.tuple [ds i,.int (ps.getD i (0,0)).2])=_
 rw [List.getD_eq_getElem?_getD,h]
 rfl
inductive fK:Int->PyData->Prop
 | mk (p g:Int) (ps:List (Int × Int)) (ds:Nat->PyData):Pm p->p<=10^9->LF p g->Part (p-1) ps->ps.length<=29->(∀ i q k,ps[i]?=some (q,k)->fK q (ds i))->fK p (.tuple [.int p,.int g,.tuple (rowsOf ps ds)])
theorem fK.head {p:Int} {d:PyData} (h:fK p d):∃ g rows,d=.tuple [.int p,.int g,.tuple rows]:=by
 cases h
 exact⟨_,_,rfl⟩
def Ht:Nat->Int->Prop
 | 0,_=>False
 | L+1,n=>∀ q:Int,Pm q->q∣n-1->Ht L q
theorem Bf:∀(L:Nat) (n:Int),Pm n->n<2^(L+2)->Ht (L+2) n
 | 0,n,h,hn=>by
  have h2:=h.two
  have hn':n<4:=hn
  intro q hq hd
  intro q' hq' hd'
  have q2:=hq.two
  have l:=Int.le_of_dvd (by rcases (by omega:n=2∨n=3) with z | z;exfalso;rw [z] at hd;have:=Int.le_of_dvd (by decide) hd;omega;omega) hd
  have qq:q=2:=by omega
  rw [qq] at hd'
  have:=Int.le_of_dvd (by decide) hd'
  have:=hq'.two
  omega
 | L+1,n,h,hn=>by
  intro q hq hd
  have q2:=hq.two
  have h2:=h.two
  refine Bf L q hq ?_
  have e:(2:Int)^(L+1+2)=2^(L+2)*2:=by rw [<- Int.pow_succ]
  rw [e] at hn
  have four:(4:Int)<=2^(L+2):=by
   have:=bJ (show (0:Int)<2 by decide) L
   have e4:(2:Int)^(L+2)=2^L*4:=by rw [Pw.pow_add];rfl
   omega
  obtain⟨c,hc⟩:=hd
  rcases (by omega:n<=3∨3<n) with z | z
  ·have:q<=n-1:=Int.le_of_dvd (by
    rcases (by omega:n=2∨n=3) with y | y
    ·exfalso
     rw [y] at hc
     have:=Int.le_of_dvd (by decide) (show q∣1 from ⟨c,hc⟩)
     omega
    ·omega) ⟨c,hc⟩
   omega
  ·rcases (by omega:n%2=0∨n%2=1) with y | y
   ·exact absurd (Int.dvd_of_emod_eq_zero y) (h.no 2 (by decide) (by omega))
   ·rcases (by omega:q=2∨2<q) with x | x
    ·omega
    ·have qo:q%2=1:=by
      rcases (by omega:q%2=1∨q%2=0) with w | w
      ·exact w
      ·exact absurd (Int.dvd_of_emod_eq_zero w) (hq.no 2 (by decide) x)
     have ce:c%2=0:=by
      rcases (by omega:c%2=0∨c%2=1) with w | w
      ·exact w
      ·exfalso
       have:(q*c)%2=1:=by rw [Int.mul_emod,qo,w];rfl
       omega
     have c2:2<=c:=by
      rcases (by omega:c<=0∨2<=c) with w | w
      ·have:=Int.mul_nonpos_of_nonneg_of_nonpos (show 0<=q by omega) w
       omega
      ·exact w
     have:=Int.mul_le_mul_of_nonneg_left c2 (show 0<=q by omega)
     omega
theorem Cb {n:Int} (h:Pm n) (hn:n<=10^9):Ht 30 n:=Bf 28 n h (by
 have:(2:Int)^(28+2)=1073741824:=by decide
 omega)
end Num
namespace L2
open PySem PySem.Spec PyProof.Rows
def F1:PyData->String
 | .none => "NoneType"
 | .bool _ => "bool"
 | .int _ => "int"
 | .str _ => "str"
 | .list _ => "list"
 | .tuple _ => "tuple"
 | .dict _ => "dict"
def wQ:PyData->Bool
 | .int _=>true
 | _=>false
def Ff:PyData->Bool
 | .bool _=>true
 | _=>false
def DX:PyData->Bool
 | .tuple _=>true
 | _=>false
def Fg:PyData->Bool
 | .list _=>true
 | _=>false
section
variable {X:Cx} {K:PySem.W.Frag}
def qK (K:PySem.W.Frag):List V->Hp->VK->Prop:=λxs H Q=>∃ d x n b,xs=[x,.ty n]/\dv K H d x/\PySem.W.kitOne K (.type (F1 d)) (.type n)=some b/\Q (.bl b) H
theorem aW:cT X (.builtin "isinstance") (qK X.K):=by
 intro pins s σ H xs us Q I r h
 obtain⟨d,x,n,b,rfl,hd,ek,q⟩:=h
 obtain⟨u,w',rfl,rx,rc⟩:=vals2 r
 have e:w'=.type n:=rc
 subst e
 have fin:∀ tk,∃ v' H',Inv X pins σ H' { s with toks:=tk }/\RelV v' (.bool b)/\Q v' H':=λtk=>⟨.bl b,H,I.tok _,rfl,q⟩
 cases d with
 | none=>cases hd;exact gO I rx gY.non ek fin
 | bool y=>cases hd;exact gO I rx (gY.bl _) ek fin
 | int y=>cases hd;exact gO I rx (gY.int _) ek fin
 | str y=>cases hd;exact gO I rx (gY.str _) ek fin
 | list ds =>
  obtain⟨p,ys,rfl,h,t⟩:=hd
  cases rx
  obtain⟨its,rr,pl,_⟩:=I.list h
  obtain⟨o,h1,h2,_⟩:=pl.isList
  exact PySem.W.kia_one PySem.W.kitx_list I.fL ⟨o,h1,h2⟩ ek (λz=>nomatch z) fin
 | tuple ds =>
  obtain⟨p,ys,rfl,h,t⟩:=hd
  cases rx
  obtain⟨its,rr,pl,_⟩:=I.tuple h
  obtain⟨o,h1,h2,_⟩:=pl
  exact PySem.W.kia_one PySem.W.kitx_tuple I.fL ⟨o,h1,h2⟩ ek (λz=>nomatch z) fin
 | dict _=>exact hd.elim
theorem zS {H:Hp} {d:PyData} {x:V} {Q:VK} (h:dv K H d x) (q:Q (.bl (wQ d || Ff d)) H):qK K [x,.ty "int"] H Q:=by
 refine⟨d,x,"int",_,rfl,h,?_,q⟩
 cases d<;>first | exact h.elim | with_unfolding_all rfl
theorem cY {H:Hp} {d:PyData} {x:V} {Q:VK} (h:dv K H d x) (q:Q (.bl (Ff d)) H):qK K [x,.ty "bool"] H Q:=by
 refine⟨d,x,"bool",_,rfl,h,?_,q⟩
 cases d<;>first | exact h.elim | with_unfolding_all rfl
theorem bM {H:Hp} {d:PyData} {x:V} {Q:VK} (h:dv K H d x) (q:Q (.bl (DX d)) H):qK K [x,.ty "tuple"] H Q:=by
 refine⟨d,x,"tuple",_,rfl,h,?_,q⟩
 cases d<;>first | exact h.elim | with_unfolding_all rfl
theorem cn {H:Hp} {d:PyData} {x:V} {Q:VK} (h:dv K H d x) (q:Q (.bl (Fg d)) H):qK K [x,.ty "list"] H Q:=by
 refine⟨d,x,"list",_,rfl,h,?_,q⟩
 cases d<;>first | exact h.elim | with_unfolding_all rfl
end
def DT (i:Int) (n:Nat):List V:=(List.range n).map fun(k:Nat)=>V.int (i+(k:Int))
def FZ (ta:TA):TE:=λσ H Q=>ta σ H λvs H1=>∃ i j:Int,vs=[.int i,.int j]/\(-(2^62)<=i/\i<2^62 /\ -(2^62)<=j/\j<2^62)/\j-i<=10^6/\∀ l,H1 l=none->Q (.ref l) (upd H1 l (.lst (DT i (j-i).toNat)))
variable {X:Cx}
theorem boot_any:bootBuiltins "any"=some (.builtin "any"):=by decide +kernel
section
variable {X:Cx} {K:PySem.W.Frag}
def Ed (K:PySem.W.Frag):List V->Hp->VK->Prop:=λxs H Q=>∃(a:Addr) (bs:List Bool),xs=[.ref a]/\aO K H a (bs.map V.bl)/\Q (.bl (bs.any id)) H
theorem wb (hc:X.calm=true):cT X (.builtin "any") (Ed X.K):=by
 intro pins s σ H xs us Q I r h
 obtain⟨a,bs,rfl,hq,q⟩:=h
 obtain⟨u,rfl,ru⟩:=vals1 r
 cases ru
 obtain⟨its,rv,p,hz⟩:=I.list hq
 have hl:=p.isList
 have hlt:a<s.heap.objs.size:=by obtain⟨_,e,_⟩:=hl;exact Heap.lt_size e
 have hln:its.length=bs.length:=by have:=rv.length;rw [List.length_map] at this;omega
 have hb:∀(i:Nat) v,its[i]?=some v->∃ b,bs[i]?=some b/\v=.bool b:=λi v e=>by
  have hi:i<its.length:=(List.getElem?_eq_some_iff.mp e).1
  have hi2:i<bs.length:=by omega
  obtain⟨u,e1,e2⟩:=rv.get (i:=i) (x:=V.bl bs[i]) (by rw [List.getElem?_map,List.getElem?_eq_getElem hi2];rfl)
  rw [e] at e1
  cases e1
  exact⟨bs[i],List.getElem?_eq_getElem hi2,e2⟩
 refine call_any_walk (wpAny_pyIter_list hl ?_)
 refine⟨s.heap.objs.size,[s.heap.objs.size,a],[s.heap.objs.size],its.toArray.size,_,_,λi=>(bs[i]?).getD false,rfl,Walks.list (A:=X.A.in1) (I.ok.hd hc) _ a (Nat.ne_of_lt hlt) its.toArray,
  ⟨⟨_,Heap.get?_push_size _ rfl,rfl,rfl⟩,hl.push _⟩,λi v s' Q' E' hP hQ=>?_,λh' tk hk=>?_⟩
 ·obtain⟨b,e,rfl⟩:=hb i v (by simpa using hP)
  simp only [e,Option.getD_some] at hQ
  exact wpAny_truthy_bool hQ
 ·have e:((List.range its.toArray.size).any λi=>(bs[i]?).getD false)=bs.any id:=by
   rw [List.size_toArray,hln,Bool.eq_iff_iff]
   simp only [List.any_eq_true,List.mem_range,id]
   constructor
   ·rintro⟨i,hi,z⟩
    rw [List.getElem?_eq_getElem hi,Option.getD_some] at z
    exact⟨_,List.getElem_mem hi,z⟩
   ·rintro⟨b,hb',z⟩
    obtain⟨i,hi,rfl⟩:=List.mem_iff_getElem.mp hb'
    exact⟨i,hi,by rw [List.getElem?_eq_getElem hi,Option.getD_some];exact z⟩
  rw [e]
  exact⟨.bl _,H,I.kept λb o eb=>hk b o (λhm=>by rw [List.mem_singleton.mp hm] at eb;exact Nat.lt_irrefl _ (Heap.lt_size eb)) (Heap.get?_push_of_some _ eb),rfl,q⟩
theorem BZ {H:Hp} {p:Addr} {bs:List Bool} {Q:VK} (h:aO K H p (bs.map V.bl)) (q:Q (.bl (bs.any id)) H):Ed K [.ref p] H Q:=⟨p,bs,rfl,h,q⟩
end
section
variable {κ:Type} [DecidableEq κ]
def cu (kvs:List (κ × V)) (k:κ):Option V:=(kvs.find? λkv=>decide (kv.1=k)).map (·.2)
def putK (kvs:List (κ × V)) (k:κ) (v:V):List (κ × V) :=
 if (kvs.any λkv=>decide (kv.1=k))=true then kvs.map (λkv=>if kv.1=k then (kv.1,v) else kv) else kvs++[(k,v)]
def bS (kvs:List (κ × V)) (k:κ):List (κ × V):=kvs.filter λkv=>decide (kv.1≠k)
theorem cD {p:κ × V} {r:List (κ × V)} {k:κ} (e:p.1=k):cu (p::r) k=some p.2:=by simp [cu,List.find?_cons,e]
theorem bX {p:κ × V} {r:List (κ × V)} {k:κ} (e:¬p.1=k):cu (p::r) k=cu r k:=by simp [cu,List.find?_cons,e]
theorem lZ (k:κ):∀ kvs:List (κ × V),(kvs.any λkv=>decide (kv.1=k))=(cu kvs k).isSome
 | []=>rfl
 | p::r=>by
  rw [List.any_cons]
  by_cases e:p.1=k
  ·simp only [cD e,decide_eq_true e,Bool.true_or,Option.isSome_some]
  ·rw [bX e,decide_eq_false e,Bool.false_or];exact lZ k r
theorem gX (k j:κ) (y:V):∀ kvs:List (κ × V),cu kvs k=none->cu (kvs++[(k,y)]) j=if j=k then some y else cu kvs j
 | [],_=>by
  by_cases e:k=j
  ·rw [if_pos e.symm];exact cD (p:=(k,y)) e
  ·rw [if_neg (λz=>e z.symm)];exact bX (p:=(k,y)) e
 | p::r,hn=>by
  rw [List.cons_append]
  have hk:¬p.1=k:=λz=>by rw [cD z] at hn;cases hn
  rw [bX hk] at hn
  have ih:=gX k j y r hn
  by_cases e:p.1=j
  ·rw [cD e,cD e,if_neg (λz=>hk (e.trans z))]
  ·rw [bX e,bX e,ih]
theorem fW (kvs:List (κ × V)) (k:κ) (v:V):(putK kvs k v).length<=kvs.length+1:=by
 unfold putK
 split
 ·rw [List.length_map];omega
 ·rw [List.length_append,List.length_cons,List.length_nil];omega
theorem qJ {kvs:List (κ × V)} {k:κ} (v:V) (h:cu kvs k=none):putK kvs k v=kvs++[(k,v)]:=by
 unfold putK
 rw [lZ,h]
 exact if_neg (by decide)
theorem fc.ff {o:Option V} {u:Option Value} (r:fc o u):o.isSome=u.isSome:=by
 cases o with
 | none=>cases u with
  | none=>rfl
  | some _=>exact (show False from r).elim
 | some _=>cases u with
  | none=>exact (show False from r).elim
  | some _=>rfl
theorem fc.getD {o:Option V} {u:Option Value} {d:V} {d':Value} (r:fc o u) (rd:RelV d d'):RelV (o.getD d) (u.getD d'):=by
 cases o with
 | none=>cases u with
  | none=>exact rd
  | some _=>exact (show False from r).elim
 | some _=>cases u with
  | none=>exact (show False from r).elim
  | some _=>exact r
theorem KV.val {kvs:List (κ × V)} {vs:List (κ × Value)} (r:KV kvs vs) (k:κ):fc (cu kvs k) (valueAt vs k):=by
 unfold KV at r
 induction r with
 | nil=>exact True.intro
 | @cons p q ps qs h t ih =>
  obtain⟨h1,h2⟩:=h
  by_cases e:p.1=k
  ·have e':q.1=k:=h1.symm.trans e
   have b:valueAt (q::qs) k=some q.2:=by simp [valueAt,List.find?_cons,e']
   rw [cD e,b];exact h2
  ·have e':¬q.1=k:=λz=>e (h1.trans z)
   have b:valueAt (q::qs) k=valueAt qs k:=by simp [valueAt,List.find?_cons,e']
   rw [bX e,b];exact ih
theorem KV.any {kvs:List (κ × V)} {vs:List (κ × Value)} (r:KV kvs vs) (k:κ):(kvs.any λkv=>decide (kv.1=k))=vs.any λkv=>decide (kv.1=k):=by
 unfold KV at r
 induction r with
 | nil=>rfl
 | cons h t ih=>rw [List.any_cons,List.any_cons,ih,h.1]
theorem KV.C5 {kvs:List (κ × V)} {vs:List (κ × Value)} (r:KV kvs vs) (k:κ) {y:V} {u:Value} (ry:RelV y u) :
  KV (kvs.map λkv=>if kv.1=k then (kv.1,y) else kv) (vs.map λkv=>if kv.1=k then (kv.1,u) else kv):=by
 unfold KV at r ⊢
 induction r with
 | nil=>exact .nil
 | @cons p q ps qs h t ih =>
  rw [List.map_cons,List.map_cons]
  refine .cons ?_ ih
  obtain⟨h1,h2⟩:=h
  by_cases e:p.1=k
  ·rw [if_pos e,if_pos (h1.symm.trans e)];exact⟨h1,ry⟩
  ·rw [if_neg e,if_neg (λz=>e (h1.trans z))];exact⟨h1,h2⟩
theorem KV.put {kvs:List (κ × V)} {vs:List (κ × Value)} (r:KV kvs vs) (k:κ) {y:V} {u:Value} (ry:RelV y u):KV (putK kvs k y) (stored vs k u):=by
 unfold putK stored
 rw [r.any k]
 by_cases e:(vs.any λkv=>decide (kv.1=k))=true
 ·rw [if_pos e,if_pos e];exact r.C5 k ry
 ·rw [if_neg e,if_neg e];exact Paired.snoc r ⟨rfl,ry⟩
theorem KV.length {kvs:List (κ × V)} {vs:List (κ × Value)} (r:KV kvs vs):kvs.length=vs.length:=Paired.length r
theorem pR (kvs:List (κ × V)) (k:κ):(bS kvs k).length<=kvs.length:=List.length_filter_le _ _
end
theorem mS {P:Program} {w:World} {k:Key} {u:Value} (r:RelV (kV k) u):(bO P w).is k u=true:=by
 cases k with
 | inl i=>obtain⟨t,e⟩:=(show ∃ t,u=Value.int i t from r);subst e;exact qh P w i t
 | inr x=>obtain⟨t,e⟩:=(show ∃ t,u=Value.str x t from r);subst e;exact qi P w x t
theorem mR {P:Program} {w:World}:∀{ks:List Key} {us:List Value},Vals (ks.map kV) us->ItemsAre (bO P w) ks us
 | [],_,r=>by rw [List.map_nil] at r;cases r;exact .nil
 | k::ks,_,r=>by
  rw [List.map_cons] at r
  cases r with
  | cons h t=>exact .cons (mS h) (mR t)
abbrev KT (H:Hp):List (List Key × V)->List (List Key × Addr × Value)->Prop:=Paired λp q=>p.1=q.1/\H q.2.1=some (.tup (p.1.map kV))/\RelV p.2 q.2.2
theorem KT.val {H:Hp} {kvs:List (List Key × V)} {xs:List (List Key × Addr × Value)} (r:KT H kvs xs) (k:List Key):fc (cu kvs k) ((atKey xs k).map (·.2)):=by
 induction r with
 | nil=>exact True.intro
 | @cons p q ps qs h t ih =>
  obtain⟨h1,_,h2⟩:=h
  by_cases e:p.1=k
  ·have e':q.1=k:=h1.symm.trans e
   have b:atKey (q::qs) k=some q.2:=by simp [atKey,List.find?_cons,e']
   rw [cD e,b];exact h2
  ·have e':¬q.1=k:=λz=>e (h1.trans z)
   have b:atKey (q::qs) k=atKey qs k:=by simp [atKey,List.find?_cons,e']
   rw [bX e,b];exact ih
theorem KT.C5 {H:Hp} {kvs:List (List Key × V)} {xs:List (List Key × Addr × Value)} (r:KT H kvs xs) (k:List Key) {y:V} {u:Value} (ry:RelV y u) :
  KT H (kvs.map λkv=>if kv.1=k then (kv.1,y) else kv) (xs.map (putAt k u)):=by
 induction r with
 | nil=>exact .nil
 | @cons p q ps qs h t ih =>
  rw [List.map_cons,List.map_cons]
  refine .cons ?_ ih
  obtain⟨h1,h2,h3⟩:=h
  unfold putAt
  by_cases e:p.1=k
  ·rw [if_pos e,if_pos (h1.symm.trans e)];exact⟨h1,h2,ry⟩
  ·rw [if_neg e,if_neg (λz=>e (h1.trans z))];exact⟨h1,h2,h3⟩
theorem KT.put {H:Hp} {kvs:List (List Key × V)} {xs:List (List Key × Addr × Value)} (r:KT H kvs xs) (k:List Key) {b:Addr} {y:V} {u:Value} (hb:H b=some (.tup (k.map kV))) (ry:RelV y u) :
  KT H (putK kvs k y) (storedH xs k b u):=by
 have e:(kvs.any λkv=>decide (kv.1=k))=(atKey xs k).isSome:=by
  rw [lZ,(r.val k).ff,Option.isSome_map]
 unfold putK storedH
 rw [e]
 by_cases q:(atKey xs k).isSome=true
 ·rw [if_pos q,if_pos q];exact r.C5 k ry
 ·rw [if_neg q,if_neg q];exact Paired.snoc r ⟨rfl,hb,ry⟩
theorem KT.keeps {H H':Hp} {kvs:List (List Key × V)} {xs:List (List Key × Addr × Value)} (r:KT H kvs xs) (ht:∀ b ys,H b=some (.tup ys)->H' b=some (.tup ys)):KT H' kvs xs :=
 Paired.Cs r λ_ _ z=>⟨z.1,ht _ _ z.2.1,z.2.2⟩
section
variable {P:Program} {w:World} {H:Hp} {h:Heap} {a:Addr}
theorem Bv {u:HO} (ok:fP P w H h) (e:Rd H a u):bB P w H h a u:=e.ok ok
theorem lb {kvs:List (Key × V)} (ok:fP P w H h) (e:Rd H a (.dK kvs)):kvs.length<=sizeLine/\(a==sysModules)=false/\∃ vs,KV kvs vs/\h.DictOf (bO P w) a vs :=
 show bB P w H h a (.dK kvs) from Bv ok e
theorem A6 {kvs:List (Key × V)} (ok:fP P w H h) (e:H a=some (.dK kvs)):kvs.length<=sizeLine/\(a==sysModules)=false/\∃ vs,KV kvs vs/\h.DictOf (bO P w) a vs:=lb ok (.inl e)
theorem jG {ks:List Key} (ok:fP P w H h) (e:H a=some (.tup (ks.map kV))):(tupleKind (bO P w)).is h ks a:=by
 obtain⟨_,its,r,o,h1,h2,n,h3⟩:=(show bB P w H h a (.tup (ks.map kV)) from ok a _ e)
 exact⟨o,its.toArray,n,h1,h2,h3,by simpa using mR r⟩
theorem mP {kvs:List (List Key × V)} (ok:fP P w H h) (e:Rd H a (.dT kvs)):kvs.length<=sizeLine/\(a==sysModules)=false /\
  ∃ xs,KT H kvs xs/\h.DictOfH (tupleKind (bO P w)) a xs:=by
 obtain⟨z,y,xs,r,o,es,ep,h1,h2,h3,h4,h5⟩:=(show bB P w H h a (.dT kvs) from Bv ok e)
 refine⟨z,y,xs,r,o,es,ep,h1,h2,h3,h4,λx hx=>?_,h5⟩
 have all:∀{l:List (List Key × V)} {m:List (List Key × Addr × Value)},KT H l m->∀ x∈m,(tupleKind (bO P w)).is h x.1 x.2.1:=by
  intro l m q
  induction q with
  | nil=>intro x hx;exact nomatch hx
  | @cons p q ps qs hq t ih =>
   intro x hx
   rcases List.mem_cons.mp hx with e | hx
   ·subst e
    exact jG ok (by rw [<- hq.1];exact hq.2.1)
   ·exact ih x hx
 exact all r x hx
theorem A7 {kvs:List (List Key × V)} (ok:fP P w H h) (e:H a=some (.dT kvs)):kvs.length<=sizeLine/\(a==sysModules)=false /\
  ∃ xs,KT H kvs xs/\h.DictOfH (tupleKind (bO P w)) a xs:=mP ok (.inl e)
end
def fb (H:Hp) (a:Addr) (y:V) (r:Option V):Prop :=
 (∃ kvs k,Rd H a (.dK kvs)/\y=kV k/\r=cu kvs k)∨∃ kvs k b,Rd H a (.dT kvs)/\y=.ref b/\H b=some (.tup (k.map kV))/\r=cu kvs k
def l5 (H:Hp) (a:Addr) (y v:V) (H':Hp):Prop :=
 (∃ kvs k,H a=some (.dK kvs)/\y=kV k/\kvs.length<sizeLine/\H'=upd H a (.dK (putK kvs k v))) ∨
 ∃ kvs k b,H a=some (.dT kvs)/\y=.ref b/\H b=some (.tup (k.map kV))/\kvs.length<sizeLine/\H'=upd H a (.dT (putK kvs k v))
theorem fb.k {H:Hp} {a:Addr} {kvs:List (Key × V)} {k:Key} (e:H a=some (.dK kvs)):fb H a (kV k) (cu kvs k):=.inl ⟨kvs,k,.inl e,rfl,rfl⟩
theorem fb.t {H:Hp} {a b:Addr} {kvs:List (List Key × V)} {k:List Key} (e:H a=some (.dT kvs)) (eb:H b=some (.tup (k.map kV))):fb H a (.ref b) (cu kvs k):=.inr ⟨kvs,k,b,.inl e,rfl,eb,rfl⟩
theorem l5.k {H:Hp} {a:Addr} {kvs:List (Key × V)} {k:Key} {v:V} (e:H a=some (.dK kvs)) (hl:kvs.length<sizeLine):l5 H a (kV k) v (upd H a (.dK (putK kvs k v))):=.inl ⟨kvs,k,e,rfl,hl,rfl⟩
theorem l5.t {H:Hp} {a b:Addr} {kvs:List (List Key × V)} {k:List Key} {v:V} (e:H a=some (.dT kvs)) (eb:H b=some (.tup (k.map kV))) (hl:kvs.length<sizeLine) :
  l5 H a (.ref b) v (upd H a (.dT (putK kvs k v))):=.inr ⟨kvs,k,b,e,rfl,eb,hl,rfl⟩
section
variable {X:Cx} {pins:List (Addr × Obj)} {σ:St} {H:Hp} {s:Shared} {a:Addr} {y v:V} {u r:Value} {o:Option V} {A:Around} {E:Value->Shared->Prop}
theorem Inv.big (I:Inv X pins σ H s):sysModules<s.heap.objs.size:=by
 have h:mainGlobals<s.heap.objs.size:=(I.mod.glob.keeps I.bk).lt
 exact Nat.lt_trans (by decide) h
theorem uL {Q:Value->Shared->Prop} (hu:A.units+1<cLine) (I:Inv X pins σ H s) (g:fb H a y (some v)) (ry:RelV y u) (h:∀ w' s',Inv X pins σ H s'->RelV v w'->Q w' s') :
  wpAny (model X.prog X.w) A (getItem (.ref a) u) Q E s:=by
 rcases g with⟨kvs,k,e,ey,l⟩|⟨kvs,k,b,e,ey,eb,l⟩
 ·subst ey
  obtain⟨z,hd,vs,rel,dd⟩:=lb I.hok e
  obtain⟨w',hw,rw'⟩:=fc.some_of (v:=v) (o:=valueAt vs k) (by rw [l];exact rel.val k)
  exact wpAny_getItem_of (mS ry) dd.mapOf hw (h w' _ (I.tok _) rw')
 ·subst ey
  cases (show u=Value.ref b from ry)
  obtain⟨z,hd,xs,rel,dd⟩:=mP I.hok e
  obtain⟨w',hw,rw'⟩:=fc.some_of (v:=v) (o:=(atKey xs k).map (·.2)) (by rw [l];exact rel.val k)
  obtain⟨p,hp,hp2⟩:=Option.map_eq_some_iff.mp hw
  refine wpAny_getItem_heap (tupleKind_room_in1 hu) (jG I.hok eb) dd hp ?_
  rw [hp2]
  exact h w' _ (I.tok _) rw'
theorem Fc {Q:Value->Shared->Prop} (hu:A.units+1<cLine) (I:Inv X pins σ H s) (g:fb H a y o) (ry:RelV y u) (h:∀ s',Inv X pins σ H s'->Q (.bool o.isSome) s') :
  wpAny (model X.prog X.w) A (compareOp .In u (.ref a)) Q E s:=by
 rcases g with⟨kvs,k,e,ey,l⟩|⟨kvs,k,b,e,ey,eb,l⟩
 ·subst ey
  obtain⟨z,hd,vs,rel,dd⟩:=lb I.hok e
  refine wpAny_in_of (mS ry) hd dd.mapOf ?_
  rw [<- (rel.val k).ff,<- l]
  exact h _ (I.tok _)
 ·subst ey
  cases (show u=Value.ref b from ry)
  obtain⟨z,hd,xs,rel,dd⟩:=mP I.hok e
  refine wpAny_in_heap (tupleKind_room_in1 hu) (jG I.hok eb) hd dd ?_
  have q:=(rel.val k).ff
  rw [Option.isSome_map] at q
  rw [<- q,<- l]
  exact h _ (I.tok _)
theorem zF {Q:Value->Shared->Prop} (hu:A.units+1<cLine) (I:Inv X pins σ H s) (g:fb H a y o) (ry:RelV y u) (h:∀ s',Inv X pins σ H s'->Q (.bool (!o.isSome)) s') :
  wpAny (model X.prog X.w) A (compareOp .NotIn u (.ref a)) Q E s:=by
 rcases g with⟨kvs,k,e,ey,l⟩|⟨kvs,k,b,e,ey,eb,l⟩
 ·subst ey
  obtain⟨z,hd,vs,rel,dd⟩:=lb I.hok e
  refine wpAny_notIn_of (mS ry) hd dd.mapOf ?_
  rw [<- (rel.val k).ff,<- l]
  exact h _ (I.tok _)
 ·subst ey
  cases (show u=Value.ref b from ry)
  obtain⟨z,hd,xs,rel,dd⟩:=mP I.hok e
  refine wpAny_notIn_heap (tupleKind_room_in1 hu) (jG I.hok eb) hd dd ?_
  have q:=(rel.val k).ff
  rw [Option.isSome_map] at q
  rw [<- q,<- l]
  exact h _ (I.tok _)
theorem kH {h':Heap} {t':Nat} {ob:HO} (I:Inv X pins σ H s) (mu:DH (H a)) (hs:Heap.SameBut a s.heap h') (he:∃ q,h'.get? a=some q) (new:bB X.prog X.w (upd H a ob) h' a ob) :
  Inv X pins σ (upd H a ob) { s with heap:=h',toks:=t' } :=
 I.write (x:=a) (e:=a) mu (.inl rfl) (λb q hb z=>(hs.2 b hb).trans z) he new
theorem wu {P:Program} {w:World} {H':Hp} {h':Heap} {kvs:List (Key × V)} {vs:List (Key × Value)} (z:kvs.length<=sizeLine) (hd:(a==sysModules)=false) (rel:KV kvs vs) (dd:h'.DictOf (bO P w) a vs) :
  bB P w H' h' a (.dK kvs):=⟨z,hd,vs,rel,dd⟩
theorem uM {H':Hp} {Q:Unit->Shared->Prop} (hu:A.units+1<cLine) (I:Inv X pins σ H s) (g:l5 H a y v H') (ry:RelV y u) (rv:RelV v r) (h:∀ s',Inv X pins σ H' s'->Q () s') :
  wpAny (model X.prog X.w) A (setItem (.ref a) u r) Q E s:=by
 rcases g with⟨kvs,k,e,ey,l,eH⟩|⟨kvs,k,b,e,ey,eb,l,eH⟩
 ·subst ey eH
  obtain⟨z,hd,vs,rel,dd⟩:=A6 I.hok e
  have hz:vs.length<=sizeLine:=by rw [<- rel.length];exact z
  have hl:(putK kvs k v).length<=sizeLine:=by have:=fW kvs k v;omega
  refine wpAny_setItem_pairs (hsz:=hz) (mS ry) dd λh' dd' hs=>h _ ?_
  have he:∃ q,h'.get? a=some q:=let ⟨q,_,_,hq,_⟩:=dd';⟨q,hq⟩
  exact kH I (by rw [e];exact True.intro) hs he (wu hl hd (rel.put k rv) dd')
 ·subst ey eH
  cases (show u=Value.ref b from ry)
  obtain⟨z,hd,xs,rel,dd⟩:=A7 I.hok e
  have hz:xs.length<=sizeLine:=by rw [<- Paired.length rel];exact z
  have hl:(putK kvs k v).length<=sizeLine:=by have:=fW kvs k v;omega
  refine wpAny_setItem_heap (hsz:=hz) (tupleKind_room_in1 hu) (jG I.hok eb) dd λh' dd' hs=>h _ ?_
  obtain⟨q,es,ep,hq,h2,h3,h4,_,h5⟩:=dd'
  refine kH I (by rw [e];exact True.intro) hs ⟨q,hq⟩ ⟨hl,hd,_,(rel.put k eb rv).keeps λc ys ec=>?_,q,es,ep,hq,h2,h3,h4,h5⟩
  rw [au (h8 ec e (λz=>nomatch z))]
  exact ec
end
section
variable {X:Cx} {pins:List (Addr × Obj)} {σ:St} {H:Hp} {s:Shared} {a:Addr} {kvs:List (Key × V)} {k:Key} {u:Value} {A:Around} {E:Value->Shared->Prop}
theorem DP {Q:Value->Shared->Prop} (I:Inv X pins σ H s) (e:Rd H a (.dK kvs)) (h:∀ t s',Inv X pins σ H s'->Q (.int kvs.length t) s'):wpAny (model X.prog X.w) A (call (.builtin "len") [.ref a]) Q E s:=by
 obtain⟨z,hd,vs,rel,dd⟩:=lb I.hok e
 refine call_len_dict hd dd (by rw [<- rel.length];rw [sizeLine_eq] at z;omega) ?_
 rw [<- rel.length]
 exact h _ _ (I.tok _)
end
def DI (i:Expr):Prop:=∀ ov iv,subscripted i false ov iv=operate [ov,iv] (getItem ov iv)
theorem AO {prog:Program} {w:World} {A:Around} {E:Value->Shared->Prop} {s:Shared} {env:Env} {value slice:Expr} {pos:Pos} {T id:String} {Q:Value->Shared->Prop}
  (hl:typeLookup (.type T) "__getitem__"=pure (some (.builtin id))) (hs:DI slice)
  (h:wpAny (model prog w) A (eval value env) (λo s₁=>wpAny (model prog w) A (eval slice env) (λi s₂=>s₂.TypeIs o T/\wpAny (model prog w) A (getItem o i) Q E s₂) E s₁) E s) :
  wpAny (model prog w) A (eval (.Subscript value slice pos) env) Q E s:=by
 refine Subscript_ (wpAny_mono h (λo s₁ h₁=>wpAny_mono h₁ (λi s₂ h₂=>?_) λ_ _ x=>x) λ_ _ x=>x)
 obtain⟨hT,h₂⟩:=h₂
 unfold subscriptTail
 refine wpAny_bind ?_
 rw [getitemInPython_of_ne hT.not_modules]
 refine wpAny_bind (wpAny_specialOf hT hl ?_)
 have fin:wpAny (model prog w) A (subscripted slice false o i) (λr s₃=>wpAny (model prog w) A (letTemporaryGo value o r >>= λ_=>pure r) Q E s₃) E s₂:=by
  rw [hs o i]
  exact wpAny_operating (wpAny_mono h₂ (λr s₃ h₃=>wpAny_bind (wpAny_letTemporaryGo (wpAny_pure h₃))) λ_ _ x=>x)
 first
  | exact wpAny_pure (wpAny_bind fin)
  | exact wpAny_bind (wpAny_pure (wpAny_bind fin))
  | exact wpAny_bind fin
theorem pP {X:Cx} {pins:List (Addr × Obj)} {σ:St} {H:Hp} {s:Shared} {a:Addr} {y:V} {o:Option V} (I:Inv X pins σ H s) (g:fb H a y o):s.TypeIs (.ref a) "dict":=by
 rcases g with⟨kvs,k,e,_,_⟩|⟨kvs,k,b,e,_,_,_⟩
 ·obtain⟨_,_,vs,_,dd⟩:=lb I.hok e
  exact dd.typeIs
 ·obtain⟨_,_,xs,_,dd⟩:=mP I.hok e
  exact dd.typeIs
def BD (td ty:TE):TE:=λσ H Q=>td σ H λx H1=>ty σ H1 λy H2=>∃ a v,x=.ref a/\fb H2 a y (some v)/\Q v H2
def Ew (ty td:TE):TE:=λσ H Q=>ty σ H λy H1=>td σ H1 λx H2=>∃ a o,x=.ref a/\fb H2 a y o/\Q (.bl o.isSome) H2
def uz (ty td:TE):TE:=λσ H Q=>ty σ H λy H1=>td σ H1 λx H2=>∃ a o,x=.ref a/\fb H2 a y o/\Q (.bl (!o.isSome)) H2
def Bx (td ty tv:TE):TS:=λD σ H=>tv σ H λv H1=>td σ H1 λx H2=>ty σ H2 λy H3=>∃ a H4,x=.ref a/\l5 H3 a y v H4/\D.nx σ H4
section
variable {X:Cx} {o i e value:Expr} {pos pos' tpos:Pos} {td ty tv:TE}
theorem gP (hu:X.A.units+1<cLine) (ho:PE X o td) (hi:PE X i ty) (hs:DI i):PE X (.Subscript o i pos) (BD td ty):=by
 intro pins s σ H Q I h
 refine AO PySem.F.slot_dict_getitem.lookup hs (bc (ho pins s σ H _ I h) λu s1 ⟨x,H1,I1,rx,q1⟩=>bc (hi pins s1 σ H1 _ I1 q1) λiv s2 ⟨y,H2,I2,ry,a,v,ex,g,q2⟩=>?_)
 subst ex
 obtain rfl:u=Value.ref a:=rx
 exact⟨pP I2 g,uL hu I2 g ry λw' s3 I3 rw'=>⟨v,H2,I3,rw',q2⟩⟩
theorem CQ (hu:X.A.units+1<cLine) (hi:PE X i ty) (ho:PE X o td):PC X .In i o (Ew ty td):=by
 intro pins s σ H Q I h
 refine bc (hi pins s σ H _ I h) λiv s1 ⟨y,H1,I1,ry,q1⟩=>bc (ho pins s1 σ H1 _ I1 q1) λu s2 ⟨x,H2,I2,rx,a,ov,ex,g,q2⟩=>?_
 subst ex
 obtain rfl:u=Value.ref a:=rx
 exact Fc hu I2 g ry λs3 I3=>⟨.bl ov.isSome,H2,I3,rfl,q2⟩
theorem vB (hu:X.A.units+1<cLine) (hi:PE X i ty) (ho:PE X o td):PC X .NotIn i o (uz ty td):=by
 intro pins s σ H Q I h
 refine bc (hi pins s σ H _ I h) λiv s1 ⟨y,H1,I1,ry,q1⟩=>bc (ho pins s1 σ H1 _ I1 q1) λu s2 ⟨x,H2,I2,rx,a,ov,ex,g,q2⟩=>?_
 subst ex
 obtain rfl:u=Value.ref a:=rx
 exact zF hu I2 g ry λs3 I3=>⟨.bl (!ov.isSome),H2,I3,rfl,q2⟩
theorem i8 (hu:X.A.units+1<cLine) (ho:PE X o td) (hi:PE X i ty) (hv:PE X value tv) (hs:swapsWith value (some (.Subscript o i pos')) pos.line X.env=pure false) :
  PS X (.Assign [.Subscript o i pos'] value pos) (Bx td ty tv):=by
 intro pins s σ H D I h
 refine wpAny_Assign_Subscript (bc (hv pins s σ H _ I h) λr s1 ⟨v,H1,I1,rv,q1⟩=>bc (ho pins s1 σ H1 _ I1 q1) λu s2 ⟨x,H2,I2,rx,q2⟩=>bc (hi pins s2 σ H2 _ I2 q2) λiv s3 ⟨y,H3,I3,ry,a,H4,ex,g,q3⟩=>?_) hs
 subst ex
 obtain rfl:u=Value.ref a:=rx
 exact uM hu I3 g ry rv λs4 I4=>⟨σ,H4,I4,q3⟩
end
theorem pQ {P:Program} {w:World} {H:Hp} (h:Heap) (hb:sysModules<h.objs.size):bB P w H (h.push { cls:=.type "dict",data:=.dict #[] }) h.objs.size (.dK []) :=
 ⟨Nat.zero_le _,beq_eq_false_iff_ne.mpr (Ne.symm (Nat.ne_of_lt hb)),[],.nil,Heap.DictOf.new h⟩
theorem wx {P:Program} {w:World} {H:Hp} (h:Heap) (hb:sysModules<h.objs.size):bB P w H (h.push { cls:=.type "dict",data:=.dict #[] }) h.objs.size (.dT []) :=
 ⟨Nat.zero_le _,beq_eq_false_iff_ne.mpr (Ne.symm (Nat.ne_of_lt hb)),[],.nil,_,#[],0,Heap.get?_push_size _ rfl,⟨rfl,rfl,rfl⟩,rfl,rfl,List.nodup_nil⟩
def yM:TE:=λ_ H Q=>∀ p,H p=none->Q (.ref p) (upd H p (.dK []))
def yN:TE:=λ_ H Q=>∀ p,H p=none->Q (.ref p) (upd H p (.dT []))
section
variable {X:Cx} {pos:Pos}
theorem xX:PE X (.Dict [] [] pos) yM:=λpins s σ H Q I h =>
 wpAny_Dict_empty ⟨.ref s.heap.objs.size,_,I.laid (a:=s.heap.objs.size) (o:=.dK []) (t':=s.toks) (λ_ _ q=>Heap.get?_push_of_some _ q) (Nat.le_refl _) (pQ s.heap I.big),rfl,h _ (I.hok.fresh (Nat.le_refl _))⟩
theorem xY:PE X (.Dict [] [] pos) yN:=λpins s σ H Q I h =>
 wpAny_Dict_empty ⟨.ref s.heap.objs.size,_,I.laid (a:=s.heap.objs.size) (o:=.dT []) (t':=s.toks) (λ_ _ q=>Heap.get?_push_of_some _ q) (Nat.le_refl _) (wx s.heap I.big),rfl,h _ (I.hok.fresh (Nat.le_refl _))⟩
end
def oX:List (TE × TE)->St->Hp->(List (V × V)->Hp->Prop)->Prop
 | [],_,H,Q=>Q [] H
 | (tk,tv)::r,σ,H,Q=>tk σ H λx H1=>tv σ H1 λy H2=>oX r σ H2 λps H3=>Q ((x,y)::ps) H3
abbrev VV:List (V × V)->List (Value × Value)->Prop:=Paired λp q=>RelV p.1 q.1/\RelV p.2 q.2
def EN (X:Cx) (pos:Pos) (keys:List (Option Expr)) (values:List Expr) (trs:List (TE × TE)):Prop :=
 ∀(pins:List (Addr × Obj)) (s:Shared) (σ:St) (H:Hp) (Q:List (V × V)->Hp->Prop),Inv X pins σ H s->oX trs σ H Q ->
  wpAny (model X.prog X.w) X.A (evalPairs (pairTrees keys values X.env pos)) (λvs s'=>∃ ps H',Inv X pins σ H' s'/\VV ps vs/\Q ps H') X.xe s
theorem Av {X:Cx} {pos:Pos}:EN X pos [] [] []:=λpins s σ H Q I h=>pairTrees_nil_walk ⟨[],H,I,.nil,h⟩
theorem lJ {X:Cx} {pos:Pos} {k v:Expr} {ks:List (Option Expr)} {vs:List Expr} {tk tv:TE} {trs:List (TE × TE)} (hk:PE X k tk) (hv:PE X v tv) (hr:EN X pos ks vs trs) :
  EN X pos (some k::ks) (v::vs) ((tk,tv)::trs):=λpins s σ H Q I h =>
 pairTrees_cons_walk (bc (hk pins s σ H _ I h) λu s1 ⟨x,H1,I1,rx,q1⟩=>bc (hv pins s1 σ H1 _ I1 q1) λw2 s2 ⟨y,H2,I2,ry,q2⟩ =>
  bc (hr pins s2 σ H2 _ I2 q2) λws s3 ⟨ps,H3,I3,rel,q3⟩=>⟨(x,y)::ps,H3,I3,.cons ⟨rx,ry⟩ rel,q3⟩)
def lC (kvs more:List (Key × V)):List (Key × V):=more.foldl (λacc kv=>putK acc kv.1 kv.2) kvs
theorem KV.merge:∀{more:List (Key × V)} {rs:List (Key × Value)} {kvs:List (Key × V)} {vs:List (Key × Value)},KV more rs->KV kvs vs->KV (lC kvs more) (merged vs rs):=by
 intro more rs kvs vs r
 unfold KV at r
 induction r generalizing kvs vs with
 | nil=>intro q;exact q
 | @cons p q ps qs h t ih =>
  intro r0
  have e:KV (putK kvs p.1 p.2) (stored vs q.1 q.2):=by
   have:=r0.put p.1 h.2
   rw [<- h.1];exact this
  exact ih e
theorem h7:∀(more kvs:List (Key × V)),(lC kvs more).length<=kvs.length+more.length
 | [],kvs=>by show kvs.length<=kvs.length+0;omega
 | p::r,kvs=>by
  have h1:=h7 r (putK kvs p.1 p.2)
  have h2:=fW kvs p.1 p.2
  show (lC (putK kvs p.1 p.2) r).length<=_
  rw [List.length_cons];omega
theorem la {P:Program} {w:World}:∀{kvs:List (Key × V)} {ws:List (Value × Value)},VV (kvs.map λkv=>(kV kv.1,kv.2)) ws->∃ rs,Carries (bO P w) ws rs/\KV kvs rs
 | [],_,r=>by rw [List.map_nil] at r;cases r;exact⟨[],True.intro,.nil⟩
 | p::kvs,_,r=>by
  rw [List.map_cons] at r
  cases r with
  | @cons a b as bs h t =>
   obtain⟨rs,c,q⟩:=la (P:=P) (w:=w) t
   obtain⟨b1,b2⟩:=b
   exact⟨(p.1,b2)::rs,⟨mS h.1,rfl,c⟩,.cons ⟨rfl,h.2⟩ q⟩
def BE (trs:List (TE × TE)):TE:=λσ H Q=>∀ p,H p=none->oX trs σ (upd H p (.dK [])) λps H2=>H2 p=some (.dK [])/\∃ kvs:List (Key × V),ps=kvs.map (λkv=>(kV kv.1,kv.2))/\kvs.length<=15/\Q (.ref p) (upd H2 p (.dK (lC [] kvs)))
theorem Ao {X:Cx} {pos:Pos} {keys:List (Option Expr)} {values:List Expr} {trs:List (TE × TE)} (h:EN X pos keys values trs) (hall:keys.all (·.isSome)=true) (hl:keys.length=values.length) (h0:keys≠[])
  (h15:keys.length<=15):PE X (.Dict keys values pos) (BE trs):=by
 intro pins s σ H Q I q
 have hn:=I.hok.fresh (Nat.le_refl s.heap.objs.size)
 have I1:=I.laid (a:=s.heap.objs.size) (o:=.dK []) (h':=s.heap.push { cls:=.type "dict",data:=.dict #[] }) (t':=s.toks) (λ_ _ q=>Heap.get?_push_of_some _ q) (Nat.le_refl _) (pQ s.heap I.big)
 refine wpAny_Dict_walk (knd:=bO X.prog X.w) hall hl h0 h15 (bc (h pins _ σ _ _ I1 (q _ hn)) λws s2 ⟨ps,H2,I2,rel,e,kvs,ep,lk,q2⟩=>?_)
 subst ep
 obtain⟨rs,c,rk⟩:=la (P:=X.prog) (w:=X.w) rel
 obtain⟨z,hd,vs0,r0,dd⟩:=A6 I2.hok e
 cases r0
 refine⟨rs,c,dd,λh' dd' hs=>⟨.ref s.heap.objs.size,_,?_,rfl,q2⟩⟩
 have hz:(lC [] kvs).length<=sizeLine:=by
  have h1:=h7 kvs []
  rw [List.length_nil] at h1
  rw [sizeLine_eq];omega
 have he:∃ q,h'.get? s.heap.objs.size=some q:=let ⟨q,_,_,hq,_⟩:=dd';⟨q,hq⟩
 exact kH I2 (by rw [e];exact True.intro) hs he (wu hz hd (rk.merge .nil) dd')
structure M1 (X:Cx) (o:Expr) (m:Str) (apos:Pos) (e:Expr) (cpos:Pos):Prop where
 base:attributeBase o m X.env (eval o X.env)=eval o X.env
 few:((backTo cpos (starEach [e] X.env)).all (λx=>!x.1) && (backToKw cpos (keywordEach [] X.env)).all (λx=>x.1.isSome)
  && decide (([e]:List Expr).length+([]:List Keyword).length+(if ([]:List Keyword).isEmpty then 0 else 1)<30))=true
 line:(apos.endLine==cpos.line)=true
 trees:backTo cpos (starEach [e] X.env)=[(false,eval e X.env)]
structure M2 (X:Cx) (o:Expr) (m:Str) (apos:Pos) (e f:Expr) (cpos:Pos):Prop where
 base:attributeBase o m X.env (eval o X.env)=eval o X.env
 few:((backTo cpos (starEach [e,f] X.env)).all (λx=>!x.1) && (backToKw cpos (keywordEach [] X.env)).all (λx=>x.1.isSome)
  && decide (([e,f]:List Expr).length+([]:List Keyword).length+(if ([]:List Keyword).isEmpty then 0 else 1)<30))=true
 line:(apos.endLine==cpos.line)=true
 trees:backTo cpos (starEach [e,f] X.env)=[(false,eval e X.env),(false,eval f X.env)]
def FD (H:Hp) (a:Addr):Prop:=(∃ kvs,Rd H a (.dK kvs))∨∃ kvs,Rd H a (.dT kvs)
theorem Cg {X:Cx} {pins:List (Addr × Obj)} {σ:St} {H:Hp} {s:Shared} {a:Addr} (I:Inv X pins σ H s) (d:FD H a) :
  s.TypeIs (.ref a) "dict"/\(∀ b,Value.ref a=.ref b->∃ ob,s.heap.get? b=some ob/\ob.dict=none)/\(a==sysModules)=false:=by
 rcases d with⟨kvs,e⟩|⟨kvs,e⟩
 ·obtain⟨_,hd,vs,_,dd⟩:=lb I.hok e
  refine⟨dd.typeIs,λb q=>?_,hd⟩
  cases q
  obtain⟨ob,_,_,h1,h2,_⟩:=dd
  exact⟨ob,h1,h2.2.1⟩
 ·obtain⟨_,hd,xs,_,dd⟩:=mP I.hok e
  refine⟨dd.typeIs,λb q=>?_,hd⟩
  cases q
  obtain⟨ob,_,_,h1,h2,_⟩:=dd
  exact⟨ob,h1,h2.2.1⟩
section
variable {X:Cx} {pins:List (Addr × Obj)} {σ:St} {H:Hp} {s:Shared} {a:Addr} {y d:V} {u r:Value} {o:Option V} {A:Around} {E:Value->Shared->Prop}
end
section
variable {X:Cx} {o e f:Expr} {apos cpos:Pos} {td ty tx:TE}
end
section
variable {X:Cx} {pins:List (Addr × Obj)} {σ:St} {H:Hp} {s:Shared} {a:Addr} {kvs:List (Key × V)} {A:Around} {E:Value->Shared->Prop}
end
section
variable {X:Cx} {pins:List (Addr × Obj)} {σ:St} {H:Hp} {s:Shared} {a:Addr} {y:V} {u:Value} {A:Around} {E:Value->Shared->Prop}
end
def Er (l:Int) (b:Bool):HO:=.dK [(Sum.inr "left",.int l),(Sum.inr "free",.bl b)]
def ER (l:Int) (b:Bool):Prop:=b=true∨(0<=l/\l<2147483647)
def Up (p:Addr) (b:Bool) (H H':Hp):Prop:=∃ l,ER l b/\H'=upd H p (Er l b)
theorem Up.at {p:Addr} {b:Bool} {H H1:Hp} (h:Up p b H H1):∃ l,ER l b/\H1 p=some (Er l b):=by
 obtain⟨l,k,rfl⟩:=h
 exact⟨l,k,ag⟩
theorem Up.ne {p q:Addr} {b:Bool} {H H1:Hp} (h:Up p b H H1) (n:q≠p):H1 q=H q:=by
 obtain⟨l,k,rfl⟩:=h
 exact au n
def Us (p:Addr) (b:Bool) (H H':Hp):Prop:=(∃ l,ER l b/\H' p=some (Er l b))/\∀ q o,q≠p->H q=some o->H' q=some o
theorem Up.us {p:Addr} {b:Bool} {H H':Hp} (h:Up p b H H'):Us p b H H':=⟨h.at,λq o n e=>by rw [h.ne n];exact e⟩
theorem Us.free {p q:Addr} {b:Bool} {H H1:Hp} (h:Us p b H H1) (f:H1 q=none):H q=none:=by
 cases e:H q with
 | none=>rfl
 | some o =>
  by_cases n:q=p
  ·subst n
   obtain⟨l,_,z⟩:=h.1
   rw [z] at f;cases f
  ·rw [h.2 q o n e] at f;cases f
theorem Us.set {p q:Addr} {b:Bool} {H H1:Hp} {o:HO} (h:Us p b H H1) (f:H q=none) (n:q≠p):Us p b H (upd H1 q o):=by
 obtain⟨⟨l,k,e⟩,s⟩:=h
 exact⟨⟨l,k,by rw [au (Ne.symm n)];exact e⟩,λr u n er=>by rw [au (λz=>by rw [z,f] at er;cases er)];exact s r u n er⟩
section
variable {K:PySem.W.Frag} {H H':Hp}
theorem bG.dF {a:Addr} {xs:List V} (k:∀ a xs,Rd H a (.tup xs)->Rd H' a (.tup xs)) (h:bG K H a xs):bG K H' a xs:=h.imp (λz=>k _ _ z) id
mutual
theorem dv.dF (k:∀ a xs,Rd H a (.tup xs)->Rd H' a (.tup xs)):∀(d:PyData) {v:V},qj d=true->dv K H d v->dv K H' d v
 | .none,_,_,h=>h
 | .bool _,_,_,h=>h
 | .int _,_,_,h=>h
 | .str _,_,_,h=>h
 | .list ds,_,z,_=>by cases z
 | .tuple ds,_,z,⟨q,xs,e,h,t⟩=>⟨q,xs,e,h.dF k,aQ.dF k ds z t⟩
 | .dict _,_,_,h=>h.elim
theorem aQ.dF (k:∀ a xs,Rd H a (.tup xs)->Rd H' a (.tup xs)):∀(ds:List PyData) {xs:List V},fC ds=true->aQ K H ds xs->aQ K H' ds xs
 | [],_,_,h=>h
 | d::ds,_,z,⟨x,r,e,h,t⟩=>by
  have z':qj d=true/\fC ds=true:=by simpa [fC] using z
  exact⟨x,r,e,dv.dF k d z'.1 h,aQ.dF k ds z'.2 t⟩
end
theorem aQ.set:∀{ds:List PyData} {us:List V} (i:Nat) {d:PyData} {v:V},aQ K H ds us->dv K H d v->aQ K H (ds.set i d) (us.set i v)
 | [],_,_,_,_,h,_=>by cases h;exact rfl
 | e::ds,_,0,_,_,⟨x,r,ex,h,t⟩,hv=>by subst ex;exact⟨_,_,rfl,hv,t⟩
 | e::ds,_,i+1,_,_,⟨x,r,ex,h,t⟩,hv=>by subst ex;exact⟨_,_,rfl,h,aQ.set i t hv⟩
theorem Us.dF {p:Addr} {b:Bool} {l:Int} (h:Us p b H H') (hp:H p=some (Er l b)):∀ a xs,Rd H a (.tup xs)->Rd H' a (.tup xs):=by
 intro a xs z
 rcases z with z | ⟨o,z⟩
 ·exact .inl (h.2 _ _ (λe=>by rw [e,hp] at z;cases z) z)
 ·exact .inr ⟨o,h.2 _ _ (λe=>by rw [e,hp] at z;cases z) z⟩
end
theorem Us.ref {p:Addr} {b:Bool} {H H1:Hp} (h:Us p b H H1):∃ l,ER l b/\H1 p=some (Er l b):=h.1
theorem yg {X:Cx} {ss:List Stmt}:gK X ss (λ_ _ _=>False):=by
 intro _ _ _ _ _ _ h
 exact False.elim h
theorem yf {X:Cx} {Ex:Addr->Shared->Hp->List Addr->Value->Shared->Prop} {elt target iter:Expr} {ifs:List Expr} {scope:Scope} {pos:Pos} {N':List Str} {js:List (Option Nat)} {cl:List (Str × Addr)} {wi:TI} {g:TG} {tt:TT} {te:TE} {i0:Nat} {x0:Str} {pos' pos2:Pos} (hN0:X.N.Nodup) (hi0:X.N[i0]?=some x0) (hx0:Loc X.env.scope x0) (hcalm:X.calm=true)
  (K:fO X N' js scope cl) (hi:PI X target iter wi)
  (hg:∀ C s₂ H₂ fp,l7 X C s₂ H₂ fp->PG (cj X (Ex C s₂ H₂ fp) N' scope cl C s₂ H₂ fp) target g) (ht:∀ C s₂ H₂ fp,l7 X C s₂ H₂ fp->l8 (cj X (Ex C s₂ H₂ fp) N' scope cl C s₂ H₂ fp) ifs tt) (he:∀ C s₂ H₂ fp,l7 X C s₂ H₂ fp->PE (cj X (Ex C s₂ H₂ fp) N' scope cl C s₂ H₂ fp) elt te)
  (herr:∀ C s₂ H₂ fp use Q' acc e s',Ex C s₂ H₂ fp e s'->notedBy (model X.prog X.w) X.A (compEnvC scope (cellsFrom (C+1) scope.names cl) C X.env) (λe s''=>compPost (model X.prog X.w) X.A X.xe use Q' acc C (.error e) s'') e s')
  (hsw:swapsWith (.ListComp elt [⟨target,iter,ifs,0⟩] scope pos) (some (.Name x0 pos')) pos2.line X.env=pure true) (hf0:X.fn x0=true∨X.env.scope.names.lookup x0=some .local)
  (hs:∀ x,foldedSetIterable iter X.env x=pure x:=by intro _;rfl):PS X (.Assign [.Name x0 pos'] (.ListComp elt [⟨target,iter,ifs,0⟩] scope pos) pos2) (vN (ES js wi g tt te) (cI i0)):=by
 intro pins s σ H Dn I h
 rw [exec_Assign_Name_used _ _ _ _ hsw]
 refine wpAny_bind (wpAny_standAt (wpAny_bind ?_))
 unfold evalThenUse
 refine wpAny_bind ?_
 refine wpAny_comprehension_free (use:=some (assign (.Name x0 pos') X.env)) rfl hs K.clos K.kind K.names (bc (hi pins s σ H _ I h) λv s1 h1=>bc h1 λitv s2 h2=>?_)
 obtain⟨H2,I2⟩:∃ H2,Inv X pins σ H2 s2:=by obtain⟨_,_,_,_,H2,_,I2,_⟩:=h2;exact⟨H2,I2⟩
 refine tH (Ex:=Ex) (Q:=λx H1=>cI i0 x σ H1 Dn.nx) hcalm K hg ht he herr h2 λC D vys H4 s5 hm hDe hDleC hDC nD nC hI qn=>?_
 obtain⟨m5,hn5⟩:=hm
 have le:=Nat.le_trans hDe hDleC
 have key:Inv X pins σ (upd H4 D (.lst vys)) s5:=hI s5.heap ⟨rfl,λ_ _=>rfl⟩
 have nC':upd H4 D (.lst vys) C=none:=by rw [au (Ne.symm hDC)];exact nC
 have CL:C≠X.env.locals:=λz=>by
  have:=I2.lt
  rw [<- z] at this
  exact Nat.lt_irrefl _ (Nat.lt_of_lt_of_le this le)
 have Cfs:C∉X.fs:=λz=>I2.zW le z
 obtain⟨oC,es,ep,gC,dC,skC,fdC⟩:=hn5
 have J1:Inv X ((C,oC)::pins) σ (upd H4 D (.lst vys)) s5:=key.gQ λp hp=>by
  rcases List.mem_cons.mp hp with z | z
  ·subst z
   exact⟨gC,nC',CL,Cfs,λv z=>by rw [dC] at z;cases z⟩
  ·exact key.pin p (List.mem_append_right _ z)
 show wpAny _ _ (assign (.Name x0 pos') X.env (.ref D)) _ _ _
 refine PyProof.Rows.assign_Name ?_
 refine c8 J1 hN0 hi0 hx0 (show RelV (.ref D) (.ref D) from rfl) (λs6 I6=>?_) hf0
 have pC:=(I6.pin (C,oC) (List.mem_append_right _ (List.mem_cons_self ..))).1
 refine⟨m5,⟨oC,es,ep,pC,dC,skC,fdC⟩,λh' hsb'=>?_⟩
 have I7:Inv X pins (σ.set i0 (some (.ref D))) (upd H4 D (.lst vys)) s6:=I6.gQ λp hp=>I6.pin p (List.mem_append_right _ (List.mem_cons_of_mem _ hp))
 have I8:=I7.turned (t':=s6.toks) (it:=C) (λb o hb e=>hsb'.extBut b o hb e) nC' CL (.inr (Nat.le_trans I2.sz le))
  (λx c e=>by
   obtain⟨v,q⟩:=I2.cell x c e
   exact Nat.ne_of_lt (Nat.lt_of_lt_of_le q.lt le))
  (λp hp=>Nat.ne_of_lt (Nat.lt_of_lt_of_le (Heap.lt_size (I2.pin p hp).1) le))
 exact wpAny_pure (wpAny_pure ⟨_,_,I8,qn⟩)
theorem i9 {X:Cx} {elt target iter:Expr} {ifs:List Expr} {scope:Scope} {pos:Pos} {N':List Str} {js:List (Option Nat)} {cl:List (Str × Addr)} {wi:TI} {g:TG} {tt:TT} {te:TE} {i0:Nat} {x0:Str} {pos' pos2:Pos} (hN0:X.N.Nodup) (hi0:X.N[i0]?=some x0) (hx0:Loc X.env.scope x0) (hcalm:X.calm=true)
  (K:fO X N' js scope cl) (hi:PI X target iter wi)
  (hg:∀ C s₂ H₂ fp,PG (cW X N' scope cl C s₂ H₂ fp) target g) (ht:∀ C s₂ H₂ fp,l8 (cW X N' scope cl C s₂ H₂ fp) ifs tt) (he:∀ C s₂ H₂ fp,PE (cW X N' scope cl C s₂ H₂ fp) elt te)
  (hsw:swapsWith (.ListComp elt [⟨target,iter,ifs,0⟩] scope pos) (some (.Name x0 pos')) pos2.line X.env=pure true) (hf0:X.fn x0=true∨X.env.scope.names.lookup x0=some .local)
  (hs:∀ x,foldedSetIterable iter X.env x=pure x:=by intro _;rfl):PS X (.Assign [.Name x0 pos'] (.ListComp elt [⟨target,iter,ifs,0⟩] scope pos) pos2) (vN (ES js wi g tt te) (cI i0)) :=
 yf (Ex:=λ_ _ _ _ _ _=>False) hN0 hi0 hx0 hcalm K hi (λC s H f _=>hg C s H f) (λC s H f _=>ht C s H f) (λC s H f _=>he C s H f) (λ_ _ _ _ _ _ _ _ _ z=>z.elim) hsw hf0 hs
theorem oZ (it t:Addr) (i:Nat) (items:Array Value) (x:Value) (hx:items[i]?=some x):Meets (Builtin.«tuple_iterator.__next__» ⟨[.ref it],[]⟩)
  (λ_ R s=>s.heap.IsTupleIter it t i/\s.heap.IsTuple t items/\∀ h',h'.IsTupleIter it t (i+1)->Heap.SameBut it s.heap h'->R (.ok (.ret x)) { s with heap:=h' }) :=
 .of_wp λprog w A R s h=>by
  obtain⟨⟨o,e,c,d⟩,⟨o2,e2,c2,n2,d2⟩,q⟩:=h
  have hx':items[(i:Int).toNat]?=some x:=by simpa using hx
  wp_walk using wpAny_field (i:=0) (x:=Value.ref t) e d rfl,wpAny_field (i:=1) (x:=Value.int i 0) e d rfl,wpAny_seqItems e2 d2
  rw [hx']
  refine wpAny_bind (wpAny_setField e d (show 1<2 by decide) ?_)
  obtain⟨oc,od,odt,os⟩:=o
  cases c
  cases d
  wp_walk
  refine⟨x,rfl,q _ ⟨_,Heap.get?_update_self _ e rfl,rfl,?_⟩ (Heap.SameBut.update ..)⟩
  show Data.fields _=_
  simp [rawInt]
theorem rq (it t:Addr) (i:Nat) (items:Array Value) (hx:items[i]?=none):Meets (Builtin.«tuple_iterator.__next__» ⟨[.ref it],[]⟩)
  (λA R s=>A.handled=none/\s.heap.IsTupleIter it t i/\s.heap.IsTuple t items/\∀ h' e,Heap.ExtBut it s.heap h'->(∃ o,h'.get? e=some o/\o.cls=.type "StopIteration")->R (.error (.ref e)) { s with heap:=h' }) :=
 .of_wp λprog w A R s h=>by
  obtain⟨hn,⟨o,e,c,d⟩,⟨o2,e2,c2,n2,d2⟩,q⟩:=h
  have hx':items[(i:Int).toNat]?=none:=by simpa using hx
  wp_walk using wpAny_field (i:=0) (x:=Value.ref t) e d rfl,wpAny_field (i:=1) (x:=Value.int i 0) e d rfl,wpAny_seqItems e2 d2
  rw [hx']
  wp_walk using wpAny_setField e d (show 0<2 by decide)
  refine wpAny_raiseNew_none hn (q _ _ (λb o hb e=>Heap.get?_push_of_some _ (Heap.get?_push_of_some _ ((Heap.get?_update_other _ _ (Ne.symm hb)).trans e))) ⟨_,Heap.get?_push_size _ rfl,rfl⟩)
section
variable {prog:Program} {w:World} {A:Around} {E:Value->Shared->Prop} {s:Shared} {it t:Addr} {i:Nat} {items:Array Value} {Q:Value->Shared->Prop}
theorem kz {x:Value} (h1:s.heap.IsTupleIter it t i) (h2:s.heap.IsTuple t items) (hx:items[i]?=some x) (q:∀ h',h'.IsTupleIter it t (i+1)->Heap.SameBut it s.heap h'->Q x { s with heap:=h' }) :
  wpAny (model prog w) A (Builtin.SmallTypes.nextOf (.ref it)) Q E s:=by
 have ty:s.TypeIs (.ref it) "tuple_iterator":=by obtain⟨o,e,c,_⟩:=h1;exact⟨o,e,c⟩
 unfold Builtin.SmallTypes.nextOf
 refine wpAny_bind (wpAny_callSpecial?_slot ty slot_tupleiter_next (call_meets slot_tupleiter_next ty entry_tupleiter_next (args_tupleiter_next _) (oZ it t i items x hx) ⟨h1,h2,λh' a b=>?_⟩))
 exact wpAny_pure (q h' a b)
theorem lD (hn:A.handled=none) (h1:s.heap.IsTupleIter it t i) (h2:s.heap.IsTuple t items) (hx:items[i]?=none) (q:∀ h' e,Heap.ExtBut it s.heap h'->(∃ o,h'.get? e=some o/\o.cls=.type "StopIteration")->E (.ref e) { s with heap:=h' }) :
  wpAny (model prog w) A (Builtin.SmallTypes.nextOf (.ref it)) Q E s:=by
 have ty:s.TypeIs (.ref it) "tuple_iterator":=by obtain⟨o,e,c,_⟩:=h1;exact⟨o,e,c⟩
 unfold Builtin.SmallTypes.nextOf
 exact wpAny_bind (wpAny_callSpecial?_slot ty slot_tupleiter_next (call_meets slot_tupleiter_next ty entry_tupleiter_next (args_tupleiter_next _) (rq it t i items hx) ⟨hn,h1,h2,λh' e a b=>q h' e a b⟩))
end
inductive Sd
 | l
 | t
def Sd.It:Sd->Heap->Addr->Addr->Nat->Prop
 | .l=>Heap.IsListIter
 | .t=>Heap.IsTupleIter
def Sd.Sq:Sd->Heap->Addr->Array Value->Prop
 | .l=>Heap.IsList
 | .t=>Heap.IsTuple
def Sd.io (k:Sd) (a:Addr):Obj:=match k with
 | .l=>{ cls:=.type "list_iterator",data:=.fields #[.ref a,.int 0 0] }
 | .t=>{ cls:=.type "tuple_iterator",data:=.fields #[.ref a,.int 0 0] }
theorem Sd.It.at {k:Sd} {h h':Heap} {it a:Addr} {i:Nat} (x:k.It h it a i) (e:∀ o,h.get? it=some o->h'.get? it=some o):k.It h' it a i:=by
 cases k<;>(obtain⟨o,e1,r⟩:=x;exact⟨o,e o e1,r⟩)
theorem Sd.It.there {k:Sd} {h:Heap} {it a:Addr} {i:Nat} (x:k.It h it a i):∃ o,h.get? it=some o/\∀ v,o.data≠.cell v:=by
 cases k<;>(obtain⟨o,e1,_,d⟩:=x;exact⟨o,e1,λv z=>by rw [d] at z;cases z⟩)
theorem Sd.Sq.at {k:Sd} {h h':Heap} {a:Addr} {xs:Array Value} (x:k.Sq h a xs) (e:∀ o,h.get? a=some o->h'.get? a=some o):k.Sq h' a xs:=by
 cases k<;>(obtain⟨o,e1,r⟩:=x;exact⟨o,e o e1,r⟩)
theorem Sd.Sq.lt {k:Sd} {h:Heap} {a:Addr} {xs:Array Value} (x:k.Sq h a xs):a<h.objs.size:=by
 cases k<;>(obtain⟨o,e1,r⟩:=x;exact Heap.lt_size e1)
theorem Sd.start (k:Sd) {h:Heap} {it a:Addr} (e:h.get? it=some (k.io a)):k.It h it a 0:=by
 cases k<;>exact⟨_,e,rfl,rfl⟩
section
variable {prog:Program} {w:World} {A:Around} {E:Value->Shared->Prop} {s:Shared} {it a:Addr} {i:Nat} {xs:Array Value} {Q:Value->Shared->Prop} {k:Sd}
theorem Sd.item {x:Value} (h1:k.It s.heap it a i) (h2:k.Sq s.heap a xs) (hx:xs[i]?=some x) (q:∀ h',k.It h' it a (i+1)->Heap.SameBut it s.heap h'->Q x { s with heap:=h' }) :
  wpAny (model prog w) A (Builtin.SmallTypes.nextOf (.ref it)) Q E s:=by
 cases k
 ·exact wpAny_nextOf_list_item h1 h2 hx q
 ·exact kz h1 h2 hx q
theorem Sd.fin (hn:A.handled=none) (h1:k.It s.heap it a i) (h2:k.Sq s.heap a xs) (hx:xs[i]?=none) (q:∀ h' e,Heap.ExtBut it s.heap h'->(∃ o,h'.get? e=some o/\o.cls=.type "StopIteration")->E (.ref e) { s with heap:=h' }) :
  wpAny (model prog w) A (Builtin.SmallTypes.nextOf (.ref it)) Q E s:=by
 cases k
 ·exact wpAny_nextOf_list_end hn h1 h2 hx q
 ·exact lD hn h1 h2 hx q
theorem Sd.iter (h2:k.Sq s.heap a xs) (q:Q (.ref s.heap.objs.size) { s with heap:=s.heap.push (k.io a) }):wpAny (model prog w) A (pyIter (.ref a)) Q E s:=by
 cases k
 ·exact wpAny_pyIter_list h2 q
 ·exact wpAny_pyIter_tuple h2 q
end
theorem AZ (k1 k2:Sd) (l1 l2:Addr) (xs ys:Array Value):Meets (Builtin.«zip.__new__» ⟨[.type "zip",.ref l1,.ref l2],[]⟩)
  (λ_ R s=>k1.Sq s.heap l1 xs/\k2.Sq s.heap l2 ys/\∀ h',IsZip h' (s.heap.objs.size+4) (s.heap.objs.size+2) (s.heap.objs.size+3) .none->IsPair h' (s.heap.objs.size+2) (.ref s.heap.objs.size) (.ref (s.heap.objs.size+1)) ->
   IsPair h' (s.heap.objs.size+3) .none .none->k1.It h' s.heap.objs.size l1 0->k2.It h' (s.heap.objs.size+1) l2 0->(∀ c o,s.heap.get? c=some o->h'.get? c=some o)->R (.ok (.ret (.ref (s.heap.objs.size+4)))) { s with heap:=h' }) :=
 .of_wp λprog w A R s h=>by
  obtain⟨h1,h2,q⟩:=h
  have f1:=sub_zip
  have h2':k2.Sq (s.heap.push (k1.io l1)) l2 ys:=h2.at λo e=>Heap.get?_push_of_some _ e
  wp_walk using Sd.iter h1,Sd.iter (s:={ s with heap:=s.heap.push (k1.io l1) }) h2'
  refine⟨_,rfl,?_⟩
  have e5:((((s.heap.push (k1.io l1)).push (k2.io l2)).push { cls:=.type "tuple",data:=.seq #[.ref s.heap.objs.size,.ref (s.heap.push (k1.io l1)).objs.size] }).push { cls:=.type "tuple",data:=.seq #[.none,.none] }).objs.size=s.heap.objs.size+4:=by simp only [Heap.size_push]
  have e4:(((s.heap.push (k1.io l1)).push (k2.io l2)).push { cls:=.type "tuple",data:=.seq #[.ref s.heap.objs.size,.ref (s.heap.push (k1.io l1)).objs.size] }).objs.size=s.heap.objs.size+3:=by simp only [Heap.size_push]
  have e3:((s.heap.push (k1.io l1)).push (k2.io l2)).objs.size=s.heap.objs.size+2:=by simp only [Heap.size_push]
  have e2:(s.heap.push (k1.io l1)).objs.size=s.heap.objs.size+1:=by simp only [Heap.size_push]
  show R (.ok (.ret (.ref ((((s.heap.push (k1.io l1)).push (k2.io l2)).push { cls:=.type "tuple",data:=.seq #[.ref s.heap.objs.size,.ref (s.heap.push (k1.io l1)).objs.size] }).push { cls:=.type "tuple",data:=.seq #[.none,.none] }).objs.size))) { s with heap:=((((s.heap.push (k1.io l1)).push (k2.io l2)).push { cls:=.type "tuple",data:=.seq #[.ref s.heap.objs.size,.ref (s.heap.push (k1.io l1)).objs.size] }).push { cls:=.type "tuple",data:=.seq #[.none,.none] }).push { cls:=.type "zip",data:=.fields #[.none,.bool false,.bool false,.ref ((s.heap.push (k1.io l1)).push (k2.io l2)).objs.size,.ref (((s.heap.push (k1.io l1)).push (k2.io l2)).push { cls:=.type "tuple",data:=.seq #[.ref s.heap.objs.size,.ref (s.heap.push (k1.io l1)).objs.size] }).objs.size] } }
  have g0:(s.heap.push (k1.io l1)).get? s.heap.objs.size=some (k1.io l1):=Heap.get?_push_size _ (by cases k1<;>rfl)
  have g1:((s.heap.push (k1.io l1)).push (k2.io l2)).get? (s.heap.objs.size+1)=some (k2.io l2):=by rw [<- e2];exact Heap.get?_push_size _ (by cases k2<;>rfl)
  rw [e5,e4,e3,e2]
  refine q _ ?_ ?_ ?_ (k1.start (Heap.get?_push_of_some _ (Heap.get?_push_of_some _ (Heap.get?_push_of_some _ (Heap.get?_push_of_some _ g0))))) (k2.start (Heap.get?_push_of_some _ (Heap.get?_push_of_some _ (Heap.get?_push_of_some _ g1)))) λc o e=>Heap.get?_push_of_some _ (Heap.get?_push_of_some _ (Heap.get?_push_of_some _ (Heap.get?_push_of_some _ (Heap.get?_push_of_some _ e))))
  ·exact (show _=_ from by
    have:=Heap.get?_push_size (((((s.heap.push (k1.io l1)).push (k2.io l2)).push { cls:=.type "tuple",data:=.seq #[.ref s.heap.objs.size,.ref (s.heap.objs.size+1)] }).push { cls:=.type "tuple",data:=.seq #[.none,.none] })) (o:={ cls:=.type "zip",data:=.fields #[.none,.bool false,.bool false,.ref (s.heap.objs.size+2),.ref (s.heap.objs.size+3)] }) rfl
    simp only [Heap.size_push] at this
    exact this)
  ·refine Heap.get?_push_of_some _ (Heap.get?_push_of_some _ ?_)
   have:=Heap.get?_push_size ((s.heap.push (k1.io l1)).push (k2.io l2)) (o:={ cls:=.type "tuple",data:=.seq #[.ref s.heap.objs.size,.ref (s.heap.objs.size+1)] }) rfl
   simp only [Heap.size_push] at this
   exact this
  ·refine Heap.get?_push_of_some _ ?_
   have:=Heap.get?_push_size (((s.heap.push (k1.io l1)).push (k2.io l2)).push { cls:=.type "tuple",data:=.seq #[.ref s.heap.objs.size,.ref (s.heap.objs.size+1)] }) (o:={ cls:=.type "tuple",data:=.seq #[.none,.none] }) rfl
   simp only [Heap.size_push] at this
   exact this
theorem y9 (k1 k2:Sd) (z TI TO i1 i2 l1 l2:Addr) (ap:ZipApart z TI TO i1 i2 l1 l2) (n1 n2:Nat) (xs ys:Array Value) (x y a b:Value) (hx:xs[n1]?=some x) (hy:ys[n2]?=some y):Meets (Builtin.«zip.__next__» ⟨[.ref z],[]⟩)
  (λ_ R s=>IsZip s.heap z TI TO .none/\IsPair s.heap TI (.ref i1) (.ref i2)/\IsPair s.heap TO a b/\k1.It s.heap i1 l1 n1/\k2.It s.heap i2 l2 n2/\k1.Sq s.heap l1 xs/\k2.Sq s.heap l2 ys /\
   ∀ h',IsZip h' z TI TO (rawInt s.heap.objs.size)->IsPair h' TO x y->k1.It h' i1 l1 (n1+1)->k2.It h' i2 l2 (n2+1)->IsPair h' s.heap.objs.size x y ->
    (∀ c o,c≠z->c≠TO->c≠i1->c≠i2->s.heap.get? c=some o->h'.get? c=some o)->R (.ok (.ret (.ref s.heap.objs.size))) { s with heap:=h' }) :=
 .of_wp λprog w A R s h=>by
  obtain⟨hz,hTI,hTO,j1,j2,q1,q2,q⟩:=h
  wp_walk using wpAny_field (i:=2) (x:=Value.bool false) hz rfl rfl,wpAny_field (i:=3) (x:=Value.ref TI) hz rfl rfl,wpAny_field (i:=0) (x:=Value.none) hz rfl rfl,wpAny_field (i:=4) (x:=Value.ref TO) hz rfl rfl,wpAny_seqItems hTI rfl,wpAny_setField_rec hz (show 0<5 by decide)
  intro ha za sa
  have ka:∀ c o,c≠z->s.heap.get? c=some o->ha.get? c=some o:=λc o hc e=>(sa.2 c hc).trans e
  have j1a:=j1.at (h':=ha) λo e=>ka i1 o ap.i1z e
  have q1a:=q1.at (h':=ha) λo e=>ka l1 o ap.l1z e
  wp_walk using wpAny_onRaise,Sd.item (s:={ s with heap:=ha }) j1a q1a hx
  intro hb jb sb
  have kb:∀ c o,c≠z->c≠i1->s.heap.get? c=some o->hb.get? c=some o:=λc o h1 h2 e=>(sb.2 c h2).trans (ka c o h1 e)
  have TOb:IsPair hb TO a b:=kb TO _ ap.TOz ap.TOi1 hTO
  wp_walk using wpAny_seqItems TOb rfl,wpAny_updateSeq_pair (s:={ s with heap:=hb }) TOb
  intro hc TOc' sc
  have TOc:IsPair hc TO x b:=TOc'
  have kc:∀ c o,c≠z->c≠i1->c≠TO->s.heap.get? c=some o->hc.get? c=some o:=λc o h1 h2 h3 e=>(sc.2 c h3).trans (kb c o h1 h2 e)
  have zc:hc.get? z=some { cls:=.type "zip",data:=.fields #[.ellipsis,.bool false,.bool false,.ref TI,.ref TO] }:=(sc.2 z (Ne.symm ap.TOz)).trans ((sb.2 z (Ne.symm ap.i1z)).trans za)
  have j1c:=jb.at (h':=hc) λo e=>(sc.2 i1 (Ne.symm ap.TOi1)).trans e
  have j2c:=j2.at (h':=hc) λo e=>kc i2 o ap.i2z (Ne.symm ap.i12) (Ne.symm ap.TOi2) e
  have q2c:=q2.at (h':=hc) λo e=>kc l2 o ap.l2z ap.l2i1 ap.l2TO e
  wp_walk using wpAny_letGo,wpAny_onRaise,Sd.item (s:={ s with heap:=hc }) j2c q2c hy
  intro hd jd sd
  have TOd:IsPair hd TO x b:=(sd.2 TO ap.TOi2).trans TOc
  have zd:=(sd.2 z (Ne.symm ap.i2z)).trans zc
  wp_walk using wpAny_seqItems TOd rfl,wpAny_updateSeq_pair (s:={ s with heap:=hd }) TOd
  intro he TOe' se
  have TOe:IsPair he TO x y:=TOe'
  have ze:=(se.2 z (Ne.symm ap.TOz)).trans zd
  wp_walk using wpAny_letGo,wpAny_seqItems TOe rfl
  have sz:he.objs.size=s.heap.objs.size:=se.1.trans (sd.1.trans (sc.1.trans (sb.1.trans sa.1)))
  have zn:z≠he.objs.size:=Nat.ne_of_lt (Heap.lt_size ze)
  have zf:(he.push { cls:=.type "tuple",data:=.seq #[x,y] }).get? z=some { cls:=.type "zip",data:=.fields #[.ellipsis,.bool false,.bool false,.ref TI,.ref TO] }:=Heap.get?_push_of_some _ ze
  have ke:∀ c o,c≠z->he.get? c=some o->(((he.push { cls:=.type "tuple",data:=.seq #[x,y] }).update z (Obj.mapFields λx=>x.setIfInBounds 0 (rawInt ↑he.objs.size))).update z (Obj.mapFields λx=>x.setIfInBounds 1 (Value.bool false))).get? c=some o:=λc o hc e=>(Heap.get?_update_other _ _ (Ne.symm hc)).trans ((Heap.get?_update_other _ _ (Ne.symm hc)).trans (Heap.get?_push_of_some _ e))
  have g1:=Heap.get?_update_self (Obj.mapFields λx=>x.setIfInBounds 0 (rawInt ↑he.objs.size)) zf rfl
  have g2:=Heap.get?_update_self (Obj.mapFields λx=>x.setIfInBounds 1 (Value.bool false)) g1 rfl
  have gn:(((he.push { cls:=.type "tuple",data:=.seq #[x,y] }).update z (Obj.mapFields λx=>x.setIfInBounds 0 (rawInt ↑he.objs.size))).update z (Obj.mapFields λx=>x.setIfInBounds 1 (Value.bool false))).get? he.objs.size=some { cls:=.type "tuple",data:=.seq #[x,y] }:=(Heap.get?_update_other _ _ zn).trans ((Heap.get?_update_other _ _ zn).trans (Heap.get?_push_size _ rfl))
  refine⟨_,rfl,?_⟩
  show R (.ok (.ret (.ref he.objs.size))) { s with heap:=(((he.push { cls:=.type "tuple",data:=.seq #[x,y] }).update z (Obj.mapFields λx=>x.setIfInBounds 0 (rawInt ↑he.objs.size))).update z (Obj.mapFields λx=>x.setIfInBounds 1 (Value.bool false))) }
  generalize (((he.push { cls:=.type "tuple",data:=.seq #[x,y] }).update z (Obj.mapFields λx=>x.setIfInBounds 0 (rawInt ↑he.objs.size))).update z (Obj.mapFields λx=>x.setIfInBounds 1 (Value.bool false)))=hf at *
  rw [sz]
  refine q hf (by rw [<- sz];exact g2) (ke TO _ ap.TOz TOe) (j1c.at λo e=>ke i1 o ap.i1z ((se.2 i1 (Ne.symm ap.TOi1)).trans ((sd.2 i1 ap.i12).trans e))) (jd.at λo e=>ke i2 o ap.i2z ((se.2 i2 (Ne.symm ap.TOi2)).trans e)) (by rw [<- sz];exact gn) λc o h1 h2 h3 h4 e=>ke c o h1 ((se.2 c h2).trans ((sd.2 c h4).trans (kc c o h1 h3 h2 e)))
theorem y8 (k1:Sd) (z TI TO i1 i2 l1:Addr) (i1z:i1≠z) (l1z:l1≠z) (n1:Nat) (xs:Array Value) (a b:Value) (hx:xs[n1]?=none):Meets (Builtin.«zip.__next__» ⟨[.ref z],[]⟩)
  (λA R s=>A.handled=none/\IsZip s.heap z TI TO .none/\IsPair s.heap TI (.ref i1) (.ref i2)/\IsPair s.heap TO a b/\k1.It s.heap i1 l1 n1/\k1.Sq s.heap l1 xs /\
   ∀ h' e,(∀ c o,c≠z->c≠i1->s.heap.get? c=some o->h'.get? c=some o)->(∃ o,h'.get? e=some o/\o.cls=.type "StopIteration")->R (.error (.ref e)) { s with heap:=h' }) :=
 .of_wp λprog w A R s h=>by
  obtain⟨hn,hz,hTI,hTO,j1,q1,q⟩:=h
  wp_walk using wpAny_field (i:=2) (x:=Value.bool false) hz rfl rfl,wpAny_field (i:=3) (x:=Value.ref TI) hz rfl rfl,wpAny_field (i:=0) (x:=Value.none) hz rfl rfl,wpAny_field (i:=4) (x:=Value.ref TO) hz rfl rfl,wpAny_seqItems hTI rfl,wpAny_setField_rec hz (show 0<5 by decide)
  intro ha za sa
  have ka:∀ c o,c≠z->s.heap.get? c=some o->ha.get? c=some o:=λc o hc e=>(sa.2 c hc).trans e
  have j1a:=j1.at (h':=ha) λo e=>ka i1 o i1z e
  have q1a:=q1.at (h':=ha) λo e=>ka l1 o l1z e
  wp_walk using wpAny_onRaise,Sd.fin (A:=A.in1) (s:={ s with heap:=ha }) hn j1a q1a hx
  intro hb e kb oe
  have zb:=kb z _ (Ne.symm i1z) za
  refine wpAny_setField_rec (s:={ s with heap:=hb }) zb (show 0<5 by decide) λhc zc sc=>?_
  obtain⟨o,eo,co⟩:=oe
  have ez:e≠z:=λx=>by
   subst x
   rw [zb] at eo
   cases eo
   injection co with x
   exact absurd x (by decide)
  exact q hc e (λc o h1 h2 x=>(sc.2 c h1).trans (kb c o h2 (ka c o h1 x))) ⟨o,(sc.2 e ez).trans eo,co⟩
section
variable {prog:Program} {w:World} {A:Around} {E:Value->Shared->Prop} {s:Shared}
theorem m8 {it:Addr} {T id:String} {Q:Option Value->Shared->Prop} (ty:s.TypeIs (.ref it) T) (sl:Slot T "__next__" id)
  (h:wpAny (model prog w) A (call (.builtin id) [.ref it]) (λv s'=>Q (some v) s') (λe s'=>(∃ x o,e=.ref x/\s'.heap.get? x=some o/\o.cls=.type "StopIteration")/\Q none s') s):wpAny (model prog w) A (pyNext (.ref it)) Q E s:=by
 unfold pyNext
 refine wpAny_bind (wpAny_attempt (wpAny_callSpecial?_slot ty sl (wpAny_mono h (λv s' q=>wpAny_pure q) λe s' q=>?_)))
 obtain⟨⟨x,o,rfl,eo,co⟩,q⟩:=q
 refine wpAny_bind (wpAny_isInstance (T := "StopIteration") (b:=true) ⟨o,eo,co⟩ ?_ ?_)
 ·with_unfolding_all rfl
 ·rw [if_pos rfl]
  exact wpAny_pure q
theorem pK {k1 k2:Sd} {l1 l2:Addr} {xs ys:Array Value} {Q:Value->Shared->Prop} (h1:k1.Sq s.heap l1 xs) (h2:k2.Sq s.heap l2 ys)
  (q:∀ h',IsZip h' (s.heap.objs.size+4) (s.heap.objs.size+2) (s.heap.objs.size+3) .none->IsPair h' (s.heap.objs.size+2) (.ref s.heap.objs.size) (.ref (s.heap.objs.size+1)) ->
   IsPair h' (s.heap.objs.size+3) .none .none->k1.It h' s.heap.objs.size l1 0->k2.It h' (s.heap.objs.size+1) l2 0->(∀ c o,s.heap.get? c=some o->h'.get? c=some o)->Q (.ref (s.heap.objs.size+4)) { s with heap:=h' }) :
  wpAny (model prog w) A (call (.type "zip") [.ref l1,.ref l2]) Q E s :=
 callType_new F.called_zip (by decide) (F.typeCall_zip_2 _ _) (F.newCall_zip_2 _ _) (λobj=>F.args_object_init_3 _ _ _) F.entry_zip_new (AZ k1 k2 l1 l2 xs ys) ⟨h1,h2,λh' z a b c d e=>⟨⟨_,z,rfl⟩,q h' z a b c d e⟩⟩
theorem mj {k1 k2:Sd} {z TI TO i1 i2 l1 l2:Addr} {n1 n2:Nat} {xs ys:Array Value} {x y a b:Value} {Q:Option Value->Shared->Prop} (ap:ZipApart z TI TO i1 i2 l1 l2) (hz:IsZip s.heap z TI TO .none) (hTI:IsPair s.heap TI (.ref i1) (.ref i2)) (hTO:IsPair s.heap TO a b)
  (j1:k1.It s.heap i1 l1 n1) (j2:k2.It s.heap i2 l2 n2) (q1:k1.Sq s.heap l1 xs) (q2:k2.Sq s.heap l2 ys) (hx:xs[n1]?=some x) (hy:ys[n2]?=some y)
  (q:∀ h',IsZip h' z TI TO (rawInt s.heap.objs.size)->IsPair h' TO x y->k1.It h' i1 l1 (n1+1)->k2.It h' i2 l2 (n2+1)->IsPair h' s.heap.objs.size x y ->
    (∀ c o,c≠z->c≠TO->c≠i1->c≠i2->s.heap.get? c=some o->h'.get? c=some o)->Q (some (.ref s.heap.objs.size)) { s with heap:=h' }):wpAny (model prog w) A (pyNext (.ref z)) Q E s :=
 m8 ⟨_,hz,rfl⟩ F.slot_zip_next (call_meets F.slot_zip_next ⟨_,hz,rfl⟩ F.entry_zip_next (F.args_zip_next_1 _) (y9 k1 k2 z TI TO i1 i2 l1 l2 ap n1 n2 xs ys x y a b hx hy) ⟨hz,hTI,hTO,j1,j2,q1,q2,λh' a b c d e f=>q h' a b c d e f⟩)
theorem nY {k1:Sd} {z TI TO i1 i2 l1:Addr} {n1:Nat} {xs:Array Value} {a b:Value} {Q:Option Value->Shared->Prop} (hn:A.handled=none) (i1z:i1≠z) (l1z:l1≠z) (hz:IsZip s.heap z TI TO .none) (hTI:IsPair s.heap TI (.ref i1) (.ref i2)) (hTO:IsPair s.heap TO a b)
  (j1:k1.It s.heap i1 l1 n1) (q1:k1.Sq s.heap l1 xs) (hx:xs[n1]?=none)
  (q:∀ h',(∀ c o,c≠z->c≠i1->s.heap.get? c=some o->h'.get? c=some o)->Q none { s with heap:=h' }):wpAny (model prog w) A (pyNext (.ref z)) Q E s :=
 m8 ⟨_,hz,rfl⟩ F.slot_zip_next (call_meets F.slot_zip_next ⟨_,hz,rfl⟩ F.entry_zip_next (F.args_zip_next_1 _) (y8 k1 z TI TO i1 i2 l1 i1z l1z n1 xs a b hx) ⟨hn,hz,hTI,hTO,j1,q1,λh' e k ⟨o,eo,co⟩=>⟨⟨e,o,rfl,eo,co⟩,q h' k⟩⟩)
end
def kZ (k:Sd) (K:PySem.W.Frag) (H:Hp) (a:Addr) (xs:List V):Prop:=match k with
 | .l=>aO K H a xs
 | .t=>bG K H a xs
theorem Inv.De {X:Cx} {pins:List (Addr × Obj)} {σ:St} {H:Hp} {s:Shared} {k:Sd} {a:Addr} {xs:List V} (I:Inv X pins σ H s) (h:kZ k X.K H a xs):∃ its:List Value,Vals xs its/\k.Sq s.heap a its.toArray:=by
 cases k
 ·obtain⟨its,r,p,_⟩:=I.list h
  exact⟨its,r,p.isList⟩
 ·obtain⟨its,r,p,_⟩:=I.tuple h
  exact⟨its,r,p⟩
theorem Inv.ux {X:Cx} {pins:List (Addr × Obj)} {σ:St} {H:Hp} {s:Shared} {k:Sd} {a:Addr} {xs ys:List V} (I:Inv X pins σ H s) (h:kZ k X.K H a xs) (h':kZ k X.K H a ys):xs=ys:=by
 cases k
 ·exact I.lz h h'
 ·exact I.nH h h'
def DG (k1 k2:Sd) (K:PySem.W.Frag) (a b:Addr):It :=
 ⟨λi H=>∃ xs ys x y,kZ k1 K H a xs/\kZ k2 K H b ys/\xs[i]?=some x/\ys[i]?=some y,λi H x H'=>∃ p u v,H p=none/\x=.ref p/\(∀ xs,kZ k1 K H a xs->xs[i]?=some u)/\(∀ ys,kZ k2 K H b ys->ys[i]?=some v)/\H'=upd H p (.tup [u,v]),
  λi H=>∃ xs,kZ k1 K H a xs/\xs.length<=i⟩
theorem rA {P:Program} {w:World} {K:PySem.W.Frag} {elts:List Expr} {x1} {pos:Pos} {k1 k2:Sd} {a b z TI TO i1 i2:Addr} (ap:ZipApart z TI TO i1 i2 a b):Turn P w K (.Tuple elts x1 pos) (DG k1 k2 K a b) [z,TI,TO,i1,i2] z (λi h=>IsZip h z TI TO .none/\IsPair h TI (.ref i1) (.ref i2)/\(∃ u v,IsPair h TO u v)/\k1.It h i1 a i/\k2.It h i2 b i) where
 mem:=by simp
 obj:=λi h st c hc=>by
  obtain⟨h1,h2,⟨u,v,h3⟩,h4,h5⟩:=st
  simp only [List.mem_cons,List.not_mem_nil,or_false] at hc
  rcases hc with rfl | rfl | rfl | rfl | rfl
  ·exact⟨_,h1,λv z=>by cases z⟩
  ·exact⟨_,h2,λv z=>by cases z⟩
  ·exact⟨_,h3,λv z=>by cases z⟩
  ·exact h4.there
  ·exact h5.there
 keep:=λi h h' st k=>by
  obtain⟨h1,h2,⟨u,v,h3⟩,h4,h5⟩:=st
  exact⟨k z (by simp) _ h1,k TI (by simp) _ h2,⟨u,v,k TO (by simp) _ h3⟩,h4.at λo x=>k i1 (by simp) o x,h5.at λo x=>k i2 (by simp) o x⟩
 item:=by
  intro X hP hw hK hc i pins s σ H E I hf st hg
  subst hP hw hK
  obtain⟨xs,ys,x,y,hq1,hq2,hx,hy⟩:=hg
  obtain⟨its1,rv1,p1⟩:=I.De hq1
  obtain⟨its2,rv2,p2⟩:=I.De hq2
  obtain⟨u,hu,ru⟩:=rv1.get hx
  obtain⟨v,hv,rv⟩:=rv2.get hy
  obtain⟨h1,h2,⟨u0,v0,h3⟩,h4,h5⟩:=st
  refine mj ap h1 h2 h3 h4 h5 p1 p2 (x:=u) (y:=v) (by simpa using hu) (by simpa using hv) λh' z' TO' j1 j2 hT hk=>?_
  refine⟨_,rfl,?_⟩
  have fT:H s.heap.objs.size=none:=I.hok.fresh (Nat.le_refl _)
  refine wpAny_letOwnedTupleGo_zip z' λh'' z2 s2=>?_
  have hke:∀ c o,c∉[z,TI,TO,i1,i2]->s.heap.get? c=some o->h''.get? c=some o:=λc o hc q=>by
   simp only [List.mem_cons,List.not_mem_nil,or_false,not_or] at hc
   exact (s2.2 c hc.1).trans (hk c o hc.1 hc.2.2.1 hc.2.2.2.1 hc.2.2.2.2 q)
  have I1:Inv X pins σ H { s with heap:=h'',toks:=s.toks }:=I.kT hke hf
  have nz:∀ c∈[z,TI,TO,i1,i2],c≠s.heap.objs.size:=λc hc e=>by
   have:∃ o,s.heap.get? c=some o:=by
    simp only [List.mem_cons,List.not_mem_nil,or_false] at hc
    rcases hc with rfl | rfl | rfl | rfl | rfl
    ·exact⟨_,h1⟩
    ·exact⟨_,h2⟩
    ·exact⟨_,h3⟩
    ·obtain⟨o,e,_⟩:=h4.there;exact⟨o,e⟩
    ·obtain⟨o,e,_⟩:=h5.there;exact⟨o,e⟩
   obtain⟨o,eo⟩:=this
   exact Nat.ne_of_lt (Heap.lt_size eo) e
  have hT2:h''.get? s.heap.objs.size=some { cls:=.type "tuple",data:=.seq #[u,v] }:=(s2.2 _ (Ne.symm (nz z (by simp)))).trans hT
  refine⟨.ref s.heap.objs.size,upd H s.heap.objs.size (.tup [x,y]),?_,rfl,⟨_,x,y,fT,rfl,λzs hz=>by rw [I.ux hz hq1];exact hx,λzs hz=>by rw [I.ux hz hq2];exact hy,rfl⟩,
   ⟨z2,(s2.2 TI ap.TIz).trans (hk TI _ ap.TIz ap.TITO ap.TIi1 ap.TIi2 h2),⟨_,_,(s2.2 TO ap.TOz).trans TO'⟩,j1.at λo q=>(s2.2 i1 ap.i1z).trans q,j2.at λo q=>(s2.2 i2 ap.i2z).trans q⟩,λc hc=>?_⟩
  ·exact I1.adopt (T:=s.heap.objs.size) (o:=.tup [x,y]) (I.mh (Nat.le_refl _) fT) ⟨by show 2<=sizeLine;decide,[u,v],.cons ru (.cons rv .nil),⟨_,hT2,rfl,_,rfl⟩⟩
  ·rw [au (nz c hc)]
   exact (hf c hc).1
 done:=by
  intro X hP hw hK hc i pins s σ H E I hf st hg
  subst hP hw hK
  obtain⟨xs,hq,hx⟩:=hg
  obtain⟨its,rv,p⟩:=I.De hq
  have hl:=rv.length
  obtain⟨h1,h2,⟨u0,v0,h3⟩,h4,h5⟩:=st
  exact nY (I.ok.hd hc) ap.i1z ap.l1z h1 h2 h3 h4 p (by simp;omega) λh' eb=>⟨rfl,I.kT (t':=s.toks) (ch:=[z,i1]) (λc o hc q=>by
   simp only [List.mem_cons,List.not_mem_nil,or_false,not_or] at hc
   exact eb c o hc.1 hc.2 q) (λc hc=>hf c (by
    simp only [List.mem_cons,List.not_mem_nil,or_false] at hc
    rcases hc with rfl | rfl<;>simp))⟩
 self:=λ_ _ _ _ _ st h=>wpAny_pyIter_zip st.1 h
def DW (k1 k2:Sd) (K:PySem.W.Frag) (ta:TA):TI:=λσ H R=>ta σ H λvs H1=>∃ a b,vs=[.ref a,.ref b]/\(∃ xs,kZ k1 K H1 a xs)/\(∃ ys,kZ k2 K H1 b ys)/\R (DG k1 k2 K a b) H1
theorem mJ:bootBuiltins "zip"=some (.type "zip"):=by decide +kernel
theorem x6 {X:Cx} {elts:List Expr} {x1} {tpos:Pos} {a b:Expr} {ta:TA} {p pos:Pos} (k1 k2:Sd) (hg:Gl X "zip") (hm:X.mg "zip"=none) (ha:PA X [a,b] ta) (hs:starEach [a,b] X.env=[(false,eval a X.env),(false,eval b X.env)]:=by rfl) (hs2:starEach [b] X.env=[(false,eval b X.env)]:=by rfl) :
  PI X (.Tuple elts x1 tpos) (.Call (.Name "zip" p) [a,b] [] pos) (DW k1 k2 X.K ta):=by
 intro pins s σ H R I h
 refine Call_ (fU I hg hm mJ (PyProof.Rows.callWith_type1 (bc (ha pos pins s σ H _ I h) λus s1 ⟨vs,H1,I1,r1,q1⟩=>?_) (by rw [hs,hs2]) (by rw [hs2];rfl)))
 obtain⟨a',b',e,⟨xs,hq1⟩,⟨ys,hq2⟩,q⟩:=q1
 subst e
 cases r1 with
 | cons r rr =>
  cases rr with
  | cons r' rr' =>
   cases rr'
   cases r
   cases r'
   obtain⟨its1,rv1,p1⟩:=I1.De hq1
   obtain⟨its2,rv2,p2⟩:=I1.De hq2
   refine pK p1 p2 λh' hz hTI hTO j1 j2 hk=>?_
   refine wpAny_pyIter_zip hz ?_
   have I2:Inv X pins σ H1 { s1 with heap:=h' }:=I1.kept (t':=s1.toks) hk
   refine⟨_,[s1.heap.objs.size+4,s1.heap.objs.size+2,s1.heap.objs.size+3,s1.heap.objs.size,s1.heap.objs.size+1],_,_,H1,rfl,I2,rA (PyProof.Rows.zipApart_new p1.lt p2.lt),⟨hz,hTI,⟨_,_,hTO⟩,j1,j2⟩,λc hc=>?_,q⟩
   simp only [List.mem_cons,List.not_mem_nil,or_false] at hc
   rcases hc with rfl | rfl | rfl | rfl | rfl<;>exact I1.mh (by omega) (I1.hok.fresh (by omega))
theorem gL {K:PySem.W.Frag} {k1 k2:Sd} {a b:Addr} {xs ys:List V} {js:List (Option Nat)} {g:TG} {tt:TT} {te:TE} {σ:St} {Q:VK} {H1:Hp} (Pv:Nat->List V->Hp->Prop) (h0:Pv 0 [] H1) (hxy:xs.length=ys.length) (hx:xs.length<=sizeLine) (hl:∀ i zs H,i<=xs.length->Pv i zs H->kZ k1 K H a xs/\kZ k2 K H b ys/\zs.length<=i)
  (hs:∀ i x y zs H p,xs[i]?=some x->ys[i]?=some y->Pv i zs H->H p=none->g (.ref p) (b8 js σ) (upd H p (.tup [x,y])) λσ2 H2=>bD (b8 js σ) σ2/\tt σ2 H2 λc H3=>if c=true then te σ2 H3 λv H4=>Pv (i+1) (zs++[v]) H4 else Pv (i+1) zs H3)
  (hd:∀ zs H p,Pv xs.length zs H->H p=none->Q (.ref p) (upd H p (.lst zs))):mx (DG k1 k2 K a b) js g tt te σ Q H1:=by
 refine⟨λi m zs H=>m=xs.length-i/\i<=xs.length/\Pv i zs H,⟨xs.length,by simp,Nat.zero_le _,h0⟩,?_⟩
 rintro i m zs H ⟨rfl,hi,p⟩
 obtain⟨q,q',hy⟩:=hl i zs H hi p
 by_cases hlt:i<xs.length
 ·refine .inr ⟨⟨xs,ys,xs[i],ys[i],q,q',by simp [hlt],by simp⟩,by omega,Pv (i+1),λys' H' p'=>⟨xs.length-(i+1),by omega,rfl,hlt,p'⟩,λx H' y=>?_⟩
  obtain⟨pt,u,v,f,e1,e2,e3,e4⟩:=y
  subst e1 e4
  exact hs i u v zs _ pt (e2 xs q) (e3 ys q') p f
 ·have e:i=xs.length:=by omega
  subst e
  exact .inl ⟨⟨xs,q,Nat.le_refl _⟩,by omega,λp' hp'=>hd zs H p' p hp'⟩
end L2
namespace Num
theorem jK {p x y:Int} {m:Nat} (h:Al p x y) (o:Ord p x m):Ord p y m:=⟨o.pos,(h.pow m).symm.trans o.one,λj z=>o.dv j ((h.pow j).trans z)⟩
def eN:List (Int × Int)->Nat
 | []=>1
 | p::r=>p.1.toNat^p.2.toNat*eN r
theorem cU:∀ a b:List (Int × Int),eN (a++b)=eN a*eN b
 | [],b=>by simp [eN]
 | p::r,b=>by
  show p.1.toNat^p.2.toNat*eN (r++b)=p.1.toNat^p.2.toNat*eN r*eN b
  rw [cU r b,Nat.mul_assoc]
theorem fz:∀ a:List (Int × Int),(∀ p∈a,Pm p.1)->(eN a:Int)=bU a
 | [],_=>rfl
 | p::r,h=>by
  have t:=(h p (List.mem_cons_self ..)).two
  show ((p.1.toNat^p.2.toNat*eN r:Nat):Int)=p.1^p.2.toNat*bU r
  rw [Int.natCast_mul,Int.natCast_pow,fz r λx z=>h x (List.mem_cons_of_mem _ z),show (p.1.toNat:Int)=p.1 by omega]
theorem lh:∀ a:List (Int × Int),(∀ p∈a,Pm p.1)->0<eN a
 | [],_=>Nat.one_pos
 | p::r,h=>by
  have t:=(h p (List.mem_cons_self ..)).two
  exact Nat.mul_pos (Nat.pow_pos (by omega)) (lh r λx z=>h x (List.mem_cons_of_mem _ z))
theorem B4 {q m:Nat} (h:Nm q) (hm:¬q∣m) (k:Nat):Nat.Coprime (q^k) m:=Nat.Coprime.pow_left k (h.co hm)
theorem A9 {q:Int} (hq:Pm q) {b:List (Int × Int)} (hb:∀ p∈b,Pm p.1) (ne:∀ p∈b,p.1≠q):¬q.toNat∣eN b:=λz=>by
 have t:=hq.two
 have:q∣bU b:=by
  rw [<- fz b hb]
  have:=Int.natCast_dvd_natCast.mpr z
  rwa [show (q.toNat:Int)=q by omega] at this
 obtain⟨p,hp,e⟩:=fX hq hb this
 exact ne p hp e
theorem wC {b:List (Int × Int)} (hb:∀ p∈b,Pm p.1):∀ a:List (Int × Int),(∀ p∈a,Pm p.1)->(∀ x∈a,∀ y∈b,y.1≠x.1)->Nat.Coprime (eN a) (eN b)
 | [],_,_=>Nat.coprime_one_left _
 | p::r,h,ne=>by
  have hp:=h p (List.mem_cons_self ..)
  exact Nat.Coprime.mul_left (B4 (tJ hp) (A9 hp hb (ne p (List.mem_cons_self ..))) _) (wC hb r (λx z=>h x (List.mem_cons_of_mem _ z)) λx z=>ne x (List.mem_cons_of_mem _ z))
theorem Am {n a:Int} {q t:Nat} (hq:Nm q) (h:Al n (a^q^t) 1) (no:∀ j,j<t->¬Al n (a^q^j) 1):Ord n a (q^t):=by
 have q2:=hq.1
 obtain⟨m,o,_⟩:=jL (N:=q^t) (Nat.pow_pos (by omega)) h
 have d:=o.dv _ h
 cases t with
 | zero =>
  have:m=1:=Nat.eq_one_of_dvd_one (by simpa using d)
  rw [this] at o
  simpa using o
 | succ k =>
  have:m=q^(k+1):=tW hq k m d λz=>no k (Nat.lt_succ_self _) (by
   obtain⟨c,hc⟩:=z
   rw [hc]
   exact aL o.one)
  rw [<- this]
  exact o
theorem bz {a:Int} {x y:Nat}:(a^x)^y=a^(x*y):=by rw [Int.pow_mul]
theorem sC {n a:Int} {M1 M2 E1 E2:Nat} (co:Nat.Coprime M1 M2) (p1:0<M1) (p2:0<M2) (h:Al n (a^(M1*M2)) 1) (o1:Ord n (a^M2) E1) (o2:Ord n (a^M1) E2):Ord n a (E1*E2):=by
 have d1:E1∣M1:=o1.dv M1 (by rw [bz,Nat.mul_comm];exact h)
 have d2:E2∣M2:=o2.dv M2 (by rw [bz];exact h)
 obtain⟨c1,hc1⟩:=d1
 obtain⟨c2,hc2⟩:=d2
 obtain⟨e,o,_⟩:=jL (Nat.mul_pos p1 p2) h
 have x1:e∣M2*E1:=o.dv _ (by rw [<- bz];exact o1.one)
 have x2:e∣M1*E2:=o.dv _ (by rw [<- bz];exact o2.one)
 have cc:Nat.Coprime c2 c1:=by
  have:Nat.Coprime c1 c2:=Nat.Coprime.coprime_dvd_left ⟨E1,by rw [hc1,Nat.mul_comm]⟩ (Nat.Coprime.coprime_dvd_right ⟨E2,by rw [hc2,Nat.mul_comm]⟩ co)
  exact this.symm
 have x3:e∣E1*E2:=by
  have:=Nat.dvd_gcd x1 x2
  rw [show M2*E1=E1*E2*c2 by rw [hc2];rw [Nat.mul_comm (E2*c2) E1,Nat.mul_assoc],show M1*E2=E1*E2*c1 by rw [hc1];rw [Nat.mul_assoc,Nat.mul_comm c1 E2,Nat.mul_assoc],Nat.gcd_mul_left,cc.gcd_eq_one,Nat.mul_one] at this
  exact this
 have ce:Nat.Coprime E1 E2:=Nat.Coprime.coprime_dvd_left ⟨c1,hc1⟩ (Nat.Coprime.coprime_dvd_right ⟨c2,hc2⟩ co)
 refine⟨Nat.mul_pos o1.pos o2.pos,?_,λj hj=>?_⟩
 ·obtain⟨c,hc⟩:=x3
  rw [hc]
  exact aL o.one
 ·refine ce.mul_dvd_of_dvd_of_dvd (o1.dv j ?_) (o2.dv j ?_)
  ·rw [bz,Nat.mul_comm,<- bz]
   have:=hj.pow M2
   rwa [Int.one_pow] at this
  ·rw [bz,Nat.mul_comm,<- bz]
   have:=hj.pow M1
   rwa [Int.one_pow] at this
structure TO (n a:Int) (ps:List (Int × Int)) (ts:List Int):Prop where
 len:ts.length=ps.length
 nn:∀ t∈ts,0<=t
 ord:Ord n a (eN ((ps.map (·.1)).zip ts))
theorem TO.al {n a b:Int} {ps:List (Int × Int)} {ts:List Int} (h:TO n a ps ts) (e:Al n a b):TO n b ps ts:=⟨h.len,h.nn,jK e h.ord⟩
theorem TO.none {n a:Int} (h:Al n a 1):TO n a [] []:=⟨rfl,λ_ z=>by simp at z,⟨Nat.one_pos,by show Al n (a^1) 1;rw [Int.pow_one];exact h,λj _=>Nat.one_dvd j⟩⟩
theorem TO.one {n a q k:Int} {t:Nat} (hq:Pm q) (h:Al n (a^q.toNat^t) 1) (no:∀ j,j<t->¬Al n (a^q.toNat^j) 1):TO n a [(q,k)] [(t:Int)]:=by
 refine⟨rfl,λx z=>?_,?_⟩
 ·rw [List.mem_singleton.mp z];omega
 ·show Ord n a (q.toNat^(t:Int).toNat*1)
  rw [Nat.mul_one,Int.toNat_natCast]
  exact Am (tJ hq) h no
theorem TO.two {n a:Int} {as bs:List (Int × Int)} {ts us:List Int} (ha:∀ p∈as,Pm p.1) (hb:∀ p∈bs,Pm p.1) (ne:∀ x∈as,∀ y∈bs,y.1≠x.1) (h:Al n (a^eN (as++bs)) 1) (h1:TO n (a^eN bs) as ts) (h2:TO n (a^eN as) bs us):TO n a (as++bs) (ts++us):=by
 refine⟨by rw [List.length_append,List.length_append,h1.len,h2.len],λt z=>(List.mem_append.mp z).elim (h1.nn t) (h2.nn t),?_⟩
 rw [List.map_append,List.zip_append (by rw [List.length_map,h1.len]),cU]
 rw [cU] at h
 exact sC (wC hb as ha ne) (lh as ha) (lh bs hb) h h1.ord h2.ord
end Num
namespace L2
open PySem PySem.Spec PyProof.Rows
section
variable {prog:Program} {w:World} {A:Around} {E:Value->Shared->Prop} {s:Shared}
end
def EX (K:PySem.W.Frag) (a:Addr):It :=
 ⟨λi H=>∃ xs x,bG K H a xs/\xs[i]?=some x,λi H x H'=>∃ p v,H p=none/\x=.ref p/\(∀ xs,bG K H a xs->xs[i]?=some v)/\H'=upd H p (.tup [.int i,v]),λi H=>∃ xs,bG K H a xs/\xs.length<=i⟩
def Cd (K:PySem.W.Frag) (ta:TA):TI:=λσ H R=>ta σ H λvs H1=>∃ a,vs=[.ref a]/\(∃ xs,bG K H1 a xs)/\R (EX K a) H1
def Bj (K:PySem.W.Frag) (ta:TA):TI:=λσ H R=>ta σ H λvs H1=>∃ a b k1 k2,vs=[.ref a,.ref b]/\(∃ xs,kZ k1 K H1 a xs)/\(∃ ys,kZ k2 K H1 b ys)/\R (DG k1 k2 K a b) H1
theorem tV {X:Cx} {elts:List Expr} {x1} {tpos:Pos} {a b:Expr} {ta:TA} {p pos:Pos} (hg:Gl X "zip") (hm:X.mg "zip"=none) (ha:PA X [a,b] ta) (hs:starEach [a,b] X.env=[(false,eval a X.env),(false,eval b X.env)]:=by rfl) (hs2:starEach [b] X.env=[(false,eval b X.env)]:=by rfl) :
  PI X (.Tuple elts x1 tpos) (.Call (.Name "zip" p) [a,b] [] pos) (Bj X.K ta):=by
 intro pins s σ H R I h
 refine Call_ (fU I hg hm mJ (PyProof.Rows.callWith_type1 (bc (ha pos pins s σ H _ I h) λus s1 ⟨vs,H1,I1,r1,q1⟩=>?_) (by rw [hs,hs2]) (by rw [hs2];rfl)))
 obtain⟨a',b',k1,k2,e,⟨xs,hq1⟩,⟨ys,hq2⟩,q⟩:=q1
 subst e
 cases r1 with
 | cons r rr =>
  cases rr with
  | cons r' rr' =>
   cases rr'
   cases r
   cases r'
   obtain⟨its1,rv1,p1⟩:=I1.De hq1
   obtain⟨its2,rv2,p2⟩:=I1.De hq2
   refine pK p1 p2 λh' hz hTI hTO j1 j2 hk=>?_
   refine wpAny_pyIter_zip hz ?_
   have I2:Inv X pins σ H1 { s1 with heap:=h' }:=I1.kept (t':=s1.toks) hk
   refine⟨_,[s1.heap.objs.size+4,s1.heap.objs.size+2,s1.heap.objs.size+3,s1.heap.objs.size,s1.heap.objs.size+1],_,_,H1,rfl,I2,rA (PyProof.Rows.zipApart_new p1.lt p2.lt),⟨hz,hTI,⟨_,_,hTO⟩,j1,j2⟩,λc hc=>?_,q⟩
   simp only [List.mem_cons,List.not_mem_nil,or_false] at hc
   rcases hc with rfl | rfl | rfl | rfl | rfl<;>exact I1.mh (by omega) (I1.hok.fresh (by omega))
end L2
namespace L2
open PySem PySem.Spec PyProof.Rows PySem.W
end L2
namespace L2
open PySem PySem.Spec PyProof.Rows
theorem jw:∀{us:List Value} {ns:List Int},IntsAre us ns->Vals (ns.map V.int) us
 | _,_,.nil=>.nil
 | _,_,.cons n t h=>.cons ⟨t,rfl⟩ (jw h)
def AA (K:PySem.W.Frag):List V->Hp->VK->Prop:=λxs H Q=>∃(a:Addr) (ns:List Int),xs=[.ref a]/\aO K H a (ns.map V.int)/\ns.length<64/\∀(p:Addr) (ns':List Int),ns'.Perm ns->ns'.Pairwise (·<=·)->H p=none->Q (.ref p) (upd H p (.lst (ns'.map V.int)))
theorem pJ {X:Cx}:cT X (.builtin "sorted") (AA X.K):=by
 intro pins s σ H xs us Q I r h
 obtain⟨a,ns,rfl,hq,hl,q⟩:=h
 obtain⟨u,rfl,ru⟩:=vals1 r
 cases ru
 obtain⟨its,rv,p,hz⟩:=I.list hq
 have il:=intsAre_of rv
 have ln:its.length=ns.length:=by have:=rv.length;rw [List.length_map] at this;omega
 refine sorted_ints p.isList il (by omega) λout ns' ho hp hs=>?_
 obtain⟨e,he⟩:=sortedAll_at s.heap its out
 have I1:Inv X pins σ H { s with heap:=sortedAll s.heap its out }:=I.kept (t':=s.toks) λb o x=>sortedAll_old x
 have fT:H (s.heap.objs.size+1)=none:=I.hok.fresh (Nat.le_succ _)
 have vo:=jw ho
 have lo:ns'.length=ns.length:=hp.length_eq
 refine⟨.ref (s.heap.objs.size+1),upd H (s.heap.objs.size+1) (.lst (ns'.map V.int)),?_,rfl,q _ ns' hp hs fT⟩
 refine I1.adopt (T:=s.heap.objs.size+1) (o:=.lst (ns'.map V.int)) (I.mh (Nat.le_succ _) fT) ⟨?_,out.toList,e,vo,?_⟩
 ·rw [List.length_map,lo]
  exact Nat.le_trans (Nat.le_of_lt hl) (by decide)
 ·rw [he]
end L2
namespace L2
open PySem PySem.Spec PyProof.Rows PySem.W
section
variable {prog:Program} {w:World} {A:Around} {E:Value->Shared->Prop} {K:PySem.W.Frag} {h:Heap} {g:Array GenState} {d:Drawn} {t:Nat} {os:OsState} {x C B:Addr}
end
section
variable {X:Cx} {pins:List (Addr × Obj)} {σ:St} {H:Hp} {s:Shared} {x:Addr}
end
section
variable {X:Cx} {B:Addr} {n:Option Nat} {hd:ExceptHandler} {ts:TS}
variable {B2:Addr} {n2:Option Nat} {hd2:ExceptHandler} {ts2:TS}
def EH (K:PySem.W.Frag) (B:Addr) (n:Option Nat) (B2:Addr) (n2:Option Nat) (sp:Sp) (ta:TA) (put:V->St->St) (ts ts2:TS):TS:=λD σ H=>ta σ H λvs H1=>sp vs H1 (λv H2=>D.nx (put v σ) H2)
 (λcv xo H2=>∃ C x dd,cv=.ref C/\xo=some x/\H2 x=some (XO x C dd)/\eI K C/\((mroIn K C (.ref B)=some true/\ts (tG n D) (zO n x σ) H2)∨(mroIn K C (.ref B)=some false/\mroIn K C (.ref B2)=some true/\ts2 (tG n2 D) (zO n2 x σ) H2)))
variable {k:Nat} {f:Str} {ps:List Str} {sp:Sp} {e:Expr} {es:List Expr} {t:TA} {p cpos epos pos:Pos}
end
namespace HT
section
variable {prog:Program} {w:World} {A:Around} {E:Value->Shared->Prop} {s:Shared}
end
end HT
end L2
namespace L2
open PySem PySem.Spec PyProof.Rows PySem.W
namespace Tsl
open _root_.HT
section
variable {prog:Program} {w:World} {A:Around} {E:Value->Shared->Prop} {s:Shared}
theorem qa {α β:Type} {f g:α->Option β}:∀{l:List α},(∀ x∈l,f x=g x)->l.filterMap f=l.filterMap g
 | [],_=>rfl
 | x::l,h=>by rw [List.filterMap_cons,List.filterMap_cons,h x (List.mem_cons_self ..),qa λy hy=>h y (List.mem_cons_of_mem _ hy)]
theorem uE (xs:Array Value):((List.range xs.size).filterMap fun(m:Nat)=>xs[((xs.size:Int)-1+(m:Int) * -1).toNat]?).toArray=xs.toList.reverse.toArray:=by
 rw [<- krv_pick]
 unfold slicePick
 rw [krv_bounds]
 show _=((sliceRange ((xs.size:Int)-1) (-1) (-1)).filterMap (xs[·]?)).toArray
 rw [krv_sliceRange,List.filterMap_map]
 congr 1
 exact qa λm hm=>by
  have:=List.mem_range.mp hm
  show xs[((xs.size:Int)-1+(m:Int) * -1).toNat]?=xs[xs.size-1-m]?
  congr 1
  omega
theorem pF (n:Nat):Builtin.Slice.sliceAdjust none none (-1) (n:Int)=((n:Int)-1,-1):=by
 unfold Builtin.Slice.sliceAdjust
 simp
theorem pG (n:Nat):Builtin.Slice.slicePlaces ((n:Int)-1) (-1) (-1)=n:=by
 unfold Builtin.Slice.slicePlaces
 simp
 omega
theorem ji {sl:Addr} {vk:Value} {n:Nat} {Q:Int × Int × Nat->Shared->Prop} (hs:s.heap.IsSliceOf sl .none .none vk) (pk:IsPart vk (some (-1)))
  (h:Q ((n:Int)-1,-1,n) s):wpAny (model prog w) A (Builtin.Slice.sliceApplied (.ref sl) (pure (n:Int))) Q E s:=by
 obtain⟨os,hos,hcs,hds⟩:=id hs
 unfold Builtin.Slice.sliceApplied Builtin.Slice.sliceFields
 refine wpAny_bind (wpAny_bind (wpAny_field hos hds (x:=.none) rfl (wpAny_bind (wpAny_field hos hds (x:=.none) rfl (wpAny_bind (wpAny_field hos hds (x:=vk) rfl (wpAny_pure ?_)))))))
 refine wpAny_bind (iJ pk ?_)
 dsimp only
 rw [if_neg (by decide)]
 refine wpAny_bind (slicePart_none (wpAny_bind (slicePart_none (wpAny_bind (wpAny_pure ?_)))))
 show wpAny _ _ (pure ((Builtin.Slice.sliceAdjust none none (-1) (n:Int)).1,(-1:Int),Builtin.Slice.slicePlaces (Builtin.Slice.sliceAdjust none none (-1) (n:Int)).1 (Builtin.Slice.sliceAdjust none none (-1) (n:Int)).2 (-1))) _ _ s
 rw [pF]
 dsimp only
 rw [pG]
 exact wpAny_pure h
theorem sO {t sl:Addr} {items:Array Value} {vk:Value} {Q:Value->Shared->Prop} (ht:IsTup s.heap t items) (hs:s.heap.IsSliceOf sl .none .none vk) (pk:IsPart vk (some (-1))) (hz:items.size<=sizeLine)
  (q:Q (.ref s.heap.objs.size) { s with heap:=s.heap.push { cls:=.type "tuple",data:=.seq items.toList.reverse.toArray } }):wpAny (model prog w) A (getItem (.ref t) (.ref sl)) Q E s:=by
 obtain⟨os,hos,hcs,hds⟩:=id hs
 have hTs:s.TypeIs (.ref sl) "slice":=⟨os,hos,hcs⟩
 have hsz:sizeOk (.seq items.toList.reverse.toArray):=by
  show items.toList.reverse.toArray.size<=sizeLine
  rw [List.size_toArray,List.length_reverse,Array.length_toList]
  exact hz
 unfold getItem
 try with_reducible refine wpAny_holding ?_
 first | refine wpAny_bind (wpAny_pure ?_) | skip
 refine wpAny_bind (wpAny_sequenceKey ht.typeIs (by decide) ?_)
 refine wpAny_bind (wpAny_callSpecial?_slot (name:=Str.ofString "__getitem__") ht.typeIs slot_tuple_getitem (wpAny_call_entry slot_tuple_getitem ht.typeIs entry_tuple_getitem ?_ (args_tuple_getitem _ _)))
 show wpAny _ _ (Builtin.Tuple.tupleItemsOf _ >>= _) _ _ _
 refine wpAny_bind (tupleItemsOf_ ht ?_)
 refine wpAny_bind (wpAny_typeOf hTs ?_)
 rw [if_pos (by decide)]
 refine wpAny_bind (ji hs pk ?_)
 dsimp only
 rw [if_neg (by simp),uE]
 first
  | exact wpAny_bind (m:=Builtin.Tuple.tupleExact _) (wpAny_newObj_type (wpAny_pure ⟨_,rfl,wpAny_pure q⟩) hsz)
  | exact wpAny_bind (wpAny_bind (m:=Builtin.Tuple.tupleExact _) (wpAny_newObj_type (wpAny_pure (wpAny_pure ⟨_,rfl,wpAny_pure q⟩)) hsz))
  | exact wpAny_bind (m:=Builtin.Tuple.tupleExact _) (wpAny_newObj_type (wpAny_bind (wpAny_pure (wpAny_pure ⟨_,rfl,wpAny_pure q⟩))) hsz)
  | exact wpAny_bind (wpAny_bind (m:=Builtin.Tuple.tupleExact _) (wpAny_newObj_type (wpAny_pure ⟨_,rfl,wpAny_pure q⟩) hsz))
end
end Tsl
def BK (K:PySem.W.Frag) (te:TE) (tk:TO):TE:=λσ H Q=>te σ H λx H1=>tk σ H1 λo H2=>o=some (-1)/\∃ a xs,x=.ref a/\bG K H2 a xs/\∀ p,H2 p=none->Q (.ref p) (upd H2 p (.tup xs.reverse))
section
variable {X:Cx} {e k:Expr} {te:TE} {tk:TO} {p2 pos:Pos}
theorem As (he:PE X e te) (hk:PO X (some k) tk)
  (hs:∀ a b:Addr,∃ ops,subscripted (.Slice none none (some k) p2) false (.ref a) (.ref b)=operate ops (getItem (.ref a) (.ref b)):=by intro a b;exact⟨_,by with_unfolding_all rfl⟩):PE X (.Subscript e (.Slice none none (some k) p2) pos) (BK X.K te tk):=by
 intro pins s σ H Q I h
 refine Subscript_ (bc (he pins s σ H _ I h) λv s1 ⟨x,H1,I1,r1,q1⟩=>?_)
 refine wpAny_Slice ?_
 rw [evalPart_none]
 refine wpAny_pure (wpAny_pure ?_)
 refine bc (hk pins s1 σ H1 _ I1 q1) λvk s3 ⟨o,H3,I3,pk,eo,a,xs,ex,hx,q3⟩=>?_
 subst eo
 subst ex
 cases r1
 have I4:Inv X pins σ H3 { s3 with heap:=s3.heap.push { cls:=.type "slice",data:=.fields #[.none,.none,vk] } }:=I3.kept (t':=s3.toks) λb ob q=>Heap.get?_push_of_some _ q
 obtain⟨its,r,ht,hz⟩:=I4.tuple hx
 have hlen:=r.length
 show wpAny (model X.prog X.w) X.A (subscriptTail e (.Slice none none (some k) p2) (.ref a) (.ref s3.heap.objs.size)) (EP X pins σ Q) X.xe { s3 with heap:=s3.heap.push { cls:=.type "slice",data:=.fields #[.none,.none,vk] } }
 obtain⟨ops,hops⟩:=hs a s3.heap.objs.size
 refine tail_any (ops:=ops) ht.typeIs slot_tuple_getitem.lookup ?_ hops
 refine Tsl.sO ht (Heap.IsSliceOf.new ..) pk (by rw [List.size_toArray]<;>omega) ?_
 refine⟨.ref _,_,I4.laid (t':=s3.toks) (o:=.tup xs.reverse) (λb ob q=>Heap.get?_push_of_some _ q) (Nat.le_refl _) ?_,rfl,q3 _ (I4.hok.fresh (Nat.le_refl _))⟩
 exact⟨by rw [List.length_reverse];exact hz,_,r.rev,IsTup.new _ _⟩
end
end L2
namespace L2
open PySem PySem.Spec PyProof.Rows
section
variable {prog:Program} {w:World} {K:Type} [DecidableEq K] {knd:HeapKind prog w K} {A:Around} {E:Value->Shared->Prop} {s:Shared}
def n8 (xs:List (K × Addr × Value)) (k:K):List (K × Addr × Value):=xs.filter λx=>decide (x.1≠k)
theorem tL:∀{xs:List (K × Addr × Value)} {k:K} {p:Addr × Value} {j:Nat},(xs.map (·.1)).Nodup->xs[j]?=some (k,p)->xs.eraseIdx j=n8 xs k
 | [],_,_,_,_,h=>by simp at h
 | x::r,k,p,0,hn,h=>by
  have e:x=(k,p):=by simpa using h
  subst e
  rw [List.map_cons,List.nodup_cons] at hn
  show r=n8 ((k,p)::r) k
  unfold n8
  rw [List.filter_cons_of_neg (by simp)]
  refine (List.filter_eq_self.mpr λy hy=>?_).symm
  exact decide_eq_true λz=>hn.1 (List.mem_map.mpr ⟨y,hy,z⟩)
 | x::r,k,p,j+1,hn,h=>by
  have h':r[j]?=some (k,p):=by simpa using h
  rw [List.map_cons,List.nodup_cons] at hn
  have ne:x.1≠k:=λz=>hn.1 (List.mem_map.mpr ⟨(k,p),List.mem_of_getElem? h',z.symm⟩)
  show x::r.eraseIdx j=n8 (x::r) k
  unfold n8
  rw [List.filter_cons_of_pos (by simpa using ne),tL hn.2 h']
  rfl
theorem vP {d a:Addr} {xs:List (K × Addr × Value)} {k:K} {p:Addr × Value} {Q:Option DictEntry->Shared->Prop} (hu:knd.room A) (hkey:knd.is s.heap k a) (hm:s.heap.DictOfH knd d xs) (hp:atKey xs k=some p) (hsz:xs.length<=sizeLine)
  (h:∀ e h',e.val=p.2->h'.DictOfH knd d (n8 xs k)->Heap.SameBut d s.heap h'->Q (some e) { s with heap:=h',toks:=s.toks+knd.draws k }) :
  wpAny (model prog w) A (Builtin.Dict.takeOut d (.ref a)) Q E s:=by
 obtain⟨o,es,ep,ho,hc,hd,he,his,hn⟩:=hm
 unfold Builtin.Dict.takeOut
 try with_reducible refine wpAny_holding ?_
 refine wpAny_bind (knd.pyHash hu hkey (wpAny_bind (wpAny_dictFind_heap (s:={ s with toks:=s.toks+knd.draws k }) hu hkey ho hd he his hn (λno=>?_) λj q hj=>?_)))
 ·rw [atKey_none_of_get no] at hp;cases hp
 have eq:q=p:=by rw [atKey_of_get hn hj] at hp;exact Option.some.inj hp
 subst eq
 refine wpAny_bind (wpAny_dictEntries (s:={ s with toks:=s.toks+knd.draws k }) ho hd ?_)
 rw [entry_at he j,hj]
 have sz:=size_of_entries he
 refine wpAny_bind (wpAny_updateDictKeys (hz:=by omega) (s:={ s with toks:=s.toks+knd.draws k }) ho hd (wpAny_pure (h _ _ rfl ⟨_,_,ep+1,Heap.get?_update_self _ ho (Obj.isFreed_of_dict (Obj.data_mapDictKeys hd _)),hc.mapDictKeys _,Obj.data_mapDictKeys hd _,?_,?_,?_⟩ (Heap.SameBut.update ..))))
 ·rw [<- tL hn hj,show (xs.eraseIdx j).map (entryOfKey knd)=(xs.map (entryOfKey knd)).eraseIdx j from by simp [List.eraseIdx_eq_take_drop_succ],<- he]
  obtain⟨l⟩:=es
  simp
 ·intro x hx
  exact knd.keeps (his x (List.mem_filter.mp hx).1) ho hd (Heap.SameBut.update ..)
 ·exact List.Nodup.sublist (List.Sublist.map _ List.filter_sublist) hn
theorem yd {d a:Addr} {xs:List (K × Addr × Value)} {k:K} {p:Addr × Value} {Q:Value->Shared->Prop} (hu:knd.room A.in1) (hkey:knd.is s.heap k a) (hm:s.heap.DictOfH knd d xs) (hp:atKey xs k=some p) (hsz:xs.length<=sizeLine)
  (h:∀ h',h'.DictOfH knd d (n8 xs k)->Heap.SameBut d s.heap h'->Q p.2 { s with heap:=h',toks:=s.toks+knd.draws k }) :
  wpAny (model prog w) A (call (.builtin "dict.pop") [.ref d,.ref a]) Q E s:=by
 have hT:s.TypeIs (.ref d) "dict":=by obtain⟨o,es,ep,ho,hc,_⟩:=hm;exact⟨o,ho,hc.1⟩
 refine wpAny_call_entry PySem.F.slot_dict_pop hT PySem.F.entry_dict_pop ?_ (PySem.F.args_dict_pop_2 _ _)
 obtain⟨o,es,ep,ho,hc,hd,he,his,hn⟩:=id hm
 unfold Builtin.«dict.pop»
 refine wpAny_bind ?_
 unfold Builtin.Dict.keyAndDefault
 refine wpAny_bind (wpAny_notOrdered_dict hT ?_)
 show wpAny _ _ (pure (d,Value.ref a,none)) _ _ s
 refine wpAny_pure ?_
 dsimp only
 have kn:(keyPart (Value.ref a)).isSome=false:=rfl
 have ne:es.isEmpty=false:=by
  have sz:=size_of_entries he
  have:xs≠[]:=λz=>by rw [z] at hp;cases hp
  have:0<xs.length:=List.length_pos_iff.mpr this
  rw [Array.isEmpty_eq_false_iff]
  intro z
  rw [z] at sz
  simp at sz
  omega
 simp only [kn,Bool.false_eq_true,if_false]
 refine wpAny_bind (wpAny_dictEntries ho hd ?_)
 refine wpAny_bind (wpAny_pure ?_)
 rw [ne]
 simp only [Bool.false_eq_true,if_false]
 refine wpAny_bind (vP hu hkey hm hp hsz λe h' ev dd hs=>?_)
 simp only [Option.isNone_some,Bool.false_eq_true,if_false]
 exact wpAny_bind (wpAny_letGo (wpAny_pure ⟨e.val,rfl,by rw [ev];exact h h' dd hs⟩))
end
end L2
namespace L2
open PySem PySem.Spec PyProof.Rows PySem.W
def jx (h:Heap) (d:Addr) (es:Array DictEntry) (ep:Nat):Prop:=∃ o,h.get? d=some o/\o.ExactDict/\o.data=.dict es ep
theorem jx.hZ {h h':Heap} {d:Addr} {es:Array DictEntry} {ep:Nat} (x:jx h d es ep) (k:∀ o,h.get? d=some o->h'.get? d=some o):jx h' d es ep:=by
 obtain⟨o,a,b⟩:=x
 exact⟨o,k _ a,b⟩
section
variable {P:Program} {w:World} {A:Around} {E:Value->Shared->Prop} {s:Shared} {d:Addr} {es:Array DictEntry} {ep:Nat}
theorem jx.type (x:jx s.heap d es ep):s.TypeIs (.ref d) "dict":=by obtain⟨o,a,c,_⟩:=x;exact⟨o,a,c.1⟩
theorem wR {Q:Value->Shared->Prop} (nd:(d==sysModules)=false) (x:jx s.heap d es ep)
  (q:Q (.ref s.heap.objs.size) { s with heap:=s.heap.push { cls:=.type "dict_keyiterator",data:=.fields #[.ref d,.int 0 0,.int es.size 0,.int ep 0] } }):wpAny (model P w) A (pyIter (.ref d)) Q E s:=by
 have t:=x.type
 obtain⟨o,a,c,e⟩:=x
 refine wpAny_pyIter_slot t F.slot_dict_iter (wpAny_call_entry F.slot_dict_iter t F.entry_dict_iter ?g (F.args_dict_iter_1 _))
 unfold Builtin.«dict.__iter__» Builtin.Dict.dictSlotNone
 refine wpAny_bind (wpAny_bind (wpAny_notOrdered_dict t (wpAny_pure (α:=Value) (a:=.ref d) ?_)))
 unfold Builtin.Dict.showsAll
 show wpAny _ _ ((if (d==sysModules)=true then _ else _) >>= _) _ _ s
 rw [if_neg (by rw [nd];simp)]
 refine wpAny_bind (wpAny_pure (wpAny_bind (wpAny_dictEntries a e (wpAny_bind (wpAny_dictEpoch a e ?_)))))
 exact wpAny_bind (wpAny_newObj_type (wpAny_pure ⟨_,rfl,"dict_keyiterator",_,⟨_,Heap.get?_push_size _ rfl,rfl⟩,F.slot_dict_keyiterator_next.lookup,q⟩))
theorem w6 {it:Addr} {i:Nat} {x:DictEntry} {Q:Option Value->Shared->Prop} (ki:s.heap.IsKeyIter it d i es.size ep) (m:jx s.heap d es ep) (hx:es[i]?=some x)
  (q:∀ h',h'.IsKeyIter it d (i+1) es.size ep->Heap.SameBut it s.heap h'->Q (some x.key) { s with heap:=h' }):wpAny (model P w) A (pyNext (.ref it)) Q E s:=by
 have t:=ki.typeIs
 obtain⟨o,ho,hc,hd⟩:=id ki
 obtain⟨od,a,c,e⟩:=m
 unfold pyNext
 refine wpAny_bind (wpAny_attempt (wpAny_callSpecial?_slot (name:=Str.ofString "__next__") t F.slot_dict_keyiterator_next (wpAny_call_entry F.slot_dict_keyiterator_next t F.entry_dict_keyiterator_next ?g (F.args_dict_keyiterator_next_1 _))))
 refine wpAny_bind (wpAny_pure (wpAny_bind (wpAny_bind ?_)))
 refine wpAny_bind (wpAny_typeNameOfWhole_keyiter t (wpAny_pure (wpAny_bind (wpAny_fieldsOf ho hd ?_))))
 simp only [show Builtin.Dict_items.ownsTuple "dict_keyiterator"=false by decide,Bool.false_eq_true,if_false]
 show wpAny _ _ (if (Value.ref d==Value.none)=true then _ else _) _ _ s
 rw [if_neg (by exact Bool.false_ne_true)]
 refine wpAny_bind (wpAny_pure (wpAny_bind (wpAny_dictEntries a e ?_)))
 rw [if_neg (by simp)]
 refine wpAny_bind (wpAny_pure (wpAny_bind (wpAny_dictEpoch a e ?_)))
 rw [if_neg (by simp)]
 refine wpAny_pure ?_
 simp only [show ¬((i:Int)<0) from by omega,if_false,Int.toNat_natCast,hx]
 refine wpAny_bind (wpAny_bind (wpAny_typeNameOfWhole_keyiter t (wpAny_pure (wpAny_bind (wpAny_isOneOf_keyiter t ?_)))))
 show wpAny _ _ (setField (.ref it) 1 (rawInt ((i:Int)+1)) >>= _) _ _ s
 refine wpAny_bind (wpAny_setField ho hd (by simp) ?_)
 have ki':(s.heap.update it (Obj.mapFields (·.setIfInBounds 1 (rawInt ((i:Int)+1))))).IsKeyIter it d (i+1) es.size ep :=
  ⟨_,Heap.get?_update_self _ ho (Obj.isFreed_of_fields (Obj.data_mapFields hd _)),(Obj.cls_mapFields ..).trans hc,by rw [Obj.data_mapFields hd];simp [rawInt]⟩
 refine wpAny_bind (wpAny_holding (wpAny_bind (wpAny_isOneOf_keyiter (s:={ s with heap:=s.heap.update it (Obj.mapFields (·.setIfInBounds 1 (rawInt ((i:Int)+1)))) }) ki'.typeIs ?_)))
 show wpAny _ _ (pure x.key) _ _ _
 exact wpAny_pure (wpAny_pure ⟨_,rfl,wpAny_pure (q _ ki' (Heap.SameBut.update ..))⟩)
theorem zH {it:Addr} {i:Nat} {Q:Option Value->Shared->Prop} (hh:A.handled=none) (ki:s.heap.IsKeyIter it d i es.size ep) (m:jx s.heap d es ep) (hx:es[i]?=none)
  (q:∀ h',Heap.ExtBut it s.heap h'->Q none { s with heap:=h' }):wpAny (model P w) A (pyNext (.ref it)) Q E s:=by
 have t:=ki.typeIs
 obtain⟨o,ho,hc,hd⟩:=id ki
 obtain⟨od,a,c,e⟩:=m
 unfold pyNext
 refine wpAny_bind (wpAny_attempt (wpAny_callSpecial?_slot (name:=Str.ofString "__next__") t F.slot_dict_keyiterator_next (wpAny_call_entry F.slot_dict_keyiterator_next t F.entry_dict_keyiterator_next ?g (F.args_dict_keyiterator_next_1 _))))
 refine wpAny_bind (wpAny_pure (wpAny_bind (wpAny_bind ?_)))
 refine wpAny_bind (wpAny_typeNameOfWhole_keyiter t (wpAny_pure (wpAny_bind (wpAny_fieldsOf ho hd ?_))))
 simp only [show Builtin.Dict_items.ownsTuple "dict_keyiterator"=false by decide,Bool.false_eq_true,if_false]
 show wpAny _ _ (if (Value.ref d==Value.none)=true then _ else _) _ _ s
 rw [if_neg (by exact Bool.false_ne_true)]
 refine wpAny_bind (wpAny_pure (wpAny_bind (wpAny_dictEntries a e ?_)))
 rw [if_neg (by simp)]
 refine wpAny_bind (wpAny_pure (wpAny_bind (wpAny_dictEpoch a e ?_)))
 rw [if_neg (by simp)]
 refine wpAny_pure ?_
 simp only [show ¬((i:Int)<0) from by omega,if_false,Int.toNat_natCast,hx]
 refine wpAny_bind (wpAny_bind (wpAny_typeNameOfWhole_keyiter t (wpAny_pure ?_)))
 show wpAny _ _ (setField (.ref it) 0 .none >>= _) _ _ s
 refine wpAny_bind (wpAny_setField ho hd (by simp) ?_)
 show wpAny _ _ (PySem.newExc (.type "StopIteration") [] >>= _) _ _ _
 refine wpAny_bind ?_
 simp only [PySem.newExc,newTuple]
 refine wpAny_bind (wpAny_newObj_type (wpAny_bind (m:=firstArgMember _ _) (wpAny_of_eq (a:=Value.none) (by first | rfl | (simp only [firstArgMember];rfl)) (wpAny_newObj_type ?_ (by size_fits)))) (by size_fits))
 simp only [raiseNew]
 refine wpAny_bind (wpAny_handled ?_)
 rw [show A.in1.handled=none from hh]
 refine wpAny_bind (wpAny_pure (wpAny_throw ?th))
 refine wpAny_bind (wpAny_isInstance (b:=true) (T := "StopIteration") ⟨_,Heap.get?_push_size _ rfl,rfl⟩ isSubtype_stop ?_)
 exact wpAny_pure (q _ (((Heap.SameBut.update ..).extBut.push _).push _))
theorem uP (hh:A.handled=none) (I:Addr) (hne:d≠I):Walks P w A I [I,d] [I] es.size (λi v=>∃ x,es[i]?=some x/\v=x.key) (λi h=>h.IsKeyIter I d i es.size ep/\jx h d es ep) where
 sub:=λb hb=>by simp at hb;simp [hb]
 frame:=λ_ _ _ st k=>⟨st.1.at λo e=>k I (by simp) o e,st.2.hZ λo e=>k d (by simp) o e⟩
 item:=λi s Q E hi st q=>by
  refine w6 st.1 st.2 (Array.getElem?_eq_getElem hi) λh' ki hs=>?_
  exact q _ h' s.toks ⟨_,Array.getElem?_eq_getElem hi,rfl⟩ ⟨ki,st.2.hZ λo e=>hs.extBut d o hne e⟩ λb o hb e=>hs.extBut b o (λz=>hb (by simp [z])) e
 done:=λs Q E st q=>zH hh st.1 st.2 (by simp) λh' k=>q h' s.toks λb o hb e=>k b o (λz=>hb (by simp [z])) e
 self:=λ_ _ _ _ st q=>wpAny_pyIter_keyiter st.1 q
theorem rO {h:Heap} (x:jx h d es ep):d<h.objs.size:=by obtain⟨o,a,_⟩:=x;exact Heap.lt_size a
theorem zI (nd:(d==sysModules)=false):KdlSrc P w "dict" d d es.size (λi v=>∃ x,es[i]?=some x/\v=x.key) (λh=>jx h d es ep) where
 type:=λ_ x=>x.type
 there:=λ_ x=>⟨rO x,rO x⟩
 keep:=λ_ _ x k=>x.hZ λo e=>k d (.inl rfl) o e
 notList:=by decide
 notTuple:=by decide
 hint:=λ_ _ _ _ x q=>kdl_hint_dict x.type q
 iter:=λ_ _ hh x=>⟨_,_,(λ_ _ q=>wR nd x q),uP hh _ (Nat.ne_of_lt (rO x)),⟨⟨_,Heap.get?_push_size _ rfl,rfl,rfl⟩,x.hZ λo e=>Heap.get?_push_of_some _ e⟩⟩
end
section
variable {X:Cx} {pins:List (Addr × Obj)} {σ:St} {H:Hp} {s:Shared} {A:Around} {E:Value->Shared->Prop}
theorem wy {a:Addr} {kvs:List (List Key × V)} (I:Inv X pins σ H s) (e:H a=some (.dT kvs)):kvs.length<=sizeLine/\(a==sysModules)=false/\∃ es ep,jx s.heap a es ep/\es.size=kvs.length/\∀(i:Nat) x,es[i]?=some x->∃ k v b,kvs[i]?=some (k,v)/\x.key=.ref b/\H b=some (.tup (k.map kV)):=by
 obtain⟨z,y,xs,r,o,es,ep,h1,h2,h3,h4,h5⟩:=(show bB X.prog X.w H s.heap a (.dT kvs) from I.hok a _ e)
 have l1:kvs.length=xs.length:=Paired.length r
 have l2:es.size=xs.length:=by rw [<- Array.length_toList,h4,List.length_map]
 refine⟨z,y,es,ep,⟨o,h1,h2,h3⟩,by omega,λi x hx=>?_⟩
 have hx':(xs.map (entryOfKey (tupleKind (bO X.prog X.w))))[i]?=some x:=by rw [<- h4,Array.getElem?_toList];exact hx
 rw [List.getElem?_map] at hx'
 obtain⟨y0,e1,e2⟩:=Option.map_eq_some_iff.mp hx'
 have hg:∀{l:List (List Key × V)} {m:List (List Key × Addr × Value)} (i:Nat),Paired (fun(p:List Key × V) (q:List Key × Addr × Value)=>p.1=q.1/\H q.2.1=some (.tup (p.1.map kV))/\RelV p.2 q.2.2) l m->∀ y,m[i]?=some y->∃ p,l[i]?=some p/\H y.2.1=some (.tup (p.1.map kV)):=by
  intro l m i q
  induction q generalizing i with
  | nil=>intro y z;simp at z
  | cons a t ih =>
   intro y z
   cases i with
   | zero=>simp at z;subst z;exact⟨_,rfl,a.2.1⟩
   | succ i=>exact ih i y (by simpa using z)
 obtain⟨p,e3,e4⟩:=hg i r y0 e1
 exact⟨p.1,p.2,y0.2.1,e3,by rw [<- e2];rfl,e4⟩
def C4:List V->Hp->VK->Prop:=λxs H Q=>∃(a:Addr) (kvs:List (List Key × V)),xs=[.ref a]/\H a=some (.dT kvs)/\∀(p:Addr) (bs:List Addr),bs.length=kvs.length->(∀(i:Nat) b,bs[i]?=some b->∃ k v,kvs[i]?=some (k,v)/\H b=some (.tup (k.map kV)))->H p=none->Q (.ref p) (upd H p (.lst (bs.map V.ref)))
theorem tZ {Pr:Nat->Addr->Prop}:∀(vs:List Value),(∀(i:Nat) v,vs[i]?=some v->∃ b,v=.ref b/\Pr i b)->∃ bs:List Addr,bs.length=vs.length/\Vals (bs.map V.ref) vs/\∀(i:Nat) b,bs[i]?=some b->Pr i b
 | [],_=>⟨[],rfl,.nil,λi b z=>by simp at z⟩
 | v::vs,h=>by
  obtain⟨b,e,pb⟩:=h 0 v rfl
  obtain⟨bs,l,r,q⟩:=tZ (Pr:=λi=>Pr (i+1)) vs λi u z=>h (i+1) u (by simpa using z)
  subst e
  refine⟨b::bs,by simp [l],.cons rfl r,λi c z=>?_⟩
  cases i with
  | zero=>simp at z;subst z;exact pb
  | succ i=>exact q i c (by simpa using z)
theorem rJ (hc:X.calm=true):cT X (.type "list") C4:=by
 intro pins s σ H xs us Q I r h
 obtain⟨a,kvs,rfl,ha,q⟩:=h
 obtain⟨u,rfl,ru⟩:=vals1 r
 cases ru
 obtain⟨z,nd,es,ep,de,sz,ent⟩:=wy I ha
 refine kdl_call (zI (P:=X.prog) (w:=X.w) (es:=es) (ep:=ep) nd) (I.ok.hd hc) de (by omega) λh' tk acc c k hD hacc=>?_
 obtain⟨bs,l,rv,qb⟩:=tZ (Pr:=λi b=>∃ k v,kvs[i]?=some (k,v)/\H b=some (.tup (k.map kV))) acc.toList λi v e=>by
  obtain⟨x,e1,e2⟩:=hacc.2 i v (by rw [<- Array.getElem?_toList];exact e)
  obtain⟨kk,vv,b,e3,e4,e5⟩:=ent i x e1
  exact⟨b,by rw [e2,e4],kk,vv,e3,e5⟩
 have al:acc.toList.length=kvs.length:=by rw [Array.length_toList,hacc.1,sz]
 have fT:H s.heap.objs.size=none:=I.hok.fresh (Nat.le_refl _)
 refine⟨.ref s.heap.objs.size,upd H s.heap.objs.size (.lst (bs.map V.ref)),?_,rfl,q _ bs (by omega) qb fT⟩
 exact I.laid k (Nat.le_refl _) ⟨by rw [List.length_map];omega,acc.toList,c,rv,by rw [hD]⟩
def ym:List V->Hp->VK->Prop:=λxs H Q=>∃(a:Addr) (n:Nat),xs=[.ref a]/\((∃ kvs,H a=some (.dT kvs)/\n=kvs.length)∨∃ kvs,H a=some (.dK kvs)/\n=kvs.length)/\Q (.int n) H
theorem zV {d:Addr} {es:Array DictEntry} {ep:Nat} {P:Program} {w:World} {Q:Value->Shared->Prop} (nd:(d==sysModules)=false) (x:jx s.heap d es ep) (fit:es.size<=sizeLine)
  (q:Q (.int es.size (s.toks+1)) { s with toks:=s.toks+1+1 }):wpAny (model P w) A (call (.builtin "len") [.ref d]) Q E s:=by
 have f63:(es.size:Int)<2^63:=by rw [sizeLine_eq] at fit;omega
 refine Calls.call_function_entry kind_len plain_len entry_len (args_len1 _) ?_
 have t:=x.type
 obtain⟨o,a,c,e⟩:=x
 unfold Builtin.«len»
 refine wpAny_bind (m:=oneArg "len" _) (wpAny_pure (wpAny_bind (m:=callSpecial? (.ref d) (Str.ofString "__len__")) (wpAny_callSpecial?_slot (name:=Str.ofString "__len__") t F.slot_dict_len (wpAny_call_entry F.slot_dict_len t F.entry_dict_len ?g (F.args_dict_len_1 _)))))
 show wpAny _ _ (dictSize d >>= _) _ _ s
 unfold dictSize
 refine wpAny_bind (wpAny_bind (wpAny_dictEntries a e (wpAny_pure ?_)))
 show wpAny _ _ (Builtin.Dict.pendingCount d >>= _) _ _ s
 refine wpAny_bind (wpAny_pendingCount_other nd (wpAny_ret_mkInt ?_))
 simp only [show ((es.size:Int)+((0:Nat):Int))=(es.size:Int) from Int.add_zero _]
 refine wpAny_bind (wpAny_holding (wpAny_pure (wpAny_bind (wpAny_letGo ?_))))
 show wpAny _ _ (if ((es.size:Nat):Int)<0 then _ else _) _ _ _
 rw [if_neg (by omega)]
 show wpAny _ _ (if ((es.size:Nat):Int)≥2^63 then _ else _) _ _ _
 rw [if_neg (by omega)]
 exact wpAny_bind (wpAny_mkInt (wpAny_pure ⟨_,rfl,q⟩))
theorem dt:cT X (.builtin "len") ym:=by
 intro pins s σ H xs us Q I r h
 obtain⟨a,n,rfl,ha,q⟩:=h
 obtain⟨u,rfl,ru⟩:=vals1 r
 cases ru
 rcases ha with⟨kvs,ha,rfl⟩|⟨kvs,ha,rfl⟩
 ·obtain⟨z,nd,es,ep,de,sz,_⟩:=wy I ha
  exact zV nd de (by omega) ⟨.int kvs.length,H,I.tok _,⟨_,by rw [sz]⟩,q⟩
 ·exact DP I (.inl ha) λt s' I'=>⟨.int kvs.length,H,I',⟨t,rfl⟩,q⟩
def yO (td ty:TE):TE:=λσ H Q=>td σ H λx H1=>∃ a,x=.ref a/\FD H1 a/\ty σ H1 λy H2=>∃ kvs k b v,H2 a=some (.dT kvs)/\y=.ref b/\H2 b=some (.tup (k.map kV))/\cu kvs k=some v/\Q v (upd H2 a (.dT (bS kvs k)))
theorem KT.off {kvs:List (List Key × V)} {xs:List (List Key × Addr × Value)} (r:KT H kvs xs) (k:List Key):KT H (bS kvs k) (n8 xs k):=by
 induction r with
 | nil=>exact .nil
 | @cons p q ps qs hq t ih =>
  unfold bS n8
  by_cases c:p.1=k
  ·rw [List.filter_cons_of_neg (by simpa using c),List.filter_cons_of_neg (by simpa using hq.1▸c)]
   exact ih
  ·rw [List.filter_cons_of_pos (by simpa using c),List.filter_cons_of_pos (by simpa using hq.1▸c)]
   exact .cons hq ih
theorem qH {o e:Expr} {apos cpos:Pos} {td ty:TE} (hu:X.A.units+1<cLine) (ho:PE X o td) (he:PE X e ty) (m:M1 X o "pop" apos e cpos):PE X (.Call (.Attribute o "pop" apos) [e] [] cpos) (yO td ty):=by
 intro pins s σ H Q I h
 refine wpAny_Call_method m.base m.few m.line PySem.F.plainAttrs_dict PySem.F.slot_dict_pop PySem.F.type_dict_pop (bc (ho pins s σ H _ I h) λu s1 ⟨x,H1,I1,rx,a,ex,d,q1⟩=>?_)
 subst ex
 obtain rfl:u=Value.ref a:=rx
 obtain⟨t1,t2,_⟩:=Cg I1 d
 refine⟨t1,t2,?_⟩
 rw [m.trees]
 refine Calls.callWith_builtin rfl (Calls.evalArgs_plain (Calls.spliced_cons (bc (he pins s1 σ H1 _ I1 q1) λiv s2 ⟨y,H2,I2,ry,kvs,k,b,v,ea,ey,eb,l,q2⟩=>Calls.spliced_nil ?_)))
 subst ey
 obtain rfl:iv=Value.ref b:=ry
 obtain⟨z,nd,xs,rel,dd⟩:=A7 I2.hok ea
 obtain⟨w',hw,rw'⟩:=fc.some_of (v:=v) (by rw [<- l];exact rel.val k)
 obtain⟨p,hp,ep⟩:=Option.map_eq_some_iff.mp hw
 have lx:kvs.length=xs.length:=Paired.length rel
 refine yd (tupleKind_room_in1 hu) (jG I2.hok eb) dd hp (by omega) λh' dd' hs=>?_
 rw [ep]
 obtain⟨o1,es,ep1,g1,g2,g3,g4,g5,g6⟩:=dd'
 have ht:∀ c ys,H2 c=some (.tup ys)->upd H2 a (.dT (bS kvs k)) c=some (.tup ys):=λc ys e=>by rw [au (h8 e ea (by intro z;cases z))];exact e
 exact⟨v,upd H2 a (.dT (bS kvs k)),kH (ob:=.dT (bS kvs k)) I2 (by rw [ea];exact True.intro) hs ⟨_,g1⟩ ⟨Nat.le_trans (pR kvs k) z,nd,_,(KT.off rel k).keeps ht,o1,es,ep1,g1,g2,g3,g4,g6⟩,rw',q2⟩
def Ef (K:PySem.W.Frag):List V->Hp->VK->Prop:=λxs H Q=>∃(a:Addr) (ns:List Int),xs=[.ref a]/\aO K H a (ns.map V.int)/\ns≠[]/\∀ m,m∈ns->(∀ n∈ns,n<=m)->Q (.int m) H
theorem jD:∀{ns:List Int} {us:List Value},Vals (ns.map V.int) us->IntsAre us ns
 | [],_,.nil=>.nil
 | n::ns,_,.cons ⟨t,e⟩ r=>by subst e;exact .cons _ t (jD r)
theorem mL (hc:X.calm=true):cT X (.builtin "max") (Ef X.K):=by
 intro pins s σ H xs us Q I r h
 obtain⟨a,ns,rfl,hq,ne,q⟩:=h
 obtain⟨u,rfl,ru⟩:=vals1 r
 cases ru
 obtain⟨its,rv,p,hz⟩:=I.list hq
 have hi:=jD rv
 have hl:=p.isList
 obtain⟨ys,e⟩:=hi.allInts.items
 have hns:ns=ys.toList.map (·.1):=by rw [<- hi.numsOf,<- nums_intItems,<- e]
 have hl0:0<ns.length:=List.length_pos_iff.mpr ne
 have hsz:0<ys.size:=by rw [hns,List.length_map,Array.length_toList] at hl0;exact hl0
 rw [e] at hl
 refine max_intList (I.ok.hd hc) hl hsz λv h' tk hv hk=>?_
 obtain⟨t,rfl⟩:=intItems_at hv
 obtain⟨b1,b2⟩:=argBest_gt (numAt ys) (ys.size-1)
 refine⟨.int _,H,I.kept hk,⟨t,rfl⟩,q _ ?_ λn hn=>?_⟩
 ·rw [hns,numAt_eq]
  exact getD_mem (by rw [List.length_map,Array.length_toList];omega)
 ·rw [hns] at hn
  obtain⟨j,hj,rfl⟩:=mem_getD hn
  rw [List.length_map,Array.length_toList] at hj
  rw [<- numAt_eq]
  exact b2 j (by omega)
end
section
variable {P:Program} {w:World} {K:PySem.W.Frag} {mg:Str->Option Value} {base:Heap} {CX:kE} {k:Nat} {C:Addr} {m qual x:Str} {ps:List Str} {sp:Sp} {st:Stmt}
def BV (K:PySem.W.Frag) (C:Addr) (m qual:Str) (st:Stmt):Prop:=∃ f fd,Meth K C m f/\vZ K m qual st f fd
structure cE (P:Program) (w:World) (K:PySem.W.Frag) (mg:Str->Option Value) (base:Heap) (CX:kE) (k:Nat) (C:Addr) (m:Str) (ps:List Str) (sp:Sp):Prop where
 ex:∃ f fd,Meth K C m f/\cV P w K mg base CX k f fd ps sp/\Binds K fd ps []
theorem Cr {f:Addr} {oc:Value} {od an:Option Addr} {osl:Array (Option Value)} {kV doc pm cdv ct:Value} (a:findIn K (.ref C) m=some (some (.ref f))) (fn:isFn K (.ref f)=true) (kk:keepIn K (.ref f)=true)
  (l:K.lookup f=some ⟨oc,od,.func (fnOf m qual (bw st) (aP st) (aj st) .none kV doc pm an cdv ct),osl⟩) (c:codeIn K cdv qual=true):BV K C m qual st:=⟨f,_,⟨a,fn,kk⟩,rQ l c kk⟩
theorem fB {N:List Str} (D:BV K C m qual st)
  (hb:∀(kV doc pm:Value) (an:Option Addr) (cdv ct:Value) (us:List Value),us.length=ps.length->bindArgs (fnOf m qual (bw st) (aP st) (aj st) .none kV doc pm an cdv ct) ⟨us,[]⟩=pure (ps.zip us))
  (S:aw N ps (aj st)) (len:∀ vs H Q E,sp vs H Q E->vs.length=ps.length)
  (hbody:∀(f:Addr) (cdv:Value) (A:Around) (outer:List Env) (s:Shared) (H:Hp) (vs:List V) (Q:VK) (E:XK),bR k (A.deeper (envOfC qual (aj st) s.heap.objs.size f cdv))->sp vs H Q E ->
   ∃ t,gK (eV aG P w K mg base N qual (aj st) f cdv A outer s H E).kA (aP st) t/\t { nx:=λ_ H'=>Q .non H',rt:=Q } (start N vs) H):cE P w K mg base aG (k+1) C m ps sp:=by
 obtain⟨f,fd,M,F⟩:=D
 exact⟨f,fd,M,F.ok S len λcdv A outer s H vs Q E hr h=>hbody f cdv A outer s H vs Q E hr h,F.binds hb⟩
structure Dv (K:PySem.W.Frag) (mg:Str->Option Value) (x:Str) (C:Addr):Prop where
 cls:mB K C
 at_:mg x=some (.ref C)
 mkn:makesIn K C=true
 kp:keepIn K (.ref C)=true
theorem Cv (a:mg x=some (.ref C)) (p1:plainGet K C Str.empty=true) (p2:hasDictIn K C=true) (p3:plainOver K C=true) (p4:findIn K (.ref C) "__setattr__"=some (some (.builtin "object.__setattr__"))) (p5:makesIn K C=true) (p6:keepIn K (.ref C)=true):Dv K mg x C:=⟨⟨p1,p2,p3,p4⟩,a,p5,p6⟩
theorem lB {f:Addr} {oc:Value} {od an:Option Addr} {osl:Array (Option Value)} {kV doc pm cdv ct:Value} (_:Dv K mg x C) (a:findIn K (.ref C) m=some (some (.ref f))) (fn:isFn K (.ref f)=true) (kk:keepIn K (.ref f)=true)
  (l:K.lookup f=some ⟨oc,od,.func (fnOf m qual (bw st) (aP st) (aj st) .none kV doc pm an cdv ct),osl⟩) (c:codeIn K cdv qual=true):BV K C m qual st:=Cr a fn kk l c
theorem nZ {f:Str} (_:Dv K mg x C) (a:findIn K (.ref C) f=some none):cP K C f:=a
variable {X:Cx} {E:XK} {o e:Expr} {es:List Expr} {ta:TE} {t:TA} {p apos pos:Pos}
theorem lG {pl:Sem Bool} (D:cE X.prog X.w X.K X.mg X.base CX k C m ps sp) (c:mB X.K C) (hr:bR k X.A) (hx:Passes CX X E) (he:PE X o ta) (ha:PA X (e::es) t)
  (hst:starEach (e::es) X.env=(false,eval e X.env)::starEach es X.env:=by rfl) (hpl:(backTo pos (starEach es X.env)).any (·.1)=false:=by rfl)
  (ht:eval (.Call (.Attribute o m apos) (e::es) [] pos) X.env=(do
   let ov <- eval o X.env
   standAt apos.atName
   let (f,first) <- holding [ov] (getMethod ov m pl)
   callWith pos f first (backTo pos (starEach (e::es) X.env)) (backToKw pos (keywordEach [] X.env))):=by rfl) :
  PE X (.Call (.Attribute o m apos) (e::es) [] pos) (rm C m sp [] E ta t):=by
 obtain⟨f,fd,M,F,b⟩:=D.ex
 exact Ar he c M F hr b .nil hx ha hst hpl ht
theorem vC {pl:Sem Bool} (D:cE X.prog X.w X.K X.mg X.base CX k C m ps sp) (c:mB X.K C) (hr:bR k X.A) (hx:Passes CX X E) (he:PE X o ta)
  (ht:eval (.Call (.Attribute o m apos) [] [] pos) X.env=(do
   let ov <- eval o X.env
   standAt apos.atName
   let (f,first) <- holding [ov] (getMethod ov m pl)
   callWith pos f first (backTo pos (starEach [] X.env)) (backToKw pos (keywordEach [] X.env))):=by rfl) :
  PE X (.Call (.Attribute o m apos) [] [] pos) (rm C m sp [] E ta yQ):=by
 obtain⟨f,fd,M,F,b⟩:=D.ex
 exact x4 he c M F hr b .nil hx ht
theorem xZ (c:Dv X.K X.mg x C) (D:cE X.prog X.w X.K X.mg X.base CX k C "__init__" ps sp) (hr:bR (k+1) X.A) (hg:Gl X x) (hx:Passes CX X E) (ha:PA X (e::es) t) (hdb:(x==("__debug__":Str))=false:=by decide)
  (he:starEach (e::es) X.env=(false,eval e X.env)::starEach es X.env:=by rfl) (hpl:(backTo pos (starEach es X.env)).any (·.1)=false:=by rfl):PE X (.Call (.Name x p) (e::es) [] pos) (yP C sp [] E t):=by
 obtain⟨f,fd,M,F,b⟩:=D.ex
 exact Aq ⟨c.mkn,M.at_,M.fn,c.kp⟩ F hr hg c.at_ b .nil hx ha hdb he hpl
structure BQ (K:PySem.W.Frag) (x qual:Str) (st:Stmt) (f:Addr) (fd:FuncData) (ds:Array Value):Prop where
 ex:∃(oc:Value) (od:Option Addr) (T:Addr) (o:Obj) (n:Nat) (kV doc pm:Value) (an:Option Addr) (cdv ct:Value) (osl:Array (Option Value)),
  fd=fnOf x qual (bw st) (aP st) (aj st) (.ref T) kV doc pm an cdv ct/\K.lookup f=some ⟨oc,od,.func fd,osl⟩/\codeIn K cdv qual=true/\K.lookup T=some o/\o.data=.seq ds n
 kp:keepIn K (.ref f)=true
def nJ (K:PySem.W.Frag) (mg:Str->Option Value) (x:Str) (st:Stmt) (ds:Array Value):Prop:=∃ f fd,BQ K x x st f fd ds/\mg x=some (.ref f)
theorem uN {h:Heap} {f T:Addr} {ds:Array Value} {o:Obj} {n:Nat} {oc:Value} {od an:Option Addr} {osl:Array (Option Value)} {kV doc pm cdv ct:Value} (X:K.In h) (G:h.Ns mainGlobals mg)
  (a:nsIn K mainGlobals x=some (some (.ref f))) (l:K.lookup f=some ⟨oc,od,.func (fnOf x x (bw st) (aP st) (aj st) (.ref T) kV doc pm an cdv ct),osl⟩)
  (c:codeIn K cdv x=true) (kk:keepIn K (.ref f)=true) (lT:K.lookup T=some o) (e:o.data=.seq ds n):nJ K mg x st ds:=⟨f,_,⟨⟨oc,od,T,o,n,kV,doc,pm,an,cdv,ct,osl,rfl,l,c,lT,e⟩,kk⟩,mg_of X G a⟩
structure kF (P:Program) (w:World) (K:PySem.W.Frag) (mg:Str->Option Value) (base:Heap) (CX:kE) (k:Nat) (x:Str) (ps:List Str) (ds:List Value) (sp:Sp):Prop where
 ex:∃ f fd,cV P w K mg base CX k f fd ps sp/\mg x=some (.ref f)/\keepIn K (.ref f)=true/\Binds K fd ps []/\Binds K fd ps ds
theorem BQ.binds {f:Addr} {fd:FuncData} {ds:Array Value} {dv:List Value} (F:BQ K x qual st f fd ds)
  (h:∀(T:Addr) (kV doc pm:Value) (an:Option Addr) (cdv ct:Value) (us:List Value),(us++dv).length=ps.length->∃ j,bindArgs (fnOf x qual (bw st) (aP st) (aj st) (.ref T) kV doc pm an cdv ct) ⟨us,[]⟩=seqItems? (.ref T) >>= j/\j (some ds)=pure (ps.zip (us++dv))):Binds K fd ps dv:=by
 obtain⟨oc,od,T,o,n,kV,doc,pm,an,cdv,ct,osl,rfl,lk,hcd,lT,e⟩:=F.ex
 intro s us X hl
 obtain⟨j,h1,h2⟩:=h T kV doc pm an cdv ct us hl
 exact BindsTo.of_defaults rfl (X _ _ lT) e h1 h2
theorem xW {ds:List Value} {aQ:List V} (D:kF X.prog X.w X.K X.mg X.base CX k x ps ds sp) (hd:Vals aQ ds) (hr:bR k X.A) (hg:Gl X x) (hx:Passes CX X E)
  (ha:PA X (e::es) t) (hdb:(x==("__debug__":Str))=false:=by decide) (he:starEach (e::es) X.env=(false,eval e X.env)::starEach es X.env:=by rfl) (hpl:(backTo pos (starEach es X.env)).any (·.1)=false:=by rfl) :
  PE X (.Call (.Name x p) (e::es) [] pos) (nG sp aQ E t):=by
 obtain⟨f,fd,F,hm,hk,_,hb⟩:=D.ex
 exact tQ F hr hg hm hk hb hd hx ha hdb he hpl
theorem pL {N:List Str} {ds:Array Value} (D:nJ K mg x st ds)
  (hb:∀(T:Addr) (kV doc pm:Value) (an:Option Addr) (cdv ct:Value) (us:List Value),(us++[]).length=ps.length->∃ j,bindArgs (fnOf x x (bw st) (aP st) (aj st) (.ref T) kV doc pm an cdv ct) ⟨us,[]⟩=seqItems? (.ref T) >>= j/\j (some ds)=pure (ps.zip (us++[])))
  (hb2:∀(T:Addr) (kV doc pm:Value) (an:Option Addr) (cdv ct:Value) (us:List Value),(us++ds.toList).length=ps.length->∃ j,bindArgs (fnOf x x (bw st) (aP st) (aj st) (.ref T) kV doc pm an cdv ct) ⟨us,[]⟩=seqItems? (.ref T) >>= j/\j (some ds)=pure (ps.zip (us++ds.toList)))
  (S:aw N ps (aj st)) (len:∀ vs H Q E,sp vs H Q E->vs.length=ps.length)
  (hbody:∀(f:Addr) (cdv:Value) (A:Around) (outer:List Env) (s:Shared) (H:Hp) (vs:List V) (Q:VK) (E:XK),bR k (A.deeper (envOfC x (aj st) s.heap.objs.size f cdv))->sp vs H Q E ->
   ∃ t,gK (eV (dh P w) P w K mg base N x (aj st) f cdv A outer s H E) (aP st) t/\t { nx:=λ_ H'=>Q .non H',rt:=Q } (start N vs) H):kF P w K mg base (dh P w) (k+1) x ps ds.toList sp:=by
 obtain⟨f,fd,F,hm⟩:=D
 have b1:=F.binds hb
 have b2:=F.binds hb2
 obtain⟨oc,od,T,o,n,kV,doc,pm,an,cdv,ct,osl,rfl,lk,hcd,lT,e⟩:=F.ex
 exact⟨f,_,wG lk hcd S len λA outer s H vs Q E hr h=>hbody f cdv A outer s H vs Q E hr h,hm,F.kp,b1,b2⟩
end
end L2
namespace L2
open PySem PySem.Spec PyProof.Rows
def Dz (q:Nat):Nat->Nat->Nat
 | 0,m=>m
 | f+1,m=>if q<=m*m then m else Dz q f (m+1)
def rt (q:Nat):Nat:=Dz q q 0
theorem yq {q:Nat}:∀(f m:Nat),(∀ j,j<m->j*j<q)->q<=(m+f)*(m+f)->q<=Dz q f m*Dz q f m/\∀ j,j<Dz q f m->j*j<q
 | 0,m,h,e=>⟨e,h⟩
 | f+1,m,h,e=>by
  unfold Dz
  by_cases c:q<=m*m
  ·rw [if_pos c];exact⟨c,h⟩
  ·rw [if_neg c]
   exact yq f (m+1) (λj hj=>by rcases (by omega:j<m∨j=m) with z | z;exact h j z;rw [z];omega) (by rw [show m+1+f=m+(f+1) by omega];exact e)
theorem ud (q:Nat):q<=rt q*rt q/\∀ j,j<rt q->j*j<q:=yq q 0 (λj z=>absurd z (Nat.not_lt_zero _)) (by
 rw [Nat.zero_add]
 rcases Nat.eq_zero_or_pos q with z | z
 ·rw [z];exact Nat.zero_le _
 ·exact Nat.le_mul_of_pos_left q z)
theorem Ei {q m:Nat} (h1:q<=m*m) (h2:∀ j,j<m->j*j<q):rt q=m:=by
 obtain⟨a,b⟩:=ud q
 rcases Nat.lt_trichotomy (rt q) m with z | z | z
 ·have:=h2 _ z;omega
 ·exact z
 ·have:=b _ z;omega
theorem yr {q:Nat} (h:0<q):0<rt q:=by
 rcases Nat.eq_zero_or_pos (rt q) with z | z
 ·have:=(ud q).1;rw [z] at this;omega
 ·exact z
theorem Bw {q:Nat} (h:0<q):rt q<=q:=by
 rcases Nat.lt_or_ge q (rt q) with z | z
 ·have:=(ud q).2 _ z
  have:=Nat.le_mul_of_pos_left q h
  omega
 ·exact z
theorem AF {q:Nat} (h:q<=10^6):rt q<=1000:=by
 rcases Nat.lt_or_ge 1000 (rt q) with z | z
 ·have:=(ud q).2 _ z;omega
 ·exact z
def dI (p w:Int) (m:Nat):List (Key × V):=(List.range m).map λi:Nat=>(Sum.inl (w^i%p),V.int (i:Int))
theorem fH {p w:Int} {m:Nat}:(dI p w m).length=m:=by unfold dI;rw [List.length_map,List.length_range]
theorem ju {p w:Int} {m:Nat}:dI p w (m+1)=dI p w m++[(Sum.inl (w^m%p),V.int m)]:=by unfold dI;rw [List.range_succ,List.map_append];rfl
theorem jt {p w n:Int}:∀{m:Nat},(∀ j,j<m->w^j%p≠n)->cu (dI p w m) (Sum.inl n)=none
 | 0,_=>rfl
 | m+1,h=>by
  have ih:=jt (p:=p) (w:=w) (n:=n) (m:=m) λj hj=>h j (by omega)
  by_cases z:cu (dI p w m) (Sum.inl (w^m%p))=none
  ·rw [ju,gX _ _ _ _ z,if_neg (λe=>h m (by omega) (Sum.inl.inj e).symm)]
   exact ih
  ·unfold cu at ih z ⊢
   rw [ju,List.find?_append]
   cases e:List.find? (λkv=>decide (kv.1=Sum.inl n)) (dI p w m) with
   | some y=>rw [e] at ih;cases ih
   | none =>
    have:¬(Sum.inl (w^m%p):Key)=Sum.inl n:=λe=>h m (by omega) (Sum.inl.inj e)
    simp [this]
theorem yU {p w:Int}:∀{m:Nat},(∀ i j,i<m->j<m->w^i%p=w^j%p->i=j)->∀ j,j<m->cu (dI p w m) (Sum.inl (w^j%p))=some (.int j)
 | 0,_,j,hj=>absurd hj (Nat.not_lt_zero _)
 | m+1,h,j,hj=>by
  have z:cu (dI p w m) (Sum.inl (w^m%p))=none:=jt λi hi e=>by
   have:=h i m (by omega) (by omega) e
   omega
  rw [ju,gX _ _ _ _ z]
  by_cases c:j=m
  ·rw [c,if_pos rfl]
  ·rw [if_neg (λe=>c (h j m hj (by omega) (Sum.inl.inj e)))]
   exact yU (λi j hi hj=>h i j (by omega) (by omega)) j (by omega)
end L2
namespace Num
theorem Ord.co {n a:Int} {m:Nat} (o:Ord n a m):Co a n:=by
 obtain⟨k,hk⟩:∃ k,m=k+1:=⟨m-1,by have:=o.pos;omega⟩
 exact Co.Cw (m:=k) (by rw [<- hk];exact o.one)
theorem Ord.lO {n a:Int} {m i j:Nat} (o:Ord n a m) (hi:i<m) (hj:j<m) (e:a^i%n=a^j%n):i=j:=o.inj o.co hi hj (Al.iff.mpr e)
theorem fD {n b:Int} {e q:Nat} (o:Ord n b e) (hd:q∣e):Ord n (b^(e/q)) q:=by
 obtain⟨f,hf⟩:=hd
 have e0:=o.pos
 have q0:0<q:=by rcases Nat.eq_zero_or_pos q with z | z;rw [z,Nat.zero_mul] at hf;omega;exact z
 have f0:0<f:=by rcases Nat.eq_zero_or_pos f with z | z;rw [z,Nat.mul_zero] at hf;omega;exact z
 have ef:e/q=f:=by rw [hf];exact Nat.mul_div_cancel_left f q0
 rw [ef]
 refine⟨q0,?_,λj hj=>?_⟩
 ·rw [bz,Nat.mul_comm,<- hf];exact o.one
 ·rw [bz] at hj
  have:=o.dv _ hj
  rw [hf,Nat.mul_comm q f] at this
  exact Nat.dvd_of_mul_dvd_mul_left f0 this
theorem Au {n w:Int} {q y:Nat} (o:Ord n w q):Al n (w^y) (w^(y%q)):=by
 have h:y=q*(y/q)+y%q:=(Nat.div_add_mod y q).symm
 have h1:=(aL (k:=y/q) o.one).mul (Al.refl n (w^(y%q)))
 rw [Int.one_mul,<- Int.pow_add,<- h] at h1
 exact h1
theorem wq {n b a r w:Int} {e q x t:Nat} (o:Ord n b e) (hd:q^(t+1)∣e) (ha:Al n a (b^x)) (hr:Al n (r*b^(x%q^t)) 1) (hw:Al n w (b^(e/q))):Al n ((a*r)^(e/q^(t+1))) (w^(x/q^t%q)):=by
 obtain⟨f,hf⟩:=hd
 have e0:=o.pos
 have q0:0<q^(t+1):=by rcases Nat.eq_zero_or_pos (q^(t+1)) with z | z;rw [z,Nat.zero_mul] at hf;omega;exact z
 have qt:0<q^t:=by rcases Nat.eq_zero_or_pos (q^t) with z | z;rw [Nat.pow_succ,z,Nat.zero_mul] at q0;omega;exact z
 have q1:0<q:=by rcases Nat.eq_zero_or_pos q with z | z;rw [Nat.pow_succ,z,Nat.mul_zero] at q0;omega;exact z
 have ef:e/q^(t+1)=f:=by rw [hf];exact Nat.mul_div_cancel_left f q0
 have eq:e/q=q^t*f:=by rw [hf,Nat.pow_succ,Nat.mul_assoc,Nat.mul_comm q f,<- Nat.mul_assoc];exact Nat.mul_div_cancel _ q1
 have dq:q∣e:=⟨q^t*f,by rw [hf,Nat.pow_succ,Nat.mul_comm (q^t) q,Nat.mul_assoc]⟩
 have ow:Ord n w q:=jK hw.symm (fD o dq)
 have h1:Al n (a*r) (b^(q^t*(x/q^t))):=by
  have z:=ha.mul (Al.refl n r)
  have hx:x=q^t*(x/q^t)+x%q^t:=(Nat.div_add_mod x (q^t)).symm
  have z2:=(Al.refl n (b^(q^t*(x/q^t)))).mul hr
  rw [Int.mul_one] at z2
  refine z.trans (Al.trans ?_ z2)
  have:b^x*r=b^(q^t*(x/q^t))*(r*b^(x%q^t)):=by
   have hb:b^x=b^(q^t*(x/q^t))*b^(x%q^t):=by rw [<- Int.pow_add,<- hx]
   rw [hb,Int.mul_assoc,Int.mul_comm (b^(x%q^t)) r]
  rw [this]
  exact Al.refl _ _
 rw [ef]
 have h2:=h1.pow f
 rw [bz] at h2
 have h3:=hw.pow (x/q^t)
 rw [bz,eq] at h3
 have h4:b^(q^t*(x/q^t)*f)=b^(q^t*f*(x/q^t)):=by congr 1;rw [Nat.mul_assoc,Nat.mul_assoc,Nat.mul_comm f]
 rw [h4] at h2
 exact (h2.trans h3.symm).trans (Au ow)
def dy (x q n:Nat):List Nat:=(List.range n).map λi=>x/q^i%q
theorem iV {x q n:Nat}:(dy x q n).length=n:=by unfold dy;rw [List.length_map,List.length_range]
theorem mN {x q n:Nat}:dy x q (n+1)=dy x q n++[x/q^n%q]:=by unfold dy;rw [List.range_succ,List.map_append];rfl
theorem tw {x q n i:Nat} (h:i<n):(dy x q n)[i]?=some (x/q^i%q):=by unfold dy;rw [List.getElem?_map,List.getElem?_range h];rfl
theorem qu {x q n i:Nat} (q0:0<q) (hi:i<n):(x%q^n)/q^(n-i)*q+x/q^(n-1-i)%q=(x%q^n)/q^(n-(i+1)):=by
 obtain⟨k,hk⟩:∃ k,n-i=k+1:=⟨n-i-1,by omega⟩
 have e1:n-1-i=k:=by omega
 have e2:n-(i+1)=k:=by omega
 rw [hk,e1,e2]
 have e3:x/q^k%q=(x%q^n)/q^k%q:=by
  have hn:q^n=q^k*(q*q^(n-k-1)):=by rw [<- Nat.mul_assoc,<- Nat.pow_succ,<- Nat.pow_add];congr 1;omega
  rw [hn,Nat.mod_mul_right_div_self,Nat.mod_mul_right_mod]
 rw [e3,Nat.pow_succ,<- Nat.div_div_eq_div_mul]
 exact Nat.div_add_mod' _ _
theorem i7 {p a b:Int} {e:Nat} (hp:Pm p) (o:Ord p b e) (h:Al p (a^e) 1):∃ x,x<e/\Al p a (b^x):=by
 rcases Classical.em (∃ x,x<e/\Al p a (b^x)) with z | z
 ·exact z
 ·exfalso
  have no:∀ x,x<e->¬Al p a (b^x):=λx hx hh=>z ⟨x,hx,hh⟩
  obtain⟨m,hm⟩:∃ m,e=m+1:=⟨e-1,by have:=o.pos;omega⟩
  have hlen:(List.replicate m (0:Int)++[-1]).length=e:=by simp [hm]
  have key:=roots hp e (List.replicate m 0++[-1]) 1 hlen (λhd=>hp.kN (by
   obtain⟨c,hc⟩:=hd
   exact⟨-c,by rw [Int.mul_neg,<- hc];omega⟩)) (a::(List.range e).map λi=>b^i) ?_ ?_
  ·simp at key
   omega
  ·refine List.pairwise_cons.mpr ⟨λy hy=>?_,?_⟩
   ·obtain⟨i,hi,rfl⟩:=List.mem_map.mp hy
    exact no i (List.mem_range.mp hi)
   ·rw [List.pairwise_map]
    refine List.Pairwise.imp_of_mem ?_ List.pairwise_lt_range
    intro i j hi hj lt hh
    have:=o.inj o.co (List.mem_range.mp hi) (List.mem_range.mp hj) hh
    omega
  ·intro r hr
   rw [v5,Int.one_mul,<- hm]
   rcases List.mem_cons.mp hr with rfl | hr
   ·exact h
   ·obtain⟨i,_,rfl⟩:=List.mem_map.mp hr
    have:=aL (k:=i) o.one
    rw [bz,Nat.mul_comm]
    exact this
theorem vH {p a b:Int} {e x y:Nat} (o:Ord p b e) (hx:x<e) (hy:y<e) (h1:Al p a (b^x)) (h2:Al p a (b^y)):x=y:=o.inj o.co hx hy (h1.symm.trans h2)
end Num
namespace L2
open PySem PySem.Spec PyProof.Rows
def dR (a d:Addr) (H H':Hp):Prop:=∀ b o,b≠a->b≠d->H b=some o->H' b=some o
theorem dR.refl {a d:Addr} {H:Hp}:dR a d H H:=λ_ _ _ _ e=>e
theorem dR.trans {a d:Addr} {H H1 H2:Hp} (h:dR a d H H1) (h':dR a d H1 H2):dR a d H H2:=λb o x y e=>h' b o x y (h b o x y e)
theorem dR.of {a d:Addr} {H H':Hp} (h:aA H H'):dR a d H H':=λb o _ _ e=>h b o e
theorem dR.EK {a d:Addr} {H:Hp} {o:HO}:dR a d H (upd H d o):=λb u _ x e=>by rw [au x];exact e
structure KH where
 a:Addr
 dx:Addr
 d:Addr
 most:Int
 c:Int
 ks:List (Int × Int × Int)
def k3 (x:Int × Int × Int):List Key:=[.inl x.1,.inl x.2.1,.inl x.2.2]
theorem jE {x y:Int × Int × Int} (h:k3 x=k3 y):x=y:=by
 obtain⟨a,b,c⟩:=x
 obtain⟨a',b',c'⟩:=y
 simp only [k3,List.cons.injEq,Sum.inl.injEq,and_true] at h
 obtain⟨rfl,rfl,rfl⟩:=h
 rfl
def Ci (k:KH):List (Str × V):=[("most",.int k.most),("counted",.int k.c),("laid",.ref k.d)]
def KTab (H:Hp) (x:Int × Int × Int) (v:V):Prop:=∃ t,v=.ref t/\H t=some (.dK (dI x.1 x.2.2 (rt x.2.1.toNat)))
structure rB (H:Hp) (k:KH) (kvs:List (List Key × V)):Prop where
 dict:H k.d=some (.dT kvs)
 keys:kvs.map (·.1)=k.ks.map k3
 nd:k.ks.Nodup
 tab:∀ x v,cu kvs (k3 x)=some v->KTab H x v
structure bZ (C:Addr) (k:KH) (H:Hp):Prop where
 ins:H k.a=some (.ins C k.dx (Ci k))
 ex:∃ kvs,rB H k kvs
 m0:0<=k.most
 m1:k.most<=10^6
section
variable {C:Addr} {k:KH} {H H':Hp} {kvs:List (List Key × V)}
theorem KTab.same {x:Int × Int × Int} {v:V} (h:KTab H x v) (s:aA H H'):KTab H' x v:=by obtain⟨t,e,z⟩:=h;exact⟨t,e,s _ _ z⟩
theorem rB.same (h:rB H k kvs) (s:aA H H'):rB H' k kvs:=⟨s _ _ h.dict,h.keys,h.nd,λx v e=>(h.tab x v e).same s⟩
theorem bZ.same (h:bZ C k H) (s:aA H H'):bZ C k H':=⟨s _ _ h.ins,let ⟨kvs,z⟩:=h.ex;⟨kvs,z.same s⟩,h.m0,h.m1⟩
theorem rB.len (h:rB H k kvs):kvs.length=k.ks.length:=by have:=congrArg List.length h.keys;simpa using this
theorem bZ.ne (h:bZ C k H):k.a≠k.d:=by
 obtain⟨kvs,z⟩:=h.ex
 exact h8 h.ins z.dict (by intro z;cases z)
theorem bZ.apart (h:bZ C k H) {b:Addr} {o:HO} (e:H b=some o) (h1:∀ C dx fs,o≠.ins C dx fs) (h2:∀ kvs,o≠.dT kvs):b≠k.a/\b≠k.d:=by
 obtain⟨kvs,z⟩:=h.ex
 exact⟨h8 e h.ins (h1 _ _ _),h8 e z.dict (h2 _)⟩
theorem bZ.keep (h:bZ C k H) (bt:dR k.a k.d H H') {b:Addr} {o:HO} (e:H b=some o) (h1:∀ C dx fs,o≠.ins C dx fs:=by intro _ _ _ z;cases z) (h2:∀ kvs,o≠.dT kvs:=by intro _ z;cases z):H' b=some o :=
 let ⟨x,y⟩:=h.apart e h1 h2;bt b o x y e
theorem bZ.dF (h:bZ C k H) (bt:dR k.a k.d H H'):∀ a xs,Rd H a (.tup xs)->Rd H' a (.tup xs):=by
 intro a xs z
 rcases z with z | ⟨o,z⟩
 ·exact .inl (h.keep bt z)
 ·exact .inr ⟨o,h.keep bt z⟩
theorem bZ.dv {K:PySem.W.Frag} (h:bZ C k H) (bt:dR k.a k.d H H') {d:PyData} {v:V} (nl:qj d=true) (x:dv K H d v):dv K H' d v:=dv.dF (h.dF bt) d nl x
theorem kU:∀{kvs:List (List Key × V)} {q:List Key},(cu kvs q).isSome=true↔q∈kvs.map (·.1)
 | [],q=>by simp [cu]
 | p::r,q=>by
  by_cases c:p.1=q
  ·rw [cD c];simp [c]
  ·rw [bX c,kU (kvs:=r)]
   simp only [List.map_cons,List.mem_cons]
   exact⟨.inr,λz=>z.resolve_left λe=>c e.symm⟩
theorem rB.mem (h:rB H k kvs) {x:Int × Int × Int}:(cu kvs (k3 x)).isSome=true↔x∈k.ks:=by
 rw [kU,h.keys,List.mem_map]
 exact⟨fun⟨y,hy,e⟩=>jE e▸hy,λz=>⟨x,z,rfl⟩⟩
theorem jv {q j:List Key}:∀{kvs:List (List Key × V)},cu (bS kvs q) j=if j=q then none else cu kvs j
 | []=>by unfold bS;simp [cu]
 | p::r=>by
  have ih:=jv (q:=q) (j:=j) (kvs:=r)
  unfold bS at ih ⊢
  by_cases c:p.1=q
  ·rw [List.filter_cons_of_neg (by simpa using c),ih]
   by_cases d:j=q
   ·rw [if_pos d,if_pos d]
   ·rw [if_neg d,if_neg d,bX (λe=>d (e.symm.trans c))]
  ·rw [List.filter_cons_of_pos (by simpa using c)]
   by_cases d:p.1=j
   ·rw [cD d,cD d,if_neg (λe=>c (d.trans e))]
   ·rw [bX d,bX d,ih]
theorem mO {x:Int × Int × Int}:∀{kvs:List (List Key × V)} {ks:List (Int × Int × Int)},kvs.map (·.1)=ks.map k3->(bS kvs (k3 x)).map (·.1)=(ks.filter λy=>decide (y≠x)).map k3
 | [],[],_=>rfl
 | [],_::_,h=>by simp at h
 | _::_,[],h=>by simp at h
 | p::r,y::ys,h=>by
  rw [List.map_cons,List.map_cons,List.cons.injEq] at h
  have ih:=mO (x:=x) (kvs:=r) (ks:=ys) h.2
  unfold bS at ih ⊢
  by_cases c:y=x
  ·rw [List.filter_cons_of_neg (by rw [h.1,c];simp),List.filter_cons_of_neg (by simpa using c)]
   exact ih
  ·rw [List.filter_cons_of_pos (by rw [h.1];simpa using λe=>c (jE e)),List.filter_cons_of_pos (by simpa using c),List.map_cons,List.map_cons,h.1,ih]
def cK (ks:List (Int × Int × Int)) (x:Int × Int × Int):List (Int × Int × Int):=(ks.filter λy=>decide (y≠x))++[x]
def pO (most:Int) (ks:List (Int × Int × Int)):List (Int × Int × Int):=if most<ks.length then ks.tail else ks
def jQ (k:KH) (x:Int × Int × Int):KH:={ k with ks:=pO k.most (cK k.ks x),c:=if x∈k.ks then k.c else k.c+rt x.2.1.toNat }
def iP (k:KH) (n:Int):KH:={ k with c:=k.c+n }
theorem Dq {ks:List (Int × Int × Int)} {x:Int × Int × Int} (h:ks.Nodup):(cK ks x).Nodup:=by
 unfold cK
 rw [List.nodup_append]
 refine⟨h.sublist List.filter_sublist,by simp,λa ha b hb e=>?_⟩
 rw [List.mem_singleton.mp hb] at e
 have:=(List.mem_filter.mp ha).2
 simp [e] at this
theorem AX {ks:List (Int × Int × Int)} {x:Int × Int × Int}:(cK ks x).length<=ks.length+1:=by
 unfold cK
 rw [List.length_append]
 exact Nat.add_le_add_right (List.length_filter_le _ _) 1
theorem rB.use {x:Int × Int × Int} {t:Addr} (h:rB H k kvs) (kt:∀ y v,KTab H y v->KTab H' y v) (ht:KTab H' x (.ref t)) (hD:H' k.d=some (.dT (bS kvs (k3 x)++[(k3 x,.ref t)]))) :
  rB H' { k with ks:=cK k.ks x } (bS kvs (k3 x)++[(k3 x,.ref t)]) where
 dict:=hD
 keys:=by
  rw [List.map_append,mO h.keys]
  show _=(cK k.ks x).map k3
  unfold cK
  rw [List.map_append]
  rfl
 nd:=Dq h.nd
 tab:=λy v e=>by
  rw [gX _ _ _ _ (by rw [jv,if_pos rfl])] at e
  by_cases c:k3 y=k3 x
  ·rw [if_pos c] at e
   cases e
   cases jE c
   exact ht
  ·rw [if_neg c,jv,if_neg c] at e
   exact kt _ _ (h.tab y v e)
def sR (k:KH):Prop:=(k.ks.length:Int)<=k.most
theorem sR.use {x:Int × Int × Int} (h:sR k) (m0:0<=k.most):sR (jQ k x):=by
 have h':(k.ks.length:Int)<=k.most:=h
 show ((pO k.most (cK k.ks x)).length:Int)<=k.most
 have:=AX (ks:=k.ks) (x:=x)
 unfold pO
 split
 ·rw [List.length_tail];omega
 ·omega
theorem sR.add {n:Int} (h:sR k):sR (iP k n):=h
theorem drop_tail {q:List Key} {v:V} {r:List (List Key × V)} (nd:(((q,v)::r).map (·.1)).Nodup):bS ((q,v)::r) q=r:=by
 unfold bS
 rw [List.filter_cons_of_neg (by simp)]
 refine List.filter_eq_self.mpr λy hy=>?_
 rw [List.map_cons,List.nodup_cons] at nd
 exact decide_eq_true λz=>nd.1 (List.mem_map.mpr ⟨y,hy,z⟩)
theorem rB.cut {q:List Key} {v:V} {r:List (List Key × V)} (h:rB H k ((q,v)::r)) (hd:∀ b u,b≠k.d->H b=some u->H' b=some u) (hD:H' k.d=some (.dT r)):rB H' { k with ks:=k.ks.tail } r:=by
 obtain⟨y,ys,e⟩:∃ y ys,k.ks=y::ys:=by
  cases e:k.ks with
  | nil=>have:=h.len;rw [e] at this;simp at this
  | cons y ys=>exact⟨y,ys,rfl⟩
 have hk:=h.keys
 have hn:=h.nd
 rw [e,List.map_cons,List.map_cons,List.cons.injEq] at hk
 rw [e,List.nodup_cons] at hn
 refine⟨hD,by rw [hk.2];show _=k.ks.tail.map k3;rw [e];rfl,by show k.ks.tail.Nodup;rw [e];exact hn.2,λx u z=>?_⟩
 have ne:q≠k3 x:=λe2=>by
  have:k3 x∈r.map (·.1):=kU.mp (by rw [z];rfl)
  rw [hk.2,List.mem_map] at this
  obtain⟨x',h1,h2⟩:=this
  have:y=x:=jE (hk.1.symm.trans e2)
  rw [jE h2,<- this] at h1
  exact hn.1 h1
 obtain⟨t,e3,e4⟩:=h.tab x u (by rw [bX ne];exact z)
 exact⟨t,e3,hd _ _ (λe=>by rw [e,h.dict] at e4;cases e4) e4⟩
theorem uO {q:List Key} {kvs:List (List Key × V)} (h:cu kvs q=none):bS kvs q=kvs:=by
 unfold bS
 refine List.filter_eq_self.mpr λy hy=>decide_eq_true λz=>?_
 have:(cu kvs q).isSome=true:=kU.mpr (List.mem_map.mpr ⟨y,hy,z⟩)
 rw [h] at this
 cases this
theorem rB.nodup (h:rB H k kvs):(kvs.map (·.1)).Nodup:=by
 rw [h.keys]
 exact List.Pairwise.map k3 (λa b n e=>n (jE e)) h.nd
theorem bZ.Fe {n:Int} {fs:List (Str × V)} (h:bZ C k H) (e:fs=Ci (iP k n)):bZ C (iP k n) (upd H k.a (.ins C k.dx fs)):=by
 subst e
 obtain⟨kvs,z⟩:=h.ex
 refine⟨ag,⟨kvs,?_,z.keys,z.nd,λx v e=>?_⟩,h.m0,h.m1⟩
 ·show upd H k.a _ k.d=_
  rw [au (Ne.symm h.ne)]
  exact z.dict
 ·obtain⟨t,e1,e2⟩:=z.tab x v e
  exact⟨t,e1,by rw [au (h.apart e2 (by intro _ _ _ z;cases z) (by intro _ z;cases z)).1];exact e2⟩
end
end L2
namespace Num
def Pz (N a z:Int):Int:=a^(z%N).toNat
section
variable {p a N:Int}
theorem fF (n0:0<N) (h:Al p (a^N.toNat) 1) {z:Int} (z0:0<=z):Al p (Pz N a z) (a^z.toNat):=by
 unfold Pz
 have e:=Int.mul_ediv_add_emod z N
 have m0:=Int.emod_nonneg z (show N≠0 by omega)
 have d0:0<=z/N:=Int.ediv_nonneg z0 (by omega)
 have e2:z.toNat=N.toNat*(z/N).toNat+(z%N).toNat:=by
  have h1:((N.toNat*(z/N).toNat:Nat):Int)=N*(z/N):=by
   rw [Int.natCast_mul,Int.toNat_of_nonneg (by omega),Int.toNat_of_nonneg d0]
  omega
 rw [e2,Int.pow_add]
 have:=(aL (k:=(z/N).toNat) h).mul (Al.refl p (a^(z%N).toNat))
 rw [Int.one_mul] at this
 exact this.symm
theorem eB {z y:Int} (h:N∣z-y):Pz N a z=Pz N a y:=by
 unfold Pz
 rw [Int.emod_eq_emod_iff_emod_sub_eq_zero.mpr (Int.emod_eq_zero_of_dvd h)]
theorem yi (n0:0<N) (h:Al p (a^N.toNat) 1) (z y:Int):Al p (Pz N a z*Pz N a y) (Pz N a (z+y)):=by
 have m0:=Int.emod_nonneg z (show N≠0 by omega)
 have m1:=Int.emod_nonneg y (show N≠0 by omega)
 have e:Pz N a z*Pz N a y=a^(z%N+y%N).toNat:=by
  unfold Pz
  rw [<- Int.pow_add]
  congr 1
  omega
 rw [e,show Pz N a (z+y)=Pz N a (z%N+y%N) from eB ⟨z/N+y/N,by
  have e1:=Int.mul_ediv_add_emod z N
  have e2:=Int.mul_ediv_add_emod y N
  rw [Int.mul_add];omega⟩]
 exact (fF n0 h (by omega)).symm
theorem lL (n0:0<N) (h:Al p (a^N.toNat) 1) (z:Int) (k:Nat):Al p (Pz N a z^k) (Pz N a (z*k)):=by
 have m0:=Int.emod_nonneg z (show N≠0 by omega)
 have e:Pz N a z^k=a^(z%N*k).toNat:=by
  unfold Pz
  rw [<- Int.pow_mul]
  congr 1
  have:(((z%N).toNat*k:Nat):Int)=z%N*k:=by rw [Int.natCast_mul,Int.toNat_of_nonneg m0]
  omega
 rw [e,show Pz N a (z*k)=Pz N a (z%N*k) from eB ⟨z/N*k,by
  have e1:=Int.mul_ediv_add_emod z N
  have:z*k-z%N*k=(z-z%N)*k:=(Int.sub_mul ..).symm
  rw [this,show z-z%N=N*(z/N) by omega,Int.mul_assoc]⟩]
 exact (fF n0 h (Int.mul_nonneg m0 (by omega))).symm
theorem CZ (n0:0<N) (h:Al p (a^N.toNat) 1) (co:Co a p) {b z:Int} (z0:z<0) (hb:p∣b*a-1):Al p (b^(-z).toNat) (Pz N a z):=by
 have hb':Al p (b*a) 1:=hb
 have h1:Al p (b^(-z).toNat*a^(-z).toNat) 1:=by
  have:=hb'.pow (-z).toNat
  rw [Int.mul_pow,Int.one_pow] at this
  exact this
 have h2:Al p (Pz N a z*a^(-z).toNat) 1:=by
  have:=((Al.refl p (Pz N a z)).mul (fF n0 h (show 0 <= -z by omega)).symm).trans (yi n0 h z (-z))
  rw [show z + -z=0 by omega] at this
  refine this.trans ?_
  unfold Pz
  rw [Int.zero_emod]
  show Al p (a^0) 1
  rw [Int.pow_zero]
  exact Al.refl _ _
 have h3:=h1.trans h2.symm
 rw [Int.mul_comm (b^_),Int.mul_comm (Pz N a z)] at h3
 exact (co.pow _).cancel h3
end
structure Rt (p g k a:Int) (d inner outer:Int):Prop where
 d0:0<d
 dk:d∣k
 di:d∣inner
 i0:0<inner
 o0:0<outer
 io:inner*outer=p-1
 cdo:Co d outer
 cko:Co k outer
 cki:Co (k/d) (inner/d)
 cio:Co inner outer
section
variable {p g k a d inner outer:Int}
theorem fy {a b:Int} (h:Co a b):Co b a:=by obtain⟨u,v,e⟩:=h;exact⟨v,u,by omega⟩
theorem Rt.of {d inner outer u v:Int} (k0:0<k) (hd:0<d) (dk:d∣k) (lin:u*k+v*(p-1)=d) (i0:0<inner) (o0:0<outer) (io:inner*outer=p-1) (cio:Co inner outer) (di:d∣inner):Rt p g k a d inner outer:=by
 obtain⟨y,hy⟩:=id di
 obtain⟨k',hk⟩:=id dk
 obtain⟨s,t,e⟩:=cio
 have cdo:Co d outer:=⟨s*y,t,by rw [<- e,hy];grind⟩
 refine⟨hd,dk,di,i0,o0,io,cdo,?_,?_,⟨s,t,e⟩⟩
 ·obtain⟨s',t',e'⟩:=cdo
  refine⟨s'*u,s'*v*inner+t',?_⟩
  rw [<- e',<- lin,<- io]
  grind
 ·have e1:k/d=k':=by rw [hk,Int.mul_ediv_cancel_left _ (by omega)]
  have e2:inner/d=y:=by rw [hy,Int.mul_ediv_cancel_left _ (by omega)]
  rw [e1,e2]
  refine⟨u,v*outer,?_⟩
  have h1:d*(u*k'+v*outer*y)=d*1:=by
   rw [Int.mul_one]
   conv=>rhs;rw [<- lin,<- io,hk,hy]
   grind
  exact Int.eq_of_mul_eq_mul_left (by omega) h1
theorem Rt.exp (R:Rt p g k a d inner outer) {x w:Int} (hx:d∣x) (hw:inner/d∣w*(k/d)-1):inner∣x/d*w*k-x:=by
 obtain⟨y,hy⟩:=id R.di
 obtain⟨k',hk⟩:=id R.dk
 obtain⟨x',hx⟩:=hx
 have d0:=R.d0
 have e1:k/d=k':=by rw [hk,Int.mul_ediv_cancel_left _ (by omega)]
 have e2:inner/d=y:=by rw [hy,Int.mul_ediv_cancel_left _ (by omega)]
 have e3:x/d=x':=by rw [hx,Int.mul_ediv_cancel_left _ (by omega)]
 rw [e1,e2] at hw
 obtain⟨s,hs⟩:=hw
 refine⟨x'*s,?_⟩
 rw [e3,hk,hx,hy]
 have:w*k'=y*s+1:=by omega
 have:x'*w*(d*k')=x'*d*(w*k'):=by grind
 rw [this,‹w*k'=y*s+1›]
 grind
theorem iW (pm:Pm p) (na:¬p∣a):0<p-1/\Al p (a^(p-1).toNat) 1:=⟨by have:=pm.two;omega,fR pm na⟩
theorem Rt.base (R:Rt p g k a d inner outer) (og:Ord p g (p-1).toNat) {b:Int} (hb:Al p b (g^outer.toNat)):Ord p b inner.toNat:=by
 have i0:=R.i0
 have o0:=R.o0
 have e:(p-1).toNat=inner.toNat*outer.toNat:=by
  have:((inner.toNat*outer.toNat:Nat):Int)=p-1:=by rw [Int.natCast_mul,Int.toNat_of_nonneg (by omega),Int.toNat_of_nonneg (by omega),R.io]
  omega
 have:=fD og (q:=inner.toNat) ⟨outer.toNat,e⟩
 rw [e,Nat.mul_div_cancel_left _ (by omega)] at this
 exact jK hb.symm this
theorem Rt.FY (R:Rt p g k a d inner outer) (pm:Pm p) (na:¬p∣a) {c v:Int} (hc:Al p c (Pz (p-1) a (v*outer))):Al p (c^inner.toNat) 1:=by
 obtain⟨n0,hf⟩:=iW pm na
 have i0:=R.i0
 have:=(hc.pow inner.toNat).trans (lL n0 hf (v*outer) inner.toNat)
 rw [show Pz (p-1) a (v*outer*(inner.toNat:Nat))=Pz (p-1) a 0 from eB ⟨v,by rw [Int.toNat_of_nonneg (by omega),<- R.io];grind⟩] at this
 refine this.trans ?_
 unfold Pz
 rw [Int.zero_emod]
 show Al p (a^0) 1
 rw [Int.pow_zero]
 exact Al.refl _ _
theorem Rt.dx (R:Rt p g k a d inner outer) (pm:Pm p) (na:¬p∣a) (og:Ord p g (p-1).toNat) (h1:Al p (a^((p-1)/d).toNat) 1) {b c v:Int} {x:Nat} (hb:Al p b (g^outer.toNat)) (hc:Al p c (Pz (p-1) a (v*outer))) (hx:Al p c (b^x)):d∣(x:Int):=by
 obtain⟨n0,hf⟩:=iW pm na
 have i0:=R.i0
 have o0:=R.o0
 have d0:=R.d0
 obtain⟨y,hy⟩:=id R.di
 have hN:p-1=d*(y*outer):=by rw [<- R.io,hy];grind
 have eN:(p-1)/d=y*outer:=by rw [hN,Int.mul_ediv_cancel_left _ (by omega)]
 have y0:0<y:=by
  rcases Int.lt_trichotomy y 0 with z | z | z
  ·have:=Int.mul_neg_of_pos_of_neg d0 z;omega
  ·rw [z,Int.mul_zero] at hy;omega
  ·exact z
 have m0:0<y*outer:=Int.mul_pos y0 o0
 rw [eN] at h1
 -- c to N/d is 1
 have c1:Al p (c^(y*outer).toNat) 1:=by
  have:=(hc.pow (y*outer).toNat).trans (lL n0 hf (v*outer) _)
  refine this.trans ?_
  rw [Int.toNat_of_nonneg (by omega)]
  have s0:=Int.emod_nonneg (v*outer) (show p-1≠0 by omega)
  rw [show Pz (p-1) a (v*outer*(y*outer))=Pz (p-1) a (v*outer%(p-1)*(y*outer)) from eB ⟨v*outer/(p-1)*(y*outer),by
   have e1:=Int.mul_ediv_add_emod (v*outer) (p-1)
   rw [<- Int.sub_mul,show v*outer-v*outer%(p-1)=(p-1)*(v*outer/(p-1)) by omega,Int.mul_assoc]⟩]
  refine (fF n0 hf (Int.mul_nonneg s0 (by omega))).trans ?_
  rw [show (v*outer%(p-1)*(y*outer)).toNat=(y*outer).toNat*(v*outer%(p-1)).toNat by
   have:(((y*outer).toNat*(v*outer%(p-1)).toNat:Nat):Int)=v*outer%(p-1)*(y*outer):=by rw [Int.natCast_mul,Int.toNat_of_nonneg (by omega),Int.toNat_of_nonneg s0,Int.mul_comm]
   omega]
  exact aL h1
 have c2:Al p (g^(outer.toNat*x*(y*outer).toNat)) 1:=by
  have:=((hx.trans (hb.pow x)).pow (y*outer).toNat).symm.trans c1
  rw [bz,bz,<- Nat.mul_assoc] at this
  exact this
 have h3:=Int.natCast_dvd_natCast.mpr (og.dv _ c2)
 rw [Int.toNat_of_nonneg (by omega),Int.natCast_mul,Int.natCast_mul,Int.toNat_of_nonneg (show 0<=outer by omega),Int.toNat_of_nonneg (show 0<=y*outer by omega),hN] at h3
 obtain⟨t,ht⟩:=h3
 have h4:outer*x=d*t:=by
  have:(y*outer)*(outer*x)=(y*outer)*(d*t):=by rw [Int.mul_comm,ht];grind
  exact Int.eq_of_mul_eq_mul_left (by omega) this
 exact (fy R.cdo).dvd ⟨t,h4⟩
theorem Rt.root (R:Rt p g k a d inner outer) (k0:0<k) (pm:Pm p) (na:¬p∣a) (og:Ord p g (p-1).toNat) {b c r1 r2 u v iv w:Int} {x:Nat} (lin:u*inner+v*outer=1)
  (hi:outer∣iv*k-1) (h1:Al p r1 (Pz (p-1) a (u*inner*iv))) (hb:Al p b (g^outer.toNat)) (hc:Al p c (Pz (p-1) a (v*outer))) (hx:Al p c (b^x)) (dx:d∣(x:Int)) (w0:0<=w) (hw:inner/d∣w*(k/d)-1) (h2:Al p r2 (b^((x:Int)/d*w).toNat)):Al p ((r1*r2)^k.toNat) a:=by
 obtain⟨n0,hf⟩:=iW pm na
 have i0:=R.i0
 have d0:=R.d0
 have ob:=R.base og hb
 have t1:Al p (r1^k.toNat) (Pz (p-1) a (u*inner)):=by
  have:=(h1.pow k.toNat).trans (lL n0 hf _ k.toNat)
  rw [Int.toNat_of_nonneg (by omega)] at this
  obtain⟨s,hs⟩:=hi
  rw [show Pz (p-1) a (u*inner*iv*k)=Pz (p-1) a (u*inner) from eB ⟨u*s,by
   have:iv*k=outer*s+1:=by omega
   rw [Int.mul_assoc,this,<- R.io];grind⟩] at this
  exact this
 have t2:Al p (r2^k.toNat) (Pz (p-1) a (v*outer)):=by
  have x0:0<=(x:Int)/d:=Int.ediv_nonneg (by omega) (by omega)
  have o1:Al p (b^inner.toNat) 1:=ob.one
  have h3:=(h2.trans (fF i0 o1 (Int.mul_nonneg x0 w0)).symm).pow k.toNat
  have h4:=h3.trans (lL i0 o1 _ k.toNat)
  rw [Int.toNat_of_nonneg (show 0<=k by omega),eB (R.exp dx hw)] at h4
  have h5:=h4.trans (fF i0 o1 (show 0<=(x:Int) by omega))
  rw [Int.toNat_natCast] at h5
  exact (h5.trans hx.symm).trans hc
 rw [Int.mul_pow]
 have:=(t1.mul t2).trans (yi n0 hf _ _)
 rw [lin] at this
 have h6:=this.trans (fF n0 hf (show (0:Int)<=1 by decide))
 rw [show (1:Int).toNat=1 from rfl,Int.pow_one] at h6
 exact h6
theorem vU (pm:Pm p) {r t a:Int} {k m:Nat} (ot:Ord p t m) (mk:m∣k) (hr:Al p (r^k) a) (i:Nat):Al p ((r*t^i)^k) a:=by
 rw [Int.mul_pow,bz]
 obtain⟨s,rfl⟩:=mk
 rw [show i*(m*s)=m*(i*s) by grind]
 have:=hr.mul (aL (k:=i*s) ot.one)
 rw [Int.mul_one] at this
 exact this
theorem vT (pm:Pm p) {r t:Int} {m i j:Nat} (ot:Ord p t m) (nr:¬p∣r) (hi:i<m) (hj:j<m) (h:Al p (r*t^i) (r*t^j)):i=j:=ot.inj ot.co hi hj ((pm.co nr).cancel h)
end
theorem pV (f:Int × Int->Bool):∀ ps:List (Int × Int),eN (ps.filter f)*eN (ps.filter λy=>!f y)=eN ps
 | []=>rfl
 | y::r=>by
  have ih:=pV f r
  cases h:f y with
  | true =>
   rw [List.filter_cons_of_pos h,List.filter_cons_of_neg (by simp [h])]
   show y.1.toNat^y.2.toNat*_*_=y.1.toNat^y.2.toNat*_
   rw [Nat.mul_assoc,ih]
  | false =>
   rw [List.filter_cons_of_neg (by simp [h]),List.filter_cons_of_pos (by simp [h])]
   show _*(y.1.toNat^y.2.toNat*_)=y.1.toNat^y.2.toNat*_
   rw [<- ih]
   grind
theorem sZ {x:Int}:∀ b:List (Int × Int),(∀ y∈b,Pm y.1)->(∀ y∈b,Co x y.1)->Co x (eN b:Int)
 | [],_,_=>⟨0,1,by show 0*x+1*(1:Int)=1;omega⟩
 | y::r,hp,h=>by
  have:=(hp y List.mem_cons_self).two
  have h1:=((fy (h y List.mem_cons_self)).pow y.2.toNat).mul (fy (sZ r (λz hz=>hp z (List.mem_cons_of_mem _ hz)) λz hz=>h z (List.mem_cons_of_mem _ hz)))
  have e:((eN (y::r):Nat):Int)=y.1^y.2.toNat*eN r:=by
   show ((y.1.toNat^y.2.toNat*eN r:Nat):Int)=_
   rw [Int.natCast_mul,Int.natCast_pow,Int.toNat_of_nonneg (by omega)]
  rw [e]
  exact fy h1
theorem Eb {x y:Int} (hx:Pm x) (hy:Pm y) (ne:y≠x):Co x y:=hy.co λh=>by
 have:=hx.two
 have:=hy.two
 have:=Int.le_of_dvd (by omega) h
 exact hx.no y (by omega) (by omega) h
theorem DN {a b:List (Int × Int)} (ha:∀ y∈a,Pm y.1) (hb:∀ y∈b,Pm y.1) (ne:∀ x∈a,∀ y∈b,y.1≠x.1):Co (eN a:Int) (eN b:Int) :=
 sZ b hb λy hy=>fy (sZ a ha λx hx=>fy (Eb (ha x hx) (hb y hy) (ne x hx y hy)))
theorem AG {p g k a d u v:Int} {ps:List (Int × Int)} (p2:2<=p) (hP:Part (p-1) ps) (k0:0<k) (B:Gcd.BN k (p-1) d u v) :
  Rt p g k a d (eN (ps.filter λy=>decide (d%y.1=0))) ((p-1)/(eN (ps.filter λy=>decide (d%y.1=0)):Int)):=by
 have hpm:∀ y∈ps,Pm y.1:=λy hy=>(hP.ok y hy).1
 have e:=pV (λy=>decide (d%y.1=0)) ps
 have eP:(eN ps:Int)=p-1:=by rw [fz ps hpm,hP.prod]
 have d0:0<d:=by
  rcases Int.lt_or_eq_of_le B.g0 with z | z
  ·exact z
  ·have:=B.da;rw [<- z] at this;have:=Int.zero_dvd.mp this;omega
 have a1:∀ y∈ps.filter (λy=>decide (d%y.1=0)),Pm y.1:=λy hy=>hpm y (List.mem_filter.mp hy).1
 have a2:∀ y∈ps.filter (λy=>!decide (d%y.1=0)),Pm y.1:=λy hy=>hpm y (List.mem_filter.mp hy).1
 have i0:=lh _ a1
 have o0:=lh _ a2
 have co:=DN a1 a2 λx hx y hy z=>by
  have h1:=(List.mem_filter.mp hx).2
  have h2:=(List.mem_filter.mp hy).2
  rw [z] at h2
  simp at h1 h2
  exact h2 h1
 have e1:((eN (ps.filter λy=>decide (d%y.1=0)):Nat):Int)*(eN (ps.filter λy=>!decide (d%y.1=0)):Nat)=p-1:=by rw [<- eP,<- e,Int.natCast_mul]
 have e2:(p-1)/((eN (ps.filter λy=>decide (d%y.1=0)):Nat):Int)=(eN (ps.filter λy=>!decide (d%y.1=0)):Nat):=by
  rw [<- e1,Int.mul_ediv_cancel_left _ (by omega)]
 rw [e2]
 refine Rt.of k0 d0 B.da B.lin (by omega) (by omega) e1 co ?_
 -- d divides inner: it has nothing in common with outer
 have cd:Co d (eN (ps.filter λy=>!decide (d%y.1=0)):Nat):=sZ _ a2 λy hy=>by
  have h2:=(List.mem_filter.mp hy).2
  simp at h2
  exact (a2 y hy).co λz=>h2 (Int.emod_eq_zero_of_dvd z)
 refine (fy cd).dvd ?_
 rw [Int.mul_comm,e1]
 exact B.db
end Num
namespace L2
open PySem PySem.Spec PyProof.Rows
section
variable {X:Cx}
def Eg (K:PySem.W.Frag):List V->Hp->VK->Prop:=λxs H Q=>∃(a:Addr) (ns:List Int),xs=[.ref a]/\aO K H a (ns.map V.int)/\ns≠[]/\∀ m,m∈ns->(∀ n∈ns,m<=n)->Q (.int m) H
theorem uJ (hc:X.calm=true):cT X (.builtin "min") (Eg X.K):=by
 intro pins s σ H xs us Q I r h
 obtain⟨a,ns,rfl,hq,ne,q⟩:=h
 obtain⟨u,rfl,ru⟩:=vals1 r
 cases ru
 obtain⟨its,rv,p,hz⟩:=I.list hq
 have hi:=jD rv
 have hl:=p.isList
 obtain⟨ys,e⟩:=hi.allInts.items
 have hns:ns=ys.toList.map (·.1):=by rw [<- hi.numsOf,<- nums_intItems,<- e]
 have hl0:0<ns.length:=List.length_pos_iff.mpr ne
 have hsz:0<ys.size:=by rw [hns,List.length_map,Array.length_toList] at hl0;exact hl0
 rw [e] at hl
 refine min_intList (I.ok.hd hc) hl hsz λv h' tk hv hk=>?_
 obtain⟨t,rfl⟩:=intItems_at hv
 obtain⟨b1,b2⟩:=argBest_lt (numAt ys) (ys.size-1)
 refine⟨.int _,H,I.kept hk,⟨t,rfl⟩,q _ ?_ λn hn=>?_⟩
 ·rw [hns,numAt_eq]
  exact getD_mem (by rw [List.length_map,Array.length_toList];omega)
 ·rw [hns] at hn
  obtain⟨j,hj,rfl⟩:=mem_getD hn
  rw [List.length_map,Array.length_toList] at hj
  rw [<- numAt_eq]
  exact b2 j (by omega)
end
def A2 (J:It) (g:TG) (tt:TT) (te:TE) (ys:List V) (σ:St) (N:List V->Hp->Prop) (H1:Hp):Prop:=∃ W:Nat->Nat->List V->Hp->Prop,(∃ m,W 0 m ys H1)/\∀ i m zs H,W i m zs H ->
 (J.stop i H/\N zs H) ∨
 (J.go i H/\zs.length<sizeLine/\∃ N2:List V->Hp->Prop,(∀ zs' H',N2 zs' H'->∃ m',m'<m/\W (i+1) m' zs' H') /\
  ∀ x H',J.yld i H x H'->g x σ H' λσ2 H2=>bD σ σ2/\tt σ2 H2 λb H3=>if b=true then te σ2 H3 λv H4=>N2 (zs++[v]) H4 else N2 zs H3)
theorem BR {wi:TI} {g:TG} {tt:TT} {te:TE} {ys:List V} {σ:St} {H:Hp} {N:List V->Hp->Prop}:Dt wi g tt te ys σ H N=wi σ H λJ H1=>A2 J g tt te ys σ N H1:=rfl
def vY (J:It) (js:List (Option Nat)) (g1:TG) (tt1:TT) (wi2:TI) (g2:TG) (tt2:TT) (te:TE) (σ:St) (Q:VK) (H1:Hp):Prop:=∃ W:Nat->Nat->List V->Hp->Prop,(∃ m,W 0 m [] H1)/\∀ i m ys H,W i m ys H ->
 (J.stop i H/\ys.length<=sizeLine/\∀ p,H p=none->Q (.ref p) (upd H p (.lst ys))) ∨
 (J.go i H/\True/\∃ N:List V->Hp->Prop,(∀ ys' H',N ys' H'->∃ m',m'<m/\W (i+1) m' ys' H') /\
  ∀ x H',J.yld i H x H'->g1 x (b8 js σ) H' λσ2 H2=>bD (b8 js σ) σ2/\tt1 σ2 H2 λb H3=>if b=true then Dt wi2 g2 tt2 te ys σ2 H3 N else N ys H3)
theorem AS {js:List (Option Nat)} {wi1 wi2:TI} {g1 g2:TG} {tt1 tt2:TT} {te:TE} {σ:St} {H:Hp} {Q:VK}:EA js wi1 g1 tt1 wi2 g2 tt2 te σ H Q=wi1 σ H λJ H1=>vY J js g1 tt1 wi2 g2 tt2 te σ Q H1:=rfl
theorem rR {K:PySem.W.Frag} {a:Addr} {xs ys:List V} {g:TG} {tt:TT} {te:TE} {σ:St} {N:List V->Hp->Prop} {H1:Hp} (Pv:Nat->List V->Hp->Prop) (h0:Pv 0 ys H1) (hl:∀ i zs H,i<=xs.length->Pv i zs H->aO K H a xs/\zs.length<sizeLine)
  (hs:∀ i x zs H,xs[i]?=some x->Pv i zs H->g x σ H λσ2 H2=>bD σ σ2/\tt σ2 H2 λb H3=>if b=true then te σ2 H3 λv H4=>Pv (i+1) (zs++[v]) H4 else Pv (i+1) zs H3)
  (hd:∀ zs H,Pv xs.length zs H->N zs H):A2 (zm K a) g tt te ys σ N H1:=by
 refine⟨λi m zs H=>m=xs.length-i/\i<=xs.length/\Pv i zs H,⟨xs.length,by simp,Nat.zero_le _,h0⟩,?_⟩
 rintro i m zs H ⟨rfl,hi,p⟩
 obtain⟨q,z⟩:=hl i zs H hi p
 by_cases hlt:i<xs.length
 ·refine .inr ⟨⟨xs,xs[i],q,by simp [hlt]⟩,z,Pv (i+1),λzs' H' p'=>⟨xs.length-(i+1),by omega,rfl,hlt,p'⟩,λx H' y=>?_⟩
  obtain⟨e,y⟩:=y
  subst e
  exact hs i x zs _ (y xs q) p
 ·have e:i=xs.length:=by omega
  subst e
  exact .inl ⟨⟨xs,q,Nat.le_refl _⟩,hd zs H p⟩
theorem pN {K:PySem.W.Frag} {a:Addr} {xs:List V} {js:List (Option Nat)} {g1 g2:TG} {tt1 tt2:TT} {wi2:TI} {te:TE} {σ:St} {Q:VK} {H1:Hp} (Pv:Nat->List V->Hp->Prop) (h0:Pv 0 [] H1) (hl:∀ i ys H,i<=xs.length->Pv i ys H->aO K H a xs/\ys.length<=sizeLine)
  (hs:∀ i x ys H,xs[i]?=some x->Pv i ys H->g1 x (b8 js σ) H λσ2 H2=>bD (b8 js σ) σ2/\tt1 σ2 H2 λb H3=>if b=true then Dt wi2 g2 tt2 te ys σ2 H3 (Pv (i+1)) else Pv (i+1) ys H3)
  (hd:∀ ys H p,Pv xs.length ys H->H p=none->Q (.ref p) (upd H p (.lst ys))):vY (zm K a) js g1 tt1 wi2 g2 tt2 te σ Q H1:=by
 refine⟨λi m ys H=>m=xs.length-i/\i<=xs.length/\Pv i ys H,⟨xs.length,by simp,Nat.zero_le _,h0⟩,?_⟩
 rintro i m ys H ⟨rfl,hi,p⟩
 obtain⟨q,z⟩:=hl i ys H hi p
 by_cases hlt:i<xs.length
 ·refine .inr ⟨⟨xs,xs[i],q,by simp [hlt]⟩,True.intro,Pv (i+1),λys' H' p'=>⟨xs.length-(i+1),by omega,rfl,hlt,p'⟩,λx H' y=>?_⟩
  obtain⟨e,y⟩:=y
  subst e
  exact hs i x ys _ (y xs q) p
 ·have e:i=xs.length:=by omega
  subst e
  exact .inl ⟨⟨xs,q,Nat.le_refl _⟩,z,λq hq=>hd ys H q p hq⟩
theorem x5 {X:Cx} {tg l:Expr} {tl:TE} {K:PySem.W.Frag} (hK:X.K=K) (hl:PE X l tl):PI X tg l (wO K tl):=hK▸bF hl
end L2
set_option maxHeartbeats 8000000
namespace K
open PySem PySem.Spec PyProof.Rows L2
def top (i:Nat):Stmt:=PySem.Challenge.pw_rootprime_k53_whole_right_roots_are_let.main.body.getD i (.Pass ⟨0,0,0,0⟩)
theorem wX {us:List Value} (h:us.length=1):∃ a,us=[a]:=match us,h with | [a],_=>⟨a,rfl⟩
theorem tI {us:List Value} (h:us.length=2):∃ a b,us=[a,b]:=match us,h with | [a,b],_=>⟨a,b,rfl⟩
theorem Bl {us:List Value} (h:us.length=3):∃ a b c,us=[a,b,c]:=match us,h with | [a,b,c],_=>⟨a,b,c,rfl⟩
theorem wY {us:List Value} (h:us.length=4):∃ a b c d,us=[a,b,c,d]:=match us,h with | [a,b,c,d],_=>⟨a,b,c,d,rfl⟩
theorem Bm {us:List Value} (h:us.length=5):∃ a b c d e,us=[a,b,c,d,e]:=match us,h with | [a,b,c,d,e],_=>⟨a,b,c,d,e,rfl⟩
theorem Bn {us:List Value} (h:us.length=6):∃ a b c d e f,us=[a,b,c,d,e,f]:=match us,h with | [a,b,c,d,e,f],_=>⟨a,b,c,d,e,f,rfl⟩
theorem cq {N P:List Str} {sc:Scope} (a:sc.kind=.function:=by exact rfl) (b:sc.isCoroutine=false:=by exact rfl) (c:sc.isGenerator=false:=by exact rfl) (d:N.Nodup:=by decide +kernel) (e:N.take P.length=P:=by exact rfl) (f:∀ x∈P,sc.names.lookup x=some .local∨sc.names.lookup x=some .cell:=by decide +kernel) (g:∀ y∈sc.names,y.2≠.free:=by decide +kernel):aw N P sc:=⟨a,b,c,d,e,f,g⟩
theorem cH {F:PySem.W.Frag} {mg:Str->Option Value} {x:Str} {h:Heap} {f:Addr} {st:Stmt} {oc:Value} {od an:Option Addr} {osl:Array (Option Value)} {kV doc pm cdv ct:Value} (X:F.In h) (G:h.Ns mainGlobals mg) (a:PySem.W.nsIn F mainGlobals x=some (some (.ref f)):=by k_is) (l:F.lookup f=some ⟨oc,od,.func (PySem.W.fnOf x x (bw st) (aP st) (aj st) .none kV doc pm an cdv ct),osl⟩:=by k_is) (c:PySem.W.codeIn F cdv x=true:=by k_is) (kk:PySem.W.keepIn F (.ref f)=true:=by k_is):ar (cp X) mg x st:=wk X G a l c kk
theorem kG {X:Cx} {N':List Str} {js:List (Option Nat)} {scope:Scope} {cl:List (Str × Addr)} (clos:closureFor scope X.env=pure cl) (kind:scope.kind=.function) (nocell:∀ y∈scope.names,y.2=.cell->scope.names.lookup y.1=some .cell/\∀ p∈js.zip N',p.1.isSome=true->p.2≠y.1:=by decide +kernel) (names:∀ y∈scope.names,y.2=.local->scope.names.lookup y.1=some .local:=by decide +kernel) (sub:AllIn X.env cl:=by repeat (first | exact True.intro | refine⟨rfl,?_⟩)) (has:jy cl scope.names:=by repeat (first | exact True.intro | refine⟨rfl,?_⟩ | refine⟨True.intro,?_⟩)) (j:iM X scope cl js N':=by repeat (first | exact True.intro | refine⟨⟨rfl,rfl,.inl rfl,.inl rfl⟩,?_⟩)):fO X N' js scope cl:=B5 clos kind nocell names sub has j
theorem bh {X:Cx} {pos:Pos} {i:Nat} {x:Str} {e:Expr} {te:TE} {pos':Pos} (hN:X.N.Nodup) (he:PE X e te) (hi:X.N[i]?=some x:=by exact rfl) (hx:Loc X.env.scope x:=by exact Or.inl rfl) (hs:swapsWith e (some (.Name x pos')) pos.line X.env=pure false:=by rfl) (hf:X.fn x=true∨X.env.scope.names.lookup x=some .local:=by first | exact .inl rfl | exact .inr rfl | assumption):PS X (.Assign [.Name x pos'] e pos) (vN te (cI i)):=gh hN hi hx he hs hf
theorem aV {X:Cx} {CX:kE} {k n:Nat} {x:Str} {ps:List Str} {sp:Sp} {E:XK} {e:Expr} {es:List Expr} {t:TA} {p pos:Pos} (C:Callee X.prog X.w X.K X.mg X.base CX k x ps sp) (hr:bR n X.A) (hx:Passes CX X E) (ha:PA X (e::es) t) (hm:k<=n:=by decide) (hg:Gl X x:=by exact rfl) (hdb:(x==("__debug__":Str))=false:=by decide) (he:starEach (e::es) X.env=(false,eval e X.env)::starEach es X.env:=by rfl) (hpl:(backTo pos (starEach es X.env)).any (·.1)=false:=by rfl):PE X (.Call (.Name x p) (e::es) [] pos) (nG sp [] E t):=bf C (hr.mono hm) hg hx ha hdb he hpl
theorem cO {P:Program} {w:World} {F:PySem.W.Frag} {mg:Str->Option Value} {base:Heap} {k:Nat} {x:Str} {ps:List Str} {sp:Sp} {st:Stmt} {N:List Str} (D:ar F mg x st) (S:aw N ps (aj st))
  (hbody:∀(f:Addr) (cdv:Value) (A:Around) (outer:List Env) (s:Shared) (H:Hp) (vs:List V) (Q:VK) (E:XK),bR k (A.deeper (envOfC x (aj st) s.heap.objs.size f cdv))->sp vs H Q E->∃ t,gK (eV aG P w F mg base N x (aj st) f cdv A outer s H E).kA (aP st) t/\t { nx:=λ_ H'=>Q .non H',rt:=Q } (start N vs) H)
  (hb:∀(kV doc pm:Value) (an:Option Addr) (cdv ct:Value) (us:List Value),us.length=ps.length->bindArgs (PySem.W.fnOf x x (bw st) (aP st) (aj st) .none kV doc pm an cdv ct) ⟨us,[]⟩=pure (ps.zip us):=by
    intro _ _ _ _ _ _ us hl
    first | (obtain⟨_,rfl⟩:=wX hl;exact rfl) | (obtain⟨_,_,rfl⟩:=tI hl;exact rfl) | (obtain⟨_,_,_,rfl⟩:=Bl hl;exact rfl) | (obtain⟨_,_,_,_,rfl⟩:=wY hl;exact rfl) | (obtain⟨_,_,_,_,_,rfl⟩:=Bm hl;exact rfl) | (obtain⟨_,_,_,_,_,_,rfl⟩:=Bn hl;exact rfl))
  (len:∀ vs H Q E,sp vs H Q E->vs.length=ps.length:=by
    intro _ _ _ _ h
    first | (obtain⟨_,rfl,_⟩:=h;rfl) | (obtain⟨_,_,rfl,_⟩:=h;rfl) | (obtain⟨_,_,_,rfl,_⟩:=h;rfl) | (obtain⟨_,_,_,_,rfl,_⟩:=h;rfl) | (obtain⟨_,_,_,_,_,rfl,_⟩:=h;rfl) | (obtain⟨_,_,_,_,_,_,rfl,_⟩:=h;rfl) | (obtain⟨_,_,_,_,_,_,_,rfl,_⟩:=h;rfl) | (obtain⟨_,_,_,_,_,_,_,_,rfl,_⟩:=h;rfl) | (obtain⟨_,_,_,_,_,_,_,_,_,rfl,_⟩:=h;rfl) | (obtain⟨_,_,_,_,_,_,_,_,_,_,rfl,_⟩:=h;rfl) | (obtain⟨_,_,_,_,_,_,_,_,_,_,_,rfl,_⟩:=h;rfl) | (obtain⟨_,_,_,_,_,_,_,_,_,_,_,_,rfl,_⟩:=h;rfl) | (obtain⟨_,_,_,_,_,_,_,_,_,_,_,_,_,rfl,_⟩:=h;rfl) | (obtain⟨_,_,_,_,_,_,_,_,_,_,_,_,_,_,rfl,_⟩:=h;rfl) | (obtain⟨_,_,_,_,_,_,_,_,_,_,_,_,_,_,_,rfl,_⟩:=h;rfl)):Callee P w F mg base aG (k+1) x ps sp:=uK D hb S len hbody
theorem cX {P:Program} {w:World} {F:PySem.W.Frag} {mg:Str->Option Value} {base:Heap} {k:Nat} {x:Str} {ps:List Str} {sp:Sp} {st:Stmt} {N:List Str} (D:ar F mg x st) (S:aw N ps (aj st))
  (hbody:∀(f:Addr) (cdv:Value) (A:Around) (outer:List Env) (s:Shared) (H:Hp) (vs:List V) (Q:VK) (E:XK),bR k (A.deeper (envOfC x (aj st) s.heap.objs.size f cdv))->sp vs H Q E->∃ t,gK (eV (dh P w) P w F mg base N x (aj st) f cdv A outer s H E) (aP st) t/\t { nx:=λ_ H'=>Q .non H',rt:=Q } (start N vs) H)
  (hb:∀(kV doc pm:Value) (an:Option Addr) (cdv ct:Value) (us:List Value),us.length=ps.length->bindArgs (PySem.W.fnOf x x (bw st) (aP st) (aj st) .none kV doc pm an cdv ct) ⟨us,[]⟩=pure (ps.zip us):=by
    intro _ _ _ _ _ _ us hl
    first | (obtain⟨_,rfl⟩:=wX hl;exact rfl) | (obtain⟨_,_,rfl⟩:=tI hl;exact rfl) | (obtain⟨_,_,_,rfl⟩:=Bl hl;exact rfl) | (obtain⟨_,_,_,_,rfl⟩:=wY hl;exact rfl) | (obtain⟨_,_,_,_,_,rfl⟩:=Bm hl;exact rfl) | (obtain⟨_,_,_,_,_,_,rfl⟩:=Bn hl;exact rfl))
  (len:∀ vs H Q E,sp vs H Q E->vs.length=ps.length:=by
    intro _ _ _ _ h
    first | (obtain⟨_,rfl,_⟩:=h;rfl) | (obtain⟨_,_,rfl,_⟩:=h;rfl) | (obtain⟨_,_,_,rfl,_⟩:=h;rfl) | (obtain⟨_,_,_,_,rfl,_⟩:=h;rfl) | (obtain⟨_,_,_,_,_,rfl,_⟩:=h;rfl) | (obtain⟨_,_,_,_,_,_,rfl,_⟩:=h;rfl) | (obtain⟨_,_,_,_,_,_,_,rfl,_⟩:=h;rfl) | (obtain⟨_,_,_,_,_,_,_,_,rfl,_⟩:=h;rfl) | (obtain⟨_,_,_,_,_,_,_,_,_,rfl,_⟩:=h;rfl) | (obtain⟨_,_,_,_,_,_,_,_,_,_,rfl,_⟩:=h;rfl) | (obtain⟨_,_,_,_,_,_,_,_,_,_,_,rfl,_⟩:=h;rfl) | (obtain⟨_,_,_,_,_,_,_,_,_,_,_,_,rfl,_⟩:=h;rfl) | (obtain⟨_,_,_,_,_,_,_,_,_,_,_,_,_,rfl,_⟩:=h;rfl) | (obtain⟨_,_,_,_,_,_,_,_,_,_,_,_,_,_,rfl,_⟩:=h;rfl) | (obtain⟨_,_,_,_,_,_,_,_,_,_,_,_,_,_,_,rfl,_⟩:=h;rfl)):Callee P w F mg base (dh P w) (k+1) x ps sp:=rK D hb S len hbody
end K
local macro_rules | `(tactic| k_data) => `(tactic| (iterate 2 ((try dsimp only [L2.aY, L2.EE, L2.BI, L2.uy, L2.yQ, L2.Fx, L2.vO, L2.tC, L2.ED, L2.rI, L2.vX, L2.rU, L2.FP, L2.BL, L2.vN, L2.cI, L2.fN, L2.EF, L2.EI, L2.EB, L2.FL, L2.Dh, L2.BG, L2.Es, L2.FN, L2.EC, L2.BC, L2.Fz, L2.BH, L2.tB, L2.Et, L2.BF, L2.jU, L2.wI, L2.nG, L2.AQ, L2.Di, L2.Bh, L2.Bi, L2.DU, L2.wO, L2.DV, L2.FO, L2.EG, L2.BJ, L2.uA, L2.yR, L2.FH, L2.FI, L2.FK, L2.Eu, L2.FZ, L2.Fd, L2.BD, L2.Bx, L2.BE, L2.oX, L2.Bg, L2.Cd, L2.DW, L2.Bj, L2.yS, L2.Dk, L2.Dj, L2.F0, L2.FA, L2.EH, L2.zO, L2.tG, L2.rm, L2.yP, L2.Ey, L2.Ej, L2.oF, L2.Ew, L2.uz, L2.yO, L2.yN, L2.yM, L2.AS, List.getElem?_cons_zero, List.getElem?_cons_succ, List.set_cons_zero, List.set_cons_succ, List.nil_append, List.cons_append, L2.DB, L2.FT, L2.DO]); (try simp only [Option.some.injEq, exists_eq_left', exists_and_left, List.cons.injEq, L2.V.int.injEq, L2.V.bl.injEq, and_true, true_and, and_assoc, decide_eq_true_eq, List.append_nil, Int.reduceToNat, Int.reducePow, Int.reduceLT, Int.reduceLE, Int.reduceNeg, Int.zero_add, Nat.reducePow, Nat.reduceLT, Int.reduceAdd, Int.reduceSub, Int.reduceMul, L2.V.ref.injEq, L2.aM, L2.yX, exists_eq_left, exists_eq', exists_eq, exists_const, L2.kR, L2.AH, L2.AJ, L2.AK, L2.AL, L2.AI, L2.AM, reduceIte, reduceCtorEq, Bool.not_eq_true', decide_eq_false_iff_not, Int.reduceAbs, Bool.not_true, Bool.not_false, if_true, Bool.false_eq_true, if_false, L2.BR]))))
namespace K
open PySem PySem.Spec PyProof.Rows L2
section
variable {P:Program} {w:World} {K:PySem.W.Frag} {mg:Str->Option Value} {base:Heap}
theorem v8 {i:Int} (h:(decide (i.natAbs<10^250))=true):Bd i:=Nat.lt_of_lt_of_le (of_decide_eq_true h) v9
def vQ (l:Addr) (i j:Int):HO:=.dK [(Sum.inr "cells",.ref l),(Sum.inr "spot",.int i),(Sum.inr "left",.int j)]
def Tp (p:Addr) (n:Nat) (H:Hp):Prop:=∃(l:Addr) (i j:Int) (ns:List Int),H p=some (vQ l i j)/\H l=some (.lst (ns.map V.int))/\ns.length<=63/\0<=i/\i<=n
def Off (p:Addr) (H H':Hp):Prop:=∀ b,b≠p->H' b=H b
def nK (p:Addr) (H H':Hp):Prop:=∀ b o,b≠p->H b=some o->H' b=some o
theorem Off.Br {p:Addr} {H H':Hp} (h:Off p H H'):nK p H H':=λb o n e=>by rw [h b n];exact e
theorem nK.trans {p:Addr} {H H1 H2:Hp} (h:nK p H H1) (h':nK p H1 H2):nK p H H2:=λb o n e=>h' b o n (h b o n e)
theorem Off.trans {p:Addr} {H H1 H2:Hp} (h:Off p H H1) (h':Off p H1 H2):Off p H H2:=λb n=>(h' b n).trans (h b n)
theorem nK.of {p:Addr} {H H':Hp} (h:aA H H'):nK p H H':=λb o _ e=>h b o e
theorem Off.Dp {p:Addr} {H:Hp} {o:HO}:Off p H (upd H p o):=λb n=>au n
theorem Tp.same {p:Addr} {n:Nat} {H H':Hp} (h:Tp p n H) (s:aA H H'):Tp p n H':=by
 obtain⟨l,i,j,ns,a,b,c⟩:=h
 exact⟨l,i,j,ns,s _ _ a,s _ _ b,c⟩
theorem Tp.ne {p b:Addr} {n:Nat} {H:Hp} {o:HO} (h:Tp p n H) (e:H b=some o) (z:∀ kvs,o≠.dK kvs):b≠p:=by
 obtain⟨l,i,j,ns,a,_⟩:=h
 exact h8 e a (z _)
theorem tK:∀{L:List V},(∀ x∈L,∃ c,x=V.int c)->∃ ns:List Int,L=ns.map V.int
 | [],_=>⟨[],rfl⟩
 | x::L,h=>by
  obtain⟨c,e⟩:=h x (List.mem_cons_self ..)
  obtain⟨ns,z⟩:=tK (L:=L) λy hy=>h y (List.mem_cons_of_mem _ hy)
  exact⟨c::ns,by rw [e,z];rfl⟩
theorem we {ns:List Int} {lo hi:Option Int}:∃ ns':List Int,gZ (ns.map V.int) lo hi=ns'.map V.int/\ns'.length<=ns.length:=by
 obtain⟨ns',e⟩:=tK (L:=gZ (ns.map V.int) lo hi) λx hx=>by
  unfold gZ at hx
  obtain⟨c,_,e⟩:=List.mem_map.mp (List.mem_of_mem_drop (List.mem_of_mem_take hx))
  exact⟨c,e.symm⟩
 refine⟨ns',e,?_⟩
 have:=fQ (ns.map V.int) lo hi
 rw [e,List.length_map,List.length_map] at this
 exact this
def yG (K:PySem.W.Frag):Sp:=λvs H Q _=>∃(a:Addr) (ns:List Int),vs=[.ref a]/\aO K H a (ns.map V.int)/\ns.length<=63/\∀ p H',aA H H'->H p=none->Tp p 0 H'->Q (.ref p) H'
theorem jc:aw ["_law_script"] ["_law_script"] (aj (top 82)):=cq
theorem Ai (D:ar K mg "_law_tape" (top 82)):Callee P w K mg base aG 1 "_law_tape" ["_law_script"] (yG K):=by
 refine cO D jc (λf cdv A outer s H vs Q E hr h=>?_)
 obtain⟨a,ns,rfl,hS,h63,q⟩:=h
 have nd:=jc.nd
 refine⟨_,(ai (av (Ao (lJ bL (i6 oI (pv 0) kQ (gR ah)) (lJ bL ah (lJ bL ah Av))) rfl rfl (by intro z;cases z) (by decide)))),?_⟩
 show fN _ _ [some (.ref a)] H
 k_data
 intro p hp
 have s1:=ak (o:=.dK []) hp
 refine⟨a,_,rfl,hS.same s1,λpl hpl=>⟨?_,[(Sum.inr "cells",.ref pl),(Sum.inr "spot",.int 0),(Sum.inr "left",.int 0)],rfl,by show 3<=15;decide,?_⟩⟩
 ·rw [au (br ag hpl),ag]
 ·obtain⟨ns',e1,e2⟩:=we (ns:=ns) (lo:=none) (hi:=some 63)
  have nep:pl≠p:=λz=>by rw [z,ag] at hpl;cases hpl
  rw [e1]
  exact q p _ ((s1.trans (ak hpl)).upd hp) hp ⟨pl,0,0,ns',ag,by rw [au nep,ag],by omega,by decide,by decide⟩
section
variable {H:Hp} {p l:Addr} {i j i' j':Int}
theorem oY (h:H p=some (vQ l i j)):fb H p (.str "left") (some (.int j)):=fb.k (k:=Sum.inr "left") h
theorem AV (h:H p=some (vQ l i j)):fb H p (.str "spot") (some (.int i)):=fb.k (k:=Sum.inr "spot") h
theorem yV (h:H p=some (vQ l i j)):fb H p (.str "cells") (some (.ref l)):=fb.k (k:=Sum.inr "cells") h
theorem ro (h:H p=some (vQ l i j)):l5 H p (.str "left") (.int j') (upd H p (vQ l i j')):=.inl ⟨_,Sum.inr "left",h,rfl,by show 3<sizeLine;decide,rfl⟩
theorem yW (h:H p=some (vQ l i j)):l5 H p (.str "spot") (.int i') (upd H p (vQ l i' j)):=.inl ⟨_,Sum.inr "spot",h,rfl,by show 3<sizeLine;decide,rfl⟩
end
def iK:Sp:=λvs H Q _=>∃(p:Addr) (m:Int) (n:Nat),vs=[.ref p,.int m]/\Tp p n H/\n<=10^60/\0<m/\m<10^200/\∀ r H',0<=r->r<m->Off p H H'->Tp p (n+1) H'->Q (.int r) H'
theorem ja:aw ["_law_tape_here","_law_many","_law_found","_law_spot","_law_cells","_law_cell","_law_seed"] ["_law_tape_here","_law_many"] (aj (top 83)):=cq
theorem z6 (D:ar K mg "_law_draw" (top 83)) (n_len:mg "len"=none):Callee P w K mg base aG 1 "_law_draw" ["_law_tape_here","_law_many"] iK:=by
 refine cO D ja (λf cdv A outer s H vs Q E hr h=>?_)
 obtain⟨p,m,n,rfl,⟨l,i,j,ns,hp,hl,h63,i0,i1⟩,hn,m0,m1,q⟩:=h
 have nd:=ja.nd
 refine⟨_,(ae (aN (az cJ (gP (d7 hr) (pv 0) bL (λ_ _=>rfl)) ah (ay _)) (ae (bh (i:=2) nd (ao aF (gP (d7 hr) (pv 0) bL (λ_ _=>rfl)) (pv 1))) (ae (i8 (d7 hr) (pv 0) bL (ao aZ (gP (d7 hr) (pv 0) bL (λ_ _=>rfl)) (pv 1)) rfl) (ai (av (pv 2))))) aD) (ae (bh (i:=3) nd (gP (d7 hr) (pv 0) bL (λ_ _=>rfl))) (ae (i8 (d7 hr) (pv 0) bL (ao bE (pv 3) ah) rfl) (ae (bh (i:=4) nd (gP (d7 hr) (pv 0) bL (λ_ _=>rfl))) (ae (bh (i:=5) nd ah) (ae (iG (aN (az cJ (aC bp rfl n_len PySem.boot_len (aa (pv 4) af)) ah (ay _)) (ai (bh (i:=5) nd (aJ fA (pv 4) (ao aF (pv 3) (aC bp rfl n_len PySem.boot_len (aa (pv 4) af))) (λ_ _=>rfl)))) aD)) (ae (aN (PW.pt (gj (az cJ (pv 5) ah (ay _)) (gj (az a9 (ao aF (pv 5) ah) ah (ay _)) (gS (az dJ (pv 3) (aC bp rfl n_len PySem.boot_len (aa (pv 4) af)) (ay _)))))) (ae (i8 (d7 hr) (pv 0) bL (ao aZ (ao aZ (pv 5) ah) (pv 1)) rfl) (ai (av (ao aF (ao aZ (pv 5) ah) (pv 1))))) aD) (ae (bh (i:=6) nd (ao aF (ao aH (ao bE (ao bE (ao bE (ao aF (pv 5) ah) (ao aH (ao aH ah (pv 3)) (pv 3))) (ao aH ah (pv 3))) ah) ah) ah)) (ai (av (ao aF (ao aZ (ao aF (ao aH (pv 6) (ao bE (pv 6) ah)) ah) ah) (pv 1)))))))))))),?_⟩
 show aY _ _ _ [some (.ref p),some (.int m),none,none,none,none,none] H
 k_data
 have lp:l≠p:=h8 hl hp (by intro z;cases z)
 have mb:Bd m:=Bd.of (by omega) (by omega)
 have em:=λx:Int=>Int.emod_nonneg x (show m≠0 by omega)
 have el:=λx:Int=>Int.emod_lt_of_pos x m0
 refine⟨_,oY hp,j,rfl,aK (λc=>?_) (λc=>?_)⟩
 ·exact⟨_,oY hp,j,rfl,m0,_,oY hp,j,rfl,m0,mb,_,ro hp,q _ _ (em _) (el _) Off.Dp ⟨l,i,_,ns,ag,by rw [au lp];exact hl,h63,i0,by omega⟩⟩
 ·refine⟨_,AV hp,i,rfl,_,yW hp,_,yV ag,?_⟩
  have hp1:upd H p (vQ l (i+1) j) p=some (vQ l (i+1) j):=ag
  have hl1:upd H p (vQ l (i+1) j) l=some (.lst (ns.map V.int)):=by rw [au lp];exact hl
  have of1:Off p H (upd H p (vQ l (i+1) j)):=Off.Dp
  generalize upd H p (vQ l (i+1) j)=H1 at *
  refine⟨λσ' H'=>H'=H1/\∃ c,σ'=[some (.ref p),some (.int m),none,some (.int i),some (.ref l),some (.int c),none],?_,?_⟩
  ·k_data
   refine cM (aO.of hl1) ⟨_,rfl,?_⟩
   rw [List.length_map]
   refine aK (λc1=>?_) (λc1=>rfl)
   refine cM (aO.of hl1) ?_
   rw [List.length_map]
   have r0:=Int.emod_nonneg i (show (ns.length:Int)≠0 by omega)
   have r1:=Int.emod_lt_of_pos i c1
   refine⟨_,rfl,c1,kL (aO.of hl1) r0 (by rw [List.length_map];exact r1) λv hv=>?_⟩
   obtain⟨x,_,rfl⟩:=List.mem_map.mp hv
   exact⟨rfl,x,rfl⟩
  ·rintro σ' H' ⟨rfl,c',rfl⟩
   k_data
   have ib:i<=10^60:=by omega
   have ii:7919*i*i<=7919*i*10^60:=Int.mul_le_mul_of_nonneg_left ib (by omega)
   have i2:0<=7919*i*i:=Int.mul_nonneg (by omega) i0
   have c0:=Int.emod_nonneg c' (show (2147483629:Int)≠0 by decide)
   have c1:=Int.emod_lt_of_pos c' (show (0:Int)<2147483629 by decide)
   have sd:∀ z:Int,0<=z%2147483647/\z%2147483647<2147483647:=λz=>⟨Int.emod_nonneg z (by decide),Int.emod_lt_of_pos z (by decide)⟩
   have T1:Tp p (n+1) H':=⟨l,i+1,j,ns,hp1,hl1,h63,by omega,by omega⟩
   have fin:Bd 7919/\Bd i/\Bd (7919*i)/\Bd i/\Bd 48271/\Bd i/\Bd (c'%2147483629+7919*i*i+48271*i+1)/\Bd 69621/\Bd ((c'%2147483629+7919*i*i+48271*i+1)*69621%2147483647)/\Bd ((c'%2147483629+7919*i*i+48271*i+1)*69621%2147483647+16807)/\Bd 64/\0<m:=by
    have s1:=sd ((c'%2147483629+7919*i*i+48271*i+1)*69621)
    exact⟨v8 (by decide),Bd.of (by omega) (by omega),Bd.of (by omega) (by omega),Bd.of (by omega) (by omega),v8 (by decide),Bd.of (by omega) (by omega),Bd.of (by omega) (by omega),v8 (by decide),Bd.of (by omega) (by omega),Bd.of (by omega) (by omega),v8 (by decide),m0⟩
   obtain⟨f1,f2,f3,f4,f5,f6,f7,f8,f9,f10,f11,f12⟩:=fin
   have fq:∀ x,Q (V.int (x%m)) H':=λx=>q _ _ (em _) (el _) of1 T1
   refine aK (λc2=>aK (λc3=>?_) (λc3=>⟨f1,f2,f3,f4,f5,f6,f7,f8,f9,f10,f11,f12,fq _⟩)) (λc2=>⟨f1,f2,f3,f4,f5,f6,f7,f8,f9,f10,f11,f12,fq _⟩)
   refine cM (aO.of hl1) ⟨_,rfl,aK (λc4=>⟨v8 (by decide),m0,mb,_,ro hp1,v8 (by decide),m0,?_⟩) (λc4=>⟨f1,f2,f3,f4,f5,f6,f7,f8,f9,f10,f11,f12,fq _⟩)⟩
   exact q _ _ (em _) (el _) (of1.trans Off.Dp) ⟨l,i+1,_,ns,ag,by rw [au lp];exact hl1,h63,by omega,by omega⟩
end
end K
namespace K
open PySem PySem.Spec PyProof.Rows L2
section
variable {P:Program} {w:World} {K:PySem.W.Frag} {mg:Str->Option Value} {base:Heap}
def jR (a:Int):Prop := -(10^240)<=a/\a<=10^240
theorem jR.bd {a:Int} (h:jR a):Bd a:=Bd.of (by have:=h.1;omega) (by have:=h.2;omega)
def dY:Sp:=λvs H Q _=>∃ a b:Int,vs=[.int a,.int b]/\jR a/\jR b/\∀ g u v p H',Gcd.BN a b g u v->aA H H'->H' p=some (.tup [.int g,.int u,.int v])->Q (.ref p) H'
theorem lQ:aw ["a","b","g","u","v","next_g","next_u","next_v","times"] ["a","b"] (aj (top 10)):=cq
structure DS where
 (g u v ng nu nv:Int)
 t:Option V
theorem r8 (D:ar K mg "divisor" (top 10)) (n_abs:mg "abs"=none):Callee P w K mg base aG 1 "divisor" ["a","b"] dY:=by
 refine cO D lQ (λf cdv A outer s H vs Q E hr h=>?_)
 obtain⟨a,b,rfl,ha,hb,q⟩:=h
 have nd:=lQ.nd
 refine⟨_,(ae (tX (i:=2) (j:=3) (k:=4) rfl nd rfl rfl rfl (by decide) (by decide) (by decide) rfl rfl rfl (aa (aC k9 rfl n_abs L2.boot_abs (aa (pv 0) af)) (aa ah (aa ah af))) rfl) (ae (tX (i:=5) (j:=6) (k:=7) rfl nd rfl rfl rfl (by decide) (by decide) (by decide) rfl rfl rfl (aa (aC k9 rfl n_abs L2.boot_abs (aa (pv 1) af)) (aa ah (aa ah af))) rfl) (ae (bj PassesOwn.never (az cJ (pv 5) ah (ay _)) (ae (bh (i:=8) nd (ao aZ (pv 2) (pv 5))) (ae (oA (i:=2) (j:=5) rfl nd rfl rfl (by decide) rfl rfl (aa (pv 5) (aa (ao bI (pv 2) (ao aH (pv 8) (pv 5))) af)) rfl) (ae (oA (i:=3) (j:=6) rfl nd rfl rfl (by decide) rfl rfl (aa (pv 6) (aa (ao bI (pv 3) (ao aH (pv 8) (pv 6))) af)) rfl) (ai (oA (i:=4) (j:=7) rfl nd rfl rfl (by decide) rfl rfl (aa (pv 7) (aa (ao bI (pv 4) (ao aH (pv 8) (pv 7))) af)) rfl)))))) (ai (av (aI (aa (pv 2) (aa (eA (az dJ (pv 0) ah (ay _)) (j3 gI (pv 3)) (pv 3)) (aa (eA (az dJ (pv 1) ah (ay _)) (j3 gI (pv 4)) (pv 4)) af))))))))),?_⟩
 show aY _ _ _ [some (.int a),some (.int b),none,none,none,none,none,none,none] H
 k_data
 have hA:0<=(if a<0 then -a else a)/\(if a<0 then -a else a)<=10^240:=by have:=ha.1;have:=ha.2;split<;>omega
 have hB:0<=(if b<0 then -b else b)/\(if b<0 then -b else b)<=10^240:=by have:=hb.1;have:=hb.2;split<;>omega
 refine bo (α:=DS) (λx=>[some (.int a),some (.int b),some (.int x.g),some (.int x.u),some (.int x.v),some (.int x.ng),some (.int x.nu),some (.int x.nv),x.t])
  (λx H'=>H'=H/\Gcd.J (if a<0 then -a else a) (if b<0 then -b else b) x.g x.u x.v x.ng x.nu x.nv/\x.g<=10^240/\x.ng<=10^240) (λx=>x.ng.toNat)
  ⟨_,1,0,_,0,1,none⟩ rfl ⟨rfl,Gcd.J.start hA.1 hB.1,hA.2,hB.2⟩ ?_
 rintro x H1 ⟨rfl,j,hg,hng⟩
 k_data
 refine aK (λc=>?_) (λc=>?_)
 ·refine⟨_,λ_ _ z=>z,?_⟩
  obtain⟨s1,s2,s3,s4⟩:=j.small hA.1 hB.1 hA.2 hB.2 (by omega)
  obtain⟨j',l,q0,ql⟩:=j.turn c
  have bg:jR x.ng:=⟨by omega,hng⟩
  have bq:jR (x.g/x.ng):=⟨by omega,by omega⟩
  refine⟨c,bg.bd,bq.bd,bg.bd,bq.bd,jR.bd s3,bq.bd,jR.bd s4,⟨x.ng,x.nu,x.nv,x.g-x.g/x.ng*x.ng,x.u-x.g/x.ng*x.nu,x.v-x.g/x.ng*x.nv,some (.int (x.g/x.ng))⟩,rfl,rfl,j',hng,by show (x.g-x.g/x.ng*x.ng)<=_;omega,by show (x.g-x.g/x.ng*x.ng).toNat<x.ng.toNat;omega⟩
 ·have e:x.ng=0:=by have:=j.n0;omega
  rw [e] at j
  have z:=j.done
  refine aK (λca=>?_) (λca=>?_)<;>simp only [ca,if_true,if_false] at z ⊢<;>refine aK (λcb=>?_) (λcb=>?_)<;>simp only [cb,if_true,if_false] at z ⊢ <;>
   exact⟨by show 3<=sizeLine;decide,λp hp=>q _ _ _ p _ z (ak hp) ag⟩
end
end K
namespace K
open PySem PySem.Spec PyProof.Rows L2
structure Gd (n a g:Int):Prop where
 pos:0<g
 dn:g∣n
 da:g∣a
 gr:∀ d:Int,d∣n->d∣a->d∣g
theorem Gd.one {n a g g':Int} (h:Gd n a g) (h':Gd n a g'):g=g' :=
 Int.le_antisymm (Int.le_of_dvd h'.pos (h'.gr g h.dn h.da)) (Int.le_of_dvd h.pos (h.gr g' h'.dn h'.da))
theorem pT {n a g:Int} (dn:g∣n):g∣a%n↔g∣a:=by
 have e:=Int.mul_ediv_add_emod a n
 constructor
 ·intro h
  rw [<- e]
  exact Int.dvd_add (Int.dvd_mul_of_dvd_left dn) h
 ·intro h
  have:a%n=a-n*(a/n):=by omega
  rw [this]
  exact Int.dvd_sub h (Int.dvd_mul_of_dvd_left dn)
theorem Gd.of {n a g u v:Int} (hn:0<n) (z:Gcd.BN (a%n) n g u v):Gd n a g:=by
 refine⟨?_,z.db,(pT z.db).mp z.da,λd h1 h2=>?_⟩
 ·have:=z.g0
  rcases (by omega:g=0∨0<g) with e | e
  ·have:=z.db
   rw [e] at this
   have:=Int.zero_dvd.mp this
   omega
  ·exact e
 ·rw [<- z.lin]
  exact Int.dvd_add (Int.dvd_mul_of_dvd_right ((pT h1).mpr h2)) (Int.dvd_mul_of_dvd_right h1)
theorem Cf {n a u v:Int} (hn:0<n) (z:Gcd.BN (a%n) n 1 u v):n∣u%n*a-1:=by
 have e:=z.lin
 have e1:=Int.mul_ediv_add_emod a n
 have e2:=Int.mul_ediv_add_emod u n
 refine⟨u*(a/n)-v-u/n*a,?_⟩
 generalize a%n=x at *
 generalize u%n=y at *
 generalize a/n=s at *
 generalize u/n=t at *
 grind
section
variable {P:Program} {w:World} {K:PySem.W.Frag} {mg:Str->Option Value} {base:Heap}
def dZ (C:Addr):Sp:=λvs H Q E=>∃ n a:Int,vs=[.int n,.int a]/\0<n/\n<=10^240/\∀ g,Gd n a g ->
 (g=1->∀ r H',0<=r->r<n->n∣r*a-1->aA H H'->Q (.int r) H') /\
 (1<g->∀ x dx H',aA H H'->H x=none->H' x=some (XO x C (some dx))->H' dx=some (.xd [("divisor",.int g)])->E (.ref C) (some x) H')
theorem lR:aw ["n","a","g","u","v"] ["n","a"] (aj (top 11)):=cq
theorem sf {C:Addr} (D:ar K mg "inverse" (top 11)) (c_divisor:Callee P w K mg base aG 1 "divisor" ["a","b"] dY) (x_NoInverse:nL P w K mg base "NoInverse" C "divisor"):Callee P w K mg base (dh P w) 3 "inverse" ["n","a"] (dZ C):=by
 refine cX D lR (λf cdv A outer s H vs Q E hr h=>?_)
 obtain⟨n,a,rfl,hn,hn1,q⟩:=h
 have nd:=lR.nd
 refine⟨_,(ae (cR (aV c_divisor hr aB (aa (ao aF (pv 1) (pv 0)) (aa (pv 0) af))) (bT (n:=3) rfl (ax (aq (i:=2) nd rfl (Or.inl rfl) (.inr rfl)) (ax (aq (i:=3) nd rfl (Or.inl rfl) (.inr rfl)) (ax (aq (i:=4) nd rfl (Or.inl rfl) (.inr rfl)) aR))))) (ae (aN (az cJ (pv 2) ah (ay _)) (ai (cz (jM x_NoInverse (hr.mono (by decide)) rfl (aa (pv 2) af)))) aD) (gK.kA (ai (av (ao aF (pv 3) (pv 0))))))),?_⟩
 show aY _ _ _ [some (.int n),some (.int a),none,none,none] H
 k_data
 have r0:=Int.emod_nonneg a (show n≠0 by omega)
 have r1:=Int.emod_lt_of_pos a hn
 refine⟨hn,a%n,n,rfl,⟨by omega,by omega⟩,⟨by omega,by omega⟩,λg u v p H1 z hs hh=>?_⟩
 have G:=Gd.of hn z
 obtain⟨q1,q2⟩:=q g G
 refine⟨p,_,rfl,bG.of hh,rfl,?_⟩
 k_data
 refine aK (λc=>?_) (λc=>?_)
 ·intro x dx hx hdx ne
  have ne':dx≠x:=ne
  refine⟨C,some dx,ag,x_NoInverse.cls,?_,?_⟩
  ·cases e:H x with
   | none=>rfl
   | some o=>rw [hs _ _ e] at hx;cases hx
  ·refine q2 c x dx _ ?_ ?_ ag ?_
   ·intro b o e
    have e1:=hs _ _ e
    have bx:b≠x:=λy=>by rw [y,hx] at e1;cases e1
    have bd:b≠dx:=λy=>by rw [y,hdx] at e1;cases e1
    rw [au bx,au bx,au bd,au bx]
    exact e1
   ·cases e:H x with
    | none=>rfl
    | some o=>rw [hs _ _ e] at hx;cases hx
   ·rw [au ne',au ne',ag]
 ·have g1:g=1:=by have:=G.pos;omega
  subst g1
  exact⟨hn,q1 rfl _ _ (Int.emod_nonneg _ (by omega)) (Int.emod_lt_of_pos _ hn) (Cf hn z) hs⟩
end
end K
namespace K
open PySem PySem.Spec PyProof.Rows L2
section
variable {P:Program} {w:World} {K:PySem.W.Frag} {mg:Str->Option Value} {base:Heap}
def cG (C:Addr):Sp:=λvs H Q E=>∃ n a e:Int,vs=[.int n,.int a,.int e]/\0<n/\n<=10^120 /\
 (0<=e->∀ H',aA H H'->Q (.int (a^e.toNat%n)) H') /\
 (e<0->∀ g,Gd n a g ->
  (g=1->∀ b H',0<=b->b<n->n∣b*a-1->aA H H'->Q (.int (b^(-e).toNat%n)) H') /\
  (1<g->∀ x dx H',aA H H'->H x=none->H' x=some (XO x C (some dx))->H' dx=some (.xd [("divisor",.int g)])->E (.ref C) (some x) H'))
theorem qQ:aw ["n","a","e","base","left","rest"] ["n","a","e"] (aj (top 22)):=cq
theorem xH {C:Addr} (D:ar K mg "power" (top 22)) (c_inverse:Callee P w K mg base (dh P w) 3 "inverse" ["n","a"] (dZ C)) (n_abs:mg "abs"=none):Callee P w K mg base (dh P w) 4 "power" ["n","a","e"] (cG C):=by
 refine cX D qQ (λf cdv A outer s H vs Q E hr h=>?_)
 obtain⟨n,a,e,rfl,hn,hn1,q1,q2⟩:=h
 have nd:=qQ.nd
 refine⟨_,(ae (bh (i:=3) nd (ao aF (pv 1) (pv 0))) (ae (iG (aN (az dJ (pv 2) ah (ay _)) (ai (bh (i:=3) nd (aV c_inverse hr lF (aa (pv 0) (aa (pv 1) af))))) aD)) (gK.kA (ae (bh (i:=4) nd (aC k9 rfl n_abs L2.boot_abs (aa (pv 2) af))) (ae (bh (i:=5) nd (ao aF ah (pv 0))) (ae (bj PassesOwn.never (az cJ (pv 4) ah (ay _)) (ae (iG (aN (az a9 (ao aF (pv 4) ah) ah (ay _)) (ai (bh (i:=5) nd (ao aF (ao aH (pv 5) (pv 3)) (pv 0)))) aD)) (ae (bh (i:=3) nd (ao aF (ao aH (pv 3) (pv 3)) (pv 0))) (ai (c6 (i:=4) nd rfl (Or.inl rfl) ah (eJ iY)))))) (ai (av (pv 5))))))))),?_⟩
 show aY _ _ _ [some (.int n),some (.int a),some (.int e),none,none,none] H
 k_data
 refine⟨hn,λσ' H'=>aA H H'/\∃ b:Int,σ'=[some (.int n),some (.int a),some (.int e),some (.int b),none,none]/\0<=b/\b<n/\Q (.int (b^e.natAbs%n)) H',?_,?_⟩
 ·k_data
  refine aK (λc=>?_) (λc=>?_)
  ·refine⟨n,a,rfl,hn,by omega,λg G=>⟨λe1 r H' r0 r1 r2 hs=>?_,λg1 x dx H' hs hx hX hd=>?_⟩⟩
   ·have:=(q2 c g G).1 e1 r H' r0 r1 r2 hs
    rw [show (-e).toNat=e.natAbs by omega] at this
    exact⟨hs,r,rfl,r0,r1,this⟩
   ·exact (q2 c g G).2 g1 x dx H' hs hx hX hd
  ·have:=q1 (by omega) H (aA.refl _)
   rw [show e.toNat=e.natAbs by omega,<- Pw.lI] at this
   exact⟨aA.refl _,Int.emod_nonneg _ (by omega),Int.emod_lt_of_pos _ hn,this⟩
 ·rintro σ' H' ⟨hs,b,rfl,hb0,hb1,q⟩
  k_data
  refine⟨hn,?_⟩
  have ee:(if e<0 then -e else e)=(e.natAbs:Int):=by split<;>omega
  rw [ee]
  refine bo (α:=Int × Nat × Int) (λx=>[some (.int n),some (.int a),some (.int e),some (.int x.1),some (.int x.2.1),some (.int x.2.2)]) (λx H1=>H1=H'/\0<=x.1/\x.1<n/\0<=x.2.2/\x.2.2<n/\x.2.2*x.1^x.2.1%n=b^e.natAbs%n) (λx=>x.2.1) (b,e.natAbs,1%n) rfl ⟨rfl,hb0,hb1,Int.emod_nonneg _ (by omega),Int.emod_lt_of_pos _ hn,?_⟩ ?_
  ·show 1%n*b^e.natAbs%n=_
   rw [Pw.Bp,Int.one_mul]
  rintro⟨b',l,r⟩ H1 ⟨rfl,h1,h2,h3,h4,h5⟩
  replace h1:0<=b':=h1
  replace h2:b'<n:=h2
  replace h3:0<=r:=h3
  replace h4:r<n:=h4
  replace h5:r*b'^l%n=b^e.natAbs%n:=h5
  k_data
  refine aK (λc=>?_) (λc=>?_)
  ·refine⟨_,λ_ _ z=>z,λσ' H2=>H2=H1/\σ'=[some (.int n),some (.int a),some (.int e),some (.int b'),some (.int l),some (.int (if l%2=1 then r*b'%n else r))],?_,?_⟩
   ·k_data
    refine aK (λc=>?_) (λc=>?_)
    ·exact⟨Bd.of (by omega) (by omega),Bd.of (by omega) (by omega),hn,by rw [if_pos (by omega)]⟩
    ·rw [if_neg (by omega)]
   rintro σ' H2 ⟨rfl,rfl⟩
   k_data
   have r0:0<=(if l%2=1 then r*b'%n else r)/\(if l%2=1 then r*b'%n else r)<n:=by
    split
    ·exact⟨Int.emod_nonneg _ (by omega),Int.emod_lt_of_pos _ hn⟩
    ·exact⟨h3,h4⟩
   refine⟨Bd.of (by omega) (by omega),Bd.of (by omega) (by omega),hn,v8 (by decide),(b'*b'%n,l/2,if l%2=1 then r*b'%n else r),rfl,(by show (l:Int)/2=((l/2:Nat):Int);omega),rfl,Int.emod_nonneg _ (by omega),Int.emod_lt_of_pos _ hn,r0.1,r0.2,?_,?_⟩
   ·show (if l%2=1 then r*b'%n else r)*(b'*b'%n)^(l/2)%n=_
    rw [Pw.step]
    exact h5
   ·show l/2<l
    omega
  ·have l0:l=0:=by omega
   subst l0
   rw [Int.pow_zero,Int.mul_one] at h5
   have h6:r%n=r:=Int.emod_eq_of_lt h3 h4
   rw [<- h5,h6] at q
   exact q
def sJ:Sp:=λvs H Q _=>∃ n k:Int,vs=[.int n,.int k]/\2<=n/\n<=10^120/\k<=10^120/\Ld.Inv n k/\∀ r,Ld.jS n r->Q (.int r) H
theorem df:aw ["n","start","number"] ["n","start"] (aj (top 44)):=cq
theorem z9 (D:ar K mg "least_divisor_from" (top 44)):Callee P w K mg base aG 1 "least_divisor_from" ["n","start"] sJ:=by
 refine cO D df (λf cdv A outer s H vs Q E hr h=>?_)
 obtain⟨n,k,rfl,hn,hn1,hk1,hk,q⟩:=h
 have nd:=df.nd
 refine⟨_,(ae (bh (i:=2) nd (pv 1)) (ae (bj PassesOwn.never (az qz (ao aH (pv 2) (pv 2)) (pv 0) (ay _)) (ae (aN (az a9 (ao aF (pv 0) (pv 2)) ah (ay _)) (ai (av (pv 2))) aD) (ai (c6 (i:=2) nd rfl (Or.inl rfl) (eA (az a9 (pv 2) ah (ay _)) ah ah) (eJ gN))))) (ai (av (pv 0))))),?_⟩
 show aY _ _ _ [some (.int n),some (.int k),none] H
 k_data
 refine bo (α:=Int) (λx=>[some (.int n),some (.int k),some (.int x)]) (λx H1=>H1=H/\Ld.Inv n x/\x<=10^120+2) (λx=>(n+2-x).toNat) k rfl ⟨rfl,hk,by omega⟩ ?_
 rintro x H1 ⟨rfl,hx,hx1⟩
 have x2:=hx.two
 k_data
 refine⟨Bd.of (by omega) (by omega),Bd.of (by omega) (by omega),?_⟩
 refine aK (λc=>?_) (λc=>?_)
 ·have xn:x<=n:=by
   have:=Int.mul_le_mul_of_nonneg_left (show 1<=x by omega) (show 0<=x by omega)
   omega
  have st:=λz=>hx.step (k:=x) z
  refine⟨λσ' H'=>H'=H1/\∃ y,y=(x+if x=2 then 1 else 2)/\¬x∣n/\σ'=[some (V.int n),some (V.int k),some (V.int y)],?_,by omega,?_⟩
  ·rintro σ' H' ⟨rfl,y,hy,nd',rfl⟩
   refine⟨y,rfl,rfl,by rw [hy];exact st nd',?_,?_⟩
   ·split at hy<;>omega
   ·split at hy<;>omega
  refine aK (λc2=>?_) (λc2=>?_)
  ·exact q x (hx.found (Int.dvd_of_emod_eq_zero c2))
  have nd':¬x∣n:=λz=>c2 (Int.emod_eq_zero_of_dvd z)
  refine aK (λc3=>?_) (λc3=>?_)
  ·exact⟨rfl,_,by rw [if_pos c3],nd',rfl⟩
  ·exact⟨rfl,_,by rw [if_neg c3],nd',rfl⟩
 ·exact q n (hx.done hn (by omega))
def oO (c1 c2:Addr):Sp:=λvs H Q E=>∃ n:Int,vs=[.int n]/\(n<2->Ds c1 H E)/\(10^9<n->zh c2 "part" (.int n) H E)/\(2<=n->n<=10^9->∀ r,Ld.jS n r->Q (.int r) H)
theorem fu:aw ["n"] ["n"] (aj (top 43)):=cq
theorem xB {c1 c2:Addr} (D:ar K mg "least_divisor" (top 43)) (c_least_divisor_from:Callee P w K mg base aG 1 "least_divisor_from" ["n","start"] sJ) (x_NoNumber:rF K mg "NoNumber" c1) (x_TooFar:nL P w K mg base "TooFar" c2 "part")
  (g_GREATEST:∃ t,mg "GREATEST"=some (.int 1000000000 t)):Callee P w K mg base (dh P w) 3 "least_divisor" ["n"] (oO c1 c2):=by
 refine cX D fu (λf cdv A outer s H vs Q E hr h=>?_)
 obtain⟨n,rfl,q1,q2,q3⟩:=h
 obtain⟨tk,g_GREATEST⟩:=g_GREATEST
 have nd:=fu.nd
 refine⟨_,(ae (aN (az dJ (pv 0) ah (ay _)) (ai (cz (lH x_NoNumber rfl))) aD) (ae (aN (az cJ (pv 0) (i5 (v:=.int 1000000000) rfl g_GREATEST ⟨_,rfl⟩) (ay _)) (ai (cz (jM x_TooFar (hr.mono (by decide)) rfl (aa (pv 0) af)))) aD) (gK.kA (ai (av (aV c_least_divisor_from hr aB (aa (pv 0) (aa ah af)))))))),?_⟩
 show aY _ _ _ [some (.int n)] H
 k_data
 refine aK (λc=>?_) (λc=>?_)
 ·exact λx hx=>dU x_NoNumber.cls (aA.refl _) hx (q1 c)
 refine aK (λc'=>?_) (λc'=>?_)
 ·exact λx dx hx hdx ne=>gM x_TooFar.cls (aA.refl _) hx hdx ne (q2 (by omega))
 exact⟨n,2,rfl,by omega,by omega,by omega,⟨by omega,.inl rfl,λd d0 d1=>by omega⟩,q3 (by omega) (by omega)⟩
def kB (p:Int × Int):PyData:=.tuple [.int p.1,.int p.2]
def lX (K:PySem.W.Frag) (c1 c2:Addr):Sp:=λvs H Q E=>∃ n:Int,vs=[.int n]/\(n<1->Ds c1 H E)/\(10^9<n->zh c2 "part" (.int n) H E)/\(1<=n->n<=10^9->∀ ps us p H',Num.Part n ps->ps.length<=29->aA H H'->H p=none->H' p=some (.lst us)->aQ K H' (ps.map kB) us->Q (.ref p) H')
theorem nh:aw ["n","parting","left","prime","many"] ["n"] (aj (top 45)):=cq
theorem vf {c1 c2:Addr} (D:ar K mg "parted" (top 45)) (c_least_divisor_from:Callee P w K mg base aG 1 "least_divisor_from" ["n","start"] sJ) (x_NoNumber:rF K mg "NoNumber" c1) (x_TooFar:nL P w K mg base "TooFar" c2 "part")
  (g_GREATEST:∃ t,mg "GREATEST"=some (.int 1000000000 t)):Callee P w K mg base (dh P w) 3 "parted" ["n"] (lX K c1 c2):=by
 refine cX D nh (λf cdv A outer s H vs Q E hr h=>?_)
 obtain⟨n,rfl,q1,q2,q3⟩:=h
 obtain⟨tk,g_GREATEST⟩:=g_GREATEST
 have nd:=nh.nd
 refine⟨_,(ae (aN (az dJ (pv 0) ah (ay _)) (ai (cz (lH x_NoNumber rfl))) aD) (ae (aN (az cJ (pv 0) (i5 (v:=.int 1000000000) rfl g_GREATEST ⟨_,rfl⟩) (ay _)) (ai (cz (jM x_TooFar (hr.mono (by decide)) rfl (aa (pv 0) af)))) aD) (gK.kA (ae (bh (i:=1) nd (cf af)) (ae (bh (i:=2) nd (pv 0)) (ae (bh (i:=3) nd ah) (ae (bj PassesOwn.never (az cJ (pv 2) ah (ay _)) (ae (bh (i:=3) nd (aV c_least_divisor_from hr aB (aa (pv 2) (aa (pv 3) af)))) (ae (bh (i:=4) nd ah) (ae (bj PassesOwn.never (az a9 (ao aF (pv 2) (pv 3)) ah (ay _)) (ae (c6 (i:=2) nd rfl (Or.inl rfl) (pv 3) (eJ iY)) (ai (c6 (i:=4) nd rfl (Or.inl rfl) ah (eJ gN))))) (ai (eK (tP PySem.F.plainAttrs_list PySem.F.slot_list_append PySem.F.type_list_append jI (pv 1) (aa (aI (aa (pv 3) (aa (pv 4) af))) af)))))))) (ai (av (pv 1)))))))))),?_⟩
 show aY _ _ _ [some (.int n),none,none,none,none] H
 k_data
 refine aK (λc=>?_) (λc=>?_)
 ·exact λx hx=>dU x_NoNumber.cls (aA.refl _) hx (q1 c)
 refine aK (λc'=>?_) (λc'=>?_)
 ·exact λx dx hx hdx ne=>gM x_TooFar.cls (aA.refl _) hx hdx ne (q2 (by omega))
 refine⟨by decide,λpp hpp=>?_⟩
 have n1:n<=10^9:=by omega
 refine bo (α:=Int × Int × Option V) (λx=>[some (.int n),some (.ref pp),some (.int x.1),some (.int x.2.1),x.2.2]) (λx H1=>aA H H1/\∃(ps:List (Int × Int)) (us:List V),H1 pp=some (.lst us)/\aQ K H1 (ps.map kB) us/\Num.Way n ps x.1 x.2.1) (λx=>x.1.toNat) (n,2,none) rfl ⟨ak hpp,[],[],ag,rfl,.start (by omega)⟩ ?_
 rintro⟨left,prime,o⟩ H1 ⟨hs,ps,us,epp,hd,W⟩
 replace W:Num.Way n ps left prime:=W
 have l1:=W.pos
 have ln:left<=n:=by
  have z:=W.two
  have p0:=Num.bJ (show (0:Int)<2 by decide) ps.length
  have:=Int.mul_le_mul_of_nonneg_right (show (1:Int)<=2^ps.length by omega) (show 0<=left by omega)
  omega
 k_data
 refine aK (λc3=>?_) (λc3=>?_)
 ·have pl:prime<=10^120:=by
   rcases (by omega:prime<=left∨left<prime) with z | z
   ·omega
   ·exact absurd (Int.dvd_refl left) (W.inv.no left (by omega) z)
  refine⟨_,λ_ _ z=>z,left,prime,rfl,by omega,by omega,pl,W.inv,λr hL=>?_⟩
  have r2:=hL.two
  have rl:=hL.le (by omega)
  refine bo (α:=Int × Nat) (λx=>[some (.int n),some (.ref pp),some (.int x.1),some (.int r),some (.int (x.2:Int))]) (λx H2=>H2=H1/\left=r^x.2*x.1/\1<=x.1/\x.1<=left) (λx=>x.1.toNat) (left,0) rfl ⟨rfl,by rw [Int.pow_zero,Int.one_mul],by omega,Int.le_refl _⟩ ?_
  rintro⟨lf,k⟩ H2 ⟨rfl,e1,e2,e3⟩
  replace e1:left=r^k*lf:=e1
  replace e2:1<=lf:=e2
  replace e3:lf<=left:=e3
  k_data
  refine⟨by omega,?_⟩
  refine aK (λc4=>?_) (λc4=>?_)
  ·obtain⟨q,hq⟩:=Int.dvd_of_emod_eq_zero c4
   have ed:lf/r=q:=by rw [hq];exact Int.mul_ediv_cancel_left _ (by omega)
   have q1':1<=q:=by
    rcases (by omega:q<=0∨1<=q) with z | z
    ·have:=Int.mul_nonpos_of_nonneg_of_nonpos (show 0<=r by omega) z
     omega
    ·exact z
   have ql:q<lf:=by
    rw [hq]
    have:=Int.mul_le_mul_of_nonneg_right r2 (show 0<=q by omega)
    omega
   refine⟨_,λ_ _ z=>z,by omega,Bd.of (by omega) (by omega),(q,k+1),?_,rfl,?_,q1',?_,?_⟩
   ·rw [ed];rfl
   ·rw [e1,hq,Int.pow_succ,Int.mul_assoc]
   ·show q<=left
    omega
   ·show q.toNat<lf.toNat
    omega
  ·have ng:¬r∣lf:=λz=>c4 (Int.emod_eq_zero_of_dvd z)
   have k1:1<=k:=by
    cases k with
    | zero=>rw [Int.pow_zero,Int.one_mul] at e1;exact absurd (e1▸hL.dv) ng
    | succ k=>omega
   have W2:=W.step n1 c3 hL e1 e2 k1 ng
   have len:=W.len n1
   have ul:us.length=ps.length:=by rw [hd.length,List.length_map]
   have lt:lf<left:=by
    obtain⟨k',rfl⟩:∃ k',k=k'+1:=⟨k-1,by omega⟩
    have p0:=Num.bJ (show 0<r by omega) k'
    have h1:r<=r^(k'+1):=by
     rw [Int.pow_succ]
     have:=Int.mul_le_mul_of_nonneg_right (show 1<=r^k' by omega) (show 0<=r by omega)
     omega
    have:=Int.mul_le_mul_of_nonneg_right (show 2<=r^(k'+1) by omega) (show 0<=lf by omega)
    omega
   refine⟨.inl ⟨rfl,_,aO.of epp⟩,by show 2<=sizeLine;decide,λpt hpt=>?_⟩
   have s2:=ak (o:=.tup [V.int r,V.int (k:Int)]) hpt
   have npt:pp≠pt:=λz=>by rw [<- z,epp] at hpt;cases hpt
   have el:=s2 _ _ epp
   have et:upd H2 pt (.tup [V.int r,V.int (k:Int)]) pt=some (.tup [V.int r,V.int (k:Int)]):=ag
   have hd2:=aQ.same s2 _ hd
   have S2:=hs.trans s2
   generalize upd H2 pt _=H3 at *
   refine⟨pp,us,.ref pt,rfl,rfl,el,Nat.lt_of_le_of_lt (show us.length<=29 by omega) (by decide),(lf,r,some (.int (k:Int))),rfl,rfl,rfl,S2.upd hpp,⟨ps++[(r,(k:Int))],us++[.ref pt],ag,?_,W2⟩,?_⟩
   ·rw [List.map_append]
    refine aQ.append (aQ.but el (λb o ne h=>by rw [au ne];exact h) _ (i4 (λ_=>rfl) ps) hd2) (.one (dv.tup (xs:=[V.int r,V.int (k:Int)]) ?_ ⟨_,_,rfl,rfl,.one rfl⟩))
    rw [au (Ne.symm npt)]
    exact et
   ·show lf.toNat<left.toNat
    omega
 ·have z:left=1:=by omega
  subst z
  exact q3 (by omega) n1 ps us pp H1 W.done (W.len n1) hs hpp epp hd
end
end K
namespace L2
open PySem PySem.Spec PyProof.Rows
theorem bQ {X:Cx} (K:PySem.W.Frag) (h:X.K=K):EL X (Az K):=h▸aS
theorem dD {X:Cx} {pos:Pos} {es:List Expr} {k:Nat} {t:A3} {n:Nat} (K:PySem.W.Frag) (e:X.K=K) (hc:X.calm=true) (h:DJ X es t)
  (hn:(assignEach es X.env).length=n:=by rfl) (hst:(assignEach es X.env).findIdx? (·.1)=none:=by rfl):PG X (.Tuple es k pos) (nS K n t):=e▸bT hc h hn hst
end L2
namespace K
open PySem PySem.Spec PyProof.Rows L2
section
variable {P:Program} {w:World} {K:PySem.W.Frag} {mg:Str->Option Value} {base:Heap}
theorem aE {X:Cx}:Passes (dh P w) X E0:=by
 intro pins σ H1 s1 e s' I hq
 obtain⟨x,C,T,dd,H',_,_,_,_,_,_,_,_,_,_,z⟩:=hq
 exact z.elim
theorem bC {H:Hp} {q:Addr} {xs:List V} {k:Int} {v:V} {Q:VK} (t:bG K H q xs) (e:vV xs k=some v) (h:Q v H):Az K (.ref q) (.int k) H Q:=⟨q,xs,k,v,rfl,rfl,t,e,h⟩
theorem iQ {x:V} {r:List V}:vV (x::r) 0=some x:=by
 unfold vV Bk
 simp
def FX (row:PyData) (q:Int):Prop:=∃ ds es,row=.tuple (.tuple (.int q::ds)::es)
def DE (rows:List PyData) (qs:List Int):Prop:=rows.length=qs.length/\∀(i:Nat) (row:PyData),rows[i]?=some row->∃ q,qs[i]?=some q/\FX row q
def dA (K:PySem.W.Frag):Sp:=λvs H Q _=>∃ v rows qs,vs=[v]/\dv K H (.tuple rows) v/\DE rows qs/\rows.length<=10^6/\∀ p H',aA H H'->H p=none->H' p=some (.lst (qs.map V.int))->Q (.ref p) H'
theorem jg:aw ["parts"] ["parts"] (aj (top 19)):=cq
theorem qw (D:ar K mg "primes_in" (top 19)):Callee P w K mg base aG 1 "primes_in" ["parts"] (dA K):=by
 refine cO D jg (λf cdv A outer s H vs Q E hr h=>?_)
 obtain⟨v,rows,qs,rfl,hd,⟨hl,hq⟩,h6,q⟩:=h
 have nd:=jg.nd
 refine⟨_,(ai (av (dc rfl (kG (N':=["row"]) (js:=[none]) rfl rfl) (fZ (pv 0)) (λ_ _ _ _=>(aq (i:=0) (show List.Nodup [("row":Str)] from by decide +kernel) rfl (Or.inl rfl) (.inr rfl))) (λ_ _ _ _=>aX) (λ_ _ _ _=>(aJ (bQ K rfl) (aJ (bQ K rfl) (pv 0) ah (λ_ _=>rfl)) ah (λ_ _=>rfl)))))),?_⟩
 show fN _ _ [some v] H
 obtain⟨p,xs,rfl,hS,ht⟩:=hd
 k_data
 have xl:=ht.length
 refine⟨⟨_,hS⟩,?_⟩
 refine dS (xs:=xs) (λi zs H3=>H3=H/\zs=(qs.take i).map V.int) ⟨rfl,rfl⟩ (Nat.le_trans (by omega) (show 10^6<=sizeLine by decide)) (λi zs H3 hi ⟨e1,e2⟩=>⟨by rw [e1];exact hS,by rw [e2];simp;omega⟩) ?_ ?_
 ·rintro i x zs H3 hx ⟨rfl,rfl⟩
  obtain⟨d,hd,hv⟩:=ht.get hx
  obtain⟨q',hq',ds,es,rfl⟩:=hq i d hd
  obtain⟨p1,x1,rfl,t1,u,r1,rfl,hv2,_⟩:=hv
  obtain⟨p2,x2,rfl,t2,u',r2,rfl,hv3,_⟩:=hv2
  cases hv3
  show cI 0 _ [none] _ _
  k_data
  refine⟨True.intro,bC t1 iQ (bC t2 iQ ⟨rfl,?_⟩)⟩
  rw [List.take_add_one,hq',List.map_append]
  rfl
 ·rintro zs H3 p3 ⟨rfl,rfl⟩ hp3
  rw [show xs.length=qs.length by omega,List.take_length]
  exact q p3 _ (ak hp3) hp3 ag
def Du (n a e:Int) (qs:List Int):Prop:=a^e.toNat%n=1/\∀ q∈qs,a^(e/q).toNat%n≠1
def gT (K:PySem.W.Frag):Sp:=λvs H Q _=>∃(n a e:Int) (p:Addr) (qs:List Int),vs=[.int n,.int a,.int e,.ref p]/\0<n/\n<=10^120/\0<=e/\e<=10^120/\aO K H p (qs.map V.int)/\(∀ q∈qs,0<q/\q<=10^120)/\qs.length<=10^6/\∀ b H',(b=true↔Du n a e qs)->aA H H'->Q (.bl b) H'
theorem j7:aw ["n","a","e","primes"] ["n","a","e","primes"] (aj (top 23)):=cq
theorem sg {C:Addr} (D:ar K mg "is_least" (top 23)) (c_power:Callee P w K mg base (dh P w) 4 "power" ["n","a","e"] (cG C)) (n_all:mg "all"=none):Callee P w K mg base aG 5 "is_least" ["n","a","e","primes"] (gT K):=by
 refine cO D j7 (λf cdv A outer s H vs Q E hr h=>?_)
 obtain⟨n,a,e,p,qs,rfl,hn,hn1,he,he1,hS,hq,hl,q⟩:=h
 have nd:=j7.nd
 refine⟨_,(ai (av (bV (bA a9 (aV c_power hr aE (aa (pv 0) (aa (pv 1) (aa (pv 2) af)))) ah (ay _)) (c5 (aC (fe rfl) rfl n_all L2.boot_all (aa (dc rfl (kG (N':=["prime","n","a","e"]) (js:=[none,some 0,some 1,some 2]) rfl rfl) (bF (pv 3)) (λ_ _ _ _=>(aq (i:=0) (show List.Nodup [("prime":Str),("n":Str),("a":Str),("e":Str)] from by decide +kernel) rfl (Or.inl rfl) (.inr rfl))) (λ_ _ _ _=>aX) (λ_ _ _ _=>(bA ic (aV c_power hr aE (aa (pv 1) (aa (pv 2) (aa (ao aZ (pv 3) (pv 0)) af)))) ah (ay _)))) af)))))),?_⟩
 show fN _ _ [some (.int n),some (.int a),some (.int e),some (.ref p)] H
 k_data
 refine⟨n,a,e,rfl,hn,hn1,λ_ H1 s1=>?_,λz=>absurd z (by omega)⟩
 have hS1:=hS.same s1
 k_data
 refine aK (λc=>?_) (λc=>?_)
 ·refine⟨⟨_,hS1⟩,?_⟩
  refine bH (xs:=qs.map V.int) (λi zs H3=>aA H H3/\zs=((qs.take i).map λq=>decide (a^(e/q).toNat%n≠1)).map V.bl) ⟨s1,rfl⟩ (by rw [List.length_map];exact Nat.le_trans hl (show 10^6<=sizeLine by decide)) (λi zs H3 hi ⟨e1,e2⟩=>⟨hS.same e1,by rw [e2];simp;omega⟩) ?_ ?_
  ·rintro i x zs H3 hx ⟨s3,rfl⟩
   rw [List.getElem?_map] at hx
   obtain⟨y,hy,rfl⟩:=Option.map_eq_some_iff.mp hx
   have my:=hq y (List.mem_of_getElem? hy)
   show cI 0 _ [none,some (.int n),some (.int a),some (.int e)] _ _
   k_data
   refine⟨⟨rfl,rfl,rfl,True.intro⟩,my.1,Bd.of (by omega) (by omega),n,a,e/y,rfl,hn,hn1,λ_ H4 s4=>⟨kR,?_⟩,λz=>absurd (Int.ediv_nonneg he (show 0<=y by omega)) (by omega)⟩
   refine⟨s3.trans s4,?_⟩
   rw [List.take_add_one,hy,List.map_append,List.map_append]
   simp
  ·rintro zs H3 p3 ⟨s3,rfl⟩ hp3
   rw [List.length_map,List.take_length]
   refine jz (bs:=qs.map λq=>decide (a^(e/q).toNat%n≠1)) (aO.of ag) ?_
   refine q _ _ ?_ (s3.trans (ak hp3))
   rw [List.all_eq_true]
   constructor
   ·intro h
    refine⟨c,λy hy=>?_⟩
    have:=h _ (List.mem_map.mpr ⟨y,hy,rfl⟩)
    simpa using this
   ·intro h b hb
    obtain⟨y,hy,rfl⟩:=List.mem_map.mp hb
    simpa using h.2 y hy
 ·exact q false _ ⟨λz=>(by cases z),λz=>absurd z.1 c⟩ s1
theorem cQ {n x:Int} (hn:2<=n):x%n=1↔Num.Al n x 1:=by
 constructor
 ·intro h
  refine⟨x/n,?_⟩
  have:=Int.emod_add_mul_ediv x n
  omega
 ·rintro⟨k,hk⟩
  rw [show x=1+n*k by omega,Int.add_mul_emod_self_left]
  exact Int.emod_eq_of_lt (by omega) (by omega)
theorem kM {n a e:Int} {ps:List (Int × Int)} (hn:2<=n) (h:Num.Part e ps) (he:1<=e):Du n a e (ps.map (·.1))↔Num.Ord n a e.toNat:=by
 rw [<- Num.xV h he]
 unfold Du
 rw [cQ hn]
 constructor
 ·exact fun⟨h1,h2⟩=>⟨h1,λq hq z=>h2 q hq ((cQ hn).mpr z)⟩
 ·exact fun⟨h1,h2⟩=>⟨h1,λq hq z=>h2 q hq ((cQ hn).mp z)⟩
theorem fV (P:Int->Prop) {g:Int} (h1:1<=g) (h:P g):∃ m,1<=m/\m<=g/\P m/\∀ a,1<=a->a<m->¬P a:=by
 have:∀(k:Nat) (g:Int),g.toNat=k->1<=g->P g->∃ m,1<=m/\m<=g/\P m/\∀ a,1<=a->a<m->¬P a:=by
  intro k
  induction k using Nat.strongRecOn with
  | ind k ih =>
   intro g hk h1 hg
   by_cases c:∃ a,1<=a/\a<g/\P a
   ·obtain⟨a,a1,a2,a3⟩:=c
    obtain⟨m,m1,m2,m3,m4⟩:=ih a.toNat (by omega) a rfl a1 a3
    exact⟨m,m1,by omega,m3,m4⟩
   ·exact⟨g,h1,Int.le_refl _,hg,λa a1 a2 a3=>c ⟨a,a1,a2,a3⟩⟩
 exact this _ g rfl h1 h
theorem DZ {p:Int} (hp:Num.Pm p):∃ g,Num.LF p g:=by
 obtain⟨g,g1,g2,g3⟩:=Num.zN hp
 obtain⟨m,m1,m2,m3,m4⟩:=fV (λa=>Num.Ord p a (p-1).toNat) g1 g3
 exact⟨m,m1,by omega,m3,m4⟩
def gG (K:PySem.W.Frag):Sp:=λvs H Q _=>∃(n:Int) (p:Addr) (ps:List (Int × Int)),vs=[.int n,.ref p]/\Num.Pm n/\n<=10^9/\Num.Part (n-1) ps/\ps.length<=29/\aO K H p (ps.map λx=>V.int x.1)/\∀ g H',Num.LF n g->aA H H'->Q (.int g) H'
theorem kP {n:Int} {ps:List (Int × Int)} (h:Num.Part n ps) (hn:1<=n):∀ q∈ps.map (·.1),2<=q/\q<=n:=λq hq=>by
 obtain⟨x,hx,rfl⟩:=List.mem_map.mp hq
 obtain⟨o1,o2,_⟩:=h.ok x hx
 have:=Num.d5 hx o2
 rw [h.prod] at this
 exact⟨o1.two,Int.le_of_dvd (by omega) this⟩
theorem iu:aw ["p","primes","full"] ["p","primes"] (aj (top 50)):=cq
theorem oa (D:ar K mg "least_full" (top 50)) (c_is_least:Callee P w K mg base aG 5 "is_least" ["n","a","e","primes"] (gT K)):Callee P w K mg base aG 6 "least_full" ["p","primes"] (gG K):=by
 refine cO D iu (λf cdv A outer s H vs Q E hr h=>?_)
 obtain⟨n,p,ps,rfl,hp,hn,hP,hl,hS,q⟩:=h
 have n2:=hp.two
 obtain⟨g,G⟩:=DZ hp
 have g1:=G.one
 have g2:=G.lt
 have nd:=iu.nd
 refine⟨_,(ae (bh (i:=2) nd ah) (ae (bj PassesOwn.never (dH (aT (aV c_is_least hr aB (aa (pv 0) (aa (pv 2) (aa (ao bI (pv 0) ah) (aa (pv 1) af))))) (λ_=>rfl))) (ai (c6 (i:=2) nd rfl (Or.inl rfl) ah (eJ gN)))) (ai (av (pv 2))))),?_⟩
 show aY _ _ _ [some (.int n),some (.ref p),none] H
 k_data
 refine bo (α:=Int) (λx=>[some (.int n),some (.ref p),some (.int x)]) (λx H1=>aA H H1/\1<=x/\x<=g) (λx=>(g-x).toNat) 1 rfl ⟨aA.refl _,Int.le_refl _,g1⟩ ?_
 rintro x H1 ⟨s1,x1,x2⟩
 replace x1:1<=x:=x1
 replace x2:x<=g:=x2
 k_data
 refine⟨n,x,n-1,p,ps.map (·.1),rfl,by omega,by omega,by omega,by omega,?_,λy hy=>?_,?_,λb H2 hb s2=>?_⟩
 ·rw [List.map_map];exact hS.same s1
 ·have:=kP hP (by omega) y hy
  omega
 ·rw [List.length_map];exact Nat.le_trans hl (by decide)
 rw [kM n2 hP (by omega)] at hb
 refine⟨b,aM.mpr rfl,?_⟩
 cases b
 ·have nx:¬Num.Ord n x (n-1).toNat:=λz=>by have:=hb.mpr z;cases this
  have ne:x≠g:=λz=>nx (z▸G.ord)
  refine⟨_,λ_ _ z=>z,x+1,rfl,s1.trans s2,by omega,by omega,by omega⟩
 ·have hx:=hb.mp rfl
  have xg:x=g:=by
   rcases (by omega:x=g∨x<g) with z | z
   ·exact z
   ·exact absurd hx (G.no x x1 z)
  rw [xg]
  exact q g H2 G (s1.trans s2)
theorem qO {ps:List (Int × Int)} {p:Int × Int} {ds ds':Nat->PyData} (h:∀ j,j<ps.length->ds' j=ds j):Num.rowsOf (ps++[p]) ds'=Num.rowsOf ps ds++[.tuple [ds' ps.length,.int p.2]]:=by
 unfold Num.rowsOf
 rw [List.length_append,List.length_singleton,List.range_succ,List.map_append]
 congr 1
 ·refine List.map_congr_left λj hj=>?_
  have:=List.mem_range.mp hj
  rw [h j this,List.getD_eq_getElem?_getD,List.getD_eq_getElem?_getD,List.getElem?_append_left this]
 ·simp
theorem qc {ps:List (Int × Int)} {ds:Nat->PyData} (h:∀ i q k,ps[i]?=some (q,k)->Num.fK q (ds i)):DE (Num.rowsOf ps ds) (ps.map (·.1)):=by
 refine⟨by rw [Num.bK,List.length_map],λi row hi=>?_⟩
 have hl:=(List.getElem?_eq_some_iff.mp hi).1
 rw [Num.bK] at hl
 have hg:=List.getElem?_eq_getElem hl
 rw [Num.iH hg] at hi
 obtain⟨g,rows,e⟩:=(h i _ _ hg).head
 exact⟨ps[i].1,by rw [List.getElem?_map,hg];rfl,[.int g,.tuple rows],[.int ps[i].2],by rw [<- Option.some.inj hi,e];rfl⟩
theorem jA {H:Hp} {q k:Int} {v:V} (h:dv K H (kB (q,k)) v):∃ p,v=.ref p/\bG K H p [.int q,.int k]:=by
 obtain⟨p,xs,rfl,h1,x,r,rfl,d1,y,r',rfl,d2,h4⟩:=h
 cases h4
 cases d1
 cases d2
 exact⟨p,rfl,h1⟩
def gU (K:PySem.W.Frag) (L:Nat):Sp:=λvs H Q _=>∃ n:Int,vs=[.int n]/\Num.Pm n/\n<=10^9/\Num.Ht L n/\∀ d v H',Num.fK n d->aA H H'->dv K H' d v->Q v H'
def jP (K:PySem.W.Frag) (L:Nat):Sp:=λvs H Q _=>∃ n:Int,vs=[.int n]/\1<=n/\n<=10^9/\(∀ q,Num.Pm q->q∣n->Num.Ht L q)/\∀ ps ds v H',Num.Part n ps->ps.length<=29->(∀ i q k,ps[i]?=some (q,k)->Num.fK q (ds i))->aA H H'->dv K H' (.tuple (Num.rowsOf ps ds)) v->Q v H'
theorem eG:aw ["n","least","parts"] ["n"] (aj (top 48)):=cq
theorem vd {L:Nat} {c1 c2 c3:Addr} (D:ar K mg "prime_paper" (top 48)) (c_least_divisor:Callee P w K mg base (dh P w) 3 "least_divisor" ["n"] (oO c1 c2)) (c_parting_paper:Callee P w K mg base aG (2*L+8) "parting_paper" ["n"] (jP K L)) (c_least_full:Callee P w K mg base aG 6 "least_full" ["p","primes"] (gG K)) (c_primes_in:Callee P w K mg base aG 1 "primes_in" ["parts"] (dA K)) (x_NoPrime:nL P w K mg base "NoPrime" c3 "divisor"):Callee P w K mg base (dh P w) (2*L+9) "prime_paper" ["n"] (gU K (L+1)):=by
 refine cX D eG (λf cdv A outer s H vs Q E hr h=>?_)
 obtain⟨n,rfl,hp,hn,hH,q⟩:=h
 have n2:=hp.two
 have nd:=eG.nd
 refine⟨_,(ae (bh (i:=1) nd (bf c_least_divisor (hr.mono (by omega)) rfl aE (aa (pv 0) af))) (ae (aN (az dJ (pv 1) (pv 0) (ay _)) (ai (cz (jM x_NoPrime (hr.mono (by omega)) rfl (aa (pv 1) af)))) aD) (gK.kA (ae (bh (i:=2) nd (bf c_parting_paper (hr.mono (by omega)) rfl aB (aa (ao bI (pv 0) ah) af))) (ai (av (aI (aa (pv 0) (aa (bf c_least_full (hr.mono (by omega)) rfl aB (aa (pv 0) (aa (bf c_primes_in (hr.mono (by omega)) rfl aB (aa (pv 2) af)) af))) (aa (pv 2) af)))))))))),?_⟩
 show aY _ _ _ [some (.int n),none,none] H
 k_data
 refine⟨n,rfl,λz=>absurd z (by omega),λz=>absurd z (by omega),λ_ _ r hL=>⟨r,rfl,?_⟩⟩
 have rn:r=n:=by
  have:=hL.le (by omega)
  rcases (by omega:r<n∨r=n) with z | z
  ·exact absurd hL.dv (hp.no r hL.two z)
  ·exact z
 rw [if_neg (by omega)]
 refine⟨n-1,rfl,by omega,by omega,hH,λps ds v H1 hP hl hds s1 hv=>?_⟩
 refine⟨v,Num.rowsOf ps ds,ps.map (·.1),rfl,hv,qc hds,by rw [Num.bK];exact Nat.le_trans hl (by decide),λp H2 s2 f2 h2=>?_⟩
 rw [List.map_map] at h2
 refine⟨n,p,ps,rfl,hp,hn,hP,hl,aO.of h2,λg H3 hg s3=>⟨by show 3<=sizeLine;decide,λp3 hp3=>?_⟩⟩
 have s4:=ak (o:=.tup [V.int n,V.int g,v]) hp3
 exact q _ _ _ (.mk n g ps ds hp hn hg hP hl hds) (((s1.trans s2).trans s3).trans s4) (dv.tup ag ⟨_,_,rfl,rfl,_,_,rfl,rfl,.one (dv.same ((s2.trans s3).trans s4) _ hv)⟩)
theorem fv:aw ["n"] ["n"] (aj (top 49)):=cq
theorem jZ {L:Nat} {c1 c2:Addr} (D:ar K mg "parting_paper" (top 49)) (c_parted:Callee P w K mg base (dh P w) 3 "parted" ["n"] (lX K c1 c2)) (c_prime_paper:Callee P w K mg base (dh P w) (2*L+7) "prime_paper" ["n"] (gU K L)) (n_tuple:mg "tuple"=none):Callee P w K mg base aG (2*L+8) "parting_paper" ["n"] (jP K L):=by
 refine cO D fv (λf cdv A outer s H vs Q E hr h=>?_)
 obtain⟨n,rfl,n1,n9,hH,q⟩:=h
 have nd:=fv.nd
 refine⟨_,(ai (av (cF dB rfl n_tuple L2.boot_tuple (aa (dc rfl (kG (N':=["prime","many"]) (js:=[none,none]) rfl rfl) (bF (bf c_parted (hr.mono (by omega)) rfl aE (aa (pv 0) af))) (λ_ _ _ _=>(dD K rfl (n:=2) rfl (ax (aq (i:=0) (show List.Nodup [("prime":Str),("many":Str)] from by decide +kernel) rfl (Or.inl rfl) (.inr rfl)) (ax (aq (i:=1) (show List.Nodup [("prime":Str),("many":Str)] from by decide +kernel) rfl (Or.inl rfl) (.inr rfl)) aR)))) (λ_ _ _ _=>aX) (λ_ _ _ _=>(aI (aa (bf c_prime_paper (hr.mono (by omega)) rfl aE (aa (pv 0) af)) (aa (pv 1) af))))) af)))),?_⟩
 show fN _ _ [some (.int n)] H
 k_data
 refine⟨n,rfl,λz=>absurd z (by omega),λz=>absurd z (by omega),λ_ _ ps us p H1 hP hl s1 f1 h1 hd=>⟨p,rfl,⟨_,aO.of h1⟩,?_⟩⟩
 have ul:us.length=ps.length:=by rw [hd.length,List.length_map]
 refine bH (xs:=us) (λi zs H3=>aA H1 H3/\∃ ds,(∀ j q k,(ps.take i)[j]?=some (q,k)->Num.fK q (ds j))/\aQ K H3 (Num.rowsOf (ps.take i) ds) zs) ⟨aA.refl _,λ_=>.none,λj q k z=>by simp at z,rfl⟩ (by rw [ul];exact Nat.le_trans hl (by decide)) (λi zs H3 hi ⟨e1,ds,e2,e3⟩=>⟨aO.of (e1 _ _ h1),by rw [e3.length,Num.bK,List.length_take];omega⟩) ?_ ?_
 ·rintro i x zs H3 hx ⟨s3,ds,hds,hz⟩
  obtain⟨d,hd',hv⟩:=hd.get hx
  rw [List.getElem?_map] at hd'
  obtain⟨⟨q',k'⟩,hy,rfl⟩:=Option.map_eq_some_iff.mp hd'
  obtain⟨pt,rfl,tt⟩:=jA hv
  have hok:=hP.ok _ (List.mem_of_getElem? hy)
  have hdv:q'∣n:=by
   have:=Num.d5 (List.mem_of_getElem? hy) hok.2.1
   rwa [hP.prod] at this
  have ql:q'<=n:=Int.le_of_dvd (by omega) hdv
  show nS K 2 _ _ [none,none] _ _
  refine⟨pt,_,rfl,tt.same s3,rfl,?_⟩
  k_data
  refine⟨True.intro,q',rfl,hok.1,by omega,hH q' hok.1 hdv,λd v H4 hp4 s4 hv4=>⟨by show 2<=sizeLine;decide,λp5 hp5=>?_⟩⟩
  have s5:=ak (o:=.tup [v,V.int k']) hp5
  have tk:ps.take (i+1)=ps.take i++[(q',k')]:=by rw [List.take_add_one,hy];rfl
  have il:i<ps.length:=(List.getElem?_eq_some_iff.mp hy).1
  have tl:(ps.take i).length=i:=by rw [List.length_take];omega
  refine⟨(s3.trans s4).trans s5,λj=>if j=i then d else ds j,λj q k hj=>?_,?_⟩
  ·rw [tk] at hj
   rcases (by omega:j<i∨j=i∨i<j) with z | z | z
   ·rw [List.getElem?_append_left (by omega)] at hj
    show Num.fK q (if j=i then d else ds j)
    rw [if_neg (by omega)]
    exact hds j q k hj
   ·subst z
    rw [List.getElem?_append_right (by omega),tl,Nat.sub_self] at hj
    show Num.fK q (if j=j then d else ds j)
    rw [if_pos rfl]
    cases hj
    exact hp4
   ·rw [List.getElem?_eq_none (by simp;omega)] at hj
    cases hj
  ·rw [tk,qO (ds:=ds) (λj hj=>if_neg (by omega)),tl,if_pos rfl]
   exact aQ.append (aQ.same (s4.trans s5) _ hz) (.one (dv.tup ag ⟨_,_,rfl,dv.same s5 _ hv4,.one rfl⟩))
 ·rintro zs H3 p3 ⟨s3,ds,hds,hz⟩ hp3
  rw [ul,List.take_length] at hds hz
  have s4:=ak (o:=.lst zs) hp3
  refine⟨p3,rfl,zs,.inl ⟨aO.of ag,λl hl'=>?_⟩⟩
  generalize upd H3 p3 _=H4 at *
  have s5:=ak (o:=.tup zs) hl'
  exact q ps ds _ _ hP hl hds (((s1.trans s3).trans s4).trans s5) (dv.tup ag (aQ.same (s4.trans s5) _ hz))
theorem mY {L:Nat} (D:ar K mg "prime_paper" (top 48)):Callee P w K mg base (dh P w) 7 "prime_paper" ["n"] (gU K 0):=by
 refine cX D eG (λf cdv A outer s H vs Q E hr h=>?_)
 obtain⟨n,rfl,hp,hn,hH,q⟩:=h
 exact hH.elim
theorem mZ {c1 c2 c3:Addr} (D1:ar K mg "prime_paper" (top 48)) (D2:ar K mg "parting_paper" (top 49)) (c_least_divisor:Callee P w K mg base (dh P w) 3 "least_divisor" ["n"] (oO c1 c2)) (c_parted:Callee P w K mg base (dh P w) 3 "parted" ["n"] (lX K c1 c2)) (c_least_full:Callee P w K mg base aG 6 "least_full" ["p","primes"] (gG K)) (c_primes_in:Callee P w K mg base aG 1 "primes_in" ["parts"] (dA K)) (x_NoPrime:nL P w K mg base "NoPrime" c3 "divisor") (n_tuple:mg "tuple"=none):∀ L:Nat,Callee P w K mg base (dh P w) (2*L+7) "prime_paper" ["n"] (gU K L)/\Callee P w K mg base aG (2*L+8) "parting_paper" ["n"] (jP K L)
 | 0=>⟨mY (L:=0) D1,jZ (L:=0) D2 c_parted (mY (L:=0) D1) n_tuple⟩
 | L+1=>by
  have h:=mZ D1 D2 c_least_divisor c_parted c_least_full c_primes_in x_NoPrime n_tuple L
  have a:=vd D1 c_least_divisor h.2 c_least_full c_primes_in x_NoPrime
  have a':Callee P w K mg base (dh P w) (2*(L+1)+7) "prime_paper" ["n"] (gU K (L+1)):=a.mono (by omega)
  exact⟨a',jZ D2 c_parted a' n_tuple⟩
def qW (K:PySem.W.Frag):Sp:=λvs H Q _=>∃ n:Int,vs=[.int n]/\Num.Pm n/\n<=10^9/\∀ d v H',Num.fK n d->aA H H'->dv K H' d v->Q v H'
theorem CP (h:Callee P w K mg base (dh P w) (2*30+7) "prime_paper" ["n"] (gU K 30)):Callee P w K mg base (dh P w) 67 "prime_paper" ["n"] (qW K) :=
 Callee.imp h λvs H Q E z=>by
  obtain⟨n,h1,h2,h3,q⟩:=z
  exact⟨n,h1,h2,h3,Num.Cb h2 h3,q⟩
theorem kO {n:Int} {d:PyData} (h:Num.fK n d):∃ g ps ds,d=.tuple [.int n,.int g,.tuple (Num.rowsOf ps ds)]/\Num.LF n g/\Num.Part (n-1) ps/\ps.length<=29/\∀ i q k,ps[i]?=some (q,k)->Num.fK q (ds i):=by
 cases h with
 | mk _ g ps ds h1 h2 h3 h4 h5 h6=>exact⟨g,ps,ds,rfl,h3,h4,h5,h6⟩
theorem ie {n:Int} {d:PyData} (h:Num.fK n d):Num.Pm n/\n<=10^9:=by
 cases h with
 | mk _ _ _ _ a b=>exact⟨a,b⟩
theorem lg {H:Hp} {d1 d2 d3:PyData} {v:V} (h:dv K H (.tuple [d1,d2,d3]) v):∃ p x1 x2 x3,v=.ref p/\bG K H p [x1,x2,x3]/\dv K H d1 x1/\dv K H d2 x2/\dv K H d3 x3:=by
 obtain⟨p,xs,rfl,h1,x1,r1,rfl,e1,x2,r2,rfl,e2,x3,r3,rfl,e3,z⟩:=h
 cases z
 exact⟨p,x1,x2,x3,rfl,h1,e1,e2,e3⟩
def Dd (K:PySem.W.Frag):Sp:=λvs H Q _=>∃ d v,vs=[v]/\dv K H d v/\Q (.bl (wQ d)) H
theorem j9:aw ["thing"] ["thing"] (aj (top 14)):=cq
theorem Fp (D:ar K mg "is_whole" (top 14)) (n_isinstance:mg "isinstance"=none) (n_int:mg "int"=none) (n_bool:mg "bool"=none):Callee P w K mg base aG 1 "is_whole" ["thing"] (Dd K):=by
 refine cO D j9 (λf cdv A outer s H vs Q E hr h=>?_)
 obtain⟨d,v,rfl,hd,q⟩:=h
 have nd:=j9.nd
 refine⟨_,(ai (av (bV (aC aW rfl n_isinstance PyProof.Rows.boot_isinstance (aa (pv 0) (aa (bP (v:=.ty "int") rfl n_int L2.boot_int rfl) af))) (c5 (CV (aC aW rfl n_isinstance PyProof.Rows.boot_isinstance (aa (pv 0) (aa (bP (v:=.ty "bool") rfl n_bool L2.boot_bool rfl) af)))))))),?_⟩
 show fN _ _ [some v] H
 k_data
 refine zS hd ?_
 k_data
 refine aK (λc=>?_) (λc=>?_)
 ·refine cY hd ?_
  k_data
  cases d<;>first | exact q | simp [wQ,Ff] at c
 ·cases d<;>first | exact q | exact absurd rfl c
def lu:PyData->Nat->Bool
 | .tuple ds,m=>decide (ds.length=m)
 | _,_=>false
def rh (K:PySem.W.Frag):Sp:=λvs H Q _=>∃ d v,∃ m:Nat,vs=[v,.int m]/\dv K H d v/\Q (.bl (lu d m)) H
theorem gD:aw ["thing","many"] ["thing","many"] (aj (top 15)):=cq
theorem CG (D:ar K mg "is_tuple_of" (top 15)) (n_isinstance:mg "isinstance"=none) (n_tuple:mg "tuple"=none) (n_len:mg "len"=none):Callee P w K mg base aG 1 "is_tuple_of" ["thing","many"] (rh K):=by
 refine cO D gD (λf cdv A outer s H vs Q E hr h=>?_)
 obtain⟨d,v,m,rfl,hd,q⟩:=h
 have nd:=gD.nd
 refine⟨_,(ai (av (bV (aC aW rfl n_isinstance PyProof.Rows.boot_isinstance (aa (pv 0) (aa (bP (v:=.ty "tuple") rfl n_tuple L2.boot_tuple rfl) af))) (c5 (bA a9 (aC bp rfl n_len PySem.boot_len (aa (pv 0) af)) (pv 1) (ay _)))))),?_⟩
 show fN _ _ [some v,some (.int m)] H
 k_data
 refine bM hd ?_
 k_data
 refine aK (λc=>?_) (λc=>?_)
 ·cases d with
  | tuple ds =>
   obtain⟨p,xs,rfl,hS,ht⟩:=hd
   refine i3 hS ⟨kR,?_⟩
   have:decide (V.int (xs.length:Int)=V.int (m:Int))=lu (.tuple ds) m:=by
    show _=decide (ds.length=m)
    rw [ht.length]
    refine decide_eq_decide.mpr ⟨λz=>?_,λz=>by rw [z]⟩
    have:=V.int.inj z
    omega
   rw [this]
   exact q
  | _=>exact absurd c (by simp [DX])
 ·cases d<;>first | exact q | exact absurd rfl c
theorem nW {d:PyData} (h:wQ d=true):∃ i,d=.int i:=by
 cases d<;>first | exact⟨_,rfl⟩ | cases h
theorem zR {d:PyData} (h:DX d=true):∃ i,d=.tuple i:=by
 cases d<;>first | exact⟨_,rfl⟩ | cases h
def PF (d:PyData):Prop:=∃(p g:Int) (rows:List PyData),d=.tuple [.int p,.int g,.tuple rows]/\2<=p
def Dc (K:PySem.W.Frag):Sp:=λvs H Q _=>∃ d v,vs=[v]/\dv K H d v/\∀ b:Bool,(b=true↔PF d)->Q (.bl b) H
theorem EO {H:Hp} {d1 d2 d3:PyData} {v:V} (h:dv K H (.tuple [d1,d2,d3]) v):∃ p x1 x2 x3,v=.ref p/\bG K H p [x1,x2,x3]/\dv K H d1 x1/\dv K H d2 x2/\dv K H d3 x3:=by
 obtain⟨p,xs,rfl,h1,x1,r1,rfl,e1,x2,r2,rfl,e2,x3,r3,rfl,e3,z⟩:=h
 cases z
 exact⟨p,x1,x2,x3,rfl,h1,e1,e2,e3⟩
theorem Fi {ds:List PyData} (h:ds.length=3):∃ a b c,ds=[a,b,c]:=by
 match ds,h with
 | [a,b,c],_=>exact⟨a,b,c,rfl⟩
theorem fm:aw ["thing","p","full","parts"] ["thing"] (aj (top 29)):=cq
theorem D5 (D:ar K mg "is_paper_form" (top 29)) (c_is_whole:Callee P w K mg base aG 1 "is_whole" ["thing"] (Dd K)) (c_is_tuple_of:Callee P w K mg base aG 1 "is_tuple_of" ["thing","many"] (rh K)) (n_isinstance:mg "isinstance"=none) (n_tuple:mg "tuple"=none):Callee P w K mg base aG 2 "is_paper_form" ["thing"] (Dc K):=by
 refine cO D fm (λf cdv A outer s H vs Q E hr h=>?_)
 obtain⟨d,v,rfl,hd,q⟩:=h
 have nd:=fm.nd
 refine⟨_,(ae (aN (dH (aT (aV c_is_tuple_of hr aB (aa (pv 0) (aa ah af))) (λ_=>rfl))) (ai (av cZ)) aD) (ae (cR (pv 0) (bT (n:=3) rfl (ax (aq (i:=1) nd rfl (Or.inl rfl) (.inr rfl)) (ax (aq (i:=2) nd rfl (Or.inl rfl) (.inr rfl)) (ax (aq (i:=3) nd rfl (Or.inl rfl) (.inr rfl)) aR))))) (ai (av (bV (aV c_is_whole hr aB (aa (pv 1) af)) (bV (bA Bt (pv 1) ah (ay _)) (bV (aV c_is_whole hr aB (aa (pv 2) af)) (c5 (aC aW rfl n_isinstance PyProof.Rows.boot_isinstance (aa (pv 3) (aa (bP (v:=.ty "tuple") rfl n_tuple L2.boot_tuple rfl) af))))))))))),?_⟩
 show aY _ _ _ [some v,none,none,none] H
 k_data
 refine⟨d,v,3,rfl,hd,lu d 3,aM.mpr rfl,?_⟩
 refine aK (λc=>?_) (λc=>?_)
 ·refine q false ⟨λz=>(by cases z),fun⟨p,g,rows,e,_⟩=>?_⟩
  rw [e] at c
  cases c
 ·cases d with
  | tuple ds =>
   obtain⟨d1,d2,d3,rfl⟩:=Fi (ds:=ds) (by simpa [lu] using c)
   obtain⟨p,x1,x2,x3,rfl,hS,e1,e2,e3⟩:=EO hd
   refine⟨p,_,rfl,hS,rfl,?_⟩
   k_data
   refine⟨d1,x1,rfl,e1,wQ d1,rfl,?_⟩
   refine aK (λc1=>?_) (λc1=>?_)
   ·obtain⟨i,rfl⟩:=nW c1
    cases e1
    refine⟨i,rfl,?_⟩
    refine aK (λc2=>?_) (λc2=>?_)
    ·refine⟨d2,x2,rfl,e2,wQ d2,rfl,?_⟩
     refine aK (λc3=>?_) (λc3=>?_)
     ·obtain⟨j,rfl⟩:=nW c3
      refine bM e3 (q _ ⟨λz=>?_,λz=>?_⟩)
      ·obtain⟨rows,rfl⟩:=zR z
       exact⟨i,j,rows,rfl,c2⟩
      ·obtain⟨p,g,rows,e,_⟩:=z
       cases e
       rfl
     ·refine q false ⟨λz=>(by cases z),fun⟨p,g,rows,e,_⟩=>?_⟩
      cases e
      exact absurd rfl c3
    ·refine q false ⟨λz=>(by cases z),fun⟨p,g,rows,e,h2⟩=>?_⟩
     cases e
     exact absurd h2 c2
   ·refine q false ⟨λz=>(by cases z),fun⟨p,g,rows,e,_⟩=>?_⟩
    cases e
    exact absurd rfl c1
  | _=>exact absurd rfl c
def RF (width:Nat) (d:PyData):Prop:=∃(pd:PyData) (k:Int) (more:List PyData),d=.tuple (pd::.int k::more)/\more.length+2=width/\PF pd/\1<=k
def Eo (K:PySem.W.Frag):Sp:=λvs H Q _=>∃ d v,∃ m:Nat,vs=[v,.int m]/\2<=m/\dv K H d v/\∀ b:Bool,(b=true↔RF m d)->Q (.bl b) H
theorem Dx {x y:V} {r:List V}:vV (x::y::r) 1=some y:=by
 unfold vV Bk
 simp
 rw [if_pos (by omega)]
 rfl
theorem gA:aw ["thing","width"] ["thing","width"] (aj (top 31)):=cq
theorem D8 (D:ar K mg "is_row_form" (top 31)) (c_is_whole:Callee P w K mg base aG 1 "is_whole" ["thing"] (Dd K)) (c_is_tuple_of:Callee P w K mg base aG 1 "is_tuple_of" ["thing","many"] (rh K)) (c_is_paper_form:Callee P w K mg base aG 2 "is_paper_form" ["thing"] (Dc K)):Callee P w K mg base aG 3 "is_row_form" ["thing","width"] (Eo K):=by
 refine cO D gA (λf cdv A outer s H vs Q E hr h=>?_)
 obtain⟨d,v,m,rfl,hm,hd,q⟩:=h
 have nd:=gA.nd
 refine⟨_,(ai (av (bV (aV c_is_tuple_of hr aB (aa (pv 0) (aa (pv 1) af))) (bV (aV c_is_paper_form hr aB (aa (aJ aS (pv 0) ah (λ_ _=>rfl)) af)) (bV (aV c_is_whole hr aB (aa (aJ aS (pv 0) ah (λ_ _=>rfl)) af)) (c5 (bA Bt (aJ aS (pv 0) ah (λ_ _=>rfl)) ah (ay _)))))))),?_⟩
 show fN _ _ [some v,some (.int m)] H
 k_data
 refine⟨d,v,m,rfl,hd,lu d m,rfl,?_⟩
 refine aK (λc=>?_) (λc=>?_)
 ·cases d with
  | tuple ds =>
   have hl:ds.length=m:=by simpa [lu] using c
   obtain⟨d1,d2,more,rfl⟩:∃ a b c,ds=a::b::c:=by
    match ds,hl with
    | [],h=>exact absurd h (by simp;omega)
    | [a],h=>exact absurd h (by simp;omega)
    | a::b::c,_=>exact⟨a,b,c,rfl⟩
   obtain⟨p,xs,rfl,hS,x1,r1,rfl,e1,x2,r2,rfl,e2,e3⟩:=hd
   refine bC hS iQ ⟨d1,x1,rfl,e1,λb hb=>⟨b,rfl,?_⟩⟩
   refine aK (λc1=>?_) (λc1=>?_)
   ·have hPF:=hb.mp c1
    refine bC hS Dx ⟨d2,x2,rfl,e2,wQ d2,rfl,?_⟩
    refine aK (λc2=>?_) (λc2=>?_)
    ·obtain⟨k,rfl⟩:=nW c2
     cases e2
     refine bC hS Dx ⟨k,rfl,?_⟩
     refine q _ ⟨λz=>⟨d1,k,more,rfl,by simpa using hl,hPF,of_decide_eq_true z⟩,fun⟨pd,k',more',e,_,_,hk⟩=>?_⟩
     cases e
     exact decide_eq_true hk
    ·refine q false ⟨λz=>(by cases z),fun⟨pd,k,more',e,_⟩=>?_⟩
     cases e
     exact absurd rfl c2
   ·refine q false ⟨λz=>(by cases z),fun⟨pd,k,more',e,_,h3,_⟩=>?_⟩
    cases e
    exact absurd (hb.mpr h3) c1
  | _=>exact absurd c (by simp [lu])
 ·refine q false ⟨λz=>(by cases z),fun⟨pd,k,more,e,h2,_⟩=>?_⟩
  rw [e] at c
  exact absurd (decide_eq_true (by simpa using h2)) c
def Wo (n q k r:Int):Prop:=(q^k.toNat∣n/\n=q^k.toNat*r)∨(¬q^k.toNat∣n/\r=0)
def Ep:Sp:=λvs H Q _=>∃ n q k:Int,vs=[.int n,.int q,.int k]/\1<=n/\n<=10^110/\2<=q/\q<=10^110/\1<=k/\∀ r,Wo n q k r->0<=r->r<=n->Q (.int r) H
theorem lU:aw ["whole","prime","many","left","missing"] ["whole","prime","many"] (aj (top 32)):=cq
theorem D9 (D:ar K mg "without" (top 32)):Callee P w K mg base aG 1 "without" ["whole","prime","many"] Ep:=by
 refine cO D lU (λf cdv A outer s H vs Q E hr h=>?_)
 obtain⟨n,q,k,rfl,n1,n9,q2,q9,k1,Qr⟩:=h
 have nd:=lU.nd
 refine⟨_,(ae (bh (i:=3) nd (pv 0)) (ae (bh (i:=4) nd (pv 2)) (ae (bj PassesOwn.never (PW.pt (gj (az cJ (pv 4) ah (ay _)) (gS (az a9 (ao aF (pv 3) (pv 1)) ah (ay _))))) (ae (c6 (i:=3) nd rfl (Or.inl rfl) (pv 1) (eJ iY)) (ai (c6 (i:=4) nd rfl (Or.inl rfl) ah (eJ zQ))))) (ai (av (eA (az a9 (pv 4) ah (ay _)) (pv 3) ah)))))),?_⟩
 show aY _ _ _ [some (.int n),some (.int q),some (.int k),none,none] H
 k_data
 refine bo (α:=Int × Int) (λx=>[some (.int n),some (.int q),some (.int k),some (.int x.1),some (.int x.2)]) (λx H1=>H1=H/\1<=x.1/\x.1<=n/\0<=x.2/\x.2<=k/\n=q^(k-x.2).toNat*x.1) (λx=>x.1.toNat) (n,k) rfl ⟨rfl,n1,Int.le_refl _,by show 0<=k;omega,Int.le_refl _,by show n=q^(k-k).toNat*n;rw [Int.sub_self];show n=q^0*n;rw [Int.pow_zero,Int.one_mul]⟩ ?_
 rintro⟨l,m⟩ H1 ⟨rfl,l1,l2,m0,m1,e⟩
 replace l1:1<=l:=l1
 replace l2:l<=n:=l2
 replace m0:0<=m:=m0
 replace m1:m<=k:=m1
 replace e:n=q^(k-m).toNat*l:=e
 k_data
 refine aK (λc=>?_) (λc=>?_)
 ·refine⟨by omega,?_⟩
  refine aK (λc2=>?_) (λc2=>?_)
  ·obtain⟨y,hy⟩:=Int.dvd_of_emod_eq_zero c2
   have ey:l/q=y:=by rw [hy];exact Int.mul_ediv_cancel_left _ (by omega)
   have y1:1<=y:=by
    rcases (by omega:y<=0∨1<=y) with z | z
    ·have:=Int.mul_nonpos_of_nonneg_of_nonpos (show 0<=q by omega) z
     omega
    ·exact z
   have yl:y<l:=by
    rw [hy]
    have:=Int.mul_le_mul_of_nonneg_right q2 (show 0<=y by omega)
    omega
   refine⟨_,λ_ _ z=>z,by omega,Bd.of (by omega) (by omega),(y,m-1),by rw [ey],rfl,y1,by show y<=n;omega,by show 0<=m-1;omega,by show m-1<=k;omega,?_,by show y.toNat<l.toNat;omega⟩
   show n=q^(k-(m-1)).toNat*y
   rw [show (k-(m-1)).toNat=(k-m).toNat+1 by omega,Int.pow_succ,Int.mul_assoc,<- hy]
   exact e
  ·rw [if_neg (by omega)]
   refine Qr 0 (.inr ⟨λz=>?_,rfl⟩) (Int.le_refl _) (by omega)
   have pp:=Num.bJ (show 0<q by omega) (k-m).toNat
   obtain⟨t,ht⟩:=z
   have e3:q^k.toNat=q^(k-m).toNat*q^m.toNat:=by rw [<- Pw.pow_add];congr 1;omega
   rw [e,e3,Int.mul_assoc] at ht
   have ht2:=Int.eq_of_mul_eq_mul_left (by omega) ht
   obtain⟨j,hj⟩:∃ j,m.toNat=j+1:=⟨m.toNat-1,by omega⟩
   rw [hj,Int.pow_succ,Int.mul_comm (q^j) q,Int.mul_assoc] at ht2
   exact c2 (Int.emod_eq_zero_of_dvd ⟨_,ht2⟩)
 ·have mz:m=0:=by omega
  rw [if_pos mz]
  rw [mz,Int.sub_zero] at e
  exact Qr l (.inl ⟨⟨l,e⟩,e⟩) (by omega) l2
def CT (width:Nat):Int->Int->List PyData->Prop
 | left,_,[]=>left=1
 | left,last,d::ds=>1<=left/\∃(p g k:Int) (rows more:List PyData),d=.tuple (.tuple [.int p,.int g,.tuple rows]::.int k::more)/\more.length+2=width/\2<=p/\1<=k/\last<p/\∃ r,Wo left p k r/\CT width r p ds
def El (K:PySem.W.Frag):Sp:=λvs H Q _=>∃(n:Int) (rows:List PyData) (v:V) (m:Nat),vs=[.int n,v,.int m]/\2<=m/\n<=10^110/\dv K H (.tuple rows) v/\(∀(p g k:Int) (rs more:List PyData),.tuple (.tuple [.int p,.int g,.tuple rs]::.int k::more)∈rows->p<=10^110)/\∀ b:Bool,(b=true↔CT m n 1 rows)->Q (.bl b) H
theorem Wo.one {n q k r r':Int} (h2:2<=q) (h:Wo n q k r) (h':Wo n q k r'):r=r':=by
 have pp:=Num.bJ (show 0<q by omega) k.toNat
 rcases h with⟨h1,h2⟩|⟨h1,h2⟩<;>rcases h' with⟨h3,h4⟩|⟨h3,h4⟩
 ·exact Int.eq_of_mul_eq_mul_left (by omega) (h2.symm.trans h4)
 ·exact absurd h1 h3
 ·exact absurd h3 h1
 ·rw [h2,h4]
theorem lP:aw ["n","rows","width","left","last","row"] ["n","rows","width"] (aj (top 30)):=cq
theorem D4 (D:ar K mg "come_to" (top 30)) (c_is_row_form:Callee P w K mg base aG 3 "is_row_form" ["thing","width"] (Eo K)) (c_without:Callee P w K mg base aG 1 "without" ["whole","prime","many"] Ep):Callee P w K mg base aG 4 "come_to" ["n","rows","width"] (El K):=by
 refine cO D lP (λf cdv A outer s H vs Q E hr h=>?_)
 obtain⟨n,rows,v,m,rfl,hm,n9,hd,hb9,q⟩:=h
 obtain⟨p,xs,rfl,hS,ht⟩:=hd
 have nd:=lP.nd
 refine⟨_,(ae (bh (i:=3) nd (pv 0)) (ae (bh (i:=4) nd ah) (ae (cS PassesOwn.never rfl (fZ (pv 1)) (aq (i:=5) nd rfl (Or.inl rfl) (.inr rfl)) (ae (aN (PW.pt (gk (az dJ (pv 3) ah (ay _)) (gk (dH (aT (aV c_is_row_form hr aB (aa (pv 5) (aa (pv 2) af))) (λ_=>rfl))) (fE (az qz (aJ aS (aJ aS (pv 5) ah (λ_ _=>rfl)) ah (λ_ _=>rfl)) (pv 4) (ay _)))))) (ai (av cZ)) aD) (ae (bh (i:=4) nd (aJ aS (aJ aS (pv 5) ah (λ_ _=>rfl)) ah (λ_ _=>rfl))) (ai (bh (i:=3) nd (aV c_without hr aB (aa (pv 3) (aa (pv 4) (aa (aJ aS (pv 5) ah (λ_ _=>rfl)) af))))))))) (ai (av (bA a9 (pv 3) ah (ay _))))))),?_⟩
 show aY _ _ _ [some (.int n),some (.ref p),some (.int m),none,none,none] H
 k_data
 refine⟨⟨_,hS⟩,?_⟩
 refine qg (xs:=xs) (λi σ' H'=>H'=H/\∃(l t:Int) (o:Option V),σ'=[some (.int n),some (.ref p),some (.int m),some (.int l),some (.int t),o]/\l<=10^110/\(CT m n 1 rows↔CT m l t (rows.drop i))) ⟨rfl,n,1,none,rfl,n9,by rw [List.drop_zero]⟩ (λi σ' H' _ h=>by rw [h.1];exact hS) ?_ ?_
 ·rintro i x σ' H' hx ⟨rfl,l,t,o,rfl,l9,hc⟩
  obtain⟨d,hd,hv⟩:=ht.get hx
  have dr:rows.drop i=d::rows.drop (i+1):=by
   obtain⟨hi,e⟩:=List.getElem?_eq_some_iff.mp hd
   rw [List.drop_eq_getElem_cons hi,e]
  rw [dr] at hc
  k_data
  refine aK (λc=>?_) (λc=>?_)
  ·exact q false ⟨λz=>(by cases z),λz=>absurd (hc.mp z).1 (by omega)⟩
  refine⟨d,x,m,rfl,hm,hv,λb hb=>⟨b,aM.mpr rfl,?_⟩⟩
  refine aK (λc1=>?_) (λc1=>?_)
  ·refine q false ⟨λz=>(by cases z),λz=>?_⟩
   obtain⟨_,p',g',k',rs',more',e1,e2,e3,e4,_⟩:=hc.mp z
   have:=hb.mpr ⟨_,k',more',e1,e2,⟨p',g',rs',rfl,e3⟩,e4⟩
   rw [c1] at this
   cases this
  ·obtain⟨pd,k,more,rfl,f2,⟨p',g,rs,rfl,f3⟩,f4⟩:=hb.mp (by simpa using c1)
   obtain⟨a1,y1,rfl,t1,u1,r1,rfl,hv2,u2,r2,rfl,hk,hmr⟩:=hv
   obtain⟨a2,x1,x2,x3,rfl,t2,w1,w2,w3⟩:=EO hv2
   cases w1
   cases hk
   refine bC t1 iQ (bC t2 iQ ⟨p',rfl,?_⟩)
   refine aK (λc2=>?_) (λc2=>?_)
   ·refine q false ⟨λz=>(by cases z),λz=>?_⟩
    obtain⟨_,p2,g2,k2,rs2,more2,e1,e2,e3,e4,e5,_⟩:=hc.mp z
    cases e1
    omega
   ·have p9:=hb9 p' g k rs more (List.mem_of_getElem? hd)
    refine bC t1 iQ (bC t2 iQ (bC t1 Dx ⟨l,p',k,rfl,by omega,l9,f3,p9,f4,λr hr' r0 r1=>⟨rfl,r,rfl,p',rfl,by omega,?_⟩⟩))
    rw [hc]
    constructor
    ·rintro⟨_,p2,g2,k2,rs2,more2,e1,e2,e3,e4,e5,r',e6,e7⟩
     cases e1
     rw [hr'.one f3 e6]
     exact e7
    ·intro z
     exact⟨by omega,p',g,k,rs,more,rfl,f2,f3,f4,by omega,r,hr',z⟩
 ·rintro σ' H' ⟨rfl,l,t,o,rfl,l9,hc⟩
  k_data
  rw [ht.length,List.drop_length] at hc
  refine q _ ?_
  rw [hc]
  exact decide_eq_true_iff
end
end K
namespace K
open PySem PySem.Spec PyProof.Rows L2
mutual
def qT:PyData->Prop
 | .int i=>i<=10^110
 | .tuple ds=>fM ds
 | .list ds=>fM ds
 | _=>True
def fM:List PyData->Prop
 | []=>True
 | d::ds=>qT d/\fM ds
end
mutual
def iB:PyData->Nat
 | .tuple ds=>1+bW ds
 | .list ds=>1+bW ds
 | _=>1
def bW:List PyData->Nat
 | []=>0
 | d::ds=>iB d+bW ds
end
theorem fx:∀{ds:List PyData} {d:PyData},fM ds->d∈ds->qT d
 | a::r,d,⟨h1,h2⟩,h=>by
  rcases List.mem_cons.mp h with z | z
  ·rw [z];exact h1
  ·exact fx h2 z
theorem oK:∀{ds:List PyData},(∀ d∈ds,qT d)->fM ds
 | [],_=>True.intro
 | a::r,h=>⟨h a (by simp),oK λd hd=>h d (List.mem_cons_of_mem _ hd)⟩
theorem jq:∀(xs ys:List PyData),bW (xs++ys)=bW xs+bW ys
 | [],ys=>by simp [bW]
 | a::r,ys=>by
  show iB a+bW (r++ys)=iB a+bW r+bW ys
  rw [jq r ys]
  omega
theorem oW:∀ d:PyData,1<=iB d
 | .tuple _=>by simp [iB]
 | .list _=>by simp [iB]
 | .none=>Nat.le_refl _
 | .bool _=>Nat.le_refl _
 | .int _=>Nat.le_refl _
 | .str _=>Nat.le_refl _
 | .dict _=>by simp [iB]
theorem jr:∀ ds:List PyData,ds.length<=bW ds
 | []=>Nat.le_refl _
 | a::r=>by
  have:=oW a
  have:=jr r
  show r.length+1<=iB a+bW r
  omega
def mi:PyData->PyData
 | .tuple (x::_)=>x
 | _=>.none
def qD:PyData->Int
 | .tuple (.tuple (.int q::_)::_)=>q
 | _=>0
def RA (d:PyData):Prop:=∃(p g:Int) (rows:List PyData),d=.tuple [.int p,.int g,.tuple rows]/\2<=p/\1<=g/\g<p/\CT 2 (p-1) 1 rows/\Du p g (p-1) (rows.map qD)
inductive PP:PyData->Prop
 | mk (p g:Int) (rows:List PyData):RA (.tuple [.int p,.int g,.tuple rows])->(∀ r∈rows,PP (mi r))->PP (.tuple [.int p,.int g,.tuple rows])
theorem iU {w:Nat}:∀{rows:List PyData} {l t:Int},CT w l t rows->∀ r∈rows,∃(p g k:Int) (rs more:List PyData),r=.tuple (.tuple [.int p,.int g,.tuple rs]::.int k::more)/\2<=p/\1<=k/\more.length+2=w
 | d::ds,l,t,⟨_,p,g,k,rs,more,e1,e2,e3,e4,e5,r',e6,e7⟩,r,hr=>by
  rcases List.mem_cons.mp hr with z | z
  ·rw [z];exact⟨p,g,k,rs,more,e1,e3,e4,e2⟩
  ·exact iU e7 r z
theorem B6 {w:Nat} {rows:List PyData} {l t:Int} (h:CT w l t rows):DE rows (rows.map qD):=by
 refine⟨by rw [List.length_map],λi row hi=>?_⟩
 obtain⟨p,g,k,rs,more,e,_⟩:=iU h row (List.mem_of_getElem? hi)
 exact⟨p,by rw [List.getElem?_map,hi,e];rfl,[.int g,.tuple rs],.int k::more,e⟩
section
variable {P:Program} {w:World} {K:PySem.W.Frag} {mg:Str->Option Value} {base:Heap}
def En (K:PySem.W.Frag):Sp:=λvs H Q _=>∃ d v,vs=[v]/\dv K H d v/\qT d/\iB d<=10^6/\∀ b H',(b=true↔RA d)->aA H H'->Q (.bl b) H'
theorem eT:aw ["thing","p","full","parts"] ["thing"] (aj (top 28)):=cq
theorem D7 (D:ar K mg "is_right_above" (top 28)) (c_is_paper_form:Callee P w K mg base aG 2 "is_paper_form" ["thing"] (Dc K)) (c_come_to:Callee P w K mg base aG 4 "come_to" ["n","rows","width"] (El K)) (c_is_least:Callee P w K mg base aG 5 "is_least" ["n","a","e","primes"] (gT K)) (c_primes_in:Callee P w K mg base aG 1 "primes_in" ["parts"] (dA K)):Callee P w K mg base aG 6 "is_right_above" ["thing"] (En K):=by
 refine cO D eT (λf cdv A outer s H vs Q E hr h=>?_)
 obtain⟨d,v,rfl,hd,hs,hz,q⟩:=h
 have nd:=eT.nd
 refine⟨_,(ae (aN (dH (aT (aV c_is_paper_form hr aB (aa (pv 0) af)) (λ_=>rfl))) (ai (av cZ)) aD) (ae (cR (pv 0) (bT (n:=3) rfl (ax (aq (i:=1) nd rfl (Or.inl rfl) (.inr rfl)) (ax (aq (i:=2) nd rfl (Or.inl rfl) (.inr rfl)) (ax (aq (i:=3) nd rfl (Or.inl rfl) (.inr rfl)) aR))))) (ai (av (bV (qG qz dJ ah (pv 2) (pv 1)) (bV (aV c_come_to hr aB (aa (ao bI (pv 1) ah) (aa (pv 3) (aa ah af)))) (c5 (aV c_is_least hr aB (aa (pv 1) (aa (pv 2) (aa (ao bI (pv 1) ah) (aa (aV c_primes_in hr aB (aa (pv 3) af)) af)))))))))))),?_⟩
 show aY _ _ _ [some v,none,none,none] H
 k_data
 refine⟨d,v,rfl,hd,λb hb=>⟨b,aM.mpr rfl,?_⟩⟩
 refine aK (λc=>?_) (λc=>?_)
 ·refine q false _ ⟨λz=>(by cases z),fun⟨p,g,rows,e,p2,_⟩=>?_⟩ (aA.refl _)
  have:=hb.mpr ⟨p,g,rows,e,p2⟩
  rw [c] at this
  cases this
 ·obtain⟨p,g,rows,rfl,p2⟩:=hb.mp (by simpa using c)
  obtain⟨pa,x1,x2,x3,rfl,hS,e1,e2,e3⟩:=EO hd
  cases e1
  cases e2
  refine⟨pa,_,rfl,hS,rfl,?_⟩
  k_data
  simp only [sN,vO,tC,vX,List.getElem?_cons_zero,List.getElem?_cons_succ,Option.some.injEq,exists_eq_left',V.int.injEq,exists_and_left,V.bl.injEq]
  obtain⟨hp9,hrows⟩:p<=10^110/\fM rows:=by
   simp only [qT,fM,and_true] at hs
   exact⟨hs.1,hs.2.2⟩
  have hzr:bW rows<=10^6:=by
   simp only [iB,bW] at hz
   omega
  have no:∀{b:Bool},b=false->¬RA (.tuple [.int p,.int g,.tuple rows])->(b=true↔RA (.tuple [.int p,.int g,.tuple rows])):=λe n=>⟨λz=>(by rw [e] at z;cases z),λz=>absurd z n⟩
  refine aK (λc1=>?_) (λc1=>?_)
  ·refine aK (λc2=>?_) (λc2=>?_)
   ·have g1:1<=g:=of_decide_eq_true c1
    have g2:g<p:=of_decide_eq_true c2
    refine⟨p-1,rows,x3,2,rfl,by decide,by omega,e3,λp' g' k' rs more hm=>?_,λb1 hb1=>⟨b1,rfl,?_⟩⟩
    ·have:=fx hrows hm
     simp only [qT,fM] at this
     exact this.1.1
    refine aK (λc3=>?_) (λc3=>?_)
    ·have hct:=hb1.mp c3
     have hh:=B6 hct
     have rl:rows.length<=10^6:=Nat.le_trans (jr rows) hzr
     refine⟨x3,rows,rows.map qD,rfl,e3,hh,rl,λpq H1 s1 f1 h1=>?_⟩
     refine⟨p,g,p-1,pq,rows.map qD,rfl,by omega,by omega,by omega,by omega,aO.of h1,λy hy=>?_,by rw [List.length_map];exact rl,λb2 H2 hb2 s2=>?_⟩
     ·obtain⟨r,hr',rfl⟩:=List.mem_map.mp hy
      obtain⟨p',g',k',rs,more,e,h2,_⟩:=iU hct r hr'
      have:=fx hrows hr'
      rw [e] at this ⊢
      simp only [qT,fM] at this
      show 0<p'/\p'<=_
      omega
     ·refine q b2 H2 (hb2.trans ⟨λz=>⟨p,g,rows,rfl,p2,g1,g2,hct,z⟩,fun⟨p',g',rows',e,_,_,_,_,z⟩=>?_⟩) (s1.trans s2)
      cases e
      exact z
    ·refine q false _ (no rfl fun⟨p',g',rows',e,_,_,_,z,_⟩=>?_) (aA.refl _)
     cases e
     exact c3 (hb1.mpr z)
   ·refine q false _ (no rfl fun⟨p',g',rows',e,_,_,z,_⟩=>?_) (aA.refl _)
    cases e
    exact c2 (decide_eq_true z)
  ·refine q false _ (no rfl fun⟨p',g',rows',e,_,z,_⟩=>?_) (aA.refl _)
   cases e
   exact c1 (decide_eq_true z)
theorem pU {H:Hp}:∀{ds:List PyData} {us:List V},aQ K H ds us->ds≠[]->∃ ds' d us' u,ds=ds'++[d]/\us=us'++[u]/\aQ K H ds' us'/\dv K H d u
 | [d],us,⟨x,r,e,h,t⟩,_=>by
  cases t
  exact⟨[],d,[],x,rfl,e,rfl,h⟩
 | d::d2::ds,us,⟨x,r,e,h,t⟩,_=>by
  obtain⟨ds',d',us',u,e1,e2,h1,h2⟩:=pU t (by simp)
  exact⟨d::ds',d',x::us',u,by rw [e1];rfl,by rw [e,e2];rfl,⟨x,us',rfl,h,h1⟩,h2⟩
theorem lY:∀ rows:List PyData,bW (rows.map mi)<=bW rows
 | []=>Nat.le_refl _
 | a::r=>by
  have h1:=lY r
  have h2:iB (mi a)<=iB a:=by
   match a with
   | .tuple (x::xs) =>
    show iB x<=1+(iB x+bW xs)
    omega
   | .tuple []=>exact Nat.le_refl _
   | .list ds=>exact oW (.list ds)
   | .none=>exact Nat.le_refl _
   | .bool _=>exact Nat.le_refl _
   | .int _=>exact Nat.le_refl _
   | .str _=>exact Nat.le_refl _
   | .dict ds=>exact oW (.dict ds)
  show iB (mi a)+bW (r.map mi)<=iB a+bW r
  omega
def BA (K:PySem.W.Frag):Sp:=λvs H Q _=>∃(p:Addr) (ds:List PyData) (us:List V),vs=[.ref p]/\(aO K H p us∨bG K H p us)/\aQ K H ds us/\fM ds/\bW ds<=10^6/\∀ b H',(b=true↔∀ d∈ds,PP d)->aA H H'->Q (.bl b) H'
theorem dO:aw ["things","waiting","paper"] ["things"] (aj (top 27)):=cq
theorem CC (D:ar K mg "are_prime_papers" (top 27)) (c_is_right_above:Callee P w K mg base aG 6 "is_right_above" ["thing"] (En K)) (n_list:mg "list"=none):Callee P w K mg base aG 7 "are_prime_papers" ["things"] (BA K):=by
 refine cO D dO (λf cdv A outer s H vs Q E hr h=>?_)
 obtain⟨p,ds0,us0,rfl,hS,hd0,hsm0,hsz0,q⟩:=h
 have nd:=dO.nd
 refine⟨_,(ae (bh (i:=1) nd (cF iR rfl n_list L2.boot_list (aa (pv 0) af))) (ae (bj PassesOwn.never (aT (pv 1) (λ_=>rfl)) (ae (bh (i:=2) nd (CS PySem.F.plainAttrs_list PySem.F.slot_list_pop PySem.F.type_list_pop Ct (pv 1))) (ae (aN (dH (aT (aV c_is_right_above hr aB (aa (pv 2) af)) (λ_=>rfl))) (ai (av cZ)) aD) (ai (eK (tP PySem.F.plainAttrs_list PySem.F.slot_list_extend PySem.F.type_list_extend u6 (pv 1) (aa (dc rfl (kG (N':=["row"]) (js:=[none]) rfl rfl) (fZ (aJ aS (pv 2) ah (λ_ _=>rfl))) (λ_ _ _ _=>(aq (i:=0) (show List.Nodup [("row":Str)] from by decide +kernel) rfl (Or.inl rfl) (.inr rfl))) (λ_ _ _ _=>aX) (λ_ _ _ _=>(aJ (bQ K rfl) (pv 0) ah (λ_ _=>rfl)))) af))))))) (ai (av cZ)))),?_⟩
 show aY _ _ _ [some (.ref p),none,none] H
 k_data
 refine⟨us0,hS,λpw hpw=>?_⟩
 refine bo (α:=List PyData × List V × Option V) (λx=>[some (.ref p),some (.ref pw),x.2.2]) (λx H1=>aA H H1/\H1 pw=some (.lst x.2.1)/\aQ K H x.1 x.2.1/\fM x.1/\bW x.1<=10^6/\((∀ d∈ds0,PP d)↔∀ d∈x.1,PP d)) (λx=>bW x.1) (ds0,us0,none) rfl ⟨ak hpw,ag,hd0,hsm0,hsz0,Iff.rfl⟩ ?_
 rintro⟨ds,us,o⟩ H1 ⟨s1,h1,hd,hsm,hsz,hPP⟩
 replace h1:H1 pw=some (.lst us):=h1
 replace hd:aQ K H ds us:=hd
 replace hsm:fM ds:=hsm
 replace hsz:bW ds<=10^6:=hsz
 replace hPP:(∀ d∈ds0,PP d)↔∀ d∈ds,PP d:=hPP
 k_data
 refine⟨!us.isEmpty,.inl ⟨us,aO.of h1,rfl⟩,?_⟩
 by_cases hne:ds=[]
 ·subst hne
  have hu:us=[]:=hd
  subst hu
  rw [if_neg (by simp)]
  exact q true H1 ⟨λ_=>hPP.mpr λd z=>by simp at z,λ_=>rfl⟩ s1
 obtain⟨ds',d,us',u,rfl,rfl,hd',hdu⟩:=pU hd hne
 rw [if_pos (by simp)]
 have smd:qT d:=fx hsm (by simp)
 have szd:bW (ds'++[d])=bW ds'+iB d:=by
  rw [jq]
  show bW ds'+(iB d+0)=_
  omega
 refine⟨_,λ_ _ z=>z,.inl ⟨rfl,_,aO.of h1⟩,pw,us'++[u],u,rfl,rfl,h1,by simp,?_⟩
 rw [List.dropLast_concat]
 have S2:=s1.upd (o:=.lst us') hpw
 have e2:upd H1 pw (.lst us') pw=some (.lst us'):=ag
 generalize upd H1 pw _=H2 at *
 refine⟨d,u,rfl,dv.same S2 _ hdu,smd,by omega,λb H3 hb s3=>⟨b,aM.mpr rfl,?_⟩⟩
 have S3:=S2.trans s3
 have e3:=s3 _ _ e2
 refine aK (λc=>?_) (λc=>?_)
 ·refine q false H3 ⟨λz=>(by cases z),λz=>?_⟩ S3
  have hp:=hPP.mp z d (by simp)
  cases hp with
  | mk _ _ _ hra _ =>
   have:=hb.mpr hra
   rw [c] at this
   cases this
 ·have hra:=hb.mp (by simpa using c)
  obtain⟨p',g,rows,rfl,p2,g1,g2,hct,hlst⟩:=hra
  have hra:=hb.mp (by simpa using c)
  obtain⟨pa,x1,x2,x3,rfl,hSu,f1,f2,f3⟩:=EO hdu
  obtain⟨pr,xs,rfl,hSr,hdr⟩:=f3
  have xl:=hdr.length
  have szr:bW rows<iB (.tuple [.int p',.int g,.tuple rows]):=by
   simp only [iB,bW]
   omega
  have rl:=jr rows
  refine⟨.inl ⟨rfl,_,aO.of e3⟩,bC (hSu.same S3) rfl ⟨pr,rfl,⟨_,hSr.same S3⟩,?_⟩⟩
  refine dS (xs:=xs) (λi zs H4=>H4=H3/\aQ K H ((rows.take i).map mi) zs) ⟨rfl,rfl⟩ (Nat.le_trans (show xs.length<=10^6 by omega) (by decide)) (λi zs H4 hi ⟨z1,z2⟩=>⟨by rw [z1];exact hSr.same S3,by rw [z2.length,List.length_map,List.length_take];omega⟩) ?_ ?_
  ·rintro i x zs H4 hx ⟨rfl,hz⟩
   obtain⟨r,hr',hv⟩:=hdr.get hx
   obtain⟨p4,g4,k4,rs,more,rfl,_⟩:=iU hct r (List.mem_of_getElem? hr')
   obtain⟨a1,y1,rfl,t1,u1,r1,rfl,hv2,_⟩:=hv
   show cI 0 _ [none] _ _
   k_data
   refine⟨True.intro,bC (t1.same S3) iQ ⟨rfl,?_⟩⟩
   rw [List.take_add_one,hr',List.map_append]
   exact aQ.append hz (.one hv2)
  ·rintro zs H4 p4 ⟨rfl,hz⟩ hp4
   rw [show xs.length=rows.length by omega,List.take_length] at hz
   have zl:zs.length=rows.length:=by rw [hz.length,List.length_map]
   have s5:=ak (o:=.lst zs) hp4
   have e5:upd H4 p4 (.lst zs) p4=some (.lst zs):=ag
   have e6:=s5 _ _ e3
   have S5:=S3.trans s5
   generalize upd H4 p4 _=H5 at *
   have ul:=hd'.length
   have dl:=jr ds'
   refine⟨pw,p4,us',zs,rfl,rfl,e6,e5,Nat.le_trans (show us'.length+zs.length<=10^6 by omega) (by decide),(ds'++rows.map mi,us'++zs,some (.ref pa)),rfl,S5.upd hpw,ag,aQ.append hd' hz,?_,?_,?_,?_⟩
   ·refine oK λx hx=>?_
    rcases List.mem_append.mp hx with z | z
    ·exact fx hsm (List.mem_append.mpr (.inl z))
    ·obtain⟨r,hr',rfl⟩:=List.mem_map.mp z
     obtain⟨p4,g4,k4,rs,more,rfl,_⟩:=iU hct r hr'
     simp only [qT,fM] at smd
     have:=fx smd.2.2.1 hr'
     simp only [qT,fM] at this
     simp only [mi,qT,fM]
     exact this.1
   ·show bW (ds'++rows.map mi)<=_
    rw [jq]
    have:=lY rows
    omega
   ·rw [hPP]
    constructor
    ·intro z x hx
     rcases List.mem_append.mp hx with y | y
     ·exact z x (List.mem_append.mpr (.inl y))
     ·obtain⟨r,hr',rfl⟩:=List.mem_map.mp y
      have hp:=z (.tuple [.int p',.int g,.tuple rows]) (by simp)
      cases hp with
      | mk _ _ _ _ h=>exact h r hr'
    ·intro z x hx
     rcases List.mem_append.mp hx with y | y
     ·exact z x (List.mem_append.mpr (.inl y))
     ·rw [List.mem_singleton.mp y]
      exact .mk p' g rows hra λr hr'=>z _ (List.mem_append.mpr (.inr (List.mem_map.mpr ⟨r,hr',rfl⟩)))
   ·show bW (ds'++rows.map mi)<_
    rw [jq,szd]
    have:=lY rows
    omega
def Em (K:PySem.W.Frag):Sp:=λvs H Q _=>∃ d v,vs=[v]/\dv K H d v/\qT d/\iB d<=10^6/\∀ b H',(b=true↔PP d)->aA H H'->Q (.bl b) H'
theorem eS:aw ["thing"] ["thing"] (aj (top 25)):=cq
theorem D6 (D:ar K mg "is_prime_paper" (top 25)) (c_are_prime_papers:Callee P w K mg base aG 7 "are_prime_papers" ["things"] (BA K)):Callee P w K mg base aG 8 "is_prime_paper" ["thing"] (Em K):=by
 refine cO D eS (λf cdv A outer s H vs Q E hr h=>?_)
 obtain⟨d,v,rfl,hd,hs,hz,q⟩:=h
 have nd:=eS.nd
 refine⟨_,(ai (av (aV c_are_prime_papers hr aB (aa (cf (aa (pv 0) af)) af)))),?_⟩
 show fN _ _ [some v] H
 k_data
 refine⟨by show 1<=sizeLine;decide,λpl hpl=>?_⟩
 have s1:=ak (o:=.lst [v]) hpl
 refine⟨pl,[d],[v],rfl,.inl (aO.of ag),.one (dv.same s1 _ hd),⟨hs,True.intro⟩,by show iB d+0<=_;omega,λb H' hb s2=>?_⟩
 exact q b H' (hb.trans ⟨λz=>z d (by simp),λz x hx=>by rw [List.mem_singleton.mp hx];exact z⟩) (s1.trans s2)
end
end K
namespace K
open PySem PySem.Spec PyProof.Rows L2
theorem eO {p:Int × Int} {ps:List (Int × Int)} {ds:Nat->PyData}:Num.rowsOf (p::ps) ds=.tuple [ds 0,.int p.2]::Num.rowsOf ps (λi=>ds (i+1)):=by
 unfold Num.rowsOf
 rw [List.length_cons,List.range_succ_eq_map,List.map_cons,List.map_map]
 rfl
theorem qI:∀{ps:List (Int × Int)},(∀ p∈ps,2<=p.1)->1<=Num.bU ps
 | [],_=>Int.le_refl _
 | p::ps,h=>by
  have h1:=qI (ps:=ps) λq hq=>h q (List.mem_cons_of_mem _ hq)
  have h2:=Num.bJ (show 0<p.1 by have:=h p (by simp);omega) p.2.toNat
  have:=Int.mul_pos h2 (show 0<Num.bU ps by omega)
  show 1<=p.1^p.2.toNat*Num.bU ps
  omega
theorem A5:∀{ps:List (Int × Int)} {ds:Nat->PyData} {t:Int},(∀ p∈ps,2<=p.1/\1<=p.2/\t<p.1)->ps.Pairwise (λa b=>a.1<b.1)->(∀ i q k,ps[i]?=some (q,k)->∃ g rows,ds i=.tuple [.int q,.int g,.tuple rows])->CT 2 (Num.bU ps) t (Num.rowsOf ps ds)
 | [],_,_,_,_,_=>rfl
 | p::ps,ds,t,h,hw,hd=>by
  rw [eO]
  obtain⟨g,rows,e⟩:=hd 0 p.1 p.2 rfl
  obtain⟨p2,k1,tp⟩:=h p (by simp)
  obtain⟨w1,w2⟩:=List.pairwise_cons.mp hw
  refine⟨qI λq hq=>(h q hq).1,p.1,g,p.2,rows,[],by rw [e],rfl,p2,k1,tp,Num.bU ps,.inl ⟨⟨_,rfl⟩,rfl⟩,?_⟩
  exact A5 (λq hq=>⟨(h q (List.mem_cons_of_mem _ hq)).1,(h q (List.mem_cons_of_mem _ hq)).2.1,w1 q hq⟩) w2 λi q k hi=>hd (i+1) q k (by simpa using hi)
theorem An {n:Int} {ps:List (Int × Int)} {ds:Nat->PyData} (h:Num.Part n ps) (hd:∀ i q k,ps[i]?=some (q,k)->Num.fK q (ds i)):CT 2 n 1 (Num.rowsOf ps ds):=by
 have:=A5 (t:=1) (ds:=ds) (λp hp=>⟨(h.ok p hp).1.two,(h.ok p hp).2.1,by have:=(h.ok p hp).1.two;omega⟩) h.rise λi q k hi=>(hd i q k hi).head
 rwa [h.prod] at this
theorem yo:∀{ps:List (Int × Int)} {ds:Nat->PyData},(∀ i q k,ps[i]?=some (q,k)->∃ g rows,ds i=.tuple [.int q,.int g,.tuple rows])->(Num.rowsOf ps ds).map qD=ps.map (·.1)
 | [],_,_=>rfl
 | p::ps,ds,hd=>by
  rw [eO]
  obtain⟨g,rows,e⟩:=hd 0 p.1 p.2 rfl
  rw [List.map_cons,List.map_cons,yo λi q k hi=>hd (i+1) q k (by simpa using hi),e]
  rfl
theorem gu {ps:List (Int × Int)} {ds:Nat->PyData} {r:PyData} (h:r∈Num.rowsOf ps ds):∃ i q k,ps[i]?=some (q,k)/\r=.tuple [ds i,.int k]:=by
 unfold Num.rowsOf at h
 obtain⟨i,hi,e⟩:=List.mem_map.mp h
 have hi':=List.mem_range.mp hi
 have g:=List.getElem?_eq_getElem hi'
 refine⟨i,ps[i].1,ps[i].2,g,?_⟩
 rw [<- e,List.getD_eq_getElem?_getD,g]
 rfl
theorem yn {n a:Int} {ps:List (Int × Int)} {ds:Nat->PyData} (n2:2<=n) (h:Num.Part (n-1) ps) (hd:∀ i q k,ps[i]?=some (q,k)->Num.fK q (ds i)):RA (.tuple [.int n,.int a,.tuple (Num.rowsOf ps ds)])↔1<=a/\a<n/\Num.Ord n a (n-1).toNat:=by
 have hq:=yo (ps:=ps) (ds:=ds) λi q k hi=>(hd i q k hi).head
 constructor
 ·rintro⟨p,g,rows,e,p2,g1,g2,c,l⟩
  cases e
  rw [hq,kM n2 h (by omega)] at l
  exact⟨g1,g2,l⟩
 ·rintro⟨a1,a2,o⟩
  exact⟨n,a,_,rfl,n2,a1,a2,An h hd,by rw [hq,kM n2 h (by omega)];exact o⟩
theorem CJ {n:Int} {d:PyData} (h:Num.fK n d):PP d:=by
 induction h with
 | mk p g ps ds hp h9 hl hP hn hds ih =>
  refine .mk p g _ ((yn hp.two hP hds).mpr ⟨hl.one,hl.lt,hl.ord⟩) λr hr=>?_
  obtain⟨i,q,k,hi,rfl⟩:=gu hr
  exact ih i q k hi
theorem CY {n a:Int} {ps:List (Int × Int)} {ds:Nat->PyData} (n2:2<=n) (h:Num.Part (n-1) ps) (hd:∀ i q k,ps[i]?=some (q,k)->Num.fK q (ds i)):PP (.tuple [.int n,.int a,.tuple (Num.rowsOf ps ds)])↔1<=a/\a<n/\Num.Ord n a (n-1).toNat:=by
 rw [<- yn n2 h hd]
 constructor
 ·intro z
  cases z with
  | mk _ _ _ h1 _=>exact h1
 ·intro z
  refine .mk n a _ z λr hr=>?_
  obtain⟨i,q,k,hi,rfl⟩:=gu hr
  exact CJ (hd i q k hi)
theorem CK {n:Int} {d:PyData} (h:Num.fK n d):qT d:=by
 induction h with
 | mk p g ps ds hp h9 hl hP hn hds ih =>
  have:=hl.lt
  simp only [qT,fM,and_true]
  refine⟨by omega,by omega,oK λr hr=>?_⟩
  obtain⟨i,q,k,hi,rfl⟩:=gu hr
  have hk:=(hP.ok _ (List.mem_of_getElem? hi)).2.2
  simp only [qT,fM,and_true]
  exact⟨ih i q k hi,by show k<=_;have:k<=30:=hk;omega⟩
theorem uc:∀{ps:List (Int × Int)} {ds:Nat->PyData},(∀ p∈ps,2<=p.1/\1<=p.2)->(∀ i q k,ps[i]?=some (q,k)->2^(iB (ds i)+2)<=q.natAbs^12)->2^bW (Num.rowsOf ps ds)<=(Num.bU ps).natAbs^12
 | [],_,_,_=>by show 2^0<=1^12;decide
 | p::ps,ds,h,hd=>by
  rw [eO]
  have h1:=hd 0 p.1 p.2 rfl
  have h2:=uc (ps:=ps) (ds:=λi=>ds (i+1)) (λq hq=>h q (List.mem_cons_of_mem _ hq)) λi q k hi=>hd (i+1) q k (by simpa using hi)
  obtain⟨p2,k1⟩:=h p (by simp)
  have e:bW (.tuple [ds 0,.int p.2]::Num.rowsOf ps (λi=>ds (i+1)))=(iB (ds 0)+2)+bW (Num.rowsOf ps (λi=>ds (i+1))):=by
   simp only [bW,iB]
   omega
  rw [e,Nat.pow_add]
  have h3:=Nat.mul_le_mul h1 h2
  rw [<- Nat.mul_pow] at h3
  refine Nat.le_trans h3 (Nat.pow_le_pow_left ?_ 12)
  show _<=(p.1^p.2.toNat*Num.bU ps).natAbs
  rw [Int.natAbs_mul,Int.natAbs_pow]
  exact Nat.mul_le_mul_right _ (Nat.le_self_pow (by omega) _)
theorem CO {n:Int} {d:PyData} (h:Num.fK n d):2^(iB d+2)<=n.natAbs^12/\(n=2->iB d=4):=by
 induction h with
 | mk p g ps ds hp h9 hl hP hn hds ih =>
  have p2:=hp.two
  have esz:iB (.tuple [.int p,.int g,.tuple (Num.rowsOf ps ds)])=4+bW (Num.rowsOf ps ds):=by
   simp only [iB,bW]
   omega
  have nil2:p=2->ps=[]:=λe=>by
   cases ps with
   | nil=>rfl
   | cons x r =>
    exfalso
    obtain⟨o1,o2,_⟩:=hP.ok x (by simp)
    have:=Num.d5 (ps:=x::r) (p:=x) (by simp) o2
    rw [hP.prod,e] at this
    have:=Int.le_of_dvd (by decide) this
    have:=o1.two
    omega
  refine⟨?_,λe=>by rw [esz,nil2 e];rfl⟩
  rw [esz]
  by_cases c:p=2
  ·rw [nil2 c,c]
   show 2^(4+0+2)<=2^12
   decide
  ·have podd:p%2=1:=by
    rcases (by omega:p%2=1∨p%2=0) with z | z
    ·exact z
    ·exact absurd (Int.dvd_of_emod_eq_zero z) (hp.no 2 (by decide) (by omega))
   have pm2:Num.Pm 2:=⟨by decide,λd d2 dn=>by omega⟩
   obtain⟨x,hx,ex⟩:=Num.fX pm2 (λx z=>(hP.ok x z).1) (by rw [hP.prod];exact⟨(p-1)/2,by omega⟩)
   cases ps with
   | nil=>simp at hx
   | cons y r =>
    have ey:y.1=2:=by
     have:=(hP.ok y (by simp)).1.two
     rcases List.mem_cons.mp hx with z | z
     ·rw [<- z];exact ex
     ·have:=(List.pairwise_cons.mp hP.rise).1 x z
      omega
    have s0:=(ih 0 y.1 y.2 rfl).2 ey
    have hr:=uc (ps:=r) (ds:=λi=>ds (i+1)) (λq hq=>⟨(hP.ok q (List.mem_cons_of_mem _ hq)).1.two,(hP.ok q (List.mem_cons_of_mem _ hq)).2.1⟩) λi q k hi=>(ih (i+1) q k (by simpa using hi)).1
    rw [eO]
    have e:4+bW (.tuple [ds 0,.int y.2]::Num.rowsOf r (λi=>ds (i+1)))+2=12+bW (Num.rowsOf r (λi=>ds (i+1))):=by
     simp only [bW,iB,s0]
     omega
    rw [e,Nat.pow_add]
    have h3:=Nat.mul_le_mul_left (2^12) hr
    rw [<- Nat.mul_pow] at h3
    refine Nat.le_trans h3 (Nat.pow_le_pow_left ?_ 12)
    have hpr:Num.bU (y::r)=p-1:=hP.prod
    have k1:=(hP.ok y (by simp)).2.1
    have:(Num.bU (y::r)).natAbs=2^y.2.toNat*(Num.bU r).natAbs:=by
     show (y.1^y.2.toNat*Num.bU r).natAbs=_
     rw [Int.natAbs_mul,Int.natAbs_pow,ey]
     rfl
    rw [hpr] at this
    have h5:2*(Num.bU r).natAbs<=2^y.2.toNat*(Num.bU r).natAbs:=Nat.mul_le_mul_right _ (Nat.le_self_pow (by omega) _)
    omega
theorem vz {n:Int} {d:PyData} (h:Num.fK n d):iB d<=358:=by
 have h1:=(CO h).1
 have h9:n<=10^9/\2<=n:=by
  cases h with
  | mk _ _ _ _ a b=>exact⟨b,a.two⟩
 have e30:(2:Nat)^30=1073741824:=by decide
 have h2:n.natAbs^12<=(2^30)^12:=Nat.pow_le_pow_left (show n.natAbs<=2^30 by omega) 12
 rw [<- Nat.pow_mul] at h2
 have:=(Nat.pow_le_pow_iff_right (by decide:1<2)).mp (Nat.le_trans h1 h2)
 omega
end K
namespace K
open PySem PySem.Spec PyProof.Rows L2
section
variable {P:Program} {w:World} {K:PySem.W.Frag} {mg:Str->Option Value} {base:Heap}
theorem zr {p a:Int} {e:Nat} (hp:Num.Pm p) (h:Num.Ord p a e):e∣(p-1).toNat:=by
 refine h.dv _ (Num.fR hp λz=>?_)
 have h0:Num.Al p (a^e) 0:=by
  obtain⟨k,hk⟩:∃ k,e=k+1:=⟨e-1,by have:=h.pos;omega⟩
  rw [hk,Int.pow_succ]
  show p∣a^k*a-0
  rw [Int.sub_zero]
  exact Int.dvd_mul_of_dvd_right z
 exact hp.kN (h0.symm.trans h.one)
theorem wZ {p a e:Int} {ps:List (Int × Int)} (hp:Num.Pm p) (h:Num.Part (p-1) ps) (he:1<=e) (hd:e∣p-1):Du p a e ((ps.map (·.1)).filter λq=>decide (e%q=0))↔Num.Ord p a e.toNat:=by
 have p2:=hp.two
 constructor
 ·rintro⟨h1,h2⟩
  refine Num.xT (by omega) ((cQ p2).mp h1) λq hq hq' z=>?_
  have hd':(q:Int)∣e:=by
   have:=Int.natCast_dvd_natCast.mpr hq'
   rwa [show (e.toNat:Int)=e by omega] at this
  obtain⟨x,hx,ex⟩:=Num.fX (Num.Bu hq) (λx z=>(h.ok x z).1) (by rw [h.prod];exact Int.dvd_trans hd' hd)
  refine h2 q (List.mem_filter.mpr ⟨List.mem_map.mpr ⟨x,hx,ex⟩,decide_eq_true (Int.emod_eq_zero_of_dvd hd')⟩) ((cQ p2).mpr ?_)
  rwa [show (e/(q:Int)).toNat=e.toNat/q by
   have:e/(q:Int)=((e.toNat/q:Nat):Int):=by rw [Int.natCast_ediv];congr 1;omega
   rw [this,Int.toNat_natCast]]
 ·intro h1
  refine⟨(cQ p2).mpr h1.one,λq hq z=>?_⟩
  obtain⟨m1,m2⟩:=List.mem_filter.mp hq
  obtain⟨x,hx,rfl⟩:=List.mem_map.mp m1
  obtain⟨o1,o2,_⟩:=h.ok x hx
  have d:x.1∣e:=Int.dvd_of_emod_eq_zero (of_decide_eq_true m2)
  have t:=o1.two
  refine h1.FF (Num.tJ o1) (by
   have:(x.1.toNat:Int)∣(e.toNat:Int):=by rw [show (x.1.toNat:Int)=x.1 by omega,show (e.toNat:Int)=e by omega];exact d
   exact Int.natCast_dvd_natCast.mp this) ?_
  rw [show e.toNat/x.1.toNat=(e/x.1).toNat by
   have:e/x.1=((e.toNat/x.1.toNat:Nat):Int):=by rw [Int.natCast_ediv];congr 1<;>omega
   rw [this,Int.toNat_natCast]]
  exact (cQ p2).mp z
def ny (K:PySem.W.Frag):Sp:=λvs H Q _=>∃(v:V) (p a e:Int) (g:PyData) (rows:List PyData) (ps:List (Int × Int)),vs=[v,.int a,.int e]/\dv K H (.tuple [.int p,g,.tuple rows]) v/\DE rows (ps.map (·.1))/\Num.Pm p/\Num.Part (p-1) ps/\p<=10^100/\ps.length<=10^5 /\ -(10^100)<=e/\e<=10^100/\∀ b H',(b=true↔1<=e/\Num.Ord p a e.toNat)->aA H H'->Q (.bl b) H'
theorem j8:aw ["paper","a","e","p","full","parts"] ["paper","a","e"] (aj (top 26)):=cq
theorem si (D:ar K mg "is_order" (top 26)) (c_is_least:Callee P w K mg base aG 5 "is_least" ["n","a","e","primes"] (gT K)) (c_primes_in:Callee P w K mg base aG 1 "primes_in" ["parts"] (dA K)):Callee P w K mg base aG 6 "is_order" ["paper","a","e"] (ny K):=by
 refine cO D j8 (λf cdv A outer s H vs Q E hr h=>?_)
 obtain⟨v,p,a,e,g,rows,ps,rfl,hd,hq,hp,hP,p1,hl,e0,e1,q⟩:=h
 have p2:=hp.two
 obtain⟨pa,xs,rfl,hS,x0,r0,rfl,d0,vg,r1,rfl,dg,vr,r2,rfl,dr,z⟩:=hd
 cases z
 cases d0
 have nd:=j8.nd
 refine⟨_,(ae (cR (pv 0) (bT (n:=3) rfl (ax (aq (i:=3) nd rfl (Or.inl rfl) (.inr rfl)) (ax (aq (i:=4) nd rfl (Or.inl rfl) (.inr rfl)) (ax (aq (i:=5) nd rfl (Or.inl rfl) (.inr rfl)) aR))))) (ae (aN (PW.pt (gk (az dJ (pv 2) ah (ay _)) (fE (az ic (ao aF (ao bI (pv 3) ah) (pv 2)) ah (ay _))))) (ai (av cZ)) aD) (ai (av (aV c_is_least hr aB (aa (pv 3) (aa (pv 1) (aa (pv 2) (aa (dc rfl (kG (N':=["prime","e"]) (js:=[none,some 2]) rfl rfl) (bF (aV c_primes_in hr aB (aa (pv 5) af))) (λ_ _ _ _=>(aq (i:=0) (show List.Nodup [("prime":Str),("e":Str)] from by decide +kernel) rfl (Or.inl rfl) (.inr rfl))) (λ_ _ _ _=>(gb (az a9 (ao aF (pv 1) (pv 0)) ah (ay _)))) (λ_ _ _ _=>(pv 0))) af))))))))),?_⟩
 show aY _ _ _ [some (.ref pa),some (.int a),some (.int e),none,none,none] H
 k_data
 refine⟨pa,_,rfl,hS,rfl,?_⟩
 k_data
 refine aK (λc=>?_) (λc=>?_)
 ·exact q false _ ⟨λz=>(by cases z),λz=>absurd z.1 (by omega)⟩ (aA.refl _)
 refine⟨by omega,?_⟩
 refine aK (λc2=>?_) (λc2=>?_)
 ·refine q false _ ⟨λz=>(by cases z),λz=>?_⟩ (aA.refl _)
  have h1:=Int.natCast_dvd_natCast.mpr (zr hp z.2)
  rw [show (e.toNat:Int)=e by omega,show ((p-1).toNat:Int)=p-1 by omega] at h1
  exact absurd (Int.emod_eq_zero_of_dvd h1) (by simpa using c2)
 refine⟨vr,rows,ps.map (·.1),rfl,dr,hq,by rw [hq.1,List.length_map];omega,λpq H1 s1 f1 h1=>⟨pq,rfl,⟨_,aO.of h1⟩,?_⟩⟩
 have d0:e∣p-1:=Int.dvd_of_emod_eq_zero (by simpa using c2)
 refine bH (xs:=(ps.map (·.1)).map V.int) (λi zs H3=>H3=H1/\zs=(((ps.map (·.1)).take i).filter λq=>decide (e%q=0)).map V.int) ⟨rfl,rfl⟩ (by rw [List.length_map,List.length_map];exact Nat.le_trans hl (by decide)) (λi zs H3 hi ⟨z1,z2⟩=>⟨by rw [z1];exact aO.of h1,by rw [z2,List.length_map];exact Nat.le_trans (List.length_filter_le _ _) (by rw [List.length_take];omega)⟩) ?_ ?_
 ·rintro i x zs H3 hx ⟨rfl,rfl⟩
  rw [List.getElem?_map] at hx
  obtain⟨y,hy,rfl⟩:=Option.map_eq_some_iff.mp hx
  have my:=kP hP (by omega) y (List.mem_of_getElem? hy)
  show cI 0 _ [none,some (.int e)] _ _
  k_data
  refine⟨⟨rfl,True.intro⟩,by omega,?_⟩
  rw [List.take_add_one,hy,List.filter_append]
  refine aK (λc3=>?_) (λc3=>?_)
  ·simp [c3]
  ·simp [c3]
 ·rintro zs H3 p3 ⟨rfl,rfl⟩ hp3
  rw [List.length_map,List.take_length]
  refine⟨p,a,e,p3,_,rfl,by omega,by omega,by omega,by omega,aO.of ag,λy hy=>?_,?_,λb H4 hb s4=>?_⟩
  ·have:=kP hP (by omega) y (List.mem_filter.mp hy).1
   omega
  ·exact Nat.le_trans (List.length_filter_le _ _) (by rw [List.length_map];omega)
  ·rw [wZ hp hP (by omega) d0] at hb
   exact q b H4 (hb.trans ⟨λz=>⟨by omega,z⟩,λz=>z.2⟩) ((s1.trans (ak hp3)).trans s4)
mutual
def rD:Nat->PyData->Prop
 | 0,_=>False
 | _+1,.int _=>True
 | _+1,.str x=>PyData.canLay0 (.str x)=true
 | L+1,.list ds=>ds.length<=10^6/\zi L ds
 | L+1,.tuple ds=>ds.length<=10^6/\zi L ds
 | _+1,_=>False
def zi:Nat->List PyData->Prop
 | _,[]=>True
 | L,d::ds=>rD L d/\zi L ds
end
theorem yj:∀{L:Nat} {ds:List PyData} {i:Nat} {d:PyData},zi L ds->ds[i]?=some d->rD L d
 | L,[],i,d,_,h=>by simp at h
 | L,e::ds,0,d,h,z=>by
  simp only [zi] at h
  cases z
  exact h.1
 | L,e::ds,i+1,d,h,z=>by
  simp only [zi] at h
  exact yj h.2 (by simpa using z)
theorem mM:∀{ds:List PyData} {i:Nat} {d:PyData},PyData.canLayAll0 ds=true->ds[i]?=some d->d.canLay0=true
 | [],i,d,_,h=>by simp at h
 | e::ds,0,d,h,z=>by
  cases z
  have h':e.canLay0=true/\PyData.canLayAll0 ds=true:=by simpa [PyData.canLayAll0] using h
  exact h'.1
 | e::ds,i+1,d,h,z=>by
  have h':e.canLay0=true/\PyData.canLayAll0 ds=true:=by simpa [PyData.canLayAll0] using h
  exact mM h'.2 (by simpa using z)
def jO (K:PySem.W.Frag) (L:Nat):Sp:=λvs H Q _=>∃(u v:V) (d r:PyData),vs=[u,v]/\dv K H d u/\dv K H r v/\d.canLay0=true/\rD L r/\∀ b H',(b=true↔d=r)->aA H H'->Q (.bl b) H'
def ui (K:PySem.W.Frag) (L:Nat):Sp:=λvs H Q _=>∃(k:Sd) (a c:Addr) (us vs':List V) (ds rs:List PyData),vs=[.ref a,.ref c]/\kZ k K H a us/\kZ k K H c vs'/\aQ K H ds us/\aQ K H rs vs'/\PyData.canLayAll0 ds=true/\zi L rs/\rs.length<=10^6/\∀ b H',(b=true↔ds=rs)->aA H H'->Q (.bl b) H'
theorem mE {k:Sd} {H H':Hp} {a:Addr} {xs:List V} (h:kZ k K H a xs) (s:aA H H'):kZ k K H' a xs:=by
 cases k
 ·exact aO.same h s
 ·exact bG.same h s
theorem DY {k:Sd} {H:Hp} {a:Addr} {xs:List V} {Q:VK} (h:kZ k K H a xs) (q:Q (.int xs.length) H):yk K [.ref a] H Q:=by
 cases k
 ·exact cM h q
 ·exact i3 h q
theorem j6:aw ["things","rights"] ["things","rights"] (aj (top 17)):=cq
theorem xw {L:Nat} (D:ar K mg "are_just" (top 17)) (c_is_just:Callee P w K mg base aG (2*L+1) "is_just" ["thing","right"] (jO K L)) (n_len:mg "len"=none) (n_zip:mg "zip"=none) (n_all:mg "all"=none):Callee P w K mg base aG (2*L+2) "are_just" ["things","rights"] (ui K L):=by
 refine cO D j6 (λf cdv A outer s H vs Q E hr h=>?_)
 obtain⟨k,a,c,us,vs',ds,rs,rfl,hS,hR,dd,dr,cl,hr',hl,q⟩:=h
 have nd:=j6.nd
 refine⟨_,(ai (av (bV (bA a9 (aC bp rfl n_len PySem.boot_len (aa (pv 0) af)) (aC bp rfl n_len PySem.boot_len (aa (pv 1) af)) (ay _)) (c5 (aC (fe rfl) rfl n_all L2.boot_all (aa (dc rfl (kG (N':=["thing","right"]) (js:=[none,none]) rfl rfl) (tV rfl n_zip (aa (pv 0) (aa (pv 1) af))) (λ_ _ _ _=>(dD K rfl (n:=2) rfl (ax (aq (i:=0) (show List.Nodup [("thing":Str),("right":Str)] from by decide +kernel) rfl (Or.inl rfl) (.inr rfl)) (ax (aq (i:=1) (show List.Nodup [("thing":Str),("right":Str)] from by decide +kernel) rfl (Or.inl rfl) (.inr rfl)) aR)))) (λ_ _ _ _=>aX) (λ_ _ _ _=>(bf c_is_just (hr.mono (by omega)) rfl aB (aa (pv 0) (aa (pv 1) af))))) af)))))),?_⟩
 show fN _ _ [some (.ref a),some (.ref c)] H
 have ul:=dd.length
 have vl:=dr.length
 k_data
 refine DY hS (DY hR ⟨kR,?_⟩)
 by_cases ln:us.length=vs'.length
 ·rw [if_pos (by rw [ln])]
  refine⟨k,⟨_,hS⟩,k,⟨_,hR⟩,?_⟩
  refine gL (xs:=us) (ys:=vs') (λi zs H3=>aA H H3/\∃ bs:List Bool,zs=bs.map V.bl/\bs.length=i/\(bs.all id=true↔ds.take i=rs.take i)) ⟨aA.refl _,[],rfl,rfl,by simp⟩ (by omega) (Nat.le_trans (by omega) (show 10^6<=sizeLine by decide)) (λi zs H3 hi ⟨z1,bs,z2,z3,_⟩=>⟨mE hS z1,mE hR z1,by rw [z2,List.length_map,z3];exact Nat.le_refl _⟩) ?_ ?_
  ·rintro i x y zs H3 p3 hx hy ⟨s3,bs,rfl,bl,hb⟩ hp3
   obtain⟨d1,e1,v1⟩:=dd.get hx
   obtain⟨r1,e2,v2⟩:=dr.get hy
   have s4:=ak (o:=.tup [x,y]) hp3
   show nS K 2 _ _ [none,none] _ _
   refine⟨p3,_,rfl,bG.of ag,rfl,?_⟩
   generalize upd H3 p3 _=H4 at *
   k_data
   refine⟨True.intro,x,y,d1,r1,rfl,dv.same (s3.trans s4) _ v1,dv.same (s3.trans s4) _ v2,mM cl e1,yj hr' e2,λb H5 hb1 s5=>⟨(s3.trans s4).trans s5,bs++[b],by rw [List.map_append];rfl,by rw [List.length_append,bl];rfl,?_⟩⟩
   rw [List.all_append,Bool.and_eq_true,hb,List.take_add_one,List.take_add_one,e1,e2]
   have l1:(ds.take i).length=(rs.take i).length:=by
    have:=(List.getElem?_eq_some_iff.mp e1).1
    have:=(List.getElem?_eq_some_iff.mp e2).1
    rw [List.length_take,List.length_take]
    omega
   constructor
   ·rintro⟨h1,h2⟩
    have:b=true:=by simpa using h2
    rw [h1,hb1.mp this]
   ·intro h
    obtain⟨h1,h2⟩:=List.append_inj h l1
    have:d1=r1:=by simpa using h2
    exact⟨h1,by simp [hb1.mpr this]⟩
  ·rintro zs H3 p3 ⟨s3,bs,rfl,bl,hb⟩ hp3
   refine jz (bs:=bs) (aO.of ag) ?_
   rw [show us.length=ds.length from ul,List.take_length,show ds.length=rs.length by omega,List.take_length] at hb
   exact q _ _ hb (s3.trans (ak hp3))
 ·rw [if_neg (by intro z;have:=V.int.inj z;omega)]
  exact q false H ⟨(λz=>by cases z),λz=>by rw [z] at ul;omega⟩ (aA.refl _)
theorem mQ {d:PyData} {i:Int}:(PyData.eqv d (.int i)=true/\wQ d=true)↔d=.int i:=by
 constructor
 ·rintro⟨h1,h2⟩
  cases d with
  | int j =>
   have:j=i:=by simpa [PyData.eqv] using h1
   rw [this]
  | _=>simp [wQ] at h2
 ·rintro rfl
  exact⟨by simp [PyData.eqv],rfl⟩
theorem iI:aw ["thing","right"] ["thing","right"] (aj (top 16)):=cq
theorem xt (D:ar K mg "is_just" (top 16)):Callee P w K mg base aG 1 "is_just" ["thing","right"] (jO K 0):=by
 refine cO D iI (λf cdv A outer s H vs Q E hr h=>?_)
 obtain⟨u,v,d,r,rfl,hu,hv,cl,hs,q⟩:=h
 simp only [rD] at hs
theorem xu {L:Nat} (D:ar K mg "is_just" (top 16)) (c_are_just:Callee P w K mg base aG (2*L+2) "are_just" ["things","rights"] (ui K L)) (c_is_whole:Callee P w K mg base aG 1 "is_whole" ["thing"] (Dd K)) (n_isinstance:mg "isinstance"=none) (n_list:mg "list"=none) (n_tuple:mg "tuple"=none):Callee P w K mg base aG (2*L+3) "is_just" ["thing","right"] (jO K (L+1)):=by
 refine cO D iI (λf cdv A outer s H vs Q E hr h=>?_)
 obtain⟨u,v,d,r,rfl,hu,hv,cl,hs,q⟩:=h
 have nd:=iI.nd
 refine⟨_,(ae (aN (aT (aC aW rfl n_isinstance PyProof.Rows.boot_isinstance (aa (pv 1) (aa (bP (v:=.ty "tuple") rfl n_tuple L2.boot_tuple rfl) af))) (λ_=>rfl)) (ai (av (bV (aC aW rfl n_isinstance PyProof.Rows.boot_isinstance (aa (pv 0) (aa (bP (v:=.ty "tuple") rfl n_tuple L2.boot_tuple rfl) af))) (c5 (bf c_are_just (hr.mono (by omega)) rfl aB (aa (pv 0) (aa (pv 1) af))))))) aD) (ae (aN (aT (aC aW rfl n_isinstance PyProof.Rows.boot_isinstance (aa (pv 1) (aa (bP (v:=.ty "list") rfl n_list L2.boot_list rfl) af))) (λ_=>rfl)) (ai (av (bV (aC aW rfl n_isinstance PyProof.Rows.boot_isinstance (aa (pv 0) (aa (bP (v:=.ty "list") rfl n_list L2.boot_list rfl) af))) (c5 (bf c_are_just (hr.mono (by omega)) rfl aB (aa (pv 0) (aa (pv 1) af))))))) aD) (ai (av (bV (bA (xS hr.units) (pv 0) (pv 1) (ay _)) (c5 (bA a9 (bf c_is_whole (hr.mono (by omega)) rfl aB (aa (pv 0) af)) (bf c_is_whole (hr.mono (by omega)) rfl aB (aa (pv 1) af)) (ay _)))))))),?_⟩
 show aY _ _ _ [some u,some v] H
 k_data
 cases r with
 | tuple rs =>
  simp only [rD] at hs
  refine bM hv ⟨true,aM.mpr rfl,?_⟩
  rw [if_pos rfl]
  refine bM hu ⟨_,rfl,?_⟩
  cases d with
  | tuple ds =>
   rw [if_pos (show DX (.tuple ds)=true from rfl)]
   obtain⟨a,us,rfl,hS,dd⟩:=hu
   obtain⟨c,vs',rfl,hR,dr⟩:=hv
   exact⟨.t,a,c,us,vs',ds,rs,rfl,hS,hR,dd,dr,cl,hs.2,hs.1,λb H' hb s'=>q b H' (hb.trans (by rw [PyData.tuple.injEq])) s'⟩
  | _ =>
   rw [if_neg (by simp [DX])]
   exact q false H ⟨(λz=>by cases z),λz=>by cases z⟩ (aA.refl _)
 | list rs =>
  simp only [rD] at hs
  refine bM hv ⟨false,aM.mpr rfl,?_⟩
  rw [if_neg (by decide)]
  refine cn hv ⟨true,aM.mpr rfl,?_⟩
  rw [if_pos rfl]
  refine cn hu ⟨_,rfl,?_⟩
  cases d with
  | list ds =>
   rw [if_pos (show Fg (.list ds)=true from rfl)]
   obtain⟨a,us,rfl,hS,dd⟩:=hu
   obtain⟨c,vs',rfl,hR,dr⟩:=hv
   exact⟨.l,a,c,us,vs',ds,rs,rfl,hS,hR,dd,dr,cl,hs.2,hs.1,λb H' hb s'=>q b H' (hb.trans (by rw [PyData.list.injEq])) s'⟩
  | _ =>
   rw [if_neg (by simp [Fg])]
   exact q false H ⟨(λz=>by cases z),λz=>by cases z⟩ (aA.refl _)
 | int i =>
  refine bM hv ⟨false,aM.mpr rfl,?_⟩
  rw [if_neg (by decide)]
  refine cn hv ⟨false,aM.mpr rfl,?_⟩
  rw [if_neg (by decide)]
  refine⟨d,.int i,hu,hv,cl,rfl,by simp [PyData.depth],⟨_,rfl,?_⟩⟩
  refine aK (λc=>?_) (λc=>?_)
  ·refine⟨d,u,rfl,hu,⟨.int i,v,rfl,hv,⟨rfl,?_⟩⟩⟩
   refine q _ H ?_ (aA.refl _)
   rw [<- mQ]
   have c':PyData.eqv d (.int i)=true:=by simpa using c
   rw [c']
   cases hw:wQ d<;>simp [wQ]
  ·refine q false H ⟨(λz=>by cases z),λz=>?_⟩ (aA.refl _)
   have:=(mQ.mpr z).1
   exact absurd this (by simpa using c)
 | str z =>
  refine bM hv ⟨false,aM.mpr rfl,?_⟩
  rw [if_neg (by decide)]
  refine cn hv ⟨false,aM.mpr rfl,?_⟩
  rw [if_neg (by decide)]
  simp only [rD] at hs
  refine⟨d,.str z,hu,hv,cl,hs,by simp [PyData.depth],⟨_,rfl,?_⟩⟩
  have es:PyData.eqv d (.str z)=true↔d=.str z:=by cases d<;>simp [PyData.eqv]
  refine aK (λc=>?_) (λc=>?_)
  ·refine⟨d,u,rfl,hu,⟨.str z,v,rfl,hv,⟨rfl,?_⟩⟩⟩
   refine q _ H ?_ (aA.refl _)
   have c':d=.str z:=es.mp (by simpa using c)
   rw [c']
   simp
  ·exact q false H ⟨(λz=>by cases z),λz=>absurd (es.mpr z) (by simpa using c)⟩ (aA.refl _)
 | _=>simp only [rD] at hs
theorem tM {fi:Addr} (D:ar K mg "is_just" (top 16)) (D2:ar K mg "are_just" (top 17)) (c_is_whole:Callee P w K mg base aG 1 "is_whole" ["thing"] (Dd K)) (n_isinstance:mg "isinstance"=none) (n_list:mg "list"=none) (n_tuple:mg "tuple"=none) (n_len:mg "len"=none) (n_zip:mg "zip"=none) (n_all:mg "all"=none):∀ L:Nat,Callee P w K mg base aG (2*L+1) "is_just" ["thing","right"] (jO K L)
 | 0=>xt D
 | L+1=>xu D (xw D2 (tM (fi:=fi) D D2 c_is_whole n_isinstance n_list n_tuple n_len n_zip n_all L) n_len n_zip n_all) c_is_whole n_isinstance n_list n_tuple
def FW (row:PyData) (y:Int × Int):Prop:=∃ ds,row=.tuple [.tuple (.int y.1::ds),.int y.2]
def zk (rows:List PyData) (ps:List (Int × Int)):Prop:=rows.length=ps.length/\∀(i:Nat) (row:PyData),rows[i]?=some row->∃ y,ps[i]?=some y/\FW row y
def oP (K:PySem.W.Frag):Sp:=λvs H Q _=>∃(v:V) (rows:List PyData) (ps:List (Int × Int)),vs=[v]/\dv K H (.tuple rows) v/\zk rows ps/\rows.length<=10^6/\∀ p us H',aA H H'->H p=none->H' p=some (.lst us)->aQ K H' (ps.map kB) us->Q (.ref p) H'
theorem wM {H:Hp} {rows:List PyData} {ps:List (Int × Int)} {xs:List V} (hd:aQ K H rows xs) (h:zk rows ps) {i:Nat} {x:V} (hx:xs[i]?=some x):∃ q k pt pq r,ps[i]?=some (q,k)/\x=.ref pt/\bG K H pt [.ref pq,.int k]/\bG K H pq (.int q::r):=by
 obtain⟨d,hd',hv⟩:=hd.get hx
 obtain⟨⟨q,k⟩,hy,ds,rfl⟩:=h.2 i d hd'
 obtain⟨pt,ys,rfl,h1,x1,r1,rfl,e1,x2,r2,rfl,e2,z⟩:=hv
 cases z
 obtain⟨pq,zs,rfl,h2,y1,r3,rfl,f1,f2⟩:=e1
 cases f1
 cases e2
 exact⟨q,k,pt,pq,r3,hy,rfl,h1,h2⟩
theorem bY:aw ["parts"] ["parts"] (aj (top 20)):=cq
theorem qv (D:ar K mg "parting_in" (top 20)):Callee P w K mg base aG 1 "parting_in" ["parts"] (oP K):=by
 refine cO D bY (λf cdv A outer s H vs Q E hr h=>?_)
 obtain⟨v,rows,ps,rfl,hd,hh,h6,q⟩:=h
 have nd:=bY.nd
 refine⟨_,(ai (av (dc rfl (kG (N':=["row"]) (js:=[none]) rfl rfl) (fZ (pv 0)) (λ_ _ _ _=>(aq (i:=0) (show List.Nodup [("row":Str)] from by decide +kernel) rfl (Or.inl rfl) (.inr rfl))) (λ_ _ _ _=>aX) (λ_ _ _ _=>(aI (aa (aJ (bQ K rfl) (aJ (bQ K rfl) (pv 0) ah (λ_ _=>rfl)) ah (λ_ _=>rfl)) (aa (aJ (bQ K rfl) (pv 0) ah (λ_ _=>rfl)) af))))))),?_⟩
 show fN _ _ [some v] H
 obtain⟨p,xs,rfl,hS,ht⟩:=hd
 have xl:=ht.length
 have rl:=hh.1
 k_data
 refine⟨⟨_,hS⟩,?_⟩
 refine dS (xs:=xs) (λi zs H3=>aA H H3/\aQ K H3 ((ps.take i).map kB) zs) ⟨aA.refl _,rfl⟩ (Nat.le_trans (by omega) (show 10^6<=sizeLine by decide)) (λi zs H3 hi ⟨e1,e2⟩=>⟨hS.same e1,by rw [e2.length,List.length_map,List.length_take];omega⟩) ?_ ?_
 ·rintro i x zs H3 hx ⟨s3,hz⟩
  obtain⟨q',k',pt,pq,r,hy,rfl,t1,t2⟩:=wM ht hh hx
  show cI 0 _ [none] _ _
  k_data
  refine⟨True.intro,bC (t1.same s3) iQ (bC (t2.same s3) iQ (bC (t1.same s3) rfl ⟨by show 2<=sizeLine;decide,λp4 hp4=>?_⟩))⟩
  have s4:=ak (o:=.tup [V.int q',V.int k']) hp4
  refine⟨s3.trans s4,?_⟩
  rw [List.take_add_one,hy,List.map_append]
  exact aQ.append (aQ.same s4 _ hz) (.one (dv.tup ag ⟨_,_,rfl,rfl,.one rfl⟩))
 ·rintro zs H3 p3 ⟨s3,hz⟩ hp3
  rw [show xs.length=ps.length by omega,List.take_length] at hz
  exact q p3 zs _ (s3.trans (ak hp3)) (s3.free hp3) ag (aQ.same (ak hp3) _ hz)
def yA:Sp:=λvs H Q _=>∃ n q:Int,vs=[.int n,.int q]/\0<=n/\n<=10^50/\2<=q/\q<=10^50/\∀ t:Nat,n<=q^(t+1)->Q (.int t) H
theorem iw:aw ["n","prime","times","product"] ["n","prime"] (aj (top 53)):=cq
theorem Ac (D:ar K mg "most_times" (top 53)):Callee P w K mg base aG 1 "most_times" ["n","prime"] yA:=by
 refine cO D iw (λf cdv A outer s H vs Q E hr h=>?_)
 obtain⟨n,q',rfl,n0,n9,q2,q9,q⟩:=h
 have nd:=iw.nd
 refine⟨_,(ae (bh (i:=2) nd ah) (ae (bh (i:=3) nd (pv 1)) (ae (bj PassesOwn.never (az dJ (pv 3) (pv 0) (ay _)) (ae (c6 (i:=3) nd rfl (Or.inl rfl) (pv 1) (eJ lq)) (ai (c6 (i:=2) nd rfl (Or.inl rfl) ah (eJ gN))))) (ai (av (pv 2)))))),?_⟩
 show aY _ _ _ [some (.int n),some (.int q'),none,none] H
 k_data
 refine bo (α:=Nat) (λt=>[some (.int n),some (.int q'),some (.int (t:Int)),some (.int (q'^(t+1)))]) (λt H1=>H1=H/\(t=0∨q'^t<n)) (λt=>(n-q'^(t+1)).toNat) 0 (by rw [Int.pow_succ,Int.pow_zero,Int.one_mul];rfl) ⟨rfl,.inl rfl⟩ ?_
 rintro t H1 ⟨rfl,ht⟩
 replace ht:t=0∨q'^t<n:=ht
 have p0:0<q'^(t+1):=Num.bJ (by omega) _
 k_data
 refine aK (λc=>?_) (λc=>?_)
 ·have up:q'^(t+1)*2<=q'^(t+1)*q':=Int.mul_le_mul_of_nonneg_left q2 (by omega)
  refine⟨_,λ_ _ z=>z,Bd.of (by omega) (by omega),Bd.of (by omega) (by omega),t+1,?_,rfl,.inr c,?_⟩
  ·rw [Int.pow_succ q' (t+1)];rfl
  ·show (n-q'^(t+1+1)).toNat<(n-q'^(t+1)).toNat
   rw [Int.pow_succ q' (t+1)]
   omega
 ·exact q t (by omega)
def jj (K:PySem.W.Frag):Sp:=λvs H Q _=>∃(n a:Int) (p:Addr) (us:List V) (ps:List (Int × Int)),vs=[.int n,.int a,.ref p]/\0<n/\n<=10^60/\0<=a/\a<n/\H p=some (.lst us)/\aQ K H (ps.map kB) us/\(∀ y∈ps,2<=y.1/\0<=y.2/\y.2<=10^6)/\∀ H',aA H H'->Q (.int (a^Num.eN ps%n)) H'
theorem kJ (ps:List (Int × Int)) (q k:Int):Num.eN (ps++[(q,k)])=Num.eN ps*q.toNat^k.toNat:=by
 rw [Num.cU]
 show Num.eN ps*(q.toNat^k.toNat*1)=_
 rw [Nat.mul_one]
theorem wF:∀{ps:List (Int × Int)},(∀ y∈ps,2<=y.1)->Num.eN ps≠0
 | [],_=>by decide
 | p::r,h=>by
  have:=h p (List.mem_cons_self ..)
  exact Nat.mul_ne_zero (Nat.ne_of_gt (Nat.pow_pos (by omega))) (wF λy z=>h y (List.mem_cons_of_mem _ z))
theorem pow_step {n a q:Int} {M j:Nat} (n0:0<n):(a^(M*q.toNat^j)%n)^q.toNat%n=a^(M*q.toNat^(j+1))%n:=by
 rw [Num.Al.iff.mp ((Num.Al.rest n (a^(M*q.toNat^j))).pow q.toNat),Num.bz,Nat.pow_succ,Nat.mul_assoc]
theorem ni:aw ["n","a","parting","rest","prime","many","turn"] ["n","a","parting"] (aj (top 54)):=cq
theorem vi {C:Addr} (D:ar K mg "raised" (top 54)) (c_power:Callee P w K mg base (dh P w) 4 "power" ["n","a","e"] (cG C)) (n_range:mg "range"=none):Callee P w K mg base aG 5 "raised" ["n","a","parting"] (jj K):=by
 refine cO D ni (λf cdv A outer s H vs Q E hr h=>?_)
 obtain⟨n,a,p,us,ps,rfl,n0,n9,a0,a1,hp,hd,hok,q⟩:=h
 have nd:=ni.nd
 refine⟨_,(ae (bh (i:=3) nd (pv 1)) (ae (cS PassesOwn.never rfl (bF (pv 2)) (bT (n:=2) rfl (ax (aq (i:=4) nd rfl (Or.inl rfl) (.inr rfl)) (ax (aq (i:=5) nd rfl (Or.inl rfl) (.inr rfl)) aR))) (ai (cS PassesOwn.never rfl (dX rfl n_range (aa (pv 5) af)) (aq (i:=6) nd rfl (Or.inl rfl) (.inr rfl)) (ai (bh (i:=3) nd (aV c_power hr aE (aa (pv 0) (aa (pv 3) (aa (pv 4) af))))))))) (ai (av (pv 3))))),?_⟩
 show aY _ _ _ [some (.int n),some (.int a),some (.ref p),none,none,none,none] H
 have ul:us.length=ps.length:=by rw [hd.length,List.length_map]
 k_data
 refine⟨⟨_,aO.of hp⟩,?_⟩
 refine dW (xs:=us) (λi σ' H'=>aA H H'/\∃ o4 o5 o6,σ'=[some (.int n),some (.int a),some (.ref p),some (.int (a^Num.eN (ps.take i)%n)),o4,o5,o6]) ⟨aA.refl _,none,none,none,?_⟩ (λi σ' H' _ h=>aO.of (h.1 _ _ hp)) ?_ ?_
 ·show _=[_,_,_,some (V.int (a^1%n)),none,none,none]
  rw [Int.pow_one,Int.emod_eq_of_lt a0 a1]
 ·rintro i x σ' H' hx ⟨s',o4,o5,o6,rfl⟩
  obtain⟨d,hd',hv⟩:=hd.get hx
  rw [List.getElem?_map] at hd'
  obtain⟨⟨q',k'⟩,hy,rfl⟩:=Option.map_eq_some_iff.mp hd'
  obtain⟨q2,k0,k6⟩:=hok _ (List.mem_of_getElem? hy)
  replace q2:2<=q':=q2
  replace k0:0<=k':=k0
  replace k6:k'<=10^6:=k6
  obtain⟨pt,rfl,tt⟩:=jA hv
  refine⟨pt,_,rfl,tt.same s',rfl,?_⟩
  k_data
  refine⟨by omega,by omega,?_⟩
  refine eh (λj σ2 H2=>aA H H2/\∃ o6,σ2=[some (.int n),some (.int a),some (.ref p),some (.int (a^(Num.eN (ps.take i)*q'.toNat^j)%n)),some (.int q'),some (.int k'),o6]) ⟨s',o6,by rw [Nat.pow_zero,Nat.mul_one]⟩ ?_ ?_
  ·rintro j σ2 H2 hj ⟨s2,o6,rfl⟩
   k_data
   refine⟨n,_,q',rfl,n0,by omega,λ_ H3 s3=>⟨s2.trans s3,?_⟩,λz=>absurd z (by omega)⟩
   rw [pow_step n0]
  ·rintro σ2 H2 ⟨s2,o6,rfl⟩
   refine⟨s2,some (.int q'),some (.int k'),o6,?_⟩
   rw [List.take_add_one,hy]
   show _=[_,_,_,some (V.int (a^Num.eN (ps.take i++[(q',k')])%n)),_,_,_]
   rw [kJ]
 ·rintro σ' H' ⟨s',o4,o5,o6,rfl⟩
  rw [ul,List.take_length]
  k_data
  exact q H' s'
def oU:Sp:=λvs H Q _=>∃(n a q:Int) (k:Nat),vs=[.int n,.int a,.int q]/\2<=n/\n<=10^60/\0<=a/\a<n/\2<=q/\a^q.toNat^k%n=1/\∀(t:Nat) H',t<=k->a^q.toNat^t%n=1->(∀ j,j<t->a^q.toNat^j%n≠1)->aA H H'->Q (.int t) H'
theorem fJ:aw ["n","a","prime","times","rest"] ["n","a","prime"] (aj (top 56)):=cq
theorem xO {C:Addr} (D:ar K mg "times_to_one" (top 56)) (c_power:Callee P w K mg base (dh P w) 4 "power" ["n","a","e"] (cG C)):Callee P w K mg base aG 5 "times_to_one" ["n","a","prime"] oU:=by
 refine cO D fJ (λf cdv A outer s H vs Q E hr h=>?_)
 obtain⟨n,a,q',k,rfl,n2,n9,a0,a1,q2,hk,q⟩:=h
 have nd:=fJ.nd
 refine⟨_,(ae (bh (i:=3) nd ah) (ae (bh (i:=4) nd (pv 1)) (ae (bj PassesOwn.never (az ic (pv 4) ah (ay _)) (ae (bh (i:=4) nd (aV c_power hr aE (aa (pv 0) (aa (pv 4) (aa (pv 2) af))))) (ai (c6 (i:=3) nd rfl (Or.inl rfl) ah (eJ gN))))) (ai (av (pv 3)))))),?_⟩
 show aY _ _ _ [some (.int n),some (.int a),some (.int q'),none,none] H
 k_data
 refine bo (α:=Nat) (λt=>[some (.int n),some (.int a),some (.int q'),some (.int (t:Int)),some (.int (a^q'.toNat^t%n))]) (λt H1=>aA H H1/\t<=k/\∀ j,j<t->a^q'.toNat^j%n≠1) (λt=>k-t) 0 (by rw [Nat.pow_zero,Int.pow_one,Int.emod_eq_of_lt a0 a1];rfl) ⟨aA.refl _,Nat.zero_le _,λj hj=>absurd hj (Nat.not_lt_zero _)⟩ ?_
 rintro t H1 ⟨s1,tk,no⟩
 replace tk:t<=k:=tk
 replace no:∀ j,j<t->a^q'.toNat^j%n≠1:=no
 k_data
 refine aK (λc=>?_) (λc=>?_)
 ·have tk':t≠k:=λz=>c (z▸hk)
  refine⟨_,λ_ _ z=>z,n,_,q',rfl,by omega,by omega,λ_ H2 s2=>⟨t+1,?_,s1.trans s2,by omega,λj hj=>?_,?_⟩,λz=>absurd z (by omega)⟩
  ·have:=pow_step (n:=n) (a:=a) (M:=1) (q:=q') (j:=t) (by omega)
   rw [Nat.one_mul,Nat.one_mul] at this
   rw [this]
   rfl
  ·rcases (by omega:j<t∨j=t) with z | z
   ·exact no j z
   ·rw [z];exact c
  ·show k-(t+1)<k-t
   omega
 ·exact q t H1 tk (by simpa using c) no s1
def kS (K:PySem.W.Frag):Sp:=λvs H Q _=>∃(p:Addr) (us:List V) (ps:List (Int × Int)),vs=[.ref p]/\H p=some (.lst us)/\aQ K H (ps.map kB) us/\(∀ y∈ps,2<=y.1/\0<=y.2/\y.2<=10^6)/\Num.eN ps<=10^100/\∀ H',aA H H'->Q (.int (Num.eN ps)) H'
theorem wD {ps:List (Int × Int)} (h:∀ y∈ps,2<=y.1) {i:Nat} {q k:Int} (hy:ps[i]?=some (q,k)) {j:Nat} (hj:j<=k.toNat):Num.eN (ps.take i)*q.toNat^j<=Num.eN ps/\q.toNat<=Num.eN (ps.take i)*q.toNat^k.toNat*Num.eN (ps.drop (i+1))*q.toNat:=by
 have pos:∀ l:List (Int × Int),(∀ y∈l,2<=y.1)->0<Num.eN l:=by
  intro l
  induction l with
  | nil=>intro _;exact Nat.one_pos
  | cons p r ih =>
   intro hl
   have:=hl p (List.mem_cons_self ..)
   exact Nat.mul_pos (Nat.pow_pos (by omega)) (ih λy z=>hl y (List.mem_cons_of_mem _ z))
 have q2:2<=q:=h _ (List.mem_of_getElem? hy)
 have e:ps=ps.take i++[(q,k)]++ps.drop (i+1):=by
  have h1:ps.take (i+1)=ps.take i++[(q,k)]:=by rw [List.take_add_one,hy];rfl
  rw [<- h1,List.take_append_drop]
 have p1:=pos (ps.take i) λy z=>h y (List.mem_of_mem_take z)
 have p2:=pos (ps.drop (i+1)) λy z=>h y (List.mem_of_mem_drop z)
 have e2:Num.eN ps=Num.eN (ps.take i)*q.toNat^k.toNat*Num.eN (ps.drop (i+1)):=by
  have:Num.eN ps=Num.eN (ps.take i++[(q,k)]++ps.drop (i+1)):=congrArg _ e
  rw [this,Num.cU,kJ]
 have p3:0<q.toNat^k.toNat:=Nat.pow_pos (by omega)
 constructor
 ·rw [e2]
  refine Nat.le_trans (Nat.mul_le_mul_left _ (Nat.pow_le_pow_right (by omega) hj)) ?_
  exact Nat.le_mul_of_pos_right _ p2
 ·exact Nat.le_mul_of_pos_left _ (Nat.mul_pos (Nat.mul_pos p1 p3) p2)
theorem km:aw ["parting","whole","prime","many","turn"] ["parting"] (aj (top 46)):=cq
theorem xR (D:ar K mg "whole_of" (top 46)) (n_range:mg "range"=none):Callee P w K mg base aG 1 "whole_of" ["parting"] (kS K):=by
 refine cO D km (λf cdv A outer s H vs Q E hr h=>?_)
 obtain⟨p,us,ps,rfl,hp,hd,hok,h100,q⟩:=h
 have nd:=km.nd
 refine⟨_,(ae (bh (i:=1) nd ah) (ae (cS PassesOwn.never rfl (bF (pv 0)) (bT (n:=2) rfl (ax (aq (i:=2) nd rfl (Or.inl rfl) (.inr rfl)) (ax (aq (i:=3) nd rfl (Or.inl rfl) (.inr rfl)) aR))) (ai (cS PassesOwn.never rfl (dX rfl n_range (aa (pv 3) af)) (aq (i:=4) nd rfl (Or.inl rfl) (.inr rfl)) (ai (c6 (i:=1) nd rfl (Or.inl rfl) (pv 2) (eJ lq)))))) (ai (av (pv 1))))),?_⟩
 show aY _ _ _ [some (.ref p),none,none,none,none] H
 have ul:us.length=ps.length:=by rw [hd.length,List.length_map]
 k_data
 refine⟨⟨_,aO.of hp⟩,?_⟩
 refine dW (xs:=us) (λi σ' H'=>aA H H'/\∃ o4 o5 o6,σ'=[some (.ref p),some (.int (Num.eN (ps.take i))),o4,o5,o6]) ⟨aA.refl _,none,none,none,rfl⟩ (λi σ' H' _ h=>aO.of (h.1 _ _ hp)) ?_ ?_
 ·rintro i x σ' H' hx ⟨s',o4,o5,o6,rfl⟩
  obtain⟨d,hd',hv⟩:=hd.get hx
  rw [List.getElem?_map] at hd'
  obtain⟨⟨q',k'⟩,hy,rfl⟩:=Option.map_eq_some_iff.mp hd'
  obtain⟨q2,k0,k6⟩:=hok _ (List.mem_of_getElem? hy)
  replace q2:2<=q':=q2
  replace k0:0<=k':=k0
  replace k6:k'<=10^6:=k6
  obtain⟨pt,rfl,tt⟩:=jA hv
  refine⟨pt,_,rfl,tt.same s',rfl,?_⟩
  k_data
  refine⟨by omega,by omega,?_⟩
  refine eh (λj σ2 H2=>H2=H'/\∃ o6,σ2=[some (.ref p),some (.int ((Num.eN (ps.take i)*q'.toNat^j:Nat):Int)),some (.int q'),some (.int k'),o6]) ⟨rfl,o6,by rw [Nat.pow_zero,Nat.mul_one]⟩ ?_ ?_
  ·rintro j σ2 H2 hj ⟨rfl,o6,rfl⟩
   have g1:=(wD (λy z=>(hok y z).1) hy (j:=j) (by omega)).1
   have g2:=(wD (λy z=>(hok y z).1) hy (j:=1) (by omega)).1
   have qb:q'.toNat<=10^100:=by
    rw [Nat.pow_one] at g2
    have:0<Num.eN (ps.take i):=by
     rcases Nat.eq_zero_or_pos (Num.eN (ps.take i)) with z | z
     ·exact absurd z (wF λy z=>(hok y (List.mem_of_mem_take z)).1)
     ·exact z
    have:=Nat.le_mul_of_pos_left q'.toNat this
    omega
   k_data
   refine⟨Bd.of (by omega) (by omega),Bd.of (by omega) (by omega),?_⟩
   rw [Nat.pow_succ,<- Nat.mul_assoc,Int.natCast_mul _ q'.toNat,show (q'.toNat:Int)=q' by omega]
  ·rintro σ2 H2 ⟨rfl,o6,rfl⟩
   refine⟨s',some (.int q'),some (.int k'),o6,?_⟩
   rw [List.take_add_one,hy]
   show _=[_,some (V.int (Num.eN (ps.take i++[(q',k')]):Nat)),_,_,_]
   rw [kJ]
 ·rintro σ' H' ⟨s',o4,o5,o6,rfl⟩
  rw [ul,List.take_length]
  k_data
  exact q H' s'
theorem aQ.BM {H:Hp}:∀(m:Nat) {ds:List PyData} {us:List V},aQ K H ds us->aQ K H (ds.take m) (us.take m)/\aQ K H (ds.drop m) (us.drop m)
 | 0,ds,us,h=>⟨by simp only [List.take_zero];exact rfl,by simpa using h⟩
 | m+1,[],us,h=>by cases h;exact⟨rfl,rfl⟩
 | m+1,d::ds,us,h=>by
  obtain⟨x,r,rfl,h1,h2⟩:=h
  have ih:=BM m h2
  exact⟨⟨x,_,rfl,h1,ih.1⟩,ih.2⟩
theorem wg {us:List V} {m:Nat} (h:m<=us.length):gZ us none (some (m:Int))=us.take m:=by
 unfold gZ
 have e1:HT.c9 us.length 0 none=0:=rfl
 have e2:HT.c9 us.length us.length (some (m:Int))=m:=by
  simp only [HT.c9]
  split<;>omega
 rw [e1,e2,List.drop_zero,Nat.sub_zero]
theorem wd {us:List V} {m:Nat} (h:m<=us.length):gZ us (some (m:Int)) none=us.drop m:=by
 unfold gZ
 have e1:HT.c9 us.length us.length none=us.length:=rfl
 have e2:HT.c9 us.length 0 (some (m:Int))=m:=by
  simp only [HT.c9]
  split<;>omega
 rw [e1,e2]
 exact List.take_of_length_le (by rw [List.length_drop];omega)
def jk (K:PySem.W.Frag) (L:Nat):Sp:=λvs H Q _=>∃(n a:Int) (p:Addr) (us:List V) (ps:List (Int × Int)),vs=[.int n,.int a,.ref p]/\(1<=L/\ps.length<=2^(L-1))/\ps.length<=10^6/\2<=n/\n<=10^60/\0<=a/\a<n/\H p=some (.lst us)/\aQ K H (ps.map kB) us/\(∀ y∈ps,Num.Pm y.1/\0<=y.2/\y.2<=10^6)/\ps.Pairwise (λx y=>y.1≠x.1)/\a^Num.eN ps%n=1 /\
 ∀ pt ts H',Num.TO n a ps ts->aA H H'->H pt=none->H' pt=some (.lst (ts.map V.int))->Q (.ref pt) H'
theorem c7:aw ["n","a","parting","half","ahead","behind"] ["n","a","parting"] (aj (top 55)):=cq
theorem vq (D:ar K mg "times_in_order" (top 55)):Callee P w K mg base aG 6 "times_in_order" ["n","a","parting"] (jk K 0):=by
 refine cO D c7 (λf cdv A outer s H vs Q E hr h=>?_)
 obtain⟨n,a,p,us,ps,rfl,hL,_⟩:=h
 exact absurd hL.1 (by decide)
theorem vt {L:Nat} (D:ar K mg "times_in_order" (top 55)) (c_raised:Callee P w K mg base aG 5 "raised" ["n","a","parting"] (jj K)) (c_times_to_one:Callee P w K mg base aG 5 "times_to_one" ["n","a","prime"] oU) (c_times_in_order:Callee P w K mg base aG (L+6) "times_in_order" ["n","a","parting"] (jk K L)) (n_len:mg "len"=none):Callee P w K mg base aG (L+7) "times_in_order" ["n","a","parting"] (jk K (L+1)):=by
 refine cO D c7 (λf cdv A outer s H vs Q E hr h=>?_)
 obtain⟨n,a,p,us,ps,rfl,hL,h6,n2,n9,a0,a1,hp,hd,hok,pw,h1,q⟩:=h
 have nd:=c7.nd
 refine⟨_,(ae (aN (az a9 (aC bp rfl n_len PySem.boot_len (aa (pv 2) af)) ah (ay _)) (ai (av (cf af))) aD) (ae (aN (az a9 (aC bp rfl n_len PySem.boot_len (aa (pv 2) af)) ah (ay _)) (ai (av (cf (aa (bf c_times_to_one (hr.mono (by omega)) rfl aB (aa (pv 0) (aa (pv 1) (aa (aJ aS (aJ fA (pv 2) ah (λ_ _=>rfl)) ah (λ_ _=>rfl)) af)))) af)))) aD) (ae (bh (i:=3) nd (ao aZ (aC bp rfl n_len PySem.boot_len (aa (pv 2) af)) ah)) (ae (bh (i:=4) nd (i6 oI (pv 2) kQ (gR (pv 3)))) (ae (bh (i:=5) nd (i6 oI (pv 2) (gR (pv 3)) kQ)) (ai (av (ao sy (bf c_times_in_order (hr.mono (by omega)) rfl aB (aa (pv 0) (aa (bf c_raised (hr.mono (by omega)) rfl aB (aa (pv 0) (aa (pv 1) (aa (pv 5) af)))) (aa (pv 4) af)))) (bf c_times_in_order (hr.mono (by omega)) rfl aB (aa (pv 0) (aa (bf c_raised (hr.mono (by omega)) rfl aB (aa (pv 0) (aa (pv 1) (aa (pv 4) af)))) (aa (pv 5) af)))))))))))),?_⟩
 show aY _ _ _ [some (.int n),some (.int a),some (.ref p),none,none,none] H
 have ul:us.length=ps.length:=by rw [hd.length,List.length_map]
 k_data
 refine cM (aO.of hp) ⟨rfl,?_⟩
 refine aK (λc=>?_) (λc=>?_)
 ·have e0:ps=[]:=List.eq_nil_of_length_eq_zero (by injection c;omega)
  subst e0
  refine⟨by show 0<=sizeLine;decide,λp1 hp1=>q p1 [] _ (.none ?_) (ak hp1) hp1 ag⟩
  have:a^1%n=1:=h1
  rw [Int.pow_one] at this
  exact Num.Al.iff.mpr (by rw [this];exact (Int.emod_eq_of_lt (by omega) (by omega)).symm)
 refine cM (aO.of hp) ⟨rfl,?_⟩
 refine aK (λc1=>?_) (λc1=>?_)
 ·have l1:ps.length=1:=by injection c1;omega
  obtain⟨⟨q',k'⟩,rfl⟩:∃ y,ps=[y]:=by
   cases ps with
   | nil=>cases l1
   | cons y r=>cases r with
    | nil=>exact⟨y,rfl⟩
    | cons _ _=>simp at l1
  obtain⟨pq,k0,k6⟩:=hok (q',k') (List.mem_singleton.mpr rfl)
  replace pq:Num.Pm q':=pq
  obtain⟨u,r,rfl,hv,z⟩:=hd
  cases z
  obtain⟨pt,rfl,tt⟩:=jA hv
  refine kL (aO.of hp) (by omega) (by show (0:Int)<1;decide) λv hv=>?_
  have ev:v=V.ref pt:=List.mem_singleton.mp hv
  subst ev
  have h1':a^q'.toNat^k'.toNat%n=1:=by
   have:a^(q'.toNat^k'.toNat*1)%n=1:=h1
   rwa [Nat.mul_one] at this
  refine bC tt iQ ⟨n,a,q',k'.toNat,rfl,n2,n9,a0,a1,pq.two,h1',λt H1 _ t1 t2 s1=>⟨by show 1<=sizeLine;decide,λp2 hp2=>?_⟩⟩
  refine q p2 [(t:Int)] _ (.one pq ((cQ n2).mp t1) λj hj z=>t2 j hj ((cQ n2).mpr z)) (s1.trans (ak hp2)) (s1.free hp2) ag
 have l2:2<=ps.length:=by
  have h0:us.length≠0:=λz=>c (by rw [z];rfl)
  have h1:us.length≠1:=λz=>c1 (by rw [z];rfl)
  omega
 refine cM (aO.of hp) ⟨_,rfl,Bd.of (by omega) (by omega),?_⟩
 obtain⟨m,em,m1,m2⟩:∃ m:Nat,(us.length:Int)/2=m/\1<=m/\m=ps.length/2:=⟨us.length/2,by omega,by omega,by omega⟩
 rw [em]
 refine⟨p,us,rfl,aO.of hp,λpa hpa=>?_⟩
 rw [wg (by omega)]
 have s1:=ak (o:=.lst (us.take m)) hpa
 have ea:upd H pa (.lst (us.take m)) pa=some (.lst (us.take m)):=ag
 generalize upd H pa _=H1 at *
 refine⟨p,us,rfl,aO.of (s1 _ _ hp),λpb hpb=>?_⟩
 rw [wd (by omega)]
 have s2:=ak (o:=.lst (us.drop m)) hpb
 have eb:upd H1 pb (.lst (us.drop m)) pb=some (.lst (us.drop m)):=ag
 generalize upd H1 pb _=H2 at *
 have S2:=s1.trans s2
 have hT:=aQ.BM m (aQ.same S2 _ hd)
 rw [<- List.map_take,<- List.map_drop] at hT
 have okA:∀ y∈ps.take m,Num.Pm y.1/\0<=y.2/\y.2<=10^6:=λy z=>hok y (List.mem_of_mem_take z)
 have okB:∀ y∈ps.drop m,Num.Pm y.1/\0<=y.2/\y.2<=10^6:=λy z=>hok y (List.mem_of_mem_drop z)
 have ne:∀ x∈ps.take m,∀ y∈ps.drop m,y.1≠x.1:=by
  rw [<- List.take_append_drop m ps,List.pairwise_append] at pw
  exact pw.2.2
 have pwA:(ps.take m).Pairwise (λx y=>y.1≠x.1):=pw.sublist (List.take_sublist ..)
 have pwB:(ps.drop m).Pairwise (λx y=>y.1≠x.1):=pw.sublist (List.drop_sublist ..)
 have h1A:Num.Al n (a^(Num.eN (ps.take m)*Num.eN (ps.drop m))) 1:=by
  rw [<- Num.cU,List.take_append_drop]
  exact (cQ n2).mp h1
 have lA:(ps.take m).length<=2^(L-1)/\(ps.drop m).length<=2^(L-1)/\1<=L:=by
  have hL2:ps.length<=2^L:=hL.2
  have L1:1<=L:=by
   rcases Nat.eq_zero_or_pos L with z | z
   ·subst z;simp at hL2;omega
   ·exact z
  obtain⟨L',rfl⟩:∃ L',L=L'+1:=⟨L-1,by omega⟩
  rw [Nat.pow_succ] at hL2
  rw [List.length_take,List.length_drop]
  refine⟨?_,?_,by omega⟩<;>(simp only [Nat.add_sub_cancel];omega)
 have md:∀ e:Nat,0<=a^e%n/\a^e%n<n:=λe=>⟨Int.emod_nonneg _ (by omega),Int.emod_lt_of_pos _ (by omega)⟩
 have p1:∀ e E:Nat,Num.Al n (a^(e*E)) 1->(a^e%n)^E%n=1:=λe E z=>by
  rw [Num.Al.iff.mp ((Num.Al.rest n (a^e)).pow E),Num.bz]
  exact (cQ n2).mpr z
 refine⟨n,a,pb,_,ps.drop m,rfl,by omega,n9,a0,a1,eb,hT.2,λy z=>⟨(okB y z).1.two,(okB y z).2⟩,λH3 s3=>?_⟩
 refine⟨n,_,pa,_,ps.take m,rfl,⟨lA.2.2,lA.1⟩,by rw [List.length_take];omega,n2,n9,(md _).1,(md _).2,s3 _ _ (s2 _ _ ea),aQ.same s3 _ hT.1,okA,pwA,p1 _ _ (by rw [Nat.mul_comm];exact h1A),λpt ts H4 hTO s4 f4 e4=>?_⟩
 have S4:=s3.trans s4
 refine⟨n,a,pa,_,ps.take m,rfl,by omega,n9,a0,a1,S4 _ _ (s2 _ _ ea),aQ.same S4 _ hT.1,λy z=>⟨(okA y z).1.two,(okA y z).2⟩,λH5 s5=>?_⟩
 refine⟨n,_,pb,_,ps.drop m,rfl,⟨lA.2.2,lA.2.1⟩,by rw [List.length_drop];omega,n2,n9,(md _).1,(md _).2,s5 _ _ (S4 _ _ eb),aQ.same (S4.trans s5) _ hT.2,okB,pwB,p1 _ _ h1A,λpt2 ts2 H6 hTO2 s6 f6 e6=>?_⟩
 have tl:(ts.map V.int).length+(ts2.map V.int).length<=10^6:=by
  rw [List.length_map,List.length_map,hTO.len,hTO2.len,List.length_take,List.length_drop]
  omega
 refine⟨pt,pt2,_,_,rfl,rfl,s6 _ _ (s5 _ _ e4),e6,Nat.le_trans tl (by decide),λpl hpl=>?_⟩
 have S6:=((S2.trans S4).trans s5).trans s6
 have:=Num.TO.two (λy z=>(okA y z).1) (λy z=>(okB y z).1) ne (by rw [Num.cU];exact h1A) (hTO.al (Num.Al.rest n _)) (hTO2.al (Num.Al.rest n _))
 rw [List.take_append_drop] at this
 refine q pl (ts++ts2) _ this (S6.trans (ak hpl)) (S6.free hpl) ?_
 rw [List.map_append]
 exact ag
theorem qy (D:ar K mg "times_in_order" (top 55)) (c_raised:Callee P w K mg base aG 5 "raised" ["n","a","parting"] (jj K)) (c_times_to_one:Callee P w K mg base aG 5 "times_to_one" ["n","a","prime"] oU) (n_len:mg "len"=none):∀ L:Nat,Callee P w K mg base aG (L+6) "times_in_order" ["n","a","parting"] (jk K L)
 | 0=>vq D
 | L+1=>vt D c_raised c_times_to_one (qy D c_raised c_times_to_one n_len L) n_len
def ur (K:PySem.W.Frag):Sp:=λvs H Q _=>∃(p:Addr) (xs:List V) (rows:List PyData) (ps:List (Int × Int)),vs=[.ref p]/\H p=some (.lst xs)/\aQ K H rows xs/\zk rows ps/\rows.length<=10^6/\∀ p us H',aA H H'->H p=none->H' p=some (.lst us)->aQ K H' (ps.map kB) us->Q (.ref p) H'
theorem xG (D:ar K mg "parting_in" (top 20)):Callee P w K mg base aG 1 "parting_in" ["parts"] (ur K):=by
 refine cO D bY (λf cdv A outer s H vs Q E hr h=>?_)
 obtain⟨p,xs,rows,ps,rfl,hS,ht,hh,h6,q⟩:=h
 have nd:=bY.nd
 refine⟨_,(ai (av (dc rfl (kG (N':=["row"]) (js:=[none]) rfl rfl) (bF (pv 0)) (λ_ _ _ _=>(aq (i:=0) (show List.Nodup [("row":Str)] from by decide +kernel) rfl (Or.inl rfl) (.inr rfl))) (λ_ _ _ _=>aX) (λ_ _ _ _=>(aI (aa (aJ (bQ K rfl) (aJ (bQ K rfl) (pv 0) ah (λ_ _=>rfl)) ah (λ_ _=>rfl)) (aa (aJ (bQ K rfl) (pv 0) ah (λ_ _=>rfl)) af))))))),?_⟩
 show fN _ _ [some (.ref p)] H
 have xl:=ht.length
 have rl:=hh.1
 k_data
 refine⟨⟨_,aO.of hS⟩,?_⟩
 refine bH (xs:=xs) (λi zs H3=>aA H H3/\aQ K H3 ((ps.take i).map kB) zs) ⟨aA.refl _,rfl⟩ (Nat.le_trans (by omega) (show 10^6<=sizeLine by decide)) (λi zs H3 hi ⟨e1,e2⟩=>⟨aO.of (e1 _ _ hS),by rw [e2.length,List.length_map,List.length_take];omega⟩) ?_ ?_
 ·rintro i x zs H3 hx ⟨s3,hz⟩
  obtain⟨q',k',pt,pq,r,hy,rfl,t1,t2⟩:=wM ht hh hx
  show cI 0 _ [none] _ _
  k_data
  refine⟨True.intro,bC (t1.same s3) iQ (bC (t2.same s3) iQ (bC (t1.same s3) rfl ⟨by show 2<=sizeLine;decide,λp4 hp4=>?_⟩))⟩
  have s4:=ak (o:=.tup [V.int q',V.int k']) hp4
  refine⟨s3.trans s4,?_⟩
  rw [List.take_add_one,hy,List.map_append]
  exact aQ.append (aQ.same s4 _ hz) (.one (dv.tup ag ⟨_,_,rfl,rfl,.one rfl⟩))
 ·rintro zs H3 p3 ⟨s3,hz⟩ hp3
  rw [show xs.length=ps.length by omega,List.take_length] at hz
  exact q p3 zs _ (s3.trans (ak hp3)) (s3.free hp3) ag (aQ.same (ak hp3) _ hz)
def iE (p a e:Int) (y:PyData × Int × Int):PyData:=.tuple [y.1,.int y.2.2,.int (a^(e/y.2.1).toNat%p)]
def kf (ps:List (Int × Int)) (ds:Nat->PyData) (ts:List Int) (i:Nat):Option (PyData × Int × Int):=match ps[i]?,ts[i]? with
 | some y,some t=>if 0<t then some (ds i,y.1,t) else none
 | _,_=>none
def b9 (ps:List (Int × Int)) (ds:Nat->PyData) (ts:List Int) (n:Nat):List (PyData × Int × Int):=(List.range n).filterMap (kf ps ds ts)
def dG (ps:List (Int × Int)) (ds:Nat->PyData) (ts:List Int):List (PyData × Int × Int):=b9 ps ds ts ps.length
theorem fS {ps:List (Int × Int)} {ds:Nat->PyData} {ts:List Int} {i:Nat} {q k t:Int} (hp:ps[i]?=some (q,k)) (ht:ts[i]?=some t):b9 ps ds ts (i+1)=b9 ps ds ts i++(if 0<t then [(ds i,q,t)] else []):=by
 unfold b9
 rw [List.range_succ,List.filterMap_append]
 congr 1
 have:kf ps ds ts i=if 0<t then some (ds i,q,t) else none:=by unfold kf;rw [hp,ht]
 by_cases c:0<t
 ·rw [if_pos c] at this ⊢
  simp [this]
 ·rw [if_neg c] at this ⊢
  simp [this]
theorem iC {ps:List (Int × Int)} {ds:Nat->PyData} {ts:List Int} {n:Nat} {y:PyData × Int × Int} (h:y∈b9 ps ds ts n):∃ i k,ps[i]?=some (y.2.1,k)/\ts[i]?=some y.2.2/\0<y.2.2/\y.1=ds i:=by
 unfold b9 at h
 obtain⟨i,_,e⟩:=List.mem_filterMap.mp h
 unfold kf at e
 cases hp:ps[i]? with
 | none=>rw [hp] at e;cases e
 | some z =>
  cases ht:ts[i]? with
  | none=>rw [hp,ht] at e;cases e
  | some t =>
   rw [hp,ht] at e
   by_cases c:0<t
   ·have e':(if 0<t then some (ds i,z.1,t) else none)=some y:=e
    rw [if_pos c] at e'
    cases e'
    exact⟨i,z.2,hp,ht,c,rfl⟩
   ·have e':(if 0<t then some (ds i,z.1,t) else none)=some y:=e
    rw [if_neg c] at e'
    cases e'
theorem ly {ps:List (Int × Int)} {ds:Nat->PyData} {ts:List Int} {n:Nat}:(b9 ps ds ts n).length<=n:=by
 unfold b9
 exact Nat.le_trans (List.length_filterMap_le ..) (by rw [List.length_range];exact Nat.le_refl _)
def kp (y:PyData × Int × Int):Int × Int:=(y.2.1,y.2.2)
def kD (y:PyData × Int × Int):PyData:=.tuple [y.1,.int y.2.2]
theorem jF {ps:List (Int × Int)} {ds:Nat->PyData} {ts:List Int} (hl:ts.length=ps.length) (h0:∀ t∈ts,0<=t):∀ n,n<=ps.length->Num.eN ((b9 ps ds ts n).map kp)=Num.eN (((ps.map (·.1)).zip ts).take n)
 | 0,_=>rfl
 | n+1,h=>by
  have ih:=jF (ds:=ds) hl h0 n (by omega)
  have hp:ps[n]?=some (ps[n].1,ps[n].2):=List.getElem?_eq_getElem (by omega)
  have ht:ts[n]?=some ts[n]:=List.getElem?_eq_getElem (by omega)
  have hz:((ps.map (·.1)).zip ts)[n]?=some (ps[n].1,ts[n]):=by
   rw [List.getElem?_zip_eq_some]
   exact⟨by rw [List.getElem?_map,hp];rfl,ht⟩
  rw [fS hp ht,List.take_add_one,hz,List.map_append,Num.cU,ih]
  show _=Num.eN (((ps.map (·.1)).zip ts).take n++[(ps[n].1,ts[n])])
  rw [kJ]
  have t0:=h0 ts[n] (List.getElem_mem _)
  by_cases c:0<ts[n]
  ·rw [if_pos c]
   show _*(ps[n].1.toNat^ts[n].toNat*1)=_
   rw [Nat.mul_one]
  ·rw [if_neg c,show ts[n].toNat=0 by omega,Nat.pow_zero]
   rfl
theorem Be {ps:List (Int × Int)} {ds:Nat->PyData} (h:∀ i q k,ps[i]?=some (q,k)->Num.fK q (ds i)):zk (Num.rowsOf ps ds) ps:=by
 refine⟨Num.bK,λi row hr=>?_⟩
 have hi:=(List.getElem?_eq_some_iff.mp hr).1
 rw [Num.bK] at hi
 have hg:ps[i]?=some (ps[i].1,ps[i].2):=List.getElem?_eq_getElem hi
 rw [Num.iH hg] at hr
 cases hr
 obtain⟨g,rows,e⟩:=(h i _ _ hg).head
 exact⟨_,hg,_,by rw [e]⟩
theorem ub {H:Hp} {ps:List (Int × Int)} {ds:Nat->PyData} {xs:List V} (hd:aQ K H (Num.rowsOf ps ds) xs) {i:Nat} {x:V} (hx:xs[i]?=some x):∃ q k pt u,ps[i]?=some (q,k)/\x=.ref pt/\bG K H pt [u,.int k]/\dv K H (ds i) u:=by
 obtain⟨d,hd',hv⟩:=hd.get hx
 have hi:=(List.getElem?_eq_some_iff.mp hd').1
 rw [Num.bK] at hi
 have hg:=List.getElem?_eq_getElem hi
 rw [Num.iH hg] at hd'
 cases hd'
 obtain⟨pt,ys,rfl,h1,x1,r1,rfl,e1,x2,r2,rfl,e2,z⟩:=hv
 cases z
 cases e2
 exact⟨ps[i].1,ps[i].2,pt,x1,hg,rfl,h1,e1⟩
def yD (K:PySem.W.Frag):Sp:=λvs H Q _=>∃(v:V) (p a g:Int) (ps:List (Int × Int)) (ds:Nat->PyData),vs=[.int p,.int a,v]/\dv K H (.tuple (Num.rowsOf ps ds)) v/\Num.fK p (.tuple [.int p,.int g,.tuple (Num.rowsOf ps ds)])/\Num.Part (p-1) ps/\ps.length<=29/\(∀ i q k,ps[i]?=some (q,k)->Num.fK q (ds i))/\¬p∣a /\ -(10^60)<=a/\a<=10^60 /\
 ∀(e:Int) (ts:List Int) (u:V) (H':Hp),1<=e->e<p->Num.Ord p a e.toNat->Num.TO p a ps ts->aA H H'->dv K H' (.tuple [.int e,.tuple ((dG ps ds ts).map (iE p a e))]) u->Q u H'
theorem ix:aw ["n","a","parts","parting","times","kept","e"] ["n","a","parts"] (aj (top 52)):=cq
theorem oh {C:Addr} (D:ar K mg "order_from" (top 52)) (c_parting_in:Callee P w K mg base aG 1 "parting_in" ["parts"] (oP K)) (c_parting_inL:Callee P w K mg base aG 1 "parting_in" ["parts"] (ur K)) (c_most_times:Callee P w K mg base aG 1 "most_times" ["n","prime"] yA) (c_raised:Callee P w K mg base aG 5 "raised" ["n","a","parting"] (jj K)) (c_times_in_order:Callee P w K mg base aG 12 "times_in_order" ["n","a","parting"] (jk K 6)) (c_whole_of:Callee P w K mg base aG 1 "whole_of" ["parting"] (kS K)) (c_power:Callee P w K mg base (dh P w) 4 "power" ["n","a","e"] (cG C)) (n_min:mg "min"=none) (n_zip:mg "zip"=none) (n_tuple:mg "tuple"=none):Callee P w K mg base aG 13 "order_from" ["n","a","parts"] (yD K):=by
 refine cO D ix (λf cdv A outer s H vs Q E hr h=>?_)
 obtain⟨v,p,a,g,ps,ds,rfl,hd,hp,hP,hl29,hds,na,a0,a1,q⟩:=h
 obtain⟨pm,p9⟩:=ie hp
 have p2:=pm.two
 have nd:=ix.nd
 refine⟨_,(ae (i9 (i0:=3) nd rfl (Or.inl rfl) rfl (kG (N':=["prime","many","n"]) (js:=[none,none,some 0]) rfl rfl) (bF (aV c_parting_in hr aB (aa (pv 2) af))) (λ_ _ _ _=>(dD K rfl (n:=2) rfl (ax (aq (i:=0) (show List.Nodup [("prime":Str),("many":Str),("n":Str)] from by decide +kernel) rfl (Or.inl rfl) (.inr rfl)) (ax (aq (i:=1) (show List.Nodup [("prime":Str),("many":Str),("n":Str)] from by decide +kernel) rfl (Or.inl rfl) (.inr rfl)) aR)))) (λ_ _ _ _=>aX) (λ_ _ _ _=>(aI (aa (pv 0) (aa (aC (uH rfl) rfl n_min L2.boot_min (aa (pv 1) (aa (aV c_most_times hr aB (aa (pv 2) (aa (pv 0) af))) af))) af)))) (by rfl) (by first | exact .inl rfl | exact .inr rfl)) (ae (aN (az ic (aV c_raised hr aB (aa (pv 0) (aa (ao aF (pv 1) (pv 0)) (aa (pv 3) af)))) ah (ay _)) yg aD) (gK.kA (ae (bh (i:=4) nd (aV c_times_in_order hr aB (aa (pv 0) (aa (ao aF (pv 1) (pv 0)) (aa (pv 3) af))))) (ae (i9 (i0:=5) nd rfl (Or.inl rfl) rfl (kG (N':=["row","many"]) (js:=[none,none]) rfl rfl) (x6 .t .l rfl n_zip (aa (pv 2) (aa (pv 4) af))) (λ_ _ _ _=>(dD K rfl (n:=2) rfl (ax (aq (i:=0) (show List.Nodup [("row":Str),("many":Str)] from by decide +kernel) rfl (Or.inl rfl) (.inr rfl)) (ax (aq (i:=1) (show List.Nodup [("row":Str),("many":Str)] from by decide +kernel) rfl (Or.inl rfl) (.inr rfl)) aR)))) (λ_ _ _ _=>(gb (az cJ (pv 1) ah (ay _)))) (λ_ _ _ _=>(aI (aa (aJ (bQ K rfl) (pv 0) ah (λ_ _=>rfl)) (aa (pv 1) af)))) (by rfl) (by first | exact .inl rfl | exact .inr rfl)) (ae (gh (i:=6) nd rfl (Or.inr rfl) (aV c_whole_of hr aB (aa (aV c_parting_inL hr aB (aa (pv 5) af)) af))) (ai (av (aI (aa (pv 6) (aa (cF dB rfl n_tuple L2.boot_tuple (aa (dc rfl (kG (N':=["paper","many","n","a","e"]) (js:=[none,none,some 0,some 1,some 6]) rfl rfl) (bF (pv 5)) (λ_ _ _ _=>(dD K rfl (n:=2) rfl (ax (aq (i:=0) (show List.Nodup [("paper":Str),("many":Str),("n":Str),("a":Str),("e":Str)] from by decide +kernel) rfl (Or.inl rfl) (.inr rfl)) (ax (aq (i:=1) (show List.Nodup [("paper":Str),("many":Str),("n":Str),("a":Str),("e":Str)] from by decide +kernel) rfl (Or.inl rfl) (.inr rfl)) aR)))) (λ_ _ _ _=>aX) (λ_ _ _ _=>(aI (aa (pv 0) (aa (pv 1) (aa (aV c_power hr aE (aa (pv 2) (aa (pv 3) (aa (ao aZ (pv 4) (aJ (bQ K rfl) (pv 0) ah (λ_ _=>rfl))) af)))) af)))))) af)) af))))))))))),?_⟩
 show aY _ _ _ [some (.int p),some (.int a),some v,none,none,none,none] H
 obtain⟨pr,xs,rfl,hSr,hdr⟩:=hd
 have xl:xs.length=ps.length:=by rw [hdr.length,Num.bK]
 have eE:Num.eN ps=(p-1).toNat:=by
  have:=Num.fz ps λy z=>(hP.ok y z).1
  rw [hP.prod] at this
  omega
 have big:∀{zs:List (Int × Int)},(∀ y∈zs,2<=y.1)->Num.eN zs<=(p-1).toNat->∀{i:Nat} {q k:Int},zs[i]?=some (q,k)->q.toNat^k.toNat<=(p-1).toNat/\k<=29:=by
  intro zs h2 hz i q k hy
  have g1:=(wD h2 hy (j:=k.toNat) (Nat.le_refl _)).1
  have e0:Num.eN (zs.take i)≠0:=wF λy z=>h2 y (List.mem_of_mem_take z)
  have g2:q.toNat^k.toNat<=(p-1).toNat:=Nat.le_trans (Nat.le_mul_of_pos_left _ (Nat.pos_of_ne_zero e0)) (Nat.le_trans g1 hz)
  have q2:2<=q:=h2 _ (List.mem_of_getElem? hy)
  have g3:(2:Int)^k.toNat<=q^k.toNat:=Num.two_pow_le q2 _
  have g4:q^k.toNat=((q.toNat^k.toNat:Nat):Int):=by rw [Int.natCast_pow,show (q.toNat:Int)=q by omega]
  have g5:k.toNat<=29:=Num.two_le (by omega)
  exact⟨g2,by omega⟩
 have okP:∀ y∈ps,Num.Pm y.1/\0<=y.2/\y.2<=10^6:=λy hy=>by
  obtain⟨o1,o2,_⟩:=hP.ok y hy
  obtain⟨i,hi⟩:=List.mem_iff_getElem?.mp hy
  have:=(big (λy z=>(hP.ok y z).1.two) (Nat.le_of_eq eE) hi).2
  exact⟨o1,by omega,by omega⟩
 have pwP:ps.Pairwise (λx y=>y.1≠x.1):=hP.rise.imp λh=>by omega
 k_data
 refine⟨.ref pr,_,ps,rfl,⟨pr,xs,rfl,hSr,hdr⟩,Be hds,by rw [Num.bK];omega,λp1 us1 H1 s1 f1 e1 d1=>?_⟩
 refine⟨p1,rfl,⟨_,aO.of e1⟩,?_⟩
 have ul:us1.length=ps.length:=by rw [d1.length,List.length_map]
 refine bH (xs:=us1) (λi zs H3=>aA H1 H3/\aQ K H3 ((ps.take i).map kB) zs) ⟨aA.refl _,rfl⟩ (by rw [ul];exact Nat.le_trans hl29 (by decide)) (λi zs H3 hi ⟨z1,z2⟩=>⟨aO.of (z1 _ _ e1),by rw [z2.length,List.length_map,List.length_take];omega⟩) ?_ ?_
 ·rintro i x zs H3 hx ⟨s3,hz⟩
  obtain⟨d,hd',hv⟩:=d1.get hx
  rw [List.getElem?_map] at hd'
  obtain⟨⟨q',k'⟩,hy,rfl⟩:=Option.map_eq_some_iff.mp hd'
  obtain⟨pq,k0,k6⟩:=okP _ (List.mem_of_getElem? hy)
  replace pq:Num.Pm q':=pq
  replace k0:0<=k':=k0
  have q2:=pq.two
  obtain⟨pt,rfl,tt⟩:=jA hv
  have qb:=(big (λy z=>(okP y z).1.two) (Nat.le_of_eq eE) hy).1
  have q9:q'<=10^9:=by
   have:=(kP hP (by omega) q' (List.mem_map.mpr ⟨_,List.mem_of_getElem? hy,rfl⟩)).2
   omega
  show nS K 2 _ _ [none,none,some (.int p)] _ _
  refine⟨pt,_,rfl,tt.same s3,rfl,?_⟩
  k_data
  refine⟨⟨rfl,True.intro⟩,p,q',rfl,by omega,by omega,q2,by omega,λt ht=>⟨(t:Int),rfl,by show 2<=sizeLine;decide,λp4 hp4=>?_⟩⟩
  have em:(if (t:Int)<k' then (t:Int) else k')=k':=by
   rw [if_neg]
   intro z
   have g4:q'^(t+1)=((q'.toNat^(t+1):Nat):Int):=by rw [Int.natCast_pow,show (q'.toNat:Int)=q' by omega]
   have g5:q'.toNat^(t+1)<=q'.toNat^k'.toNat:=Nat.pow_le_pow_right (by omega) (by omega)
   omega
  rw [em]
  have s4:=ak (o:=.tup [V.int q',V.int k']) hp4
  refine⟨s3.trans s4,?_⟩
  rw [List.take_add_one,hy,List.map_append]
  exact aQ.append (aQ.same s4 _ hz) (.one (dv.tup ag ⟨_,_,rfl,rfl,.one rfl⟩))
 ·rintro zs H3 p3 ⟨s3,hz⟩ hp3
  rw [ul,List.take_length] at hz
  have s4:=ak (o:=.lst zs) hp3
  have e4:upd H3 p3 (.lst zs) p3=some (.lst zs):=ag
  generalize upd H3 p3 _=H4 at *
  have S4:=(s1.trans s3).trans s4
  have d4:=aQ.same s4 _ hz
  have r0:=Int.emod_nonneg a (show p≠0 by omega)
  have r1:=Int.emod_lt_of_pos a (show 0<p by omega)
  have one:(a%p)^Num.eN ps%p=1:=by
   rw [eE]
   exact (cQ p2).mpr (((Num.Al.rest p a).pow _).trans (Num.fR pm na))
  refine⟨by omega,p,a%p,p3,zs,ps,rfl,by omega,by omega,r0,r1,e4,d4,λy z=>⟨(okP y z).1.two,(okP y z).2⟩,λH5 s5=>⟨rfl,?_⟩⟩
  rw [one,if_neg (by intro z;exact z rfl)]
  refine⟨by omega,p,a%p,p3,zs,ps,rfl,⟨by decide,by show ps.length<=32;omega⟩,by omega,p2,by omega,r0,r1,s5 _ _ e4,aQ.same s5 _ d4,okP,pwP,one,λp6 ts H6 hTO s6 f6 e6=>?_⟩
  have hTO':=hTO.al (Num.Al.rest p a)
  have S6:=(S4.trans s5).trans s6
  have tl:ts.length=ps.length:=hTO.len
  have eZ:Num.eN ((b9 ps ds ts ps.length).map kp)=Num.eN ((ps.map (·.1)).zip ts):=by
   rw [jF tl hTO.nn _ (Nat.le_refl _),List.take_of_length_le]
   rw [List.length_zip,List.length_map]
   omega
  have oE:=hTO'.ord
  rw [<- eZ] at oE
  have eP:0<Num.eN ((b9 ps ds ts ps.length).map kp)/\Num.eN ((b9 ps ds ts ps.length).map kp)<=(p-1).toNat:=by
   refine⟨oE.pos,Nat.le_of_dvd (by omega) (oE.dv _ (Num.fR pm na))⟩
  k_data
  refine⟨⟨xs,hSr.same S6⟩,⟨_,aO.of e6⟩,?_⟩
  refine gL (xs:=xs) (ys:=ts.map V.int) (λi zs H7=>aA H6 H7/\aQ K H7 ((b9 ps ds ts i).map kD) zs) ⟨aA.refl _,rfl⟩ (by rw [List.length_map,tl,xl]) (by rw [xl];exact Nat.le_trans hl29 (by decide)) (λi zs H7 hi ⟨z1,z2⟩=>⟨hSr.same (S6.trans z1),aO.of (z1 _ _ e6),by rw [z2.length,List.length_map];exact ly⟩) ?_ ?_
  ·rintro i x y zs H7 p7 hx hy ⟨s7,hz7⟩ hp7
   obtain⟨q',k',pt,u,hpi,rfl,t1,t2⟩:=ub hdr hx
   rw [List.getElem?_map] at hy
   obtain⟨t,ht,rfl⟩:=Option.map_eq_some_iff.mp hy
   have s8:=ak (o:=.tup [V.ref pt,V.int t]) hp7
   show nS K 2 _ _ [none,none] _ _
   refine⟨p7,_,rfl,bG.of ag,rfl,?_⟩
   generalize upd H7 p7 _=H8 at *
   have S8:=(S6.trans s7).trans s8
   rw [fS hpi ht]
   k_data
   refine⟨True.intro,aK (λc=>?_) (λc=>?_)⟩
   ·rw [if_pos c]
    refine bC (t1.same S8) iQ ⟨by show 2<=sizeLine;decide,λp9 hp9=>?_⟩
    have s9:=ak (o:=.tup [u,V.int t]) hp9
    refine⟨(s7.trans s8).trans s9,?_⟩
    rw [List.map_append]
    exact aQ.append (aQ.same (s8.trans s9) _ hz7) (.one (dv.tup ag ⟨_,_,rfl,dv.same (S8.trans s9) _ t2,.one rfl⟩))
   ·rw [if_neg c,List.append_nil]
    exact⟨s7.trans s8,aQ.same s8 _ hz7⟩
  ·rintro zs H7 p7 ⟨s7,hz7⟩ hp7
   rw [xl] at hz7
   have s8:=ak (o:=.lst zs) hp7
   have e8:upd H7 p7 (.lst zs) p7=some (.lst zs):=ag
   generalize upd H7 p7 _=H8 at *
   have S8:=(S6.trans s7).trans s8
   have d8:=aQ.same s8 _ hz7
   have kl:(b9 ps ds ts ps.length).length<=29:=Nat.le_trans ly hl29
   have kmem:∀ y∈b9 ps ds ts ps.length,Num.Pm y.2.1/\0<y.2.2/\y.2.2<=29/\Num.fK y.2.1 y.1:=λy hy=>by
    obtain⟨i,k,h1,h2,h3,h4⟩:=iC hy
    have hz:((ps.map (·.1)).zip ts)[i]?=some (y.2.1,y.2.2):=by
     rw [List.getElem?_zip_eq_some]
     exact⟨by rw [List.getElem?_map,h1];rfl,h2⟩
    have h5:=(big (zs:=(ps.map (·.1)).zip ts) (λz hz=>by
     have:=(List.of_mem_zip (show (z.1,z.2)∈_ from hz)).1
     obtain⟨w',hw',e⟩:=List.mem_map.mp this
     rw [<- e]
     exact (okP w' hw').1.two) (by rw [<- eZ];exact eP.2) hz).2
    exact⟨(okP _ (List.mem_of_getElem? h1)).1,h3,h5,by rw [h4];exact hds i _ _ h1⟩
   obtain⟨ks,hks⟩:∃ ks,b9 ps ds ts ps.length=ks:=⟨_,rfl⟩
   rw [hks] at eZ oE eP kl kmem d8
   have zl:zs.length=ks.length:=by rw [d8.length,List.length_map]
   refine⟨p7,zs,ks.map kD,ks.map kp,rfl,e8,d8,⟨by rw [List.length_map,List.length_map],λi row hr=>?_⟩,by rw [List.length_map];omega,λp9 us9 H9 s9 f9 e9 d9=>?_⟩
   ·rw [List.getElem?_map] at hr
    obtain⟨y,hy,rfl⟩:=Option.map_eq_some_iff.mp hr
    obtain⟨g',rows',e'⟩:=(kmem y (List.mem_of_getElem? hy)).2.2.2.head
    exact⟨kp y,by rw [List.getElem?_map,hy];rfl,_,by show PyData.tuple [y.1,.int y.2.2]=_;rw [e'];rfl⟩
   refine⟨p9,us9,_,rfl,e9,d9,λy hy=>?_,by omega,λH10 s10=>?_⟩
   ·obtain⟨z,hz,rfl⟩:=List.mem_map.mp hy
    obtain⟨m1,m2,m3,_⟩:=kmem z hz
    exact⟨m1.two,by show 0<=z.2.2;omega,by show z.2.2<=10^6;omega⟩
   have S10:=s9.trans s10
   refine⟨p7,rfl,⟨_,aO.of (S10 _ _ e8)⟩,?_⟩
   have eb:(1:Int)<=(Num.eN (ks.map kp):Int)/\(Num.eN (ks.map kp):Int)<p:=by omega
   have oE':Num.Ord p a ((Num.eN (ks.map kp):Int)).toNat:=by rw [Int.toNat_natCast];exact oE
   generalize (Num.eN (ks.map kp):Int)=e at *
   refine bH (xs:=zs) (λi rs H11=>aA H10 H11/\aQ K H11 ((ks.take i).map (iE p a e)) rs) ⟨aA.refl _,rfl⟩ (by rw [zl];exact Nat.le_trans kl (by decide)) (λi rs H11 hi ⟨z1,z2⟩=>⟨aO.of (z1 _ _ (S10 _ _ e8)),by rw [z2.length,List.length_map,List.length_take];omega⟩) ?_ ?_
   ·rintro i x rs H11 hx ⟨s11,hr⟩
    obtain⟨d,hd',hv⟩:=(aQ.same (S10.trans s11) _ d8).get hx
    rw [List.getElem?_map] at hd'
    obtain⟨y,hy,rfl⟩:=Option.map_eq_some_iff.mp hd'
    obtain⟨m1,m2,m3,m4⟩:=kmem y (List.mem_of_getElem? hy)
    obtain⟨pt,ys,rfl,h1,x1,r1,rfl,e1',x2,r2,rfl,e2',z⟩:=hv
    cases z
    cases e2'
    have e1d:=e1'
    obtain⟨g',rows',e'⟩:=m4.head
    rw [e'] at e1'
    obtain⟨pq,zs',rfl,h2,y1,r3,rfl,f1',f2⟩:=e1'
    cases f1'
    have q2:=m1.two
    have q9:=(ie m4).2
    show nS K 2 _ _ [none,none,some (.int p),some (.int a),some (.int e)] _ _
    refine⟨pt,_,rfl,h1,rfl,?_⟩
    k_data
    refine⟨⟨rfl,rfl,rfl,True.intro⟩,bC h2 iQ ⟨y.2.1,rfl,by omega,Bd.of (by omega) (by omega),p,a,e/y.2.1,rfl,by omega,by omega,λ_ H12 s12=>⟨by show 3<=sizeLine;decide,λp13 hp13=>?_⟩,λz=>absurd z (by have:=Int.ediv_nonneg (show 0<=e by omega) (show 0<=y.2.1 by omega);omega)⟩⟩
    have s13:=ak (o:=.tup [V.ref pq,V.int y.2.2,V.int (a^(e/y.2.1).toNat%p)]) hp13
    refine⟨(s11.trans s12).trans s13,?_⟩
    rw [List.take_add_one,hy,List.map_append]
    exact aQ.append (aQ.same (s12.trans s13) _ hr) (.one (dv.tup ag ⟨_,_,rfl,dv.same (s12.trans s13) _ e1d,_,_,rfl,rfl,.one rfl⟩))
   ·rintro rs H11 p11 ⟨s11,hr⟩ hp11
    rw [zl,List.take_length] at hr
    have s12:=ak (o:=.lst rs) hp11
    refine⟨p11,rfl,rs,.inl ⟨aO.of ag,λl hl'=>⟨by show 2<=sizeLine;decide,λp13 hp13=>?_⟩⟩⟩
    generalize upd H11 p11 _=H12 at *
    have s13:=ak (o:=.tup rs) hl'
    have e13:upd H12 l (.tup rs) l=some (.tup rs):=ag
    generalize upd H12 l _=H13 at *
    have s14:=ak (o:=.tup [V.int e,V.ref l]) hp13
    have ek:dG ps ds ts=ks:=hks
    refine q e ts _ _ eb.1 eb.2 oE' hTO' (((((S8.trans S10).trans s11).trans s12).trans s13).trans s14) ?_
    rw [ek]
    exact dv.tup ag ⟨_,_,rfl,rfl,.one (dv.tup (s14 _ _ e13) (aQ.same ((s12.trans s13).trans s14) _ hr))⟩
def BW (p a:Int) (rows:PyData) (r:PyData):Prop:=∃(e:Int) (ps:List (Int × Int)) (ds:Nat->PyData) (ts:List Int),rows=.tuple (Num.rowsOf ps ds)/\Num.Part (p-1) ps/\ps.length<=29/\(∀ i q k,ps[i]?=some (q,k)->Num.fK q (ds i))/\1<=e/\e<p/\Num.Ord p a e.toNat/\Num.TO p a ps ts/\r=.tuple [.int e,.tuple ((dG ps ds ts).map (iE p a e))]
def um (K:PySem.W.Frag) (C:Addr):Sp:=λvs H Q E=>∃(v:V) (p a g:Int) (rows:PyData),vs=[v,.int a]/\dv K H (.tuple [.int p,.int g,rows]) v/\Num.fK p (.tuple [.int p,.int g,rows]) /\ -(10^60)<=a/\a<=10^60/\(p∣a->Ds C H E) /\
 (¬p∣a->∀ r u H',BW p a rows r->aA H H'->dv K H' r u->Q u H')
theorem qP:aw ["paper","a","p","full","parts"] ["paper","a"] (aj (top 57)):=cq
theorem xD {C:Addr} (D:ar K mg "order" (top 57)) (c_order_from:Callee P w K mg base aG 13 "order_from" ["n","a","parts"] (yD K)) (x_Nought:rF K mg "Nought" C):Callee P w K mg base (dh P w) 14 "order" ["paper","a"] (um K C):=by
 refine cX D qP (λf cdv A outer s H vs Q E hr h=>?_)
 obtain⟨v,p,a,g,rows,rfl,hd,hp,a0,a1,q1,q2⟩:=h
 obtain⟨pm,p9⟩:=ie hp
 have p2:=pm.two
 have nd:=qP.nd
 refine⟨_,(ae (cR (pv 0) (bT (n:=3) rfl (ax (aq (i:=2) nd rfl (Or.inl rfl) (.inr rfl)) (ax (aq (i:=3) nd rfl (Or.inl rfl) (.inr rfl)) (ax (aq (i:=4) nd rfl (Or.inl rfl) (.inr rfl)) aR))))) (ae (aN (az a9 (ao aF (pv 1) (pv 2)) ah (ay _)) (ai (cz (lH x_Nought rfl))) aD) (gK.kA (ai (av (aV c_order_from hr aB (aa (pv 2) (aa (pv 1) (aa (pv 4) af))))))))),?_⟩
 show aY _ _ _ [some v,some (.int a),none,none,none] H
 obtain⟨g',ps,ds,eq,hg,hP,hl29,hds⟩:=kO hp
 cases eq
 obtain⟨pp,y1,y2,vr,rfl,tS,e0,eg,dr⟩:=lg hd
 cases e0
 cases eg
 k_data
 refine⟨pp,_,rfl,tS,rfl,?_⟩
 k_data
 refine⟨by omega,aK (λc=>?_) (λc=>?_)⟩
 ·exact λx hx=>dU x_Nought.cls (aA.refl _) hx (q1 (Int.dvd_of_emod_eq_zero c))
 ·have na:¬p∣a:=λz=>c (Int.emod_eq_zero_of_dvd z)
  exact⟨vr,p,a,g,ps,ds,rfl,dr,hp,hP,hl29,hds,na,a0,a1,λe ts u H' e1 e2 o t s' hu=>q2 na _ u H' ⟨e,ps,ds,ts,rfl,hP,hl29,hds,e1,e2,o,t,rfl⟩ s' hu⟩
theorem CI {p a:Int} {m:Nat} (hp:Num.Pm p) (o:Num.Ord p a m):¬p∣a:=λz=>by
 have h0:Num.Al p (a^m) 0:=by
  obtain⟨k,hk⟩:∃ k,m=k+1:=⟨m-1,by have:=o.pos;omega⟩
  rw [hk,Int.pow_succ]
  show p∣a^k*a-0
  rw [Int.sub_zero]
  exact Int.dvd_mul_of_dvd_right z
 exact hp.kN (h0.symm.trans o.one)
theorem xU {p a:Int} (hp:Num.Pm p) (na:¬p∣a):∃ m,Num.Ord p a m/\m<=(p-1).toNat:=Num.jL (by have:=hp.two;omega) (Num.fR hp na)
def PW (p a k y:Int):Prop:=∃ b:Int,(0<=k/\b=a∨k<0/\p∣b*a-1)/\y=b^k.natAbs%p
theorem kI {H:Hp} {m n:Int} {v:V} (h:dv K H (kB (m,n)) v):∃ q,v=.ref q/\bG K H q [.int m,.int n]:=by
 obtain⟨q,xs,e,h1,h2⟩:=h
 obtain⟨x,r,e1,d1,h3⟩:=h2
 obtain⟨y,r',e2,d2,h4⟩:=h3
 cases h4
 cases d1
 cases d2
 subst e1
 subst e2
 exact⟨q,e,h1⟩
theorem DD {a b g u v:Int} (ha:0<a) (z:Gcd.BN a b g u v):Crt.G a b g:=by
 refine⟨?_,z.da,z.db,⟨u,v,z.lin⟩⟩
 have:=z.g0
 rcases (by omega:g=0∨0<g) with e | e
 ·have h:=z.da
  rw [e] at h
  have:=Int.zero_dvd.mp h
  omega
 ·exact e
theorem zX {g x:Int}:(!decide (x%g=0))=decide (¬g∣x):=by
 by_cases h:g∣x
 ·rw [Int.emod_eq_zero_of_dvd h];simp [h]
 ·have:¬x%g=0:=λz=>h (Int.dvd_of_emod_eq_zero z)
  simp [h,this]
theorem Fq {a d L:Int} (hd:0<d) (h0:-L<=a) (h1:a<=L):-L<=a/d/\a/d<=L:=by
 have L0:0<=L:=by omega
 have h2:L*1<=L*d:=Int.mul_le_mul_of_nonneg_left (show 1<=d by omega) L0
 refine⟨Int.le_ediv_of_mul_le hd (by rw [Int.neg_mul];omega),Int.ediv_le_of_le_mul hd (by omega)⟩
theorem DC {M m g:Int} (hm:0<m) (G:Crt.G M m g):0<m/g/\m/g<=m/\Gd (m/g) (M/g) 1:=by
 have g0:=G.pos
 obtain⟨A,hA⟩:=G.da
 obtain⟨L,hL⟩:=G.db
 have e1:m/g=L:=by rw [hL];exact Int.mul_ediv_cancel_left _ (by omega)
 have e2:M/g=A:=by rw [hA];exact Int.mul_ediv_cancel_left _ (by omega)
 obtain⟨u,v,e⟩:=G.lin
 have e4:u*A+v*L=1:=Int.eq_of_mul_eq_mul_left (show g≠0 by omega) (Crt.a1 (by rw [hA,hL] at e;exact e))
 rw [e1,e2]
 have L0:0<L:=by
  rcases (by omega:L<=0∨0<L) with z | z
  ·have:=Int.mul_nonpos_of_nonneg_of_nonpos (Int.le_of_lt g0) z
   omega
  ·exact z
 refine⟨L0,?_,by decide,Int.one_dvd _,Int.one_dvd _,λd h1 h2=>?_⟩
 ·rw [hL]
  have:=Int.mul_le_mul_of_nonneg_right (show 1<=g by omega) (Int.le_of_lt L0)
  omega
 ·rw [<- e4]
  exact Int.dvd_add (Int.dvd_mul_of_dvd_right h2) (Int.dvd_mul_of_dvd_right h1)
def ug (K:PySem.W.Frag):Sp:=λvs H Q _=>∃(v1 v2:V) (m n m' n':Int),vs=[v1,v2]/\dv K H (kB (m,n)) v1/\dv K H (kB (m',n')) v2/\0<m/\m<=10^20/\0<m'/\m'<=10^20/\∀ g H',Crt.G m m' g->aA H H'->Q (.bl (decide (¬g∣n-n'))) H'
theorem jf:aw ["one","other"] ["one","other"] (aj (top 65)):=cq
theorem xk (D:ar K mg "are_apart" (top 65)) (c_divisor:Callee P w K mg base aG 1 "divisor" ["a","b"] dY):Callee P w K mg base aG 2 "are_apart" ["one","other"] (ug K):=by
 refine cO D jf (λf cdv A outer s H vs Q E hr h=>?_)
 obtain⟨v1,v2,m,n,m',n',rfl,h1,h2,hm,hm1,hm',hm1',q⟩:=h
 obtain⟨q1,rfl,t1⟩:=kI h1
 obtain⟨q2,rfl,t2⟩:=kI h2
 have nd:=jf.nd
 refine⟨_,(ai (av (bA ic (ao aF (ao bI (aJ aS (pv 0) ah (λ_ _=>rfl)) (aJ aS (pv 1) ah (λ_ _=>rfl))) (aJ aS (aV c_divisor hr aB (aa (aJ aS (pv 0) ah (λ_ _=>rfl)) (aa (aJ aS (pv 1) ah (λ_ _=>rfl)) af))) ah (λ_ _=>rfl))) ah (ay _)))),?_⟩
 show fN _ _ [some (.ref q1),some (.ref q2)] H
 k_data
 refine bC t1 rfl (bC t2 rfl ⟨n,rfl,n',rfl,bC t1 rfl (bC t2 rfl ?_)⟩)
 refine⟨m,m',rfl,⟨by omega,by omega⟩,⟨by omega,by omega⟩,λg u v p H1 z s1 e1=>?_⟩
 have G:=DD hm z
 refine bC (bG.of e1) rfl ⟨g,rfl,G.pos,?_⟩
 rw [zX]
 exact q g H1 G s1
def yx (K:PySem.W.Frag):Sp:=λvs H Q _=>∃(v1 v2:V) (M N m n:Int),vs=[v1,v2]/\dv K H (kB (M,N)) v1/\dv K H (kB (m,n)) v2/\0<M/\M<=10^220/\0<=N/\N<M/\0<m/\m<=10^20 /\ -(10^80)<=n/\n<=10^80/\(∀ g,Crt.G M m g->g∣n-N) /\
 ∀ p W x H',Crt.BO M N m n W x->W<=M*m->aA H H'->H p=none->H' p=some (.tup [.int W,.int x])->Q (.ref p) H'
theorem fk:aw ["one","other","modulus","number","other_modulus","other_number","g","left","times","whole"] ["one","other"] (aj (top 66)):=cq
theorem z5 {C:Addr} (D:ar K mg "both_together" (top 66)) (c_divisor:Callee P w K mg base aG 1 "divisor" ["a","b"] dY) (c_inverse:Callee P w K mg base (dh P w) 3 "inverse" ["n","a"] (dZ C)):Callee P w K mg base aG 4 "both_together" ["one","other"] (yx K):=by
 refine cO D fk (λf cdv A outer s H vs Q E hr h=>?_)
 obtain⟨v1,v2,M,N,m,n,rfl,h1,h2,hM,hM1,hN,hN1,hm,hm1,hn,hn1,hd,q⟩:=h
 obtain⟨q1,rfl,t1⟩:=kI h1
 obtain⟨q2,rfl,t2⟩:=kI h2
 have nd:=fk.nd
 refine⟨_,(ae (cR (pv 0) (bT (n:=2) rfl (ax (aq (i:=2) nd rfl (Or.inl rfl) (.inr rfl)) (ax (aq (i:=3) nd rfl (Or.inl rfl) (.inr rfl)) aR)))) (ae (cR (pv 1) (bT (n:=2) rfl (ax (aq (i:=4) nd rfl (Or.inl rfl) (.inr rfl)) (ax (aq (i:=5) nd rfl (Or.inl rfl) (.inr rfl)) aR)))) (ae (bh (i:=6) nd (aJ aS (aV c_divisor hr aB (aa (pv 2) (aa (pv 4) af))) ah (λ_ _=>rfl))) (ae (bh (i:=7) nd (ao aZ (pv 4) (pv 6))) (ae (bh (i:=8) nd (ao aF (ao aH (ao aZ (ao bI (pv 5) (pv 3)) (pv 6)) (aV c_inverse hr aE (aa (pv 7) (aa (ao aZ (pv 2) (pv 6)) af)))) (pv 7))) (ae (bh (i:=9) nd (ao aH (pv 2) (pv 7))) (ai (av (aI (aa (pv 9) (aa (ao aF (ao bE (pv 3) (ao aH (pv 2) (pv 8))) (pv 9)) af))))))))))),?_⟩
 show aY _ _ _ [some (.ref q1),some (.ref q2),none,none,none,none,none,none,none,none] H
 k_data
 refine⟨q1,_,rfl,t1,rfl,?_⟩
 k_data
 refine⟨q2,_,rfl,t2,rfl,?_⟩
 k_data
 refine⟨M,m,rfl,⟨by omega,by omega⟩,⟨by omega,by omega⟩,λg u v p H1 z s1 e1=>?_⟩
 have G:=DD hM z
 have g0:=G.pos
 have gm:g<=m:=Int.le_of_dvd hm G.db
 refine bC (bG.of e1) rfl ?_
 k_data
 obtain⟨L0,L1,GD⟩:=DC hm G
 have qb:=Fq (a:=n-N) (d:=g) (L:=10^221) g0 (by omega) (by omega)
 have bg:Bd g:=Bd.of (by omega) (by omega)
 refine⟨g0,bg,g0,bg,g0,bg,m/g,M/g,rfl,L0,by omega,λg' G'=>⟨λ_ r H2 r0 r1 r2 s2=>?_,λz=>absurd z (by have:=GD.one G';omega)⟩⟩
 have B:=Crt.both (N:=N) (n:=n) (r:=r) hM hm G (hd g G) r2
 have W1:M*(m/g)<=M*m:=Int.mul_le_mul_of_nonneg_left L1 (Int.le_of_lt hM)
 have t0:=Int.emod_nonneg ((n-N)/g*r) (show m/g≠0 by omega)
 have t1':=Int.emod_lt_of_pos ((n-N)/g*r) L0
 refine⟨r,rfl,Bd.of (by omega) (by omega),Bd.of (by omega) (by omega),L0,Bd.of (by omega) (by omega),Bd.of (by omega) (by omega),Bd.of (by omega) (by omega),Bd.of (by omega) (by omega),B.pos,by show 2<=sizeLine;decide,λp3 hp3=>?_⟩
 exact q p3 _ _ _ B W1 ((s1.trans s2).Dm hp3) ((s1.trans s2).free hp3) ag
def Ap (pls:List (Int × Int)) (i j:Nat):Prop:=∃ p q g,pls[i]?=some p/\pls[j]?=some q/\Crt.G p.1 q.1 g/\¬g∣p.2-q.2
def Cy (p:Int × Int):Prop:=0<p.1/\p.1<=10^18 /\ -(10^80)<=p.2/\p.2<=10^80
def uh (K:PySem.W.Frag):Sp:=λvs H Q _=>∃(a:Addr) (us:List V) (pls:List (Int × Int)),vs=[.ref a]/\aO K H a us/\aQ K H (pls.map kB) us/\(∀ p∈pls,Cy p)/\pls.length<=20 /\
 (∀ i j p H',i<j->Ap pls i j->(∀ i' j',i'<j'->(i'<i∨(i'=i/\j'<j))->¬Ap pls i' j')->aA H H'->H p=none->H' p=some (.tup [.int (i:Nat),.int (j:Nat)])->Q (.ref p) H') /\
 (∀ H',(∀ i j,i<j->¬Ap pls i j)->aA H H'->Q .non H')
theorem gz:aw ["places","i","one","j","other"] ["places"] (aj (top 64)):=cq
theorem xr (D:ar K mg "first_apart" (top 64)) (c_are_apart:Callee P w K mg base aG 2 "are_apart" ["one","other"] (ug K)) (n_enumerate:mg "enumerate"=none):Callee P w K mg base aG 3 "first_apart" ["places"] (uh K):=by
 refine cO D gz (λf cdv A outer s H vs Q E hr h=>?_)
 obtain⟨a,us,pls,rfl,hS,hd,hok,hlen,q1,q2⟩:=h
 have nd:=gz.nd
 refine⟨_,(ae (cS PassesOwn.never rfl (tR rfl n_enumerate (aa (pv 0) af)) (bT (n:=2) rfl (ax (aq (i:=1) nd rfl (Or.inl rfl) (.inr rfl)) (ax (aq (i:=2) nd rfl (Or.inl rfl) (.inr rfl)) aR))) (ai (cS PassesOwn.never rfl (tR rfl n_enumerate (aa (pv 0) af)) (bT (n:=2) rfl (ax (aq (i:=3) nd rfl (Or.inl rfl) (.inr rfl)) (ax (aq (i:=4) nd rfl (Or.inl rfl) (.inr rfl)) aR))) (ai (aN (PW.pt (gj (az dJ (pv 1) (pv 3) (ay _)) (gS (aT (aV c_are_apart hr aB (aa (pv 2) (aa (pv 4) af))) (λ_=>rfl))))) (ai (av (aI (aa (pv 1) (aa (pv 3) af))))) aD))))) (ai (av fY))),?_⟩
 show aY _ _ _ [some (.ref a),none,none,none,none] H
 k_data
 have hul:us.length=pls.length:=by rw [hd.length,List.length_map]
 have at_:∀{k:Nat} {x:V},us[k]?=some x->∃ p,pls[k]?=some p/\Cy p/\dv K H (kB p) x:=by
  intro k x hx
  obtain⟨d,e,hv⟩:=hd.get hx
  rw [List.getElem?_map] at e
  obtain⟨p,e1,e2⟩:=Option.map_eq_some_iff.mp e
  subst e2
  exact⟨p,e1,hok p (List.mem_of_getElem? e1),hv⟩
 refine⟨⟨_,hS⟩,?_⟩
 refine mW (xs:=us) (λi σ' H'=>(∃ o1 o2 o3 o4:Option V,σ'=[some (.ref a),o1,o2,o3,o4])/\aA H H'/\∀ i' j',i'<j'->i'<i->¬Ap pls i' j') ⟨⟨_,_,_,_,rfl⟩,aA.refl _,λ_ _ _ z=>absurd z (by omega)⟩ (λi σ' H' _ h=>hS.same h.2.1) ?_ ?_
 ·rintro i x σ' H' p hx ⟨⟨o1,o2,o3,o4,rfl⟩,hs,hno⟩ hp
  have s1:=hs.trans (ak (o:=.tup [.int i,x]) hp)
  refine⟨p,_,rfl,bG.of ag,rfl,?_⟩
  generalize upd H' p _=H1 at *
  k_data
  refine⟨⟨_,hS.same s1⟩,?_⟩
  refine mW (xs:=us) (λj σ' H2=>(∃ o3 o4:Option V,σ'=[some (.ref a),some (.int (i:Int)),some x,o3,o4])/\aA H H2/\∀ j',j'<j->i<j'->¬Ap pls i j') ⟨⟨_,_,rfl⟩,s1,λ_ z=>absurd z (by omega)⟩ (λj σ' H2 _ h=>hS.same h.2.1) ?_ ?_
  ·rintro j y σ' H2 p2 hy ⟨⟨o3,o4,rfl⟩,hs2,hno2⟩ hp2
   have s3:=hs2.trans (ak (o:=.tup [.int j,y]) hp2)
   refine⟨p2,_,rfl,bG.of ag,rfl,?_⟩
   generalize upd H2 p2 _=H3 at *
   k_data
   refine aK (λc=>?_) (λc=>?_)
   ·obtain⟨pi,ei,oi,di⟩:=at_ hx
    obtain⟨pj,ej,oj,dj⟩:=at_ hy
    refine⟨x,y,pi.1,pi.2,pj.1,pj.2,rfl,dv.same s3 _ di,dv.same s3 _ dj,oi.1,Int.le_trans oi.2.1 (by decide),oj.1,Int.le_trans oj.2.1 (by decide),λg H4 G s4=>⟨_,aM.mpr rfl,?_⟩⟩
    by_cases dvd:g∣pi.2-pj.2
    ·rw [if_neg (by simp [dvd])]
     refine⟨s3.trans s4,λj' z1 z2=>?_⟩
     rcases (by omega:j'<j∨j'=j) with z | z
     ·exact hno2 j' z z2
     ·subst z
      rintro⟨p',q',g',e1,e2,e3,e4⟩
      rw [ei] at e1;cases e1
      rw [ej] at e2;cases e2
      obtain rfl:=G.one e3
      exact e4 dvd
    ·rw [if_pos (by simp [dvd])]
     refine⟨by show 2<=sizeLine;decide,λp3 hp3=>?_⟩
     refine q1 i j p3 _ (by omega) ⟨pi,pj,g,ei,ej,G,dvd⟩ (λi' j' z1 z2=>?_) ((s3.trans s4).Dm hp3) ((s3.trans s4).free hp3) ag
     rcases z2 with z2 | ⟨z2,z3⟩
     ·exact hno i' j' z1 z2
     ·subst z2
      exact hno2 j' z3 z1
   ·refine⟨s3,λj' z1 z2=>?_⟩
    rcases (by omega:j'<j∨j'=j) with z | z
    ·exact hno2 j' z z2
    ·omega
  ·rintro σ' H2 ⟨⟨o3,o4,rfl⟩,hs2,hno2⟩
   refine⟨⟨_,_,_,_,rfl⟩,hs2,λi' j' z1 z2=>?_⟩
   rcases (by omega:i'<i∨i'=i) with z | z
   ·exact hno i' j' z1 z
   ·subst z
    by_cases z3:j'<us.length
    ·exact hno2 j' z3 z1
    ·rintro⟨p',q',g',e1,e2,e3,e4⟩
     have:=(List.getElem?_eq_some_iff.mp e2).1
     omega
 ·rintro σ' H' ⟨⟨o1,o2,o3,o4,rfl⟩,hs,hno⟩
  k_data
  refine q2 H' (λi j z=>?_) hs
  by_cases z3:i<us.length
  ·exact hno i j z z3
  ·rintro⟨p',q',g',e1,e2,e3,e4⟩
   have:=(List.getElem?_eq_some_iff.mp e1).1
   omega
def BB (K:PySem.W.Frag):Sp:=λvs H Q _=>∃(a:Addr) (us:List V) (pls:List (Int × Int)),vs=[.ref a]/\aO K H a us/\aQ K H (pls.map kB) us/\(∀ p∈pls,Cy p)/\pls.length<=12 /\
 (∀ i j p H',i<j->Ap pls i j->(∀ i' j',i'<j'->(i'<i∨(i'=i/\j'<j))->¬Ap pls i' j')->aA H H'->H p=none->H' p=some (.tup [.str "apart",.int (i:Nat),.int (j:Nat)])->Q (.ref p) H') /\
 (∀ W x p H',(∀ i j,i<j->¬Ap pls i j)->Crt.Told pls W x->W<=10^220->aA H H'->H p=none->H' p=some (.tup [.int W,.int x])->Q (.ref p) H')
theorem fI:aw ["places","apart","told","place"] ["places"] (aj (top 63)):=cq
theorem CD (D:ar K mg "put_together" (top 63)) (c_first_apart:Callee P w K mg base aG 3 "first_apart" ["places"] (uh K)) (c_both_together:Callee P w K mg base aG 4 "both_together" ["one","other"] (yx K)):Callee P w K mg base aG 5 "put_together" ["places"] (BB K):=by
 refine cO D fI (λf cdv A outer s H vs Q E hr h=>?_)
 obtain⟨a,us,pls,rfl,hS,hd,hok,hlen,q1,q2⟩:=h
 have nd:=fI.nd
 refine⟨_,(ae (bh (i:=1) nd (aV c_first_apart hr aB (aa (pv 0) af))) (ae (aN (az oq (pv 1) fY (ay _)) (ai (av (aI (aa bL (aa (aJ aS (pv 1) ah (λ_ _=>rfl)) (aa (aJ aS (pv 1) ah (λ_ _=>rfl)) af)))))) aD) (ae (bh (i:=2) nd (aI (aa ah (aa ah af)))) (ae (cS PassesOwn.never rfl (bF (pv 0)) (aq (i:=3) nd rfl (Or.inl rfl) (.inr rfl)) (ai (bh (i:=2) nd (aV c_both_together hr aB (aa (pv 2) (aa (pv 3) af)))))) (ai (av (pv 2))))))),?_⟩
 show aY _ _ _ [some (.ref a),none,none,none] H
 k_data
 have hul:us.length=pls.length:=by rw [hd.length,List.length_map]
 refine⟨a,us,pls,rfl,hS,hd,hok,by omega,λi j p H1 ij ap no s1 f1 e1=>?_,λH1 no s1=>?_⟩
 ·show ite _ _ _
  rw [if_pos (by intro z;cases z)]
  refine bC (bG.of e1) rfl (bC (bG.of e1) rfl ⟨by show 3<=sizeLine;decide,λp2 hp2=>?_⟩)
  exact q1 i j p2 _ ij ap no (s1.Dm hp2) (s1.free hp2) ag
 show ite _ _ _
 rw [if_neg (by simp)]
 refine⟨by show 2<=sizeLine;decide,λp hp=>?_⟩
 have s2:=s1.trans (ak (o:=.tup [V.int 1,V.int 0]) hp)
 refine⟨⟨_,hS.same s2⟩,?_⟩
 have pw:∀ i:Nat,i<=12->(10:Int)^(18*i)<=10^216:=by decide
 refine dW (xs:=us) (λi σ' H'=>∃(r:Addr) (M N:Int) (o3:Option V),σ'=[some (.ref a),some .non,some (.ref r),o3]/\aA H H'/\H r=none/\H' r=some (.tup [.int M,.int N])/\Crt.Told (pls.take i) M N/\M<=10^(18*i))
  ⟨p,1,0,none,rfl,s2,s1.free hp,ag,by rw [List.take_zero];exact .nil,by decide⟩ (λi σ' H' _ h=>by obtain⟨_,_,_,_,_,s,_⟩:=h;exact hS.same s) ?_ ?_
 ·rintro i x σ' H' hx ⟨r,M,N,o3,rfl,hs,hr',er,T,hM⟩
  obtain⟨d,ed,hv⟩:=hd.get hx
  rw [List.getElem?_map] at ed
  obtain⟨pl,e1,e2⟩:=Option.map_eq_some_iff.mp ed
  subst e2
  have ok:=hok pl (List.mem_of_getElem? e1)
  have il:i<pls.length:=(List.getElem?_eq_some_iff.mp e1).1
  have p1:=pw i (by omega)
  have p2:(10:Int)^(18*(i+1))=10^(18*i)*10^18:=by rw [Nat.mul_add,Pw.pow_add]
  have o2:=ok.2.1
  have o3':=ok.2.2
  k_data
  refine⟨.ref r,x,M,N,pl.1,pl.2,rfl,dv.tup (ds:=[.int M,.int N]) er ⟨_,_,rfl,rfl,.one rfl⟩,dv.same hs _ hv,T.pos,by omega,T.x0,T.x1,ok.1,by omega,o3'.1,o3'.2,λg G=>?_,λp3 W y H3 B hW s3 f3 e3=>?_⟩
  ·have fit:∀ p'∈pls.take i,∀ d,Crt.G p'.1 pl.1 d->d∣p'.2-pl.2:=by
    intro p' hp' d hd'
    obtain⟨i',e'⟩:=List.mem_iff_getElem?.mp hp'
    have hi':=(List.getElem?_eq_some_iff.mp e').1
    rw [List.length_take] at hi'
    rw [List.getElem?_take_of_lt (by omega)] at e'
    have na:=no i' i (by omega)
    by_cases z:d∣p'.2-pl.2
    ·exact z
    ·exact absurd ⟨p',pl,d,e',e1,hd',z⟩ na
   exact T.fits G fit λp' hp'=>Crt.A1 (hok p' (List.mem_of_mem_take hp')).1 ok.1
  ·have tk:pls.take (i+1)=pls.take i++[pl]:=by rw [List.take_add_one,e1];rfl
   refine⟨p3,rfl,hs.trans s3,hs.free f3,W,y,e3,?_,?_⟩
   ·rw [tk];exact T.step B
   ·rw [p2]
    exact Int.le_trans hW (Int.mul_le_mul hM o2 (Int.le_of_lt ok.1) (by have:=T.pos;omega))
 ·rintro σ' H' ⟨r,M,N,o3,rfl,hs,hr',er,T,hM⟩
  k_data
  rw [hul,List.take_length] at T
  rw [hul] at hM
  have p1:=pw pls.length hlen
  exact q2 M N r H' no T (by omega) hs hr' er
end
end K
namespace K
open PySem PySem.Spec PyProof.Rows L2
section
variable {P:Program} {w:World} {K:PySem.W.Frag} {mg:Str->Option Value} {base:Heap} {C:Addr}
theorem uZ {H:Hp} {a:Addr} {kvs:List (Key × V)} {Q:VK} (h:H a=some (.dK kvs)) (q:Q (.int kvs.length) H):ym [.ref a] H Q:=⟨a,_,rfl,.inr ⟨_,h,rfl⟩,q⟩
theorem Fj {H:Hp} {a:Addr} {kvs:List (List Key × V)} {Q:VK} (h:H a=some (.dT kvs)) (q:Q (.int kvs.length) H):ym [.ref a] H Q:=⟨a,_,rfl,.inl ⟨_,h,rfl⟩,q⟩
def uv:Sp:=λvs H Q _=>∃ p q w:Int,vs=[.int p,.int q,.int w]/\2<=p/\p<=10^60/\1<=q/\q<=10^6/\0<=w/\w<p/\Num.Ord p w q.toNat/\∀ t H',aA H H'->H t=none->H' t=some (.dK (dI p w (rt q.toNat)))->Q (.ref t) H'
theorem gF:aw ["p","q","w","table","rest"] ["p","q","w"] (aj (top 61)):=cq
theorem xN (D:ar K mg "small_steps" (top 61)) (n_len:mg "len"=none):Callee P w K mg base aG 1 "small_steps" ["p","q","w"] uv:=by
 refine cO D gF (λf cdv A outer s H vs Q E hr h=>?_)
 obtain⟨p,q',w',rfl,p2,p9,q1,q6,w0,w1,o,q⟩:=h
 have nd:=gF.nd
 refine⟨_,(ae (bh (i:=3) nd xX) (ae (bh (i:=4) nd ah) (ae (bj PassesOwn.never (az dJ (ao aH (aC dt rfl n_len PySem.boot_len (aa (pv 3) af)) (aC dt rfl n_len PySem.boot_len (aa (pv 3) af))) (pv 1) (ay _)) (ae (i8 (d7 hr) (pv 3) (pv 4) (aC dt rfl n_len PySem.boot_len (aa (pv 3) af)) rfl) (ai (bh (i:=4) nd (ao aF (ao aH (pv 4) (pv 2)) (pv 0)))))) (ai (av (pv 3)))))),?_⟩
 show aY _ _ _ [some (.int p),some (.int q'),some (.int w'),none,none] H
 k_data
 intro t ht
 refine bo (α:=Nat) (λi=>[some (.int p),some (.int q'),some (.int w'),some (.ref t),some (.int (w'^i%p))]) (λi H1=>H1=upd H t (.dK (dI p w' i))/\∀ j,j<i->j*j<q'.toNat) (λi=>q'.toNat+1-i) 0 ?_ ⟨rfl,λj z=>absurd z (Nat.not_lt_zero _)⟩ ?_
 ·rw [Int.pow_zero,Int.emod_eq_of_lt (by decide) (by omega)]
 rintro i H1 ⟨rfl,hi⟩
 have e1:upd H t (.dK (dI p w' i)) t=some (.dK (dI p w' i)):=ag
 k_data
 refine uZ e1 (uZ e1 ⟨_,rfl,_,rfl,?_⟩)
 rw [fH]
 have q0:0<q'.toNat:=by omega
 have ii:i<=1001:=by
  rcases Nat.lt_or_ge 1001 i with z | z
  ·have:=hi 1001 z;omega
  ·exact z
 refine⟨Bd.of (by omega) (by omega),Bd.of (by omega) (by omega),aK (λc=>?_) (λc=>?_)⟩
 ·have c':i*i<q'.toNat:=by
   have:((i*i:Nat):Int)<q':=by rw [Int.natCast_mul];exact c
   omega
  have iq:i<q'.toNat:=by
   rcases Nat.eq_zero_or_pos i with z | z
   ·omega
   ·have:=Nat.le_mul_of_pos_left i z;omega
  have r0:=Int.emod_nonneg (w'^i) (show p≠0 by omega)
  have r1:=Int.emod_lt_of_pos (w'^i) (show 0<p by omega)
  have hv:cu (dI p w' i) (Sum.inl (w'^i%p))=none:=jt λj hj e=>by
   have:=o.lO (by omega) iq e
   omega
  refine⟨_,λ_ _ z=>z,uZ e1 ⟨_,l5.k (k:=Sum.inl (w'^i%p)) e1 (by rw [fH];exact Nat.lt_of_le_of_lt ii (by decide)),Bd.of (by omega) (by omega),Bd.of (by omega) (by omega),by omega,i+1,?_,?_,λj hj=>?_,by omega⟩⟩
  ·rw [Int.pow_succ,Int.mul_emod,Int.emod_emod,<- Int.mul_emod]
  ·rw [qJ _ hv,uC,fH,ju]
  ·rcases (by omega:j<i∨j=i) with z | z
   ·exact hi j z
   ·rw [z];exact c'
 ·have e:rt q'.toNat=i:=Ei (by
   have:q'<=((i*i:Nat):Int):=by rw [Int.natCast_mul];omega
   omega) hi
  exact q t _ (ak ht) ht (by rw [e];exact e1)
def uj (C:Addr):Sp:=λvs H Q _=>∃(x dx:Addr) (m:Int),vs=[.ref x,.int m]/\H x=some (.ins C dx [])/\0<=m/\m<=10^6/\∀ d H',(∀ b o,b≠x->H b=some o->H' b=some o)->d≠x->H d=none->bZ C ⟨x,dx,d,m,0,[]⟩ H'->Q .non H'
theorem fg:aw ["self","most"] ["self","most"] (aj (inClass (top 60) 0)):=cq
theorem xy (D:BV K C "__init__" "Kept.__init__" (inClass (top 60) 0)) (cl:mB K C) (na_most:cP K C "most") (na_counted:cP K C "counted") (na_laid:cP K C "laid"):cE P w K mg base aG 1 C "__init__" ["self","most"] (uj C):=by
 refine fB D (λ_ _ _ _ _ _ us hl=>by obtain⟨_,_,rfl⟩:=tI hl;exact rfl) fg (λvs H Q E h=>by obtain⟨a,b,c,rfl,_⟩:=h;rfl) (λf cdv A outer s H vs Q E hr h=>?_)
 obtain⟨x,dx,m,rfl,hx,m0,m1,q⟩:=h
 have nd:=fg.nd
 refine⟨_,(ae (sG (pv 0) (pv 1) rfl) (ae (sG (pv 0) ah rfl) (ai (sG (pv 0) xY rfl)))),?_⟩
 show aY _ _ _ [some (.ref x),some (.int m)] H
 k_data
 refine⟨C,dx,[],hx,cl,na_most,by decide,C,dx,_,ag,cl,na_counted,by show 1<1000;decide,λd hd=>?_⟩
 have nx:d≠x:=λz=>by rw [z,ag] at hd;cases hd
 refine⟨C,dx,_,by rw [au (Ne.symm nx),ag],cl,na_laid,by show 2<1000;decide,q d _ (λb o hb e=>?_) nx (by rw [au nx,au nx] at hd;exact hd) ⟨ag,⟨[],?_,rfl,List.nodup_nil,λy v e=>by cases e⟩,m0,m1⟩⟩
 ·rw [au hb,au (λz=>by rw [z] at hb e;rw [au hb,au hb,e] at hd;cases hd),au hb,au hb]
  exact e
 ·rw [au nx,ag]
def yw (C:Addr):Sp:=λvs H Q _=>∃(k:KH) (n:Int),vs=[.ref k.a,.int n]/\bZ C k H/\∀ H',(∀ b,b≠k.a->H' b=H b)->bZ C (iP k n) H'->Q .non H'
theorem eQ:aw ["self","many"] ["self","many"] (aj (inClass (top 60) 4)):=cq
theorem Aa (D:BV K C "add_steps" "Kept.add_steps" (inClass (top 60) 4)) (cl:mB K C) (na_counted:cP K C "counted"):cE P w K mg base aG 1 C "add_steps" ["self","many"] (yw C):=by
 refine fB D (λ_ _ _ _ _ _ us hl=>by obtain⟨_,_,rfl⟩:=tI hl;exact rfl) eQ (λvs H Q E h=>by obtain⟨a,b,rfl,_⟩:=h;rfl) (λf cdv A outer s H vs Q E hr h=>?_)
 obtain⟨k,n,rfl,kp,q⟩:=h
 have nd:=eQ.nd
 refine⟨_,(ai (vI (pv 0) (pv 1) Ce)),?_⟩
 show oF _ _ _ _ _ _ [some (.ref k.a),some (.int n)] H
 k_data
 refine⟨C,k.dx,Ci k,kp.ins,cl,na_counted,_,rfl,k.c,n,rfl,rfl,k.dx,Ci k,kp.ins,by show 3<1000;decide,q _ (λb hb=>au hb) (kp.Fe rfl)⟩
def Bs (H:Hp) (ks:List (Int × Int × Int)) (bs:List Addr):Prop:=bs.length=ks.length/\∀(i:Nat) b,bs[i]?=some b->∃ y,ks[i]?=some y/\H b=some (.tup ((k3 y).map kV))
def rg (C:Addr):Sp:=λvs H Q _=>∃(k:KH),vs=[.ref k.a]/\bZ C k H/\∀ p bs H',H p=none->aA H H'->H' p=some (.lst (bs.map V.ref))->Bs H k.ks bs->Q (.ref p) H'
theorem gv:aw ["self"] ["self"] (aj (inClass (top 60) 2)):=cq
theorem sj (D:BV K C "tables" "Kept.tables" (inClass (top 60) 2)) (cl:mB K C) (na_laid:cP K C "laid") (n_list:mg "list"=none):cE P w K mg base aG 1 C "tables" ["self"] (rg C):=by
 refine fB D (λ_ _ _ _ _ _ us hl=>by obtain⟨_,rfl⟩:=wX hl;exact rfl) gv (λvs H Q E h=>by obtain⟨a,rfl,_⟩:=h;rfl) (λf cdv A outer s H vs Q E hr h=>?_)
 obtain⟨k,rfl,kp,q⟩:=h
 have nd:=gv.nd
 refine⟨_,(ai (av (cF (rJ rfl) rfl n_list L2.boot_list (aa (iF (pv 0) rfl) af)))),?_⟩
 show fN _ _ [some (.ref k.a)] H
 k_data
 obtain⟨kvs,kd⟩:=kp.ex
 refine⟨C,_,_,kp.ins,cl,na_laid,_,rfl,k.d,kvs,rfl,kd.dict,λp bs hl hb hp=>?_⟩
 refine q p bs _ hp (ak hp) ag ⟨hl.trans kd.len,λi b e=>?_⟩
 obtain⟨ky,v,e1,e2⟩:=hb i b e
 have e3:(k.ks.map k3)[i]?=some ky:=by rw [<- kd.keys,List.getElem?_map,e1];rfl
 rw [List.getElem?_map] at e3
 obtain⟨y,e4,rfl⟩:=Option.map_eq_some_iff.mp e3
 exact⟨y,e4,e2⟩
def yH (C:Addr):Sp:=λvs H Q _=>∃(k:KH) (p q w:Int),vs=[.ref k.a,.int p,.int q,.int w]/\bZ C k H/\sR k/\2<=p/\p<=10^60/\1<=q/\q<=10^6/\0<=w/\w<p/\Num.Ord p w q.toNat/\∀ t H',bZ C (jQ k (p,q,w)) H'->dR k.a k.d H H'->H' t=some (.dK (dI p w (rt q.toNat)))->Q (.ref t) H'
theorem eC:aw ["self","p","q","w","key","table"] ["self","p","q","w"] (aj (inClass (top 60) 3)):=cq
theorem xA (D:BV K C "used_table" "Kept.used_table" (inClass (top 60) 3)) (cl_Kept:mB K C) (na_laid:cP K C "laid") (na_most:cP K C "most") (n_len:mg "len"=none) (c_small_steps:Callee P w K mg base aG 1 "small_steps" ["p","q","w"] uv)
  (c_Kept_add_steps:cE P w K mg base aG 1 C "add_steps" ["self","many"] (yw C)) (c_Kept_tables:cE P w K mg base aG 1 C "tables" ["self"] (rg C)):cE P w K mg base aG 2 C "used_table" ["self","p","q","w"] (yH C):=by
 refine fB D (λ_ _ _ _ _ _ us hl=>by obtain⟨_,_,_,_,rfl⟩:=wY hl;exact rfl) eC (λvs H Q E h=>by obtain⟨a,b,c,d,rfl,_⟩:=h;rfl) (λf cdv A outer s H vs Q E hr h=>?_)
 obtain⟨k,p,q',w',rfl,kp,le,p2,p9,q1,q6,w0,w1,o,q⟩:=h
 have nd:=eC.nd
 refine⟨_,(ae (bh (i:=4) nd (aI (aa (pv 1) (aa (pv 2) (aa (pv 3) af))))) (ae (iG (aN (yh (CQ (d7 hr) (pv 4) (iF (pv 0) rfl))) (ai (bh (i:=5) nd (qH (d7 hr) (iF (pv 0) rfl) (pv 4) ⟨rfl,rfl,rfl,rfl⟩))) (ae (bh (i:=5) nd (aV c_small_steps hr aB (aa (pv 1) (aa (pv 2) (aa (pv 3) af))))) (ai (eK (lG c_Kept_add_steps cl_Kept (hr.mono (by decide)) aB (pv 0) (aa (aC dt rfl n_len PySem.boot_len (aa (pv 5) af)) af))))))) (ae (i8 (d7 hr) (iF (pv 0) rfl) (pv 4) (pv 5) rfl) (ae (iG (aN (az cJ (aC dt rfl n_len PySem.boot_len (aa (iF (pv 0) rfl) af)) (iF (pv 0) rfl) (ay _)) (ai (eK (qH (d7 hr) (iF (pv 0) rfl) (aJ fA (vC c_Kept_tables cl_Kept (hr.mono (by decide)) aB (pv 0)) ah (λ_ _=>rfl)) ⟨rfl,rfl,rfl,rfl⟩))) aD)) (ai (av (pv 5))))))),?_⟩
 show aY _ _ _ [some (.ref k.a),some (.int p),some (.int q'),some (.int w'),none,none] H
 k_data
 refine⟨by show 3<=sizeLine;decide,λp1 hp1=>?_⟩
 have s1:=ak (o:=.tup [V.int p,V.int q',V.int w']) hp1
 have e1:upd H p1 (.tup [V.int p,V.int q',V.int w']) p1=some (.tup ((k3 (p,q',w')).map kV)):=ag
 have kp1:=kp.same s1
 generalize upd H p1 _=H1 at *
 obtain⟨kvs,kd⟩:=kp1.ex
 generalize hx:((p,q',w'):Int × Int × Int)=x at *
 refine⟨λσ' H'=>∃(t:Addr) (c':Int),σ'=[some (.ref k.a),some (.int p),some (.int q'),some (.int w'),some (.ref p1),some (.ref t)]/\c'=(jQ k x).c/\H' k.a=some (.ins C k.dx (Ci { k with c:=c' }))/\H' k.d=some (.dT (bS kvs (k3 x)))/\H' t=some (.dK (dI p w' (rt q'.toNat)))/\dR k.a k.d H1 H',?_,?_⟩
 ·k_data
  refine⟨C,_,_,kp1.ins,cl_Kept,na_laid,_,rfl,k.d,rfl,_,fb.t kd.dict e1,?_⟩
  refine aK (λc=>?_) (λc=>?_)
  ·have mem:x∈k.ks:=kd.mem.mp c
   have ec:(jQ k x).c=k.c:=if_pos mem
   obtain⟨v,hv⟩:=Option.isSome_iff_exists.mp c
   obtain⟨t,rfl,ht⟩:=kd.tab x v hv
   subst hx
   rw [ec]
   exact⟨C,_,_,kp1.ins,cl_Kept,na_laid,_,rfl,k.d,rfl,.inr ⟨_,.inl kd.dict⟩,kvs,kd.dict,_,e1,_,hv,t,rfl,by rw [au kp1.ne];exact kp1.ins,ag,by rw [au (kp1.apart ht (by intro _ _ _ z;cases z) (by intro _ z;cases z)).2];exact ht,dR.EK⟩
  ·have mem:x∉k.ks:=λz=>c (kd.mem.mpr z)
   have hv:cu kvs (k3 x)=none:=by
    cases e:cu kvs (k3 x) with
    | none=>rfl
    | some v=>rw [e] at c;exact absurd rfl c
   refine⟨p,q',w',rfl,p2,p9,q1,q6,w0,w1,o,λt H2 s2 ft ht=>⟨k.dx,Ci k,(kp1.same s2).ins,rfl,uZ ht ⟨k,_,rfl,kp1.same s2,λH3 oth kp3=>⟨t,rfl,?_,?_,?_,λb u ba bd e=>?_⟩⟩⟩⟩
   ·have ec:(jQ k x).c=k.c+((dI p w' (rt q'.toNat)).length:Int):=by rw [fH,<- hx];rw [<- hx] at mem;exact if_neg mem
    rw [ec]
    exact kp3.ins
   ·rw [oth _ (Ne.symm kp1.ne),uO hv]
    exact s2 _ _ kd.dict
   ·rw [oth _ (λz=>by rw [z,(kp1.same s2).ins] at ht;cases ht)]
    exact ht
   ·rw [oth _ ba]
    exact s2 _ _ e
 ·rintro σ' H2 ⟨t,c',rfl,ec,ia,hd,ht,b2⟩
  k_data
  have ap1:=kp1.apart e1 (by intro _ _ _ z;cases z) (by intro _ z;cases z)
  have kl:kvs.length<=10^6:=by
   have h1:=kd.len
   have h2:(k.ks.length:Int)<=k.most:=le
   have h3:=kp.m1
   omega
  have tne:t≠k.d:=h8 ht hd (by intro z;cases z)
  refine⟨C,_,_,ia,cl_Kept,na_laid,_,rfl,k.d,rfl,_,l5.t hd (b2 _ _ ap1.1 ap1.2 e1) ?_,?_⟩
  ·have:=pR kvs (k3 x)
   exact Nat.lt_of_le_of_lt (Nat.le_trans this kl) (by decide)
  rw [qJ _ (by rw [jv,if_pos rfl])]
  have nad:k.a≠k.d:=kp1.ne
  have b4:dR k.a k.d H1 (upd H2 k.d (.dT (bS kvs (k3 x)++[(k3 x,.ref t)]))):=b2.trans dR.EK
  have a4:upd H2 k.d (.dT (bS kvs (k3 x)++[(k3 x,.ref t)])) k.a=some (.ins C k.dx (Ci { k with c:=c' })):=by rw [au nad];exact ia
  have t4:upd H2 k.d (.dT (bS kvs (k3 x)++[(k3 x,.ref t)])) t=some (.dK (dI p w' (rt q'.toNat))):=by rw [au tne];exact ht
  have d4:upd H2 k.d (.dT (bS kvs (k3 x)++[(k3 x,.ref t)])) k.d=some (.dT (bS kvs (k3 x)++[(k3 x,.ref t)])):=ag
  generalize upd H2 k.d _=H4 at *
  have kd4:=kd.use (H':=H4) (x:=x) (t:=t) (λy v ⟨t',e,z⟩=>⟨t',e,kp1.keep b4 z⟩) ⟨t,rfl,by rw [<- hx];exact t4⟩ d4
  have kp4:bZ C { k with c:=c',ks:=cK k.ks x } H4:=⟨a4,⟨_,kd4.dict,kd4.keys,kd4.nd,kd4.tab⟩,kp.m0,kp.m1⟩
  have l4:=kd4.len
  refine⟨λσ' H'=>σ'=[some (.ref k.a),some (.int p),some (.int q'),some (.int w'),some (.ref p1),some (.ref t)]/\bZ C (jQ k x) H'/\dR k.a k.d H1 H'/\H' t=some (.dK (dI p w' (rt q'.toNat))),?_,?_⟩
  ·k_data
   refine⟨C,_,_,a4,cl_Kept,na_laid,_,rfl,Fj d4 ⟨C,_,_,a4,cl_Kept,na_most,_,rfl,_,rfl,k.most,rfl,aK (λc=>?_) (λc=>?_)⟩⟩
   ·have c2:k.most<((cK k.ks x).length:Int):=by rw [<- show (bS kvs (k3 x)++[(k3 x,V.ref t)]).length=(cK k.ks x).length from l4];exact c
    generalize bS kvs (k3 x)++[(k3 x,V.ref t)]=kvs4 at *
    obtain⟨q0,v0,r,rfl⟩:∃ q0 v0 r,kvs4=(q0,v0)::r:=by
     cases kvs4 with
     | nil=>have:=kp.m0;simp at c;omega
     | cons y r=>exact⟨y.1,y.2,r,rfl⟩
    refine⟨C,_,_,a4,cl_Kept,na_laid,_,rfl,k.d,rfl,.inr ⟨_,.inl d4⟩,k.dx,_,a4,rfl,{ k with c:=c',ks:=cK k.ks x },rfl,kp4,λpl bs H5 fpl s5 e5 hb=>?_⟩
    obtain⟨b0,bs',rfl⟩:∃ b0 bs',bs=b0::bs':=by
     cases bs with
     | nil=>have h1:=hb.1;have h2:(0:Nat)=(cK k.ks x).length:=h1;have:=kp.m0;omega
     | cons y r=>exact⟨y,r,rfl⟩
    obtain⟨y,hy,hb0⟩:=hb.2 0 b0 rfl
    have ey:q0=k3 y:=by
     have h1:(((q0,v0)::r).map (·.1))[0]?=((cK k.ks x).map k3)[0]?:=congrArg (·[0]?) kd4.keys
     rw [List.getElem?_map (l:=cK k.ks x),show (cK k.ks x)[0]?=some y from hy] at h1
     exact Option.some.inj h1
    refine⟨pl,_,0,_,rfl,rfl,aO.of e5,iQ,_,s5 _ _ d4,_,b0,rfl,by rw [ey];exact s5 _ _ hb0,_,cD rfl,?_⟩
    rw [drop_tail kd4.nodup]
    have hk:∀ b u,b≠k.d->H4 b=some u->upd H5 k.d (.dT r) b=some u:=λb u n e=>by rw [au n];exact s5 _ _ e
    have cut:=kd4.cut hk ag
    have ek:jQ k x={ k with c:=c',ks:=(cK k.ks x).tail }:=by
     rw [ec]
     unfold jQ pO
     rw [if_pos c2]
    rw [ek]
    exact⟨⟨hk _ _ nad a4,⟨_,cut.dict,cut.keys,cut.nd,cut.tab⟩,kp.m0,kp.m1⟩,b4.trans λb u ba bd e=>hk b u bd e,hk _ _ tne t4⟩
   ·have c2:¬k.most<((cK k.ks x).length:Int):=by rw [<- show (bS kvs (k3 x)++[(k3 x,V.ref t)]).length=(cK k.ks x).length from l4];exact c
    have ek:jQ k x={ k with c:=c',ks:=cK k.ks x }:=by
     rw [ec]
     unfold jQ pO
     rw [if_neg c2]
    rw [ek]
    exact⟨kp4,b4,t4⟩
  ·rintro σ' H5 ⟨rfl,kp5,b5,t5⟩
   k_data
   exact q t H5 kp5 ((dR.of s1).trans b5) t5
theorem wt {d m i:Nat} (m0:0<m) (h:i*m<=d) (h1:d-i*m<m):i=d/m/\d-i*m=d%m:=by
 have e:=Nat.div_add_mod d m
 have hd:d/m=i:=by
  rw [Nat.div_eq_iff m0]
  constructor
  ·exact h
  ·omega
 refine⟨hd.symm,?_⟩
 rw [hd,Nat.mul_comm] at e
 omega
def nF:Sp:=λvs H Q _=>∃(p back c w:Int) (t:Addr) (q d:Nat),vs=[.int p,.ref t,.int back,.int c]/\2<=p/\p<=10^60/\Num.Ord p w q/\q<=10^6/\H t=some (.dK (dI p w (rt q)))/\0<=back/\back<p/\Num.Al p (back*w^rt q) 1/\d<q/\c=w^d%p/\∀ r H',aA H H'->H r=none->H' r=some (.tup [.int (d/rt q:Nat),.int (d%rt q:Nat)])->Q (.ref r) H'
theorem kj:aw ["p","table","back","c","i","rest"] ["p","table","back","c"] (aj (top 73)):=cq
theorem su (D:ar K mg "steps_to" (top 73)):Callee P w K mg base aG 1 "steps_to" ["p","table","back","c"] nF:=by
 refine cO D kj (λf cdv A outer s H vs Q E hr h=>?_)
 obtain⟨p,back,c,w',t,q',d,rfl,p2,p9,o,q6,ht,b0,b1,hb,dq,rfl,q⟩:=h
 have nd:=kj.nd
 refine⟨_,(ae (bh (i:=4) nd ah) (ae (bh (i:=5) nd (pv 3)) (ae (bj PassesOwn.never (yh (vB (d7 hr) (pv 5) (pv 1))) (ae (bh (i:=5) nd (ao aF (ao aH (pv 5) (pv 2)) (pv 0))) (ai (c6 (i:=4) nd rfl (Or.inl rfl) ah (eJ gN))))) (ai (av (aI (aa (pv 4) (aa (gP (d7 hr) (pv 1) (pv 5) (λ_ _=>rfl)) af)))))))),?_⟩
 show aY _ _ _ [some (.int p),some (.ref t),some (.int back),some (.int (w'^d%p)),none,none] H
 k_data
 have m0:=yr o.pos
 have mq:=Bw o.pos
 generalize hm:rt q'=m at *
 refine bo (α:=Nat) (λi=>[some (.int p),some (.ref t),some (.int back),some (.int (w'^d%p)),some (.int (i:Int)),some (.int (w'^(d-i*m)%p))]) (λi H1=>H1=H/\i*m<=d) (λi=>d+1-i) 0 (by rw [Nat.zero_mul,Nat.sub_zero];rfl) ⟨rfl,by rw [Nat.zero_mul];exact Nat.zero_le _⟩ ?_
 rintro i H1 ⟨rfl,hi⟩
 replace hi:i*m<=d:=hi
 have r0:=Int.emod_nonneg (w'^(d-i*m)) (show p≠0 by omega)
 have r1:=Int.emod_lt_of_pos (w'^(d-i*m)) (show 0<p by omega)
 k_data
 by_cases lt:d-i*m<m
 ·have hv:cu (dI p w' m) (Sum.inl (w'^(d-i*m)%p))=some (.int ((d-i*m:Nat):Int)):=yU (λi j hi hj e=>o.lO (by omega) (by omega) e) _ lt
  have dg:=fb.k (k:=Sum.inl (w'^(d-i*m)%p)) ht
  rw [hv] at dg
  obtain⟨e1,e2⟩:=wt m0 hi lt
  refine⟨_,dg,?_⟩
  rw [if_neg (by simp)]
  refine⟨_,dg,⟨by show 2<=sizeLine;decide,λr hr'=>q r _ (ak hr') hr' ?_⟩⟩
  rw [<- e1,<- e2]
  exact ag
 ·have hv:cu (dI p w' m) (Sum.inl (w'^(d-i*m)%p))=none:=jt λj hj e=>by
   have:=o.lO (i:=j) (j:=d-i*m) (by omega) (by omega) e
   omega
  have dg:=fb.k (k:=Sum.inl (w'^(d-i*m)%p)) ht
  rw [hv] at dg
  refine⟨_,dg,?_⟩
  rw [if_pos (by simp)]
  have i1:(i+1)*m<=d:=by rw [Nat.succ_mul];omega
  have im:i<=d:=Nat.le_trans (Nat.le_mul_of_pos_right i m0) hi
  refine⟨_,λ_ _ z=>z,Bd.of (by omega) (by omega),Bd.of (by omega) (by omega),by omega,i+1,?_,rfl,i1,by show d+1-(i+1)<d+1-i;omega⟩
  have e:w'^(d-i*m)%p*back%p=w'^(d-(i+1)*m)%p:=by
   have h1:d-i*m=(d-(i+1)*m)+m:=by rw [Nat.succ_mul] at i1 ⊢;omega
   refine Num.Al.iff.mp ?_
   have h2:=((Num.Al.rest p (w'^(d-i*m))).mul (Num.Al.refl p back))
   rw [h1,Int.pow_add,Int.mul_assoc,Int.mul_comm (w'^m) back] at h2
   rw [h1,Int.pow_add]
   have h3:=(Num.Al.refl p (w'^(d-(i+1)*m))).mul hb
   rw [Int.mul_one] at h3
   exact h2.trans h3
  rw [e]
  rfl
def yB (K:PySem.W.Frag):Sp:=λvs H Q _=>∃(q x n:Nat) (a:Addr),vs=[.int q,.ref a]/\0<q/\q<=10^60/\x%q^n<=10^60/\n<=1000/\H a=some (.lst ((Num.dy x q n).map λd=>V.int (d:Nat)))/\∀ H',aA H H'->Q (.int (x%q^n:Nat)) H'
theorem dQ:aw ["q","row","number","digit"] ["q","row"] (aj (top 74)):=cq
theorem Ae (D:ar K mg "number_of" (top 74)):Callee P w K mg base aG 1 "number_of" ["q","row"] (yB K):=by
 refine cO D dQ (λf cdv A outer s H vs Q E hr h=>?_)
 obtain⟨q',x,n,a,rfl,q0,q9,x9,n9,ha,q⟩:=h
 have nd:=dQ.nd
 refine⟨_,(ae (bh (i:=2) nd ah) (ae (cS PassesOwn.never rfl (bF (CW (pv 1) (gR (j3 gI ah)))) (aq (i:=3) nd rfl (Or.inl rfl) (.inr rfl)) (ai (bh (i:=2) nd (ao bE (ao aH (pv 2) (pv 0)) (pv 3))))) (ai (av (pv 2))))),?_⟩
 show aY _ _ _ [some (.int (q':Int)),some (.ref a),none,none] H
 k_data
 have dl:=Num.iV (x:=x) (q:=q') (n:=n)
 refine⟨_,aO.of ha,λp hp=>⟨⟨_,aO.of ag⟩,?_⟩⟩
 have s1:=ak (o:=.lst ((Num.dy x q' n).map λd:Nat=>V.int (d:Int)).reverse) hp
 have e1:upd H p (.lst ((Num.dy x q' n).map λd:Nat=>V.int (d:Int)).reverse) p=some (.lst ((Num.dy x q' n).map λd:Nat=>V.int (d:Int)).reverse):=ag
 generalize upd H p _=H1 at *
 refine dW (xs:=((Num.dy x q' n).map λd:Nat=>V.int (d:Int)).reverse) (λi σ' H'=>H'=H1/\∃ o3,σ'=[some (.int (q':Int)),some (.ref a),some (.int ((x%q'^n/q'^(n-i):Nat):Int)),o3]) ⟨rfl,none,?_⟩ (λi σ' H' _ h=>by rw [h.1];exact aO.of e1) ?_ ?_
 ·rw [Nat.sub_zero,Nat.div_eq_of_lt (Nat.mod_lt _ (Nat.pow_pos q0))]
  rfl
 ·rintro i v σ' H' hv ⟨rfl,o3,rfl⟩
  have hi:i<n:=by
   have:=(List.getElem?_eq_some_iff.mp hv).1
   rw [List.length_reverse,List.length_map,dl] at this
   exact this
  rw [List.getElem?_reverse (by rw [List.length_map,dl];exact hi),List.length_map,dl,List.getElem?_map,Num.tw (by omega)] at hv
  cases hv
  have b1:x%q'^n/q'^(n-i)<=10^60:=Nat.le_trans (Nat.div_le_self _ _) x9
  have bd:Bd ((x%q'^n/q'^(n-i):Nat):Int):=by
   generalize x%q'^n/q'^(n-i)=z at b1
   exact Bd.of (by omega) (by omega)
  k_data
  refine⟨bd,Bd.of (by omega) (by omega),?_⟩
  have e:=Num.qu (x:=x) (n:=n) q0 hi
  rw [<- Int.natCast_mul,<- Int.natCast_add,e]
 ·rintro σ' H' ⟨rfl,o3,rfl⟩
  rw [List.length_reverse,List.length_map,dl,Nat.sub_self,Nat.pow_zero,Nat.div_one]
  k_data
  exact q H' s1
def yC (K:PySem.W.Frag):Sp:=λvs H Q _=>∃(q x n:Nat) (a:Addr),vs=[.int q,.ref a]/\0<q/\q<=10^60/\x%q^n<=10^60/\n<=1000/\bG K H a ((Num.dy x q n).map λd=>V.int (d:Nat))/\∀ H',aA H H'->Q (.int (x%q^n:Nat)) H'
theorem Af (D:ar K mg "number_of" (top 74)):Callee P w K mg base aG 1 "number_of" ["q","row"] (yC K):=by
 refine cO D dQ (λf cdv A outer s H vs Q E hr h=>?_)
 obtain⟨q',x,n,a,rfl,q0,q9,x9,n9,ha,q⟩:=h
 have nd:=dQ.nd
 refine⟨_,(ae (bh (i:=2) nd ah) (ae (cS PassesOwn.never rfl (fZ (As (pv 1) (gR (j3 gI ah)))) (aq (i:=3) nd rfl (Or.inl rfl) (.inr rfl)) (ai (bh (i:=2) nd (ao bE (ao aH (pv 2) (pv 0)) (pv 3))))) (ai (av (pv 2))))),?_⟩
 show aY _ _ _ [some (.int (q':Int)),some (.ref a),none,none] H
 unfold BK
 k_data
 have dl:=Num.iV (x:=x) (q:=q') (n:=n)
 refine⟨_,ha,λp hp=>⟨⟨_,bG.of ag⟩,?_⟩⟩
 have s1:=ak (o:=.tup ((Num.dy x q' n).map λd:Nat=>V.int (d:Int)).reverse) hp
 have e1:upd H p (.tup ((Num.dy x q' n).map λd:Nat=>V.int (d:Int)).reverse) p=some (.tup ((Num.dy x q' n).map λd:Nat=>V.int (d:Int)).reverse):=ag
 generalize upd H p _=H1 at *
 refine qg (xs:=((Num.dy x q' n).map λd:Nat=>V.int (d:Int)).reverse) (λi σ' H'=>H'=H1/\∃ o3,σ'=[some (.int (q':Int)),some (.ref a),some (.int ((x%q'^n/q'^(n-i):Nat):Int)),o3]) ⟨rfl,none,?_⟩ (λi σ' H' _ h=>by rw [h.1];exact bG.of e1) ?_ ?_
 ·rw [Nat.sub_zero,Nat.div_eq_of_lt (Nat.mod_lt _ (Nat.pow_pos q0))]
  rfl
 ·rintro i v σ' H' hv ⟨rfl,o3,rfl⟩
  have hi:i<n:=by
   have:=(List.getElem?_eq_some_iff.mp hv).1
   rw [List.length_reverse,List.length_map,dl] at this
   exact this
  rw [List.getElem?_reverse (by rw [List.length_map,dl];exact hi),List.length_map,dl,List.getElem?_map,Num.tw (by omega)] at hv
  cases hv
  have b1:x%q'^n/q'^(n-i)<=10^60:=Nat.le_trans (Nat.div_le_self _ _) x9
  have bd:Bd ((x%q'^n/q'^(n-i):Nat):Int):=by
   generalize x%q'^n/q'^(n-i)=z at b1
   exact Bd.of (by omega) (by omega)
  k_data
  refine⟨bd,Bd.of (by omega) (by omega),?_⟩
  have e:=Num.qu (x:=x) (n:=n) q0 hi
  rw [<- Int.natCast_mul,<- Int.natCast_add,e]
 ·rintro σ' H' ⟨rfl,o3,rfl⟩
  rw [List.length_reverse,List.length_map,dl,Nat.sub_self,Nat.pow_zero,Nat.div_one]
  k_data
  exact q H' s1
theorem wJ {p b g:Int} (h:Num.Co b p) (G:Gd p b g):g=1:=by
 obtain⟨u,v,e⟩:=h
 have g1:g∣1:=by rw [<- e];exact Int.dvd_add (Int.dvd_mul_of_dvd_right G.da) (Int.dvd_mul_of_dvd_right G.dn)
 exact Int.eq_one_of_dvd_one (by have:=G.pos;omega) g1
theorem ye {C0:Addr} {p b:Int} {n:Nat} {H:Hp} {Q:VK} {E:XK} (p2:2<=p) (p9:p<=10^60) (co:Num.Co b p) (q:∀ r H',0<=r->r<p->Num.Al p (r*b^n) 1->aA H H'->Q (.int r) H'):cG C0 [.int p,.int b,.int (-(n:Int))] H Q E:=by
 have r0:=λz:Int=>Int.emod_nonneg z (show p≠0 by omega)
 have r1:=λz:Int=>Int.emod_lt_of_pos z (show 0<p by omega)
 refine⟨p,b,-(n:Int),rfl,by omega,by omega,λh H' s=>?_,λh g G=>⟨λ_ i H' i0 i1 i2 s=>?_,λz=>absurd z (by rw [wJ co G];decide)⟩⟩
 ·have n0:n=0:=by omega
  subst n0
  exact q _ H' (r0 _) (r1 _) (((Num.Al.rest p _).mul (Num.Al.refl p _)).trans (by rw [show (-((0:Nat):Int)).toNat=0 by decide,Int.pow_zero];exact Num.Al.refl p _)) s
 ·rw [show (-(-(n:Int))).toNat=n by omega]
  refine q _ H' (r0 _) (r1 _) (((Num.Al.rest p _).mul (Num.Al.refl p _)).trans ?_) s
  rw [<- Int.mul_pow]
  have:=Num.Al.pow (show Num.Al p (i*b) 1 from i2) n
  rwa [Int.one_pow] at this
theorem k8 {k k':KH} {H H':Hp} {f:Addr} (kp:bZ C k' H') (ea:k'.a=k.a) (ed:k'.d=k.d) (b:dR k.a k.d H H') (hf:H' f=none):H f=none:=by
 cases z:H f with
 | none=>rfl
 | some u =>
  by_cases c1:f=k.a
  ·rw [c1,<- ea,kp.ins] at hf;cases hf
  ·by_cases c2:f=k.d
   ·obtain⟨kvs,kd⟩:=kp.ex
    rw [c2,<- ed,kd.dict] at hf;cases hf
   ·rw [b f u c1 c2 z] at hf;cases hf
theorem Cp {k:KH} {H:Hp} {f:Addr} {o o':HO} (kp:bZ C k H) (h:H f=some o) (h1:∀ C dx fs,o≠.ins C dx fs) (h2:∀ kvs,o≠.dT kvs) (h3:∀ kvs,o≠.dK kvs):bZ C k (upd H f o'):=by
 obtain⟨na,nd⟩:=kp.apart h h1 h2
 obtain⟨kvs,kd⟩:=kp.ex
 refine⟨by rw [au (Ne.symm na)];exact kp.ins,⟨kvs,by rw [au (Ne.symm nd)];exact kd.dict,kd.keys,kd.nd,λx v e=>?_⟩,kp.m0,kp.m1⟩
 obtain⟨t,e1,e2⟩:=kd.tab x v e
 exact⟨t,e1,by rw [au (h8 e2 h (Ne.symm (h3 _)))];exact e2⟩
theorem dR.trans' {a d f:Addr} {H H':Hp} {o:HO} (b:dR a d H H') (hf:H f=none):dR a d H (upd H' f o):=λc u x y e=>by
 rw [au (λz=>by rw [z,hf] at e;cases e)]
 exact b c u x y e
theorem DK {k:KH}:iP k 0=k:=by unfold iP;rw [Int.add_zero]
theorem DL {k:KH} {m n:Int}:iP (iP k m) n=iP k (m+n):=by unfold iP;rw [Int.add_assoc]
def stK (x q n:Nat):Int:=(((Num.dy x q n).map λd=>d/rt q+1).sum:Nat)
theorem yK {x q n:Nat}:stK x q (n+1)=stK x q n+((x/q^n%q/rt q:Nat)+1:Int):=by
 unfold stK
 rw [Num.mN,List.map_append,List.sum_append]
 simp
def wm (k:KH) (p b:Int) (e q x n:Nat):KH:=iP (jQ k (p,(q:Int),b^(e/q)%p)) (stK x q n)
def qU (K:PySem.W.Frag) (C:Addr):Sp:=λvs H Q _=>∃(k:KH) (p b a:Int) (e q n x:Nat) (pt:Addr),vs=[.int p,.int b,.int a,.ref pt,.ref k.a]/\bG K H pt [.int e,.int q,.int n]/\bZ C k H/\sR k/\2<=p/\p<=10^60 /\ -(10^60)<=a/\a<=10^60/\Num.Ord p b e/\e<=10^60/\x<e/\Num.Al p a (b^x)/\1<=q/\q<=10^6/\1<=n/\n<=1000/\q^n∣e /\
 ∀ t H',bZ C (wm k p b e q x n) H'->dR k.a k.d H H'->H t=none->H' t=some (.tup ((Num.dy x q n).map λd=>V.int (d:Nat)))->Q (.ref t) H'
theorem nc:aw ["p","b","a","part","keeper","e","q","many","w","table","back","found","left","turn","c","i","j"] ["p","b","a","part","keeper"] (aj (top 72)):=cq
theorem va {C0:Addr} (D:ar K mg "digits" (top 72)) (cl_Kept:mB K C) (c_power:Callee P w K mg base (dh P w) 4 "power" ["n","a","e"] (cG C0)) (c_inverse:Callee P w K mg base (dh P w) 3 "inverse" ["n","a"] (dZ C0)) (c_Kept_used_table:cE P w K mg base aG 2 C "used_table" ["self","p","q","w"] (yH C)) (c_Kept_add_steps:cE P w K mg base aG 1 C "add_steps" ["self","many"] (yw C)) (c_number_of:Callee P w K mg base aG 1 "number_of" ["q","row"] (yB K)) (c_steps_to:Callee P w K mg base aG 1 "steps_to" ["p","table","back","c"] nF) (n_len:mg "len"=none) (n_range:mg "range"=none) (n_tuple:mg "tuple"=none):Callee P w K mg base aG 5 "digits" ["p","b","a","part","keeper"] (qU K C):=by
 refine cO D nc (λf cdv A outer s H vs Q E hr h=>?_)
 obtain⟨k,p,b,a,e,q',n,x,pt,rfl,hpt,kp,le,p2,p9,a0,a1,o,e9,xe,al,q1,q6,n1,n9,dv,q⟩:=h
 have nd:=nc.nd
 refine⟨_,(ae (cR (pv 3) (bT (n:=3) rfl (ax (aq (i:=5) nd rfl (Or.inl rfl) (.inr rfl)) (ax (aq (i:=6) nd rfl (Or.inl rfl) (.inr rfl)) (ax (aq (i:=7) nd rfl (Or.inl rfl) (.inr rfl)) aR))))) (ae (bh (i:=8) nd (aV c_power hr aE (aa (pv 0) (aa (pv 1) (aa (ao aZ (pv 5) (pv 6)) af))))) (ae (bh (i:=9) nd (lG c_Kept_used_table cl_Kept (hr.mono (by decide)) aB (pv 4) (aa (pv 0) (aa (pv 6) (aa (pv 8) af))))) (ae (bh (i:=10) nd (aV c_inverse hr aE (aa (pv 0) (aa (aV c_power hr aE (aa (pv 0) (aa (pv 8) (aa (aC dt rfl n_len PySem.boot_len (aa (pv 9) af)) af)))) af)))) (ae (bh (i:=11) nd (cf af)) (ae (bh (i:=12) nd (pv 5)) (ae (cS PassesOwn.never rfl (dX rfl n_range (aa (pv 7) af)) (aq (i:=13) nd rfl (Or.inl rfl) (.inr rfl)) (ae (c6 (i:=12) nd rfl (Or.inl rfl) (pv 6) (eJ iY)) (ae (bh (i:=14) nd (aV c_power hr aE (aa (pv 0) (aa (ao aH (pv 2) (aV c_power hr aE (aa (pv 0) (aa (pv 1) (aa (j3 gI (aV c_number_of hr aB (aa (pv 6) (aa (pv 11) af)))) af))))) (aa (pv 12) af))))) (ae (cR (aV c_steps_to hr aB (aa (pv 0) (aa (pv 9) (aa (pv 10) (aa (pv 14) af))))) (bT (n:=2) rfl (ax (aq (i:=15) nd rfl (Or.inl rfl) (.inr rfl)) (ax (aq (i:=16) nd rfl (Or.inl rfl) (.inr rfl)) aR)))) (ae (eK (lG c_Kept_add_steps cl_Kept (hr.mono (by decide)) aB (pv 4) (aa (ao bE (pv 15) ah) af))) (ai (eK (tP PySem.F.plainAttrs_list PySem.F.slot_list_append PySem.F.type_list_append jI (pv 11) (aa (ao bE (ao aH (pv 15) (aC dt rfl n_len PySem.boot_len (aa (pv 9) af))) (pv 16)) af))))))))) (ai (av (cF dB rfl n_tuple L2.boot_tuple (aa (pv 11) af))))))))))),?_⟩
 show aY _ _ _ [some (.int p),some (.int b),some (.int a),some (.ref pt),some (.ref k.a),none,none,none,none,none,none,none,none,none,none,none,none] H
 k_data
 refine⟨pt,_,rfl,hpt,rfl,?_⟩
 k_data
 have o0:=o.pos
 have qe:q'∣e:=Nat.dvd_trans (by obtain⟨m,rfl⟩:∃ m,n=m+1:=⟨n-1,by omega⟩;exact⟨q'^m,by rw [Nat.pow_succ,Nat.mul_comm]⟩) dv
 have em:=λz:Int=>Int.emod_nonneg z (show p≠0 by omega)
 have el:=λz:Int=>Int.emod_lt_of_pos z (show 0<p by omega)
 refine⟨by omega,Bd.of (by omega) (by omega),p,b,_,rfl,by omega,by omega,λ_ H1 s1=>?_,λz=>absurd z (by have:=Int.ediv_nonneg (a:=(e:Int)) (b:=(q':Int)) (by omega) (by omega);omega)⟩
 have ew:((e:Int)/(q':Int)).toNat=e/q':=by rw [<- Int.natCast_ediv];rfl
 rw [ew]
 have ow:Num.Ord p (b^(e/q')%p) q':=Num.jK (Num.Al.rest p _).symm (Num.fD o qe)
 have hw:Num.Al p (b^(e/q')%p) (b^(e/q')):=Num.Al.rest p _
 have w0:=em (b^(e/q'))
 have w1:=el (b^(e/q'))
 unfold wm at q
 generalize b^(e/q')%p=w' at *
 have kp1:=kp.same s1
 refine⟨k.dx,_,kp1.ins,rfl,k,p,q',w',rfl,kp1,le,p2,p9,by omega,by omega,w0,w1,by rw [Int.toNat_natCast];exact ow,λt H2 kp2 b2 ht=>uZ ht ?_⟩
 rw [Int.toNat_natCast] at ht
 rw [fH,Int.toNat_natCast]
 have mq:=Bw (q:=q') (by omega)
 have m0:=yr (q:=q') (by omega)
 have m6:=AF q6
 refine⟨p,w',_,rfl,by omega,by omega,λ_ H3 s3=>?_,λz=>absurd z (by omega)⟩
 rw [Int.toNat_natCast]
 have cow:Num.Co (w'^rt q'%p) p:=(ow.co.pow _).xj (Num.Al.rest p _).symm
 refine⟨p,_,rfl,by omega,by omega,λg G=>⟨λ_ bk H4 bk0 bk1 bk2 s4=>?_,λz=>absurd z (by rw [wJ cow G];decide)⟩⟩
 have hbk:Num.Al p (bk*w'^rt q') 1:=((Num.Al.refl p bk).mul (Num.Al.rest p _)).symm.trans bk2
 refine⟨by decide,λfo hfo=>⟨by omega,by omega,?_⟩⟩
 have S4:=s3.trans s4
 have s5:=ak (o:=.lst ([]:List V)) hfo
 have e5:upd H4 fo (.lst ([]:List V)) fo=some (.lst ((Num.dy x q' 0).map λd:Nat=>V.int (d:Int))):=ag
 have ffo:H fo=none:=k8 (kp2.same S4) rfl rfl ((dR.of s1).trans (b2.trans (dR.of S4))) hfo
 have kp5:=(kp2.same S4).same s5
 have t5:=s5 _ _ (S4 _ _ ht)
 have b5:dR k.a k.d H (upd H4 fo (.lst ([]:List V))):=(dR.of s1).trans (b2.trans (dR.of (S4.trans s5)))
 generalize upd H4 fo (.lst ([]:List V))=H5 at *
 refine eh (λi σ' H'=>bZ C (iP (jQ k (p,(q':Int),w')) (stK x q' i)) H'/\dR k.a k.d H H'/\H' fo=some (.lst ((Num.dy x q' i).map λd:Nat=>V.int (d:Int)))/\H' t=some (.dK (dI p w' (rt q')))/\∃ o1 o2 o3 o4,σ'=[some (.int p),some (.int b),some (.int a),some (.ref pt),some (.ref k.a),some (.int (e:Int)),some (.int (q':Int)),some (.int (n:Int)),some (.int w'),some (.ref t),some (.int bk),some (.ref fo),some (.int ((e/q'^i:Nat):Int)),o1,o2,o3,o4]) ⟨?_,b5,e5,t5,none,none,none,none,by rw [Nat.pow_zero,Nat.div_one]⟩ ?_ ?_
 ·show bZ C (iP _ 0) H5
  rw [DK]
  exact kp5
 ·rintro i σ' H6 hi ⟨kp6,b6,e6,t6,o1,o2,o3,o4,rfl⟩
  k_data
  have xq:x%q'^i<=10^60:=Nat.le_trans (Nat.mod_le _ _) (by omega)
  refine⟨by omega,Bd.of (by omega) (by omega),q',x,i,fo,rfl,by omega,by omega,xq,by omega,e6,λH7 s7=>⟨_,rfl,?_⟩⟩
  refine ye p2 p9 o.co λr H8 r0 r1 hr' s8=>⟨_,rfl,Bd.of (by omega) (by omega),Bd.of (by omega) (by omega),?_⟩
  have el1:((e/q'^i:Nat):Int)/(q':Int)=((e/q'^(i+1):Nat):Int):=by rw [Nat.pow_succ,<- Nat.div_div_eq_div_mul,Int.natCast_ediv (e/q'^i)]
  rw [el1]
  refine⟨p,_,_,rfl,by omega,by omega,λ_ H9 s9=>?_,λz=>absurd z (Int.not_lt.mpr (Int.natCast_nonneg _))⟩
  rw [Int.toNat_natCast]
  have dq:q'^(i+1)∣e:=Nat.dvd_trans (Nat.pow_dvd_pow q' hi) dv
  have key:=Num.Al.iff.mp (Num.wq o dq al hr' hw)
  rw [key]
  have S9:=(s7.trans s8).trans s9
  have d0:x/q'^i%q'<q':=Nat.mod_lt _ (by omega)
  refine⟨p,bk,_,w',t,q',x/q'^i%q',rfl,p2,p9,ow,q6,S9 _ _ t6,bk0,bk1,hbk,d0,rfl,λrr H10 s10 frr hrr=>⟨rr,_,rfl,bG.of hrr,rfl,?_⟩⟩
  k_data
  have kp10:=(kp6.same S9).same s10
  have e10:=s10 _ _ (S9 _ _ e6)
  have t10:=s10 _ _ (S9 _ _ t6)
  have b10:=b6.trans (dR.of (S9.trans s10))
  refine⟨_,_,kp10.ins,rfl,iP (jQ k (p,(q':Int),w')) (stK x q' i),_,rfl,kp10,λH11 oth kp11=>?_⟩
  have nfo:fo≠k.a:=(kp10.apart e10 (by intro _ _ _ z;cases z) (by intro _ z;cases z)).1
  have nfd:fo≠k.d:=(kp10.apart e10 (by intro _ _ _ z;cases z) (by intro _ z;cases z)).2
  have ntf:t≠fo:=h8 t10 e10 (by intro z;cases z)
  have nta:t≠k.a:=(kp10.apart t10 (by intro _ _ _ z;cases z) (by intro _ z;cases z)).1
  have e11:=(oth fo nfo).trans e10
  have t11:=(oth t nta).trans t10
  have b11:dR k.a k.d H H11:=b10.trans λb u ba _ e=>by rw [oth b ba];exact e
  rw [DL,<- yK] at kp11
  have dl:=Num.iV (x:=x) (q:=q') (n:=i)
  have dd:((x/q'^i%q' / rt q':Nat):Int)*((rt q':Nat):Int)+((x/q'^i%q'%rt q':Nat):Int)=((x/q'^i%q':Nat):Int):=by
   rw [<- Int.natCast_mul,<- Int.natCast_add,Nat.div_add_mod']
  have db:Bd ((x/q'^i%q' / rt q':Nat):Int):=by
   have h1:x/q'^i%q' / rt q'<=x/q'^i%q':=Nat.div_le_self _ _
   generalize x/q'^i%q' / rt q'=z at h1
   generalize x/q'^i%q'=z' at h1 d0
   exact Bd.of (by omega) (by omega)
  refine⟨.inl ⟨rfl,_,aO.of e11⟩,uZ t11 ⟨_,rfl,db,by rw [fH];exact Bd.of (by omega) (by omega),fo,_,_,rfl,rfl,e11,by rw [List.length_map,dl];exact vL (by omega),?_⟩⟩
  rw [fH,dd]
  refine⟨Cp kp11 e11 (by intro _ _ _ z;cases z) (by intro _ z;cases z) (by intro _ z;cases z),dR.trans' b11 ffo,?_,by rw [au ntf];exact t11⟩
  rw [ag,Num.mN,List.map_append]
  rfl
 ·rintro σ' H6 ⟨kp6,b6,e6,t6,o1,o2,o3,o4,rfl⟩
  k_data
  refine⟨_,.inl ⟨aO.of e6,λl hl=>q l _ (kp6.same (ak hl)) (b6.trans (dR.of (ak hl))) (k8 kp6 rfl rfl b6 hl) ag⟩⟩
def FV (row:PyData) (y:Int × Int):Prop:=∃ ds r,row=.tuple (.tuple (.int y.1::ds)::.int y.2::r)
def zj (rows:List PyData) (ps:List (Int × Int)):Prop:=rows.length=ps.length/\∀(i:Nat) (row:PyData),rows[i]?=some row->∃ y,ps[i]?=some y/\FV row y
def uq (K:PySem.W.Frag):Sp:=λvs H Q _=>∃(v:V) (rows:List PyData) (ps:List (Int × Int)),vs=[v]/\dv K H (.tuple rows) v/\zj rows ps/\rows.length<=10^6/\∀ p us H',aA H H'->H p=none->H' p=some (.lst us)->aQ K H' (ps.map kB) us->Q (.ref p) H'
theorem Ca {H:Hp} {rows:List PyData} {ps:List (Int × Int)} {xs:List V} (hd:aQ K H rows xs) (h:zj rows ps) {i:Nat} {x:V} (hx:xs[i]?=some x):∃ q k pt pq r r',ps[i]?=some (q,k)/\x=.ref pt/\bG K H pt (.ref pq::.int k::r')/\bG K H pq (.int q::r):=by
 obtain⟨d,hd',hv⟩:=hd.get hx
 obtain⟨⟨q,k⟩,hy,ds,r0,rfl⟩:=h.2 i d hd'
 obtain⟨pt,ys,rfl,h1,x1,r1,rfl,e1,x2,r2,rfl,e2,_⟩:=hv
 obtain⟨pq,zs,rfl,h2,y1,r3,rfl,f1,f2⟩:=e1
 cases f1
 cases e2
 exact⟨q,k,pt,pq,r3,r2,hy,rfl,h1,h2⟩
theorem xF (D:ar K mg "parting_in" (top 20)):Callee P w K mg base aG 1 "parting_in" ["parts"] (uq K):=by
 refine cO D bY (λf cdv A outer s H vs Q E hr h=>?_)
 obtain⟨v,rows,ps,rfl,hd,hh,h6,q⟩:=h
 have nd:=bY.nd
 refine⟨_,(ai (av (dc rfl (kG (N':=["row"]) (js:=[none]) rfl rfl) (fZ (pv 0)) (λ_ _ _ _=>(aq (i:=0) (show List.Nodup [("row":Str)] from by decide +kernel) rfl (Or.inl rfl) (.inr rfl))) (λ_ _ _ _=>aX) (λ_ _ _ _=>(aI (aa (aJ (bQ K rfl) (aJ (bQ K rfl) (pv 0) ah (λ_ _=>rfl)) ah (λ_ _=>rfl)) (aa (aJ (bQ K rfl) (pv 0) ah (λ_ _=>rfl)) af))))))),?_⟩
 show fN _ _ [some v] H
 obtain⟨p,xs,rfl,hS,ht⟩:=hd
 have xl:=ht.length
 have rl:=hh.1
 k_data
 refine⟨⟨_,hS⟩,?_⟩
 refine dS (xs:=xs) (λi zs H3=>aA H H3/\aQ K H3 ((ps.take i).map kB) zs) ⟨aA.refl _,rfl⟩ (Nat.le_trans (by omega) (show 10^6<=sizeLine by decide)) (λi zs H3 hi ⟨e1,e2⟩=>⟨hS.same e1,by rw [e2.length,List.length_map,List.length_take];omega⟩) ?_ ?_
 ·rintro i x zs H3 hx ⟨s3,hz⟩
  obtain⟨q',k',pt,pq,r,r',hy,rfl,t1,t2⟩:=Ca ht hh hx
  show cI 0 _ [none] _ _
  k_data
  refine⟨True.intro,bC (t1.same s3) iQ (bC (t2.same s3) iQ (bC (t1.same s3) Dx ⟨by show 2<=sizeLine;decide,λp4 hp4=>?_⟩))⟩
  have s4:=ak (o:=.tup [V.int q',V.int k']) hp4
  refine⟨s3.trans s4,?_⟩
  rw [List.take_add_one,hy,List.map_append]
  exact aQ.append (aQ.same s4 _ hz) (.one (dv.tup ag ⟨_,_,rfl,rfl,.one rfl⟩))
 ·rintro zs H3 p3 ⟨s3,hz⟩ hp3
  rw [show xs.length=ps.length by omega,List.take_length] at hz
  exact q p3 zs _ (s3.trans (ak hp3)) (s3.free hp3) ag (aQ.same (ak hp3) _ hz)
def By (K:PySem.W.Frag) (CF:Addr):Sp:=λvs H Q E=>∃(a:Addr) (ns:List Int),vs=[.ref a]/\aO K H a (ns.map V.int)/\ns.length<=10^6/\((∀ n∈ns,n<=10^6)->Q .non H)/\(∀ m∈ns,(∀ n∈ns,n<=m)->10^6<m->zh CF "part" (.int m) H E)
theorem iz:aw ["primes"] ["primes"] (aj (top 70)):=cq
theorem Cz {CF:Addr} (D:ar K mg "refuse_far" (top 70)) (x_TooFar:nL P w K mg base "TooFar" CF "part") (g_FARTHEST:∃ t,mg "FARTHEST"=some (.int 1000000 t)) (n_max:mg "max"=none):Callee P w K mg base (dh P w) 3 "refuse_far" ["primes"] (By K CF):=by
 refine cX D iz (λf cdv A outer s H vs Q E hr h=>?_)
 obtain⟨a,ns,rfl,hS,n6,q1,q2⟩:=h
 obtain⟨gt,g_FARTHEST⟩:=g_FARTHEST
 have nd:=iz.nd
 refine⟨_,(ai (aN (PW.pt (gj (aT (pv 0) (λ_=>rfl)) (gS (az cJ (aC (mL rfl) rfl n_max L2.boot_max (aa (pv 0) af)) (i5 (v:=.int 1000000) rfl g_FARTHEST ⟨_,rfl⟩) (ay _))))) (ai (cz (jM x_TooFar (hr.mono (by decide)) rfl (aa (aC (mL rfl) rfl n_max L2.boot_max (aa (pv 0) af)) af)))) aD)),?_⟩
 show Dh _ _ _ _ [some (.ref a)] H
 k_data
 refine⟨!(ns.map V.int).isEmpty,.inl ⟨_,hS,rfl⟩,aK (λc=>?_) (λc=>?_)⟩
 ·have ne:ns≠[]:=λz=>by rw [z] at c;cases c
  refine⟨a,ns,rfl,hS,ne,λm hm hM=>⟨m,rfl,aK (λc1=>⟨a,ns,rfl,hS,ne,λm' hm' hM' x dx hx hdx nx=>?_⟩) (λc1=>q1 λn hn=>by have:=hM n hn;omega)⟩⟩
  have:m'=m:=by have h1:=hM m' hm';have h2:=hM' m hm;omega
  subst this
  exact gM x_TooFar.cls (aA.refl _) hx hdx nx (q2 m' hm hM (by omega))
 ·refine q1 λn hn=>?_
  cases ns with
  | nil=>cases hn
  | cons y r=>exact absurd rfl c
end
end K
namespace L2
open PySem PySem.Spec PyProof.Rows
theorem rH {X:Cx} (K:PySem.W.Frag) (h:X.K=K):cT X (.builtin "len") (yk K):=h▸bp
end L2
namespace K
open PySem PySem.Spec PyProof.Rows L2
section
variable {P:Program} {w:World} {K:PySem.W.Frag} {mg:Str->Option Value} {base:Heap} {C:Addr}
structure BX (e:Nat) (ps:List (Int × Int)):Prop where
 ok:∀ y∈ps,Num.Pm y.1/\y.1<=10^6/\1<=y.2/\y.2<=1000
 ne:ps.Pairwise (λx y=>x.1≠y.1)
 eq:Num.eN ps=e
 len:ps.length<=12
theorem jB:∀{ps:List (Int × Int)} {y:Int × Int},y∈ps->y.1.toNat^y.2.toNat∣Num.eN ps
 | p::r,y,h=>by
  show _∣p.1.toNat^p.2.toNat*Num.eN r
  rcases List.mem_cons.mp h with rfl | h
  ·exact Nat.dvd_mul_right _ _
  ·exact Nat.dvd_trans (jB h) (Nat.dvd_mul_left _ _)
theorem wB {z:Nat}:∀{ps:List (Int × Int)},(∀ y∈ps,Num.Pm y.1)->ps.Pairwise (λx y=>x.1≠y.1)->(∀ y∈ps,y.1.toNat^y.2.toNat∣z)->Num.eN ps∣z
 | [],_,_,_=>Nat.one_dvd _
 | p::r,h,ne,hd=>by
  show p.1.toNat^p.2.toNat*Num.eN r∣z
  obtain⟨n1,n2⟩:=List.pairwise_cons.mp ne
  have co:=Num.wC (b:=r) (λy hy=>h y (List.mem_cons_of_mem _ hy)) [p] (λy hy=>by rw [List.mem_singleton.mp hy];exact h p (List.mem_cons_self ..)) λx hx y hy=>by rw [List.mem_singleton.mp hx];exact (n1 y hy).symm
  have e1:Num.eN [p]=p.1.toNat^p.2.toNat:=Nat.mul_one _
  rw [e1] at co
  exact co.mul_dvd_of_dvd_of_dvd (hd p (List.mem_cons_self ..)) (wB (λy hy=>h y (List.mem_cons_of_mem _ hy)) n2 λy hy=>hd y (List.mem_cons_of_mem _ hy))
def vW (x:Nat) (y:Int × Int):Int × Int:=(((y.1.toNat^y.2.toNat:Nat):Int),((x%y.1.toNat^y.2.toNat:Nat):Int))
theorem sE {x:Nat} {y:Int × Int}:(vW x y).1∣(x:Int)-(vW x y).2:=by
 show ((y.1.toNat^y.2.toNat:Nat):Int)∣(x:Int)-((x%y.1.toNat^y.2.toNat:Nat):Int)
 have h:=Nat.div_add_mod x (y.1.toNat^y.2.toNat)
 refine⟨((x/y.1.toNat^y.2.toNat:Nat):Int),?_⟩
 rw [<- Int.natCast_mul]
 omega
theorem AU {e x:Nat} {ps:List (Int × Int)} (h:BX e ps) (hx:x<e):Crt.Told (ps.map (vW x)) e x where
 pos:=by omega
 x0:=by omega
 x1:=by omega
 dv:=λp hp=>by
  obtain⟨y,hy,rfl⟩:=List.mem_map.mp hp
  rw [<- h.eq]
  exact Int.natCast_dvd_natCast.mpr (jB hy)
 le:=λz hz=>by
  rw [<- h.eq]
  refine Int.ofNat_dvd_left.mpr (wB (λy hy=>(h.ok y hy).1) h.ne λy hy=>?_)
  exact Int.ofNat_dvd_left.mp (hz _ (List.mem_map.mpr ⟨y,hy,rfl⟩))
 al:=λp hp=>by
  obtain⟨y,hy,rfl⟩:=List.mem_map.mp hp
  exact sE
theorem xf {x:Nat} {ps:List (Int × Int)} {i j:Nat}:¬Ap (ps.map (vW x)) i j:=fun⟨p,q,g,e1,e2,G,nd⟩=>by
 rw [List.getElem?_map] at e1 e2
 obtain⟨y,_,rfl⟩:=Option.map_eq_some_iff.mp e1
 obtain⟨y',_,rfl⟩:=Option.map_eq_some_iff.mp e2
 have h1:=Int.dvd_trans G.da (sE (x:=x) (y:=y))
 have h2:=Int.dvd_trans G.db (sE (x:=x) (y:=y'))
 have:=Int.dvd_sub h2 h1
 rw [show (x:Int)-(vW x y').2-((x:Int)-(vW x y).2)=(vW x y).2-(vW x y').2 by omega] at this
 exact nd this
def C6 (x:Nat) (y:Int × Int):PyData:=.tuple [.int y.1,.tuple (((Num.dy x y.1.toNat y.2.toNat).map λd:Nat=>(d:Int)).map PyData.int)]
theorem xb:∀ ns:List Int,fC (ns.map PyData.int)=true:=i4 λ_=>rfl
theorem xc {x:Nat} {y:Int × Int}:qj (C6 x y)=true:=by
 show fC [.int y.1,.tuple (((Num.dy x y.1.toNat y.2.toNat).map λd:Nat=>(d:Int)).map PyData.int)]=true
 have:=xb ((Num.dy x y.1.toNat y.2.toNat).map λd:Nat=>(d:Int))
 show (true && (fC (((Num.dy x y.1.toNat y.2.toNat).map λd:Nat=>(d:Int)).map PyData.int) && true))=true
 rw [this]
 rfl
def jh (k:KH) (p b:Int) (e x:Nat) (ps:List (Int × Int)):KH:=ps.foldl (λk y=>wm k p b e y.1.toNat x y.2.toNat) k
theorem qd {H:Hp}:∀{ns:List Int} {ds:List V},aQ K H (ns.map PyData.int) ds->ds=ns.map V.int
 | [],_,h=>h
 | n::ns,_,⟨x,r,e,h,t⟩=>by
  subst e
  rw [qd t,show x=V.int n from h]
  rfl
theorem oH {p b:Int} {e x:Nat}:∀(ps:List (Int × Int)) (k:KH),(jh k p b e x ps).a=k.a/\(jh k p b e x ps).d=k.d/\(jh k p b e x ps).most=k.most
 | [],k=>⟨rfl,rfl,rfl⟩
 | y::r,k=>oH r (wm k p b e y.1.toNat x y.2.toNat)
theorem nq {k:KH} {p b:Int} {e x:Nat} {ps:List (Int × Int)} {y:Int × Int}:jh k p b e x (ps++[y])=wm (jh k p b e x ps) p b e y.1.toNat x y.2.toNat:=by
 unfold jh
 rw [List.foldl_append]
 rfl
def v7 (C:Addr) (ko:Option KH) (v:V) (H:Hp):Prop:=match ko with
 | none=>v=.non
 | some k=>v=.ref k.a/\bZ C k H/\sR k
def mC (C:Addr) (ko:Option KH) (f:KH->KH) (H H':Hp):Prop:=match ko with
 | none=>aA H H'
 | some k=>dR k.a k.d H H'/\bZ C (f k) H'/\sR (f k)
def Eh (x e:Nat) (ps:List (Int × Int)):PyData:=.tuple [.int x,.tuple [.str "is",.int e,.tuple (ps.map (C6 x))]]
def qZ (K:PySem.W.Frag) (C:Addr):Sp:=λvs H Q _=>∃(p b a:Int) (e x:Nat) (vo vk:V) (rows:List PyData) (ps:List (Int × Int)) (ko:Option KH),vs=[.int p,.int b,.int a,vo,vk]/\dv K H (.tuple [.int e,.tuple rows]) vo/\zj rows ps/\BX e ps/\v7 C ko vk H/\2<=p/\p<=10^60 /\ -(10^60)<=a/\a<=10^60/\Num.Ord p b e/\e<=10^18/\x<e/\Num.Al p a (b^x) /\
 ∀ u H',mC C ko (λk=>jh k p b e x ps) H H'->dv K H' (Eh x e ps) u->Q u H'
def FQ (K:PySem.W.Frag) (C:Addr) (k:KH) (p b:Int) (e x:Nat) (ps:List (Int × Int)) (H1:Hp) (i:Nat) (zs:List V) (H3:Hp):Prop:=dR k.a k.d H1 H3/\bZ C (jh k p b e x (ps.take i)) H3/\sR (jh k p b e x (ps.take i))/\aQ K H3 ((ps.take i).map (C6 x)) zs
theorem nk:aw ["p","b","a","order_paper","kept","e","parts","keeper","rows","places"] ["p","b","a","order_paper","kept"] (aj (top 71)):=cq
theorem vp (D:ar K mg "sought" (top 71)) (cl_Kept:mB K C) (o_Kept:Dv K mg "Kept" C) (c_Kept___init__:cE P w K mg base aG 1 C "__init__" ["self","most"] (uj C)) (c_digits:Callee P w K mg base aG 5 "digits" ["p","b","a","part","keeper"] (qU K C)) (c_parting_inG:Callee P w K mg base aG 1 "parting_in" ["parts"] (uq K)) (c_whole_of:Callee P w K mg base aG 1 "whole_of" ["parting"] (kS K)) (c_number_ofT:Callee P w K mg base aG 1 "number_of" ["q","row"] (yC K)) (c_put_together:Callee P w K mg base aG 5 "put_together" ["places"] (BB K)) (n_len:mg "len"=none) (n_tuple:mg "tuple"=none):Callee P w K mg base aG 6 "sought" ["p","b","a","order_paper","kept"] (qZ K C):=by
 refine cO D nk (λf cdv A outer s H vs Q E hr h=>?_)
 obtain⟨p,b,a,e,x,vo,vk,rows,ps,ko,rfl,hvo,hds,oR,pre,p2,p9,a0,a1,o,e18,xe,al,q⟩:=h
 have nd:=nk.nd
 refine⟨_,(ae (cR (pv 3) (bT (n:=2) rfl (ax (aq (i:=5) nd rfl (Or.inr rfl) (.inl rfl)) (ax (aq (i:=6) nd rfl (Or.inl rfl) (.inr rfl)) aR)))) (ae (iG (gh (i:=7) nd rfl (Or.inr rfl) (eA (az CH (pv 4) fY (ay _)) (xZ o_Kept c_Kept___init__ (hr.mono (by decide)) rfl aB (aa ah af)) (pv 4)))) (ae (bh (i:=8) nd (cF dB rfl n_tuple L2.boot_tuple (aa (dc rfl (kG (N':=["q","many","p","b","a","keeper","e"]) (js:=[none,none,some 0,some 1,some 2,some 7,some 5]) rfl rfl) (bF (aV c_parting_inG hr aB (aa (pv 6) af))) (λ_ _ _ _=>(dD K rfl (n:=2) rfl (ax (aq (i:=0) (show List.Nodup [("q":Str),("many":Str),("p":Str),("b":Str),("a":Str),("keeper":Str),("e":Str)] from by decide +kernel) rfl (Or.inl rfl) (.inr rfl)) (ax (aq (i:=1) (show List.Nodup [("q":Str),("many":Str),("p":Str),("b":Str),("a":Str),("keeper":Str),("e":Str)] from by decide +kernel) rfl (Or.inl rfl) (.inr rfl)) aR)))) (λ_ _ _ _=>aX) (λ_ _ _ _=>(aI (aa (pv 0) (aa (aV c_digits hr aB (aa (pv 2) (aa (pv 3) (aa (pv 4) (aa (aI (aa (pv 6) (aa (pv 0) (aa (pv 1) af)))) (aa (pv 5) af)))))) af))))) af))) (ae (i9 (i0:=9) nd rfl (Or.inl rfl) rfl (kG (N':=["q","row"]) (js:=[none,none]) rfl rfl) (fZ (pv 8)) (λ_ _ _ _=>(dD K rfl (n:=2) rfl (ax (aq (i:=0) (show List.Nodup [("q":Str),("row":Str)] from by decide +kernel) rfl (Or.inl rfl) (.inr rfl)) (ax (aq (i:=1) (show List.Nodup [("q":Str),("row":Str)] from by decide +kernel) rfl (Or.inl rfl) (.inr rfl)) aR)))) (λ_ _ _ _=>aX) (λ_ _ _ _=>(aI (aa (aV c_whole_of hr aB (aa (cf (aa (aI (aa (pv 0) (aa (aC (rH K rfl) rfl n_len PySem.boot_len (aa (pv 1) af)) af))) af)) af)) (aa (aV c_number_ofT hr aB (aa (pv 0) (aa (pv 1) af))) af)))) (by rfl) (by first | exact .inl rfl | exact .inr rfl)) (ai (av (aI (aa (aJ aS (aV c_put_together hr aB (aa (pv 9) af)) ah (λ_ _=>rfl)) (aa (aI (aa bL (aa (pv 5) (aa (pv 8) af)))) af))))))))),?_⟩
 show aY _ _ _ [some (.int p),some (.int b),some (.int a),some vo,some vk,none,none,none,none,none] H
 obtain⟨po,ys,rfl,hSo,ve,r1,rfl,h1,vr,r2,rfl,hvr,z⟩:=hvo
 cases z
 cases h1
 k_data
 refine⟨po,_,rfl,hSo,rfl,?_⟩
 k_data
 refine⟨λσ' H'=>∃ k:KH,σ'=[some (.int p),some (.int b),some (.int a),some (.ref po),some vk,some (.int (e:Int)),some vr,some (.ref k.a),none,none]/\bZ C k H'/\sR k/\aA H H'/\∀ H2,dR k.a k.d H' H2->bZ C (jh k p b e x ps) H2->sR (jh k p b e x ps)->mC C ko (λk=>jh k p b e x ps) H H2,?_,?_⟩
 ·k_data
  cases ko with
  | none =>
   have pre':vk=.non:=pre
   rw [if_pos pre']
   intro x' dx hx hdx ne
   have S:aA H (upd (upd H dx (.own x')) x' (.ins C dx [])):=(ak hdx).upd hx
   refine⟨x',dx,1,rfl,ag,by decide,by decide,λd H2 keep ndx fd kp=>?_⟩
   have S2:aA H H2:=λb o eb=>keep b o (λz=>by rw [z,hx] at eb;cases eb) (S b o eb)
   have hd:H d=none:=by
    rw [au ndx] at fd
    by_cases z:d=dx
    ·rw [z];exact hdx
    ·rw [au z] at fd;exact fd
   refine⟨rfl,⟨x',dx,d,1,0,[]⟩,rfl,kp,by show (0:Int)<=1;decide,S2,λH3 b3 _ _ b o eb=>b3 b o (λz=>by rw [z,hx] at eb;cases eb) (λz=>by rw [z,hd] at eb;cases eb) (S2 b o eb)⟩
  | some k =>
   obtain⟨rfl,kp,le⟩:=pre
   rw [if_neg (by intro z;cases z)]
   exact⟨k,rfl,kp,le,aA.refl _,λH2 b kp' le'=>⟨b,kp',le'⟩⟩
 ·rintro σ' H1 ⟨k,rfl,kp,le,s1,post⟩
  k_data
  have rl:=hds.1
  have pl12:=oR.len
  refine⟨vr,rows,ps,rfl,dv.same s1 _ hvr,hds,by omega,λpl us H2 s2 fpl epl hus=>⟨pl,rfl,⟨_,aO.of epl⟩,?_⟩⟩
  have kp2:=kp.same s2
  have ul:us.length=ps.length:=by rw [hus.length,List.length_map]
  refine bH (xs:=us) (λi zs H3=>FQ K C k p b e x ps H2 i zs H3) ⟨dR.refl,kp2,le,rfl⟩ (Nat.le_trans (show us.length<=12 by omega) (by decide)) (λi zs H3 hi ⟨z1,z2,z3,z4⟩=>⟨aO.of (kp2.keep z1 epl),by rw [z4.length,List.length_map,List.length_take];omega⟩) ?_ ?_
  ·rintro i v zs H3 hx ⟨b3,kp3,le3,hz⟩
   obtain⟨d,hd',hv⟩:=hus.get hx
   rw [List.getElem?_map] at hd'
   obtain⟨⟨q',t'⟩,hy,rfl⟩:=Option.map_eq_some_iff.mp hd'
   obtain⟨pt,rfl,tt⟩:=jA hv
   obtain⟨pm,q6,t1,t9⟩:=oR.ok _ (List.mem_of_getElem? hy)
   have dE:=jB (List.mem_of_getElem? hy)
   rw [oR.eq] at dE
   replace pm:Num.Pm q':=pm
   replace q6:q'<=10^6:=q6
   replace t1:1<=t':=t1
   replace t9:t'<=1000:=t9
   have q2:=pm.two
   obtain⟨qn,rfl⟩:∃ n:Nat,q'=n:=⟨q'.toNat,by omega⟩
   obtain⟨tn,rfl⟩:∃ n:Nat,t'=n:=⟨t'.toNat,by omega⟩
   replace dE:qn^tn∣e:=dE
   have kps:=kp2.dF b3
   obtain⟨sa,sd,sm⟩:=oH (p:=p) (b:=b) (e:=e) (x:=x) (ps.take i) k
   refine⟨pt,_,rfl,tt.dF kps,rfl,?_⟩
   show jU (cI 0) (jU (cI 1) wI) _ [none,none,some (.int p),some (.int b),some (.int a),some (.ref k.a),some (.int (e:Int))] _ _
   k_data
   refine⟨⟨rfl,rfl,rfl,rfl,rfl,True.intro⟩,by show 3<=sizeLine;decide,λp4 hp4=>?_⟩
   have s4:=ak (o:=.tup [V.int (e:Int),V.int (qn:Int),V.int (tn:Int)]) hp4
   refine⟨jh k p b e x (ps.take i),p,b,a,e,qn,tn,x,p4,by rw [sa],bG.of ag,kp3.same s4,le3,p2,p9,a0,a1,o,by omega,xe,al,by omega,by omega,by omega,by omega,dE,λt H5 kp5 b5 ft ht=>⟨by show 2<=sizeLine;decide,λp6 hp6=>?_⟩⟩
   rw [sa,sd] at b5
   have s6:=ak (o:=.tup [V.int (qn:Int),V.ref t]) hp6
   have e1:ps.take (i+1)=ps.take i++[((qn:Int),(tn:Int))]:=by rw [List.take_add_one,hy];rfl
   have bb:dR k.a k.d H3 (upd H5 p6 (.tup [V.int (qn:Int),V.ref t])):=(dR.of s4).trans (b5.trans (dR.of s6))
   refine⟨b3.trans bb,?_,?_,?_⟩
   ·rw [e1,nq]
    exact kp5.same s6
   ·rw [e1,nq]
    exact (le3.use kp3.m0).add
   ·rw [e1,List.map_append]
    have kk:∀ a xs,Rd H3 a (.tup xs)->Rd (upd H5 p6 (.tup [V.int (qn:Int),V.ref t])) a (.tup xs):=λc xs z=>kp3.dF (by rw [sa,sd];exact bb) c xs z
    refine aQ.append (aQ.dF kk _ (i4 (λ_=>xc) _) hz) (.one (dv.tup ag ⟨_,_,rfl,rfl,.one (dv.tup (s6 _ _ ht) ?_)⟩))
    have:=aQ.ints (K:=K) (H:=upd H5 p6 (.tup [V.int (qn:Int),V.ref t])) ((Num.dy x qn tn).map λd:Nat=>(d:Int))
    rw [List.map_map (f:=λd:Nat=>(d:Int)) (g:=V.int)] at this
    exact this
  ·rintro zs H3 p3 ⟨b3,kp3,le3,hz⟩ hp3
   rw [show us.length=ps.length from ul,List.take_length] at hz kp3 le3
   obtain⟨sa,sd,sm⟩:=oH (p:=p) (b:=b) (e:=e) (x:=x) ps k
   refine⟨p3,rfl,zs,.inl ⟨aO.of ag,λl hl=>⟨⟨_,bG.of ag⟩,?_⟩⟩⟩
   have S4:aA H3 (upd (upd H3 p3 (.lst zs)) l (.tup zs)):=(ak hp3).trans (ak hl)
   have el:upd (upd H3 p3 (.lst zs)) l (.tup zs) l=some (.tup zs):=ag
   generalize upd (upd H3 p3 (.lst zs)) l (.tup zs)=H4 at *
   have hz4:=aQ.same S4 _ hz
   have zl:zs.length=ps.length:=by rw [hz.length,List.length_map]
   refine dS (xs:=zs) (λi ws H5=>aA H4 H5/\aQ K H5 ((ps.take i).map λy=>kB (vW x y)) ws) ⟨aA.refl _,rfl⟩ (Nat.le_trans (show zs.length<=12 by omega) (by decide)) (λi ws H5 hi ⟨z1,z2⟩=>⟨bG.of (z1 _ _ el),by rw [z2.length,List.length_map,List.length_take];omega⟩) ?_ ?_
   ·rintro i v ws H5 hx ⟨s5,hw⟩
    obtain⟨d,hd',hv⟩:=hz4.get hx
    rw [List.getElem?_map] at hd'
    obtain⟨⟨q',t'⟩,hy,rfl⟩:=Option.map_eq_some_iff.mp hd'
    obtain⟨pm,q6,t1,t9⟩:=oR.ok _ (List.mem_of_getElem? hy)
    have dE:=jB (List.mem_of_getElem? hy)
    rw [oR.eq] at dE
    replace pm:Num.Pm q':=pm
    replace q6:q'<=10^6:=q6
    replace t1:1<=t':=t1
    replace t9:t'<=1000:=t9
    have q2:=pm.two
    obtain⟨qn,rfl⟩:∃ n:Nat,q'=n:=⟨q'.toNat,by omega⟩
    obtain⟨tn,rfl⟩:∃ n:Nat,t'=n:=⟨t'.toNat,by omega⟩
    replace dE:qn^tn∣e:=dE
    obtain⟨pr,ys,rfl,hSr,v1,r1,rfl,f1,v2,r2,rfl,⟨pd,ds,rfl,hSd,hdd⟩,z⟩:=hv
    cases z
    cases f1
    have ed:=qd hdd
    rw [List.map_map] at ed
    replace ed:ds=(Num.dy x qn tn).map λd:Nat=>V.int (d:Int):=ed
    subst ed
    have dl:=Num.iV (x:=x) (q:=qn) (n:=tn)
    refine⟨pr,_,rfl,hSr.same s5,rfl,?_⟩
    show jU (cI 0) (jU (cI 1) wI) _ [none,none] _ _
    k_data
    refine⟨True.intro,i3 (hSd.same s5) ?_⟩
    rw [List.length_map,dl]
    refine⟨by show 2<=sizeLine;decide,λp6 hp6=>⟨by show 1<=sizeLine;decide,λp7 hp7=>?_⟩⟩
    have s6:=ak (o:=.tup [V.int (qn:Int),V.int (tn:Int)]) hp6
    have s7:=ak (o:=.lst [V.ref p6]) hp7
    have e6:=s7 _ _ (show upd H5 p6 (.tup [V.int (qn:Int),V.int (tn:Int)]) p6=_ from ag)
    have e7:upd (upd H5 p6 (.tup [V.int (qn:Int),V.int (tn:Int)])) p7 (.lst [V.ref p6]) p7=some (.lst [V.ref p6]):=ag
    have S7:=s6.trans s7
    generalize upd (upd H5 p6 (.tup [V.int (qn:Int),V.int (tn:Int)])) p7 (.lst [V.ref p6])=H7 at *
    have eN1:Num.eN [((qn:Int),(tn:Int))]=qn^tn:=Nat.mul_one _
    have qe:qn^tn<=e:=Nat.le_of_dvd (by omega) dE
    refine⟨p7,[V.ref p6],[((qn:Int),(tn:Int))],rfl,e7,.one (dv.tup e6 ⟨_,_,rfl,rfl,.one rfl⟩),λy hy=>by rw [List.mem_singleton.mp hy];exact⟨q2,by omega,by show (tn:Int)<=10^6;omega⟩,by rw [eN1];omega,λH8 s8=>?_⟩
    rw [eN1]
    have S8:=(s5.trans S7).trans s8
    refine⟨qn,x,tn,pd,rfl,by omega,by omega,Nat.le_trans (Nat.mod_le _ _) (by omega),by omega,hSd.same S8,λH9 s9=>⟨by show 2<=sizeLine;decide,λp9 hp9=>?_⟩⟩
    have s10:=ak (o:=.tup [V.int ((qn^tn:Nat):Int),V.int ((x%qn^tn:Nat):Int)]) hp9
    have S10:=((S7.trans s8).trans s9).trans s10
    refine⟨s5.trans S10,?_⟩
    rw [List.take_add_one,hy,List.map_append]
    exact aQ.append (aQ.same S10 _ hw) (.one (dv.tup ag ⟨_,_,rfl,rfl,.one rfl⟩))
   ·rintro ws H5 p5 ⟨s5,hw⟩ hp5
    rw [show zs.length=ps.length from zl,List.take_length] at hw
    have s6:=ak (o:=.lst ws) hp5
    have hw6:=aQ.same s6 _ hw
    rw [show (ps.map λy=>kB (vW x y))=(ps.map (vW x)).map kB from by rw [List.map_map];rfl] at hw6
    refine⟨p5,ws,ps.map (vW x),rfl,aO.of ag,hw6,λy hy=>?_,by rw [List.length_map];exact pl12,λi j _ _ _ ap=>absurd ap xf,λW N pw H7 _ told _ s7 fw ew=>?_⟩
    ·obtain⟨y',hy',rfl⟩:=List.mem_map.mp hy
     have dE:=jB hy'
     rw [oR.eq] at dE
     have qe:y'.1.toNat^y'.2.toNat<=e:=Nat.le_of_dvd (by omega) dE
     have q0:0<y'.1.toNat^y'.2.toNat:=Nat.pos_of_dvd_of_pos dE (by omega)
     have xm:x%y'.1.toNat^y'.2.toNat<=x:=Nat.mod_le _ _
     show 0<((y'.1.toNat^y'.2.toNat:Nat):Int)/\((y'.1.toNat^y'.2.toNat:Nat):Int)<=10^18 /\ -(10^80)<=((x%y'.1.toNat^y'.2.toNat:Nat):Int)/\((x%y'.1.toNat^y'.2.toNat:Nat):Int)<=10^80
     generalize x%y'.1.toNat^y'.2.toNat=z1 at *
     generalize y'.1.toNat^y'.2.toNat=z2 at *
     omega
    ·obtain⟨eW,eN⟩:=told.one (AU oR xe)
     subst eW
     subst eN
     refine bC (bG.of ew) Dx ⟨by show 3<=sizeLine;decide,λp8 hp8=>⟨by show 2<=sizeLine;decide,λp9 hp9=>?_⟩⟩
     have s8:=ak (o:=.tup [V.str "is",V.int (e:Int),V.ref l]) hp8
     have s9:=ak (o:=.tup [V.int (x:Int),V.ref p8]) hp9
     have SS:=(((S4.trans s5).trans s6).trans s7).trans (s8.trans s9)
     have S5:=((s5.trans s6).trans s7).trans (s8.trans s9)
     refine q _ _ (post _ ((dR.of s2).trans (b3.trans (dR.of SS))) (kp3.same SS) le3) (dv.tup ag ⟨_,_,rfl,rfl,.one (dv.tup (s9 _ _ ag) ⟨_,_,rfl,rfl,_,_,rfl,rfl,.one (dv.tup (S5 _ _ el) (aQ.same S5 _ hz4))⟩)⟩)
theorem mT {ps:List (Int × Int)} {ds:Nat->PyData} {ts:List Int} (hr:ps.Pairwise λa b=>a.1<b.1) (hl:ts.length=ps.length):∀ n,n<=ps.length->((b9 ps ds ts n).map kp).Pairwise (λa b=>a.1<b.1)/\∀ y∈(b9 ps ds ts n).map kp,∃ i,i<n/\(ps[i]?).map (·.1)=some y.1
 | 0,_=>⟨.nil,λy hy=>by cases hy⟩
 | n+1,h=>by
  obtain⟨r,m⟩:=mT (ds:=ds) hr hl n (by omega)
  have hp:ps[n]?=some (ps[n].1,ps[n].2):=List.getElem?_eq_getElem (by omega)
  have ht:ts[n]?=some ts[n]:=List.getElem?_eq_getElem (by omega)
  rw [fS hp ht,List.map_append]
  by_cases c:0<ts[n]
  ·rw [if_pos c]
   refine⟨List.pairwise_append.mpr ⟨r,List.pairwise_singleton _ _,λa ha b hb=>?_⟩,λy hy=>?_⟩
   ·obtain⟨i,hi,ei⟩:=m a ha
    obtain⟨z,e1,e2⟩:=Option.map_eq_some_iff.mp ei
    rw [List.mem_singleton.mp hb,<- e2]
    have hz:ps[i]=z:=by rw [List.getElem?_eq_getElem (show i<ps.length by omega)] at e1;exact Option.some.inj e1
    have:=List.pairwise_iff_getElem.mp hr i n (by omega) (by omega) hi
    rw [hz] at this
    exact this
   ·rcases List.mem_append.mp hy with z | z
    ·obtain⟨i,hi,e⟩:=m y z
     exact⟨i,by omega,e⟩
    ·rw [List.mem_singleton.mp z]
     exact⟨n,by omega,by rw [hp];rfl⟩
  ·rw [if_neg c,List.map_nil,List.append_nil]
   exact⟨r,λy hy=>let ⟨i,hi,e⟩:=m y hy;⟨i,by omega,e⟩⟩
theorem uW {p a:Int} {e:Nat} {ps:List (Int × Int)} {ds:Nat->PyData} {ts:List Int} (hP:Num.Part (p-1) ps) (to:Num.TO p a ps ts) (o:Num.Ord p a e) (e9:e<=10^9):Num.Part e ((dG ps ds ts).map kp):=by
 have e1:=jF (ds:=ds) to.len to.nn ps.length (Nat.le_refl _)
 rw [List.take_of_length_le (by rw [List.length_zip,List.length_map];omega),to.ord.sx o] at e1
 have hm:∀ y∈(dG ps ds ts).map kp,Num.Pm y.1/\1<=y.2:=λy hy=>by
  obtain⟨z,hz,rfl⟩:=List.mem_map.mp hy
  obtain⟨i,k,h1,h2,h3,_⟩:=iC hz
  exact⟨(hP.ok _ (List.mem_of_getElem? h1)).1,by show 1<=z.2.2;omega⟩
 refine⟨λy hy=>⟨(hm y hy).1,(hm y hy).2,?_⟩,(mT hP.rise to.len ps.length (Nat.le_refl _)).1,?_⟩
 ·have hd:=jB hy
  have e1':Num.eN ((dG ps ds ts).map kp)=e:=e1
  rw [e1'] at hd
  have h1:=Nat.le_of_dvd o.pos hd
  have q2:=(hm y hy).1.two
  have h2:2^y.2.toNat<=y.1.toNat^y.2.toNat:=Nat.pow_le_pow_left (by omega) _
  rcases Nat.lt_or_ge 30 y.2.toNat with z | z
  ·have:=Nat.pow_le_pow_right (show 0<2 by decide) (show 31<=y.2.toNat by omega)
   have h3:(2:Nat)^31<=10^9:=Nat.le_trans this (Nat.le_trans h2 (Nat.le_trans h1 e9))
   exact absurd h3 (by decide)
  ·omega
 ·rw [<- Num.fz _ λy hy=>(hm y hy).1]
  exact congrArg _ e1
def asc:Nat->Nat->Nat
 | _,0=>1
 | lo,n+1=>lo*asc (lo+1) n
theorem qE:∀{ps:List (Int × Int)} {lo:Nat},(∀ y∈ps,(lo:Int)<=y.1/\2<=y.1/\1<=y.2)->ps.Pairwise (λa b=>a.1<b.1)->asc lo ps.length<=Num.eN ps
 | [],_,_,_=>Nat.le_refl _
 | p::r,lo,h,hr=>by
  obtain⟨h1,h2,h3⟩:=h p (List.mem_cons_self ..)
  obtain⟨r1,r2⟩:=List.pairwise_cons.mp hr
  show lo*asc (lo+1) r.length<=p.1.toNat^p.2.toNat*Num.eN r
  refine Nat.mul_le_mul ?_ (qE (λy hy=>?_) r2)
  ·exact Nat.le_trans (show lo<=p.1.toNat by omega) (Nat.le_self_pow (by omega) _)
  ·have:=h y (List.mem_cons_of_mem _ hy)
   have:=r1 y hy
   omega
theorem pB:∀(n:Nat) {m lo:Nat},0<lo->n<=m->asc lo n<=asc lo m
 | 0,m,lo,l0,_=>by
  have:∀(m lo:Nat),0<lo->1<=asc lo m:=by
   intro m
   induction m with
   | zero=>intro _ _;exact Nat.le_refl _
   | succ m ih=>intro lo l0;exact Nat.mul_pos l0 (ih (lo+1) (by omega))
  exact this m lo l0
 | n+1,0,_,_,h=>absurd h (by omega)
 | n+1,m+1,lo,l0,h=>Nat.mul_le_mul_left lo (pB n (by omega) (by omega))
theorem qF {e:Nat} {ps:List (Int × Int)} (h:Num.Part e ps) (e9:e<=10^9):ps.length<=12:=by
 have h1:=qE (lo:=2) (λy hy=>⟨(h.ok y hy).1.two,(h.ok y hy).1.two,(h.ok y hy).2.1⟩) h.rise
 have h2:Num.eN ps=e:=by
  have:=Num.fz ps λy hy=>(h.ok y hy).1
  rw [h.prod] at this
  omega
 rcases Nat.lt_or_ge 12 ps.length with z | z
 ·have h3:asc 2 13<=asc 2 ps.length:=pB 13 (by decide) z
  exact absurd (Nat.le_trans h3 (Nat.le_trans h1 (by rw [h2];exact e9))) (by decide)
 ·exact z
theorem vA {e:Nat} {ps:List (Int × Int)} (h:Num.Part e ps) (e9:e<=10^9) (h6:∀ y∈ps,y.1<=10^6):BX e ps where
 ok:=λy hy=>by
  obtain⟨a,b,c⟩:=h.ok y hy
  exact⟨a,h6 y hy,b,by omega⟩
 ne:=h.rise.imp λz=>by omega
 eq:=by
  have:=Num.fz ps λy hy=>(h.ok y hy).1
  rw [h.prod] at this
  omega
 len:=qF h e9
def D3 (e:Nat) (r:Int):PyData:=.tuple [.none,.tuple [.str "none",.int e,.int r]]
def oV (K:PySem.W.Frag) (C CN CF:Addr):Sp:=λvs H Q E=>∃(v vk:V) (p b a g:Int) (rows:PyData) (ko:Option KH),vs=[v,.int b,.int a,vk]/\dv K H (.tuple [.int p,.int g,rows]) v/\Num.fK p (.tuple [.int p,.int g,rows]) /\ -(10^60)<=b/\b<=10^60 /\ -(10^60)<=a/\a<=10^60/\v7 C ko vk H/\(p∣a∨p∣b->Ds CN H E) /\
 (¬p∣a->¬p∣b->∀ e:Nat,Num.Ord p b e->(e:Int)<p ->
  (¬Num.Al p (a^e) 1->∀ u H',aA H H'->dv K H' (D3 e (a^e%p)) u->Q u H') /\
  (∀ x,x<e->Num.Al p a (b^x)->∀ ps,Num.Part e ps ->
   ((∀ y∈ps,y.1<=10^6)->∀ u H',mC C ko (λk=>jh k p b e x ps) H H'->dv K H' (Eh x e ps) u->Q u H') /\
   (∀ m∈ps.map (·.1),(∀ n∈ps.map (·.1),n<=m)->10^6<m->zh CF "part" (.int m) H E)))
theorem v7.same {ko:Option KH} {v:V} {H H':Hp} (h:v7 C ko v H) (s:aA H H'):v7 C ko v H':=by
 cases ko with
 | none=>exact h
 | some k=>exact⟨h.1,h.2.1.same s,h.2.2⟩
theorem mC.pre {ko:Option KH} {f:KH->KH} {H H1 H':Hp} (s:aA H H1) (h:mC C ko f H1 H'):mC C ko f H H':=by
 cases ko with
 | none=>exact s.trans h
 | some k=>exact⟨(dR.of s).trans h.1,h.2⟩
theorem zh.pre {CN:Addr} {f:Str} {v:V} {H H1:Hp} {E:XK} (s:aA H H1) (h:zh CN f v H E):zh CN f v H1 E:=λx dx H' s' fr e=>h x dx H' (s.trans s') (s.free fr) e
theorem qS:aw ["paper","b","a","kept","p","e","parts","rest"] ["paper","b","a","kept"] (aj (top 69)):=cq
theorem xQ {CN CF C0:Addr} (D:nJ K mg "which" (top 69) #[.none]) (c_order:Callee P w K mg base (dh P w) 14 "order" ["paper","a"] (um K CN)) (c_power:Callee P w K mg base (dh P w) 4 "power" ["n","a","e"] (cG C0)) (c_refuse_far:Callee P w K mg base (dh P w) 3 "refuse_far" ["primes"] (By K CF)) (c_primes_in:Callee P w K mg base aG 1 "primes_in" ["parts"] (dA K)) (c_sought:Callee P w K mg base aG 6 "sought" ["p","b","a","order_paper","kept"] (qZ K C)) (x_Nought:rF K mg "Nought" CN):kF P w K mg base (dh P w) 15 "which" ["paper","b","a","kept"] [.none] (oV K C CN CF):=by
 refine pL D (λ_ _ _ _ _ _ _ us hl=>match us,(show us.length=4 by simpa using hl) with | [_,_,_,_],_=>⟨_,rfl,rfl⟩) (λ_ _ _ _ _ _ _ us hl=>match us,(show us.length=3 by simpa using hl) with | [_,_,_],_=>⟨_,rfl,rfl⟩) qS (λvs H Q E h=>by obtain⟨_,_,_,_,_,_,_,_,rfl,_⟩:=h;rfl) (λf cdv A outer s H vs Q E hr h=>?_)
 obtain⟨v,vk,p,b,a,g,rows,ko,rfl,hd,hp,b0,b1,a0,a1,pre,qN,q⟩:=h
 obtain⟨pm,p9⟩:=ie hp
 have p2:=pm.two
 have nd:=qS.nd
 refine⟨_,(ae (bh (i:=4) nd (aJ aS (pv 0) ah (λ_ _=>rfl))) (ae (aN (az a9 (ao aF (pv 2) (pv 4)) ah (ay _)) (ai (cz (lH x_Nought rfl))) aD) (ae (cR (aV c_order hr lF (aa (pv 0) (aa (pv 1) af))) (bT (n:=2) rfl (ax (aq (i:=5) nd rfl (Or.inl rfl) (.inr rfl)) (ax (aq (i:=6) nd rfl (Or.inl rfl) (.inr rfl)) aR)))) (ae (bh (i:=7) nd (aV c_power hr aE (aa (pv 4) (aa (pv 2) (aa (pv 5) af))))) (ae (aN (az ic (pv 7) ah (ay _)) (gK.kA (ai (av (aI (aa fY (aa (aI (aa bL (aa (pv 5) (aa (pv 7) af)))) af)))))) aD) (ae (eK (aV c_refuse_far hr lF (aa (aV c_primes_in hr aB (aa (pv 6) af)) af))) (gK.kA (ai (av (aV c_sought hr aB (aa (pv 4) (aa (pv 1) (aa (pv 2) (aa (aI (aa (pv 5) (aa (pv 6) af))) (aa (pv 3) af))))))))))))))),?_⟩
 show aY _ _ _ [some v,some (.int b),some (.int a),some vk,none,none,none,none] H
 obtain⟨pp,y1,y2,vr,rfl,tS,e0,eg,dr⟩:=lg hd
 cases e0
 cases eg
 k_data
 refine bC tS iQ ⟨p,rfl,by omega,aK (λc=>?_) (λc=>?_)⟩
 ·exact λx hx=>dU x_Nought.cls (aA.refl _) hx (qN (.inl (Int.dvd_of_emod_eq_zero c)))
 have na:¬p∣a:=λz=>c (Int.emod_eq_zero_of_dvd z)
 refine⟨.ref pp,p,b,g,rows,rfl,hd,hp,b0,b1,λz=>qN (.inr z),λnb r u H1 hr1 s1 hu=>?_⟩
 obtain⟨e',ps,ds,ts,er,hP,hl29,hds,e1,e2,o,to,rfl⟩:=hr1
 obtain⟨e,rfl⟩:∃ n:Nat,e'=n:=⟨e'.toNat,by omega⟩
 rw [Int.toNat_natCast] at o
 have e9:e<=10^9:=by omega
 obtain⟨q1,q2⟩:=q na nb e o e2
 obtain⟨po,ys,rfl,hSo,ve,r1,rfl,h1,vrr,r2,rfl,hvr,z⟩:=hu
 cases z
 cases h1
 have hpart:=uW (ds:=ds) hP to o e9
 have hG:zj ((dG ps ds ts).map (iE p b e)) ((dG ps ds ts).map kp):=by
  refine⟨by rw [List.length_map,List.length_map],λi row hrow=>?_⟩
  rw [List.getElem?_map] at hrow
  obtain⟨y,hy,rfl⟩:=Option.map_eq_some_iff.mp hrow
  obtain⟨j,k,h1,h2,h3,h4⟩:=iC (List.mem_of_getElem? hy)
  obtain⟨g',rr,eg⟩:=(hds j _ _ h1).head
  exact⟨kp y,by rw [List.getElem?_map,hy];rfl,_,_,by unfold iE;rw [h4,eg];rfl⟩
 have hQ:DE ((dG ps ds ts).map (iE p b e)) (((dG ps ds ts).map kp).map (·.1)):=by
  refine⟨by rw [List.length_map,List.length_map,List.length_map],λi row hrow=>?_⟩
  obtain⟨y,hy,d1,d2,ed⟩:=hG.2 i row hrow
  exact⟨y.1,by rw [List.getElem?_map,hy];rfl,d1,_,ed⟩
 generalize (dG ps ds ts).map kp=pl at *
 generalize (dG ps ds ts).map (iE p b e)=rws at *
 have rl:=hG.1
 have pl12:=qF hpart e9
 refine⟨po,_,rfl,hSo,rfl,?_⟩
 k_data
 refine⟨p,a,_,rfl,by omega,by omega,λ_ H2 s2=>?_,λz=>absurd z (by omega)⟩
 rw [Int.toNat_natCast]
 have S2:=s1.trans s2
 refine⟨rfl,aK (λc1=>?_) (λc1=>?_)⟩
 ·refine⟨by show 3<=sizeLine;decide,λp3 hp3=>⟨by show 2<=sizeLine;decide,λp4 hp4=>?_⟩⟩
  have s3:=ak (o:=.tup [V.str "none",V.int (e:Int),V.int (a^e%p)]) hp3
  have s4:=ak (o:=.tup [V.non,V.ref p3]) hp4
  exact q1 (λz=>c1 (congrArg V.int ((cQ p2).mpr z))) _ _ (S2.trans (s3.trans s4)) (dv.tup ag ⟨_,_,rfl,rfl,.one (dv.tup (s4 _ _ ag) ⟨_,_,rfl,rfl,_,_,rfl,rfl,.one rfl⟩)⟩)
 ·have al1:Num.Al p (a^e) 1:=(cQ p2).mp (V.int.inj (Classical.not_not.mp c1))
  obtain⟨x,xe,alx⟩:=Num.i7 pm o al1
  obtain⟨q3,q4⟩:=q2 x xe alx pl hpart
  refine⟨vrr,rws,_,rfl,dv.same s2 _ hvr,hQ,by omega,λpm' H3 s3 f3 e3=>?_⟩
  have S3:=S2.trans s3
  refine⟨pm',pl.map (·.1),rfl,aO.of e3,by rw [List.length_map];omega,λall6=>⟨by show 2<=sizeLine;decide,λp5 hp5=>?_⟩,λm hm hM m6=>zh.pre S3 (q4 m hm hM m6)⟩
  have s5:=ak (o:=.tup [V.int (e:Int),vrr]) hp5
  have h6:∀ y∈pl,y.1<=10^6:=λy hy=>all6 _ (List.mem_map.mpr ⟨y,hy,rfl⟩)
  refine⟨p,b,a,e,x,.ref p5,vk,rws,pl,ko,rfl,dv.tup ag ⟨_,_,rfl,rfl,.one (dv.same (s2.trans (s3.trans s5)) _ hvr)⟩,hG,vA hpart e9 h6,pre.same (S3.trans s5),p2,by omega,a0,a1,o,by omega,xe,alx,λu H' post hu=>q3 h6 u H' (post.pre (S3.trans s5)) hu⟩
end
end K
namespace K
open PySem PySem.Spec PyProof.Rows L2
section
variable {P:Program} {w:World} {K:PySem.W.Frag} {mg:Str->Option Value} {base:Heap}
theorem Ec {n d:Int} (hn:1<n) (d2:2<=d) (no:∀ k,2<=k->k<d->¬k∣n) (h:n<d*d):Num.Pm n:=⟨by omega,λe e2 en hd=>by
 rcases (by omega:e<d∨d<=e) with z | z
 ·exact no e e2 z hd
 ·obtain⟨c,hc⟩:=hd
  have c2:2<=c:=by
   rcases (by omega:c<=0∨c=1∨2<=c) with y | y | y
   ·have:=Int.mul_nonpos_of_nonneg_of_nonpos (show 0<=e by omega) y
    omega
   ·rw [y] at hc
    omega
   ·exact y
  have cd:c<d:=by
   rcases (by omega:c<d∨d<=c) with y | y
   ·exact y
   ·have:=Int.mul_le_mul z y (by omega) (by omega)
    omega
  exact no c c2 cd ⟨e,by rw [hc,Int.mul_comm]⟩⟩
def nA:Sp:=λvs H Q _=>∃ n:Int,vs=[.int n]/\0<=n/\n<=10^60/\∀ b:Bool,(b=true↔Num.Pm n)->Q (.bl b) H
theorem fh:aw ["_law_n","_law_d"] ["_law_n"] (aj (top 80)):=cq
theorem vc (D:ar K mg "_law_is_prime" (top 80)) (n_int:mg "int"=none):Callee P w K mg base aG 1 "_law_is_prime" ["_law_n"] nA:=by
 refine cO D fh (λf cdv A outer s H vs Q E hr h=>?_)
 obtain⟨n,rfl,n0,hn,q⟩:=h
 have nd:=fh.nd
 refine⟨_,(ae (bh (i:=1) nd ah) (ae (bj PassesOwn.never (az qz (ao aH (pv 1) (pv 1)) (pv 0) (ay _)) (ae (aN (az a9 (ao aF (pv 0) (pv 1)) ah (ay _)) (ai (av cZ)) aD) (ai (bh (i:=1) nd (ao bE (ao bE (pv 1) ah) (cF uF rfl n_int L2.boot_int (aa (bA cJ (pv 1) ah (ay _)) af))))))) (ai (av (bA cJ (pv 0) ah (ay _)))))),?_⟩
 show aY _ _ _ [some (.int n),none] H
 k_data
 refine bo (α:=Int) (λx=>[some (.int n),some (.int x)]) (λx H1=>H1=H/\2<=x/\x<=10^60+3/\(x=2∨x%2=1)/\∀ k,2<=k->k<x->¬k∣n) (λx=>(n+3-x).toNat) 2 rfl ⟨rfl,by decide,by decide,.inl rfl,λk k1 (k2:k<2) hk=>by omega⟩ ?_
 rintro x H1 ⟨rfl,x2,x9,xo,no⟩
 replace x2:2<=x:=x2
 replace x9:x<=10^60+3:=x9
 replace xo:x=2∨x%2=1:=xo
 replace no:∀ k,2<=k->k<x->¬k∣n:=no
 k_data
 refine⟨Bd.of (by omega) (by omega),Bd.of (by omega) (by omega),aK (λc=>?_) (λc=>?_)⟩
 ·have xx:x*2<=x*x:=Int.mul_le_mul_of_nonneg_left x2 (by omega)
  refine⟨_,λ_ _ z=>z,by omega,aK (λc1=>?_) (λc1=>?_)⟩
  ·refine q false ⟨λz=>(by cases z),λz=>absurd (Int.dvd_of_emod_eq_zero c1) (z.no x x2 (by omega))⟩
  ·have nx:¬x∣n:=λz=>c1 (Int.emod_eq_zero_of_dvd z)
   rcases xo with rfl | xo
   ·refine⟨3,rfl,rfl,by decide,by decide,.inr (by decide),λk k2 (k3:k<3)=>?_,by omega⟩
    rw [show k=2 by omega]
    exact nx
   ·have x3:2<x:=by omega
    rw [if_pos x3]
    refine⟨x+2,by rw [Int.add_assoc];rfl,rfl,by omega,by omega,.inr (by omega),λk k2 k3=>?_,by omega⟩
    rcases (by omega:k<x∨k=x∨k=x+1) with z | z | z
    ·exact no k k2 z
    ·rw [z];exact nx
    ·intro hk
     exact no 2 (by decide) x3 (Int.dvd_trans (show (2:Int)∣k by omega) hk)
 ·refine q _ ?_
  rw [decide_eq_true_iff]
  exact⟨λz=>Ec z x2 no (by omega),λz=>by have:=z.two;omega⟩
def qX:Sp:=λvs H Q _=>∃ n p0:Int,vs=[.int n]/\0<=n/\n<=p0/\Num.Pm p0/\p0<=10^60/\∀ r,Num.Pm r->n<=r->r<=p0->(∀ k,n<=k->k<r->¬Num.Pm k)->Q (.int r) H
theorem ip:aw ["_law_n"] ["_law_n"] (aj (top 81)):=cq
theorem vh (D:ar K mg "_law_prime" (top 81)) (c__law_is_prime:Callee P w K mg base aG 1 "_law_is_prime" ["_law_n"] nA):Callee P w K mg base aG 2 "_law_prime" ["_law_n"] qX:=by
 refine cO D ip (λf cdv A outer s H vs Q E hr h=>?_)
 obtain⟨n,p0,rfl,n0,np,pm,p9,q⟩:=h
 have nd:=ip.nd
 refine⟨_,(ae (bj PassesOwn.never (dH (aT (aV c__law_is_prime hr aB (aa (pv 0) af)) (λ_=>rfl))) (ai (bh (i:=0) nd (ao bE (pv 0) ah)))) (ai (av (pv 0)))),?_⟩
 show aY _ _ _ [some (.int n)] H
 k_data
 refine bo (α:=Int) (λx=>[some (.int x)]) (λx H1=>H1=H/\n<=x/\x<=p0/\∀ k,n<=k->k<x->¬Num.Pm k) (λx=>(p0-x).toNat) n rfl ⟨rfl,Int.le_refl _,np,λk k1 k2=>by omega⟩ ?_
 rintro x H1 ⟨rfl,x1,x2,no⟩
 replace x1:n<=x:=x1
 replace x2:x<=p0:=x2
 replace no:∀ k,n<=k->k<x->¬Num.Pm k:=no
 k_data
 refine⟨x,rfl,by omega,by omega,λb hb=>⟨b,aM.mpr rfl,?_⟩⟩
 cases b with
 | true=>exact q x (hb.mp rfl) x1 x2 no
 | false =>
  have nx:¬Num.Pm x:=λz=>by cases hb.mpr z
  have ne:x≠p0:=λz=>nx (z▸pm)
  refine⟨_,λ_ _ z=>z,x+1,rfl,rfl,by omega,by omega,λk k1 k2=>?_,by omega⟩
  rcases (by omega:k<x∨k=x) with z | z
  ·exact no k k1 z
  ·rw [z];exact nx
theorem Tp.more {p:Addr} {n m:Nat} {H:Hp} (h:Tp p n H) (l:n<=m):Tp p m H:=by
 obtain⟨l',i,j,ns,a,b,c,d,e⟩:=h
 exact⟨l',i,j,ns,a,b,c,d,by omega⟩
def yz:Sp:=λvs H Q _=>∃(p:Addr) (m:Int) (n:Nat),vs=[.ref p,.int m]/\Tp p n H/\n<=10^50/\0<m/\∀ r H',0<=r->r<m->Off p H H'->Tp p (n+2) H'->Q (.int r) H'
theorem j5:aw ["_law_tape_here","_law_many"] ["_law_tape_here","_law_many"] (aj (top 84)):=cq
theorem z8 (D:ar K mg "_law_far" (top 84)) (c__law_draw:Callee P w K mg base aG 1 "_law_draw" ["_law_tape_here","_law_many"] iK):Callee P w K mg base aG 2 "_law_far" ["_law_tape_here","_law_many"] yz:=by
 refine cO D j5 (λf cdv A outer s H vs Q E hr h=>?_)
 obtain⟨p,m,n,rfl,tp,n9,m0,q⟩:=h
 have nd:=j5.nd
 refine⟨_,(ai (av (ao aF (ao bE (ao aH (aV c__law_draw hr aB (aa (pv 0) (aa ah af))) ah) (aV c__law_draw hr aB (aa (pv 0) (aa ah af)))) (pv 1)))),?_⟩
 show fN _ _ [some (.ref p),some (.int m)] H
 k_data
 refine⟨p,31623,n,rfl,tp,by omega,by decide,by decide,λr1 H1 r10 r11 o1 t1=>⟨_,rfl,Bd.of (by omega) (by omega),v8 (by decide),p,31623,n+1,rfl,t1,by omega,by decide,by decide,λr2 H2 r20 r21 o2 t2=>⟨_,rfl,m0,?_⟩⟩⟩
 exact q _ _ (Int.emod_nonneg _ (by omega)) (Int.emod_lt_of_pos _ m0) (o1.trans o2) t2
def lW:Sp:=λvs H Q _=>∃ a b:Nat,vs=[.int a,.int b]/\Q (.int (Nat.gcd a b:Nat)) H
theorem gw:aw ["_law_one","_law_other"] ["_law_one","_law_other"] (aj (top 88)):=cq
theorem u9 (D:ar K mg "_law_common" (top 88)):Callee P w K mg base aG 1 "_law_common" ["_law_one","_law_other"] lW:=by
 refine cO D gw (λf cdv A outer s H vs Q E hr h=>?_)
 obtain⟨a,b,rfl,q⟩:=h
 have nd:=gw.nd
 refine⟨_,(ae (bj PassesOwn.never (az cJ (pv 1) ah (ay _)) (ai (oA (i:=0) (j:=1) rfl nd rfl rfl (by decide) rfl rfl (aa (pv 1) (aa (ao aF (pv 0) (pv 1)) af)) rfl))) (ai (av (pv 0)))),?_⟩
 show aY _ _ _ [some (.int (a:Int)),some (.int (b:Int))] H
 k_data
 refine bo (α:=Nat × Nat) (λx=>[some (.int (x.1:Int)),some (.int (x.2:Int))]) (λx H'=>H'=H/\Nat.gcd x.1 x.2=Nat.gcd a b) (λx=>x.2) (a,b) rfl ⟨rfl,rfl⟩ ?_
 rintro⟨x,y⟩ H1 ⟨rfl,hg⟩
 replace hg:Nat.gcd x y=Nat.gcd a b:=hg
 k_data
 refine aK (λc=>?_) (λc=>?_)
 ·have y0:0<y:=by omega
  refine⟨_,λ_ _ z=>z,by omega,(y,x%y),by rw [Int.natCast_emod],rfl,?_,Nat.mod_lt _ y0⟩
  show Nat.gcd y (x%y)=_
  rw [<- hg,Nat.gcd_comm x y,Nat.gcd_rec y x,Nat.gcd_comm]
 ·have y0:y=0:=by omega
  subst y0
  rw [Nat.gcd_zero_right] at hg
  rw [hg]
  exact q
def sL:Sp:=λvs H Q _=>∃(n a:Int) (e:Int),vs=[.int n,.int a,.int e]/\0<n/\n<=10^100 /\ -(10^100)<=a/\a<=10^100/\0<=e/\Q (.int (a^e.toNat%n)) H
theorem ik:aw ["_law_n","_law_a","_law_e","_law_found"] ["_law_n","_law_a","_law_e"] (aj (top 87)):=cq
theorem Ab (D:ar K mg "_law_power" (top 87)):Callee P w K mg base aG 1 "_law_power" ["_law_n","_law_a","_law_e"] sL:=by
 refine cO D ik (λf cdv A outer s H vs Q E hr h=>?_)
 obtain⟨n,a,e,rfl,hn,hn1,a0,a1,he,q⟩:=h
 have nd:=ik.nd
 refine⟨_,(ae (bh (i:=3) nd (ao aF ah (pv 0))) (ae (bj PassesOwn.never (az cJ (pv 2) ah (ay _)) (ae (iG (aN (az a9 (ao aF (pv 2) ah) ah (ay _)) (ai (bh (i:=3) nd (ao aF (ao aH (pv 3) (pv 1)) (pv 0)))) aD)) (ae (bh (i:=1) nd (ao aF (ao aH (pv 1) (pv 1)) (pv 0))) (ai (bh (i:=2) nd (ao aZ (pv 2) ah)))))) (ai (av (pv 3))))),?_⟩
 show aY _ _ _ [some (.int n),some (.int a),some (.int e),none] H
 k_data
 refine⟨hn,?_⟩
 have r0:=λx:Int=>Int.emod_nonneg x (show n≠0 by omega)
 have r1:=λx:Int=>Int.emod_lt_of_pos x hn
 refine bo (α:=Nat × Int × Int) (λx=>[some (.int n),some (.int x.2.2),some (.int (x.1:Int)),some (.int x.2.1)]) (λx H1=>H1=H /\ -(10^100)<=x.2.2/\x.2.2<=10^100/\0<=x.2.1/\x.2.1<n/\x.2.1*x.2.2^x.1%n=a^e.toNat%n) (λx=>x.1) (e.toNat,1%n,a) (by rw [show ((e.toNat:Nat):Int)=e by omega]) ⟨rfl,a0,a1,r0 1,r1 1,?_⟩ ?_
 ·show 1%n*a^e.toNat%n=_
  rw [Pw.Bp,Int.one_mul]
 rintro⟨l,r,b⟩ H1 ⟨rfl,h1,h2,h3,h4,h5⟩
 replace h1:-(10^100)<=b:=h1
 replace h2:b<=10^100:=h2
 replace h3:0<=r:=h3
 replace h4:r<n:=h4
 replace h5:r*b^l%n=a^e.toNat%n:=h5
 k_data
 refine aK (λc=>?_) (λc=>?_)
 ·refine⟨_,λ_ _ z=>z,λσ' H2=>H2=H1/\σ'=[some (.int n),some (.int b),some (.int (l:Int)),some (.int (if l%2=1 then r*b%n else r))],?_,?_⟩
  ·k_data
   refine aK (λc=>?_) (λc=>?_)
   ·exact⟨Bd.of (by omega) (by omega),Bd.of (by omega) (by omega),hn,by rw [if_pos (by omega)]⟩
   ·rw [if_neg (by omega)]
  rintro σ' H2 ⟨rfl,rfl⟩
  k_data
  have z0:0<=(if l%2=1 then r*b%n else r)/\(if l%2=1 then r*b%n else r)<n:=by
   split
   ·exact⟨r0 _,r1 _⟩
   ·exact⟨h3,h4⟩
  have b0:=r0 (b*b)
  have b1:=r1 (b*b)
  refine⟨Bd.of (by omega) (by omega),Bd.of (by omega) (by omega),hn,v8 (by decide),(l/2,(if l%2=1 then r*b%n else r),b*b%n),rfl,(by show (l:Int)/2=((l/2:Nat):Int);omega),rfl,by show -(10^100)<=b*b%n;omega,by show b*b%n<=10^100;omega,z0.1,z0.2,?_,?_⟩
  ·show (if l%2=1 then r*b%n else r)*(b*b%n)^(l/2)%n=_
   rw [Pw.step]
   exact h5
  ·show l/2<l
   omega
 ·have l0:l=0:=by omega
  subst l0
  rw [Int.pow_zero,Int.mul_one,Int.emod_eq_of_lt h3 h4] at h5
  rw [h5]
  exact q
end
end K
namespace L2
open PySem PySem.Spec PyProof.Rows PySem.W
theorem Cu {K:PySem.W.Frag} {mg:Str->Option Value} {h:Heap} {x:Str} {C:Addr} (_:K.In h) (a:mg x=some (.ref C)) (p1:plainGet K C Str.empty=true) (p2:hasDictIn K C=true) (p3:plainOver K C=true) (p4:findIn K (.ref C) "__setattr__"=some (some (.builtin "object.__setattr__"))) (p5:makesIn K C=true) (p6:keepIn K (.ref C)=true):Dv K mg x C:=Cv a p1 p2 p3 p4 p5 p6
end L2
namespace K
open PySem PySem.Spec PyProof.Rows L2
section
variable {P:Program} {w:World} {K:PySem.W.Frag} {mg:Str->Option Value} {base:Heap} {C:Addr}
def mD (C a d:Addr) (H:Hp):Prop:=∃ k:KH,k.a=a/\k.d=d/\bZ C k H/\sR k
theorem mD.dF {a d:Addr} {H H':Hp} (h:mD C a d H) (b:dR a d H H'):∀ a xs,Rd H a (.tup xs)->Rd H' a (.tup xs):=by
 obtain⟨k,rfl,rfl,z,u⟩:=h
 exact z.dF b
theorem mD.keep {a d:Addr} {H H':Hp} (h:mD C a d H) (bt:dR a d H H') {b:Addr} {o:HO} (e:H b=some o) (h1:∀ C dx fs,o≠.ins C dx fs) (h2:∀ kvs,o≠.dT kvs):H' b=some o:=by
 obtain⟨k,rfl,rfl,z,u⟩:=h
 exact z.keep bt e h1 h2
theorem mD.free {a d:Addr} {H H':Hp} {f:Addr} (h:mD C a d H') (b:dR a d H H') (hf:H' f=none):H f=none:=by
 obtain⟨k,rfl,rfl,z,u⟩:=h
 exact k8 (k:=k) z rfl rfl b hf
end
end K
namespace K
open PySem PySem.Spec PyProof.Rows L2
theorem lE:∀{ds:List PyData},(∀ d∈ds,qj d=true)->fC ds=true
 | [],_=>rfl
 | d::ds,h=>by
  rw [fC,h d (List.mem_cons_self ..),lE λe z=>h e (List.mem_cons_of_mem _ z)]
  rfl
theorem tO {n:Int} {d:PyData} (h:Num.fK n d):qj d=true:=by
 induction h with
 | mk n g ps ds h1 h2 h3 h4 h5 h6 ih =>
  simp only [qj,fC,Bool.and_true,Bool.true_and]
  refine lE λr hr=>?_
  obtain⟨i,q,k,h,rfl⟩:=gu hr
  simp only [qj,fC,Bool.and_true]
  exact ih i q k h
section
variable {P:Program} {w:World} {K:PySem.W.Frag} {mg:Str->Option Value} {base:Heap} {C:Addr}
theorem Tp.A8 {p0:Addr} {n:Nat} {H H':Hp} {t:PyData} {v:V} (tp:Tp p0 n H) (of:nK p0 H H') (nl:qj t=true) (x:dv K H t v):dv K H' t v:=by
 refine dv.dF (λa xs z=>?_) t nl x
 rcases z with z | ⟨o,z⟩
 ·exact .inl (of _ _ (tp.ne z (by intro _ z;cases z)) z)
 ·exact .inr ⟨o,of _ _ (tp.ne z (by intro _ z;cases z)) z⟩
end
end K
namespace K
open PySem PySem.Spec PyProof.Rows L2
section
variable {P:Program} {w:World} {K:PySem.W.Frag} {mg:Str->Option Value} {base:Heap}
mutual
def sT:Nat->PyData->Prop
 | 0,_=>False
 | _+1,.none=>True
 | _+1,.bool _=>True
 | _+1,.int _=>True
 | _+1,.str _=>True
 | L+1,.list ds=>ds.length<=10^6/\ue L ds
 | L+1,.tuple ds=>ds.length<=10^6/\ue L ds
 | _+1,_=>False
def ue:Nat->List PyData->Prop
 | _,[]=>True
 | L,d::ds=>sT L d/\ue L ds
end
theorem yu:∀{L:Nat} {ds:List PyData} {i:Nat} {d:PyData},ue L ds->ds[i]?=some d->sT L d
 | L,[],i,d,_,h=>by simp at h
 | L,e::ds,0,d,h,z=>by
  simp only [ue] at h
  cases z
  exact h.1
 | L,e::ds,i+1,d,h,z=>by
  simp only [ue] at h
  exact yu h.2 (by simpa using z)
theorem uf:∀{L:Nat} {ds:List PyData},(∀ d∈ds,sT L d)->ue L ds
 | L,[],_=>by simp only [ue]
 | L,d::ds,h=>by
  simp only [ue]
  exact⟨h d (List.mem_cons_self ..),uf λe z=>h e (List.mem_cons_of_mem _ z)⟩
theorem pA {k:Sd} {H H':Hp} {a:Addr} {xs:List V} (h:kZ k K H a xs) (s:aA H H'):kZ k K H' a xs:=by
 cases k
 ·exact aO.same h s
 ·exact bG.same h s
def gW (K:PySem.W.Frag) (L:Nat):Sp:=λvs H Q _=>∃(u v:V) (d:PyData),vs=[u,v]/\dv K H d u/\dv K H d v/\sT L d/\∀ H',aA H H'->Q (.bl true) H'
theorem fG:aw ["_law_found","_law_due_here"] ["_law_found","_law_due_here"] (aj (top 93)):=cq
theorem vj (D:ar K mg "_law_same" (top 93)):Callee P w K mg base aG 1 "_law_same" ["_law_found","_law_due_here"] (gW K 0):=by
 refine cO D fG (λf cdv A outer s H vs Q E hr h=>?_)
 obtain⟨u,v,d,rfl,hu,hv,hs,q⟩:=h
 simp only [sT] at hs
theorem vm {L:Nat} (D:ar K mg "_law_same" (top 93)) (c__law_same:Callee P w K mg base aG (L+1) "_law_same" ["_law_found","_law_due_here"] (gW K L)) (n_isinstance:mg "isinstance"=none) (n_bool:mg "bool"=none) (n_list:mg "list"=none) (n_tuple:mg "tuple"=none) (n_len:mg "len"=none) (n_zip:mg "zip"=none) (n_all:mg "all"=none):Callee P w K mg base aG (L+2) "_law_same" ["_law_found","_law_due_here"] (gW K (L+1)):=by
 refine cO D fG (λf cdv A outer s H vs Q E hr h=>?_)
 obtain⟨u,v,d,rfl,hu,hv,hs,q⟩:=h
 have nd:=fG.nd
 refine⟨_,(ae (aN (PW.pt (gk (aT (aC aW rfl n_isinstance PyProof.Rows.boot_isinstance (aa (pv 1) (aa (bP (v:=.ty "tuple") rfl n_tuple L2.boot_tuple rfl) af))) (λ_=>rfl)) (fE (aT (aC aW rfl n_isinstance PyProof.Rows.boot_isinstance (aa (pv 1) (aa (bP (v:=.ty "list") rfl n_list L2.boot_list rfl) af))) (λ_=>rfl))))) (ae (aN (PW.pt (gk (az ic (aC aW rfl n_isinstance PyProof.Rows.boot_isinstance (aa (pv 0) (aa (bP (v:=.ty "tuple") rfl n_tuple L2.boot_tuple rfl) af))) (aC aW rfl n_isinstance PyProof.Rows.boot_isinstance (aa (pv 1) (aa (bP (v:=.ty "tuple") rfl n_tuple L2.boot_tuple rfl) af))) (ay _)) (fE (az ic (aC aW rfl n_isinstance PyProof.Rows.boot_isinstance (aa (pv 0) (aa (bP (v:=.ty "list") rfl n_list L2.boot_list rfl) af))) (aC aW rfl n_isinstance PyProof.Rows.boot_isinstance (aa (pv 1) (aa (bP (v:=.ty "list") rfl n_list L2.boot_list rfl) af))) (ay _))))) (ai (av cZ)) aD) (ai (av (bV (bA a9 (aC bp rfl n_len PySem.boot_len (aa (pv 0) af)) (aC bp rfl n_len PySem.boot_len (aa (pv 1) af)) (ay _)) (c5 (aC (fe rfl) rfl n_all L2.boot_all (aa (dc rfl (kG (N':=["_law_one","_law_other"]) (js:=[none,none]) rfl rfl) (tV rfl n_zip (aa (pv 0) (aa (pv 1) af))) (λ_ _ _ _=>(dD K rfl (n:=2) rfl (ax (aq (i:=0) (show List.Nodup [("_law_one":Str),("_law_other":Str)] from by decide +kernel) rfl (Or.inl rfl) (.inr rfl)) (ax (aq (i:=1) (show List.Nodup [("_law_one":Str),("_law_other":Str)] from by decide +kernel) rfl (Or.inl rfl) (.inr rfl)) aR)))) (λ_ _ _ _=>aX) (λ_ _ _ _=>(bf c__law_same (hr.mono (by omega)) rfl aB (aa (pv 0) (aa (pv 1) af))))) af))))))) aD) (ai (av (bV (bA a9 (aC aW rfl n_isinstance PyProof.Rows.boot_isinstance (aa (pv 0) (aa (bP (v:=.ty "bool") rfl n_bool L2.boot_bool rfl) af))) (aC aW rfl n_isinstance PyProof.Rows.boot_isinstance (aa (pv 1) (aa (bP (v:=.ty "bool") rfl n_bool L2.boot_bool rfl) af))) (ay _)) (c5 (bA a9 (pv 0) (pv 1) (ay _))))))),?_⟩
 show aY _ _ _ [some u,some v] H
 have sq:∀(k:Sd) (a b:Addr) (us vs:List V) (ds:List PyData) (H2:Hp),kZ k K H2 a us->kZ k K H2 b vs->aQ K H2 ds us->aQ K H2 ds vs->ue L ds->ds.length<=10^6->(∀ H',aA H2 H'->Q (.bl true) H') ->
   mx (DG k k K a b) [none,none] (nS K 2 (jU (cI 0) (jU (cI 1) wI))) yR (nG (gW K L) [] E0 (uy (vO 0) (uy (vO 1) yQ))) [some (.ref a),some (.ref b)] (λx H1=>C2 K [x] H1 Q) H2:=by
  intro k a b us vs ds H2 ha hb du dw hs hl q
  have ul:=du.length
  have vl:=dw.length
  refine gL (xs:=us) (ys:=vs) (λi zs H3=>aA H2 H3/\zs=(List.replicate i true).map V.bl) ⟨aA.refl _,rfl⟩ (by omega) (Nat.le_trans (by omega) (show 10^6<=sizeLine by decide)) (λi zs H3 hi ⟨z1,z2⟩=>⟨pA ha z1,pA hb z1,by rw [z2,List.length_map,List.length_replicate];exact Nat.le_refl _⟩) ?_ ?_
  ·rintro i x y zs H3 p3 hx hy ⟨s3,rfl⟩ hp3
   obtain⟨d1,e1,v1⟩:=du.get hx
   obtain⟨d2,e2,v2⟩:=dw.get hy
   rw [e1] at e2
   cases e2
   have s4:=ak (o:=.tup [x,y]) hp3
   show nS K 2 _ _ [none,none] _ _
   refine⟨p3,_,rfl,bG.of ag,rfl,?_⟩
   generalize upd H3 p3 _=H4 at *
   k_data
   refine⟨True.intro,x,y,d1,rfl,dv.same (s3.trans s4) _ v1,dv.same (s3.trans s4) _ v2,yu hs e1,λH5 s5=>⟨(s3.trans s4).trans s5,?_⟩⟩
   rw [List.replicate_succ',List.map_append]
   rfl
  ·rintro zs H3 p3 ⟨s3,rfl⟩ hp3
   refine jz (bs:=List.replicate us.length true) (aO.of ag) ?_
   have:(List.replicate us.length true).all id=true:=by
    rw [List.all_eq_true]
    intro b hb
    exact (List.mem_replicate.mp hb).2
   rw [this]
   exact q _ (s3.trans (ak hp3))
 k_data
 cases d with
 | none =>
  cases hu
  cases hv
  refine bM (d:=.none) rfl ⟨false,aM.mpr rfl,?_⟩
  rw [if_neg (by decide)]
  refine cn (d:=.none) rfl ⟨false,aM.mpr rfl,?_⟩
  rw [if_neg (by decide)]
  refine cY (d:=.none) rfl (cY (d:=.none) rfl ⟨rfl,?_⟩)
  rw [if_pos rfl]
  exact⟨rfl,by rw [decide_eq_true rfl];exact q _ (aA.refl _)⟩
 | bool y =>
  cases hu
  cases hv
  refine bM (d:=.bool y) rfl ⟨false,aM.mpr rfl,?_⟩
  rw [if_neg (by decide)]
  refine cn (d:=.bool y) rfl ⟨false,aM.mpr rfl,?_⟩
  rw [if_neg (by decide)]
  refine cY (d:=.bool y) rfl (cY (d:=.bool y) rfl ⟨rfl,?_⟩)
  rw [if_pos rfl]
  exact⟨rfl,by rw [decide_eq_true rfl];exact q _ (aA.refl _)⟩
 | int y =>
  cases hu
  cases hv
  refine bM (d:=.int y) rfl ⟨false,aM.mpr rfl,?_⟩
  rw [if_neg (by decide)]
  refine cn (d:=.int y) rfl ⟨false,aM.mpr rfl,?_⟩
  rw [if_neg (by decide)]
  refine cY (d:=.int y) rfl (cY (d:=.int y) rfl ⟨rfl,?_⟩)
  rw [if_pos rfl]
  exact⟨rfl,by rw [decide_eq_true rfl];exact q _ (aA.refl _)⟩
 | str y =>
  cases hu
  cases hv
  refine bM (d:=.str y) rfl ⟨false,aM.mpr rfl,?_⟩
  rw [if_neg (by decide)]
  refine cn (d:=.str y) rfl ⟨false,aM.mpr rfl,?_⟩
  rw [if_neg (by decide)]
  refine cY (d:=.str y) rfl (cY (d:=.str y) rfl ⟨rfl,?_⟩)
  rw [if_pos rfl]
  exact⟨rfl,by rw [decide_eq_true rfl];exact q _ (aA.refl _)⟩
 | list ds =>
  simp only [sT] at hs
  refine bM hv ⟨false,aM.mpr rfl,?_⟩
  rw [if_neg (by decide)]
  refine cn hv ⟨true,aM.mpr rfl,?_⟩
  rw [if_pos rfl]
  refine bM hu (bM hv ⟨rfl,?_⟩)
  rw [if_neg (by intro z;exact z rfl)]
  refine cn hu (cn hv ⟨rfl,?_⟩)
  rw [if_neg (by intro z;exact z rfl)]
  obtain⟨pa,us,rfl,hSu,du⟩:=hu
  obtain⟨pb,vs,rfl,hSv,dw⟩:=hv
  have ul:=du.length
  have vl:=dw.length
  refine cM hSu (cM hSv ⟨rfl,?_⟩)
  rw [if_pos (by rw [ul,vl])]
  exact⟨pa,rfl,pb,rfl,.l,⟨_,hSu⟩,.l,⟨_,hSv⟩,sq .l pa pb us vs ds H hSu hSv du dw hs.2 hs.1 λH' s'=>q H' s'⟩
 | tuple ds =>
  simp only [sT] at hs
  refine bM hv ⟨true,aM.mpr rfl,?_⟩
  rw [if_pos rfl]
  refine bM hu (bM hv ⟨rfl,?_⟩)
  rw [if_neg (by intro z;exact z rfl)]
  refine cn hu (cn hv ⟨rfl,?_⟩)
  rw [if_neg (by intro z;exact z rfl)]
  obtain⟨pa,us,rfl,hSu,du⟩:=hu
  obtain⟨pb,vs,rfl,hSv,dw⟩:=hv
  have ul:=du.length
  have vl:=dw.length
  refine i3 hSu (i3 hSv ⟨rfl,?_⟩)
  rw [if_pos (by rw [ul,vl])]
  exact⟨pa,rfl,pb,rfl,.t,⟨_,hSu⟩,.t,⟨_,hSv⟩,sq .t pa pb us vs ds H hSu hSv du dw hs.2 hs.1 λH' s'=>q H' s'⟩
 | _=>simp only [sT] at hs
theorem qx (D:ar K mg "_law_same" (top 93)) (n_isinstance:mg "isinstance"=none) (n_bool:mg "bool"=none) (n_list:mg "list"=none) (n_tuple:mg "tuple"=none) (n_len:mg "len"=none) (n_zip:mg "zip"=none) (n_all:mg "all"=none):∀ L:Nat,Callee P w K mg base aG (L+1) "_law_same" ["_law_found","_law_due_here"] (gW K L)
 | 0=>vj D
 | L+1=>vm D (qx D n_isinstance n_bool n_list n_tuple n_len n_zip n_all L) n_isinstance n_bool n_list n_tuple n_len n_zip n_all
def uk:Sp:=λvs H Q _=>∃(p0:Addr) (p:Int) (n:Nat),vs=[.ref p0,.int p]/\Tp p0 n H/\n<=10^40/\2<=p/\p<=10^9/\∀ r H',-(10^60)<=r->r<=10^60->nK p0 H H'->Tp p0 (n+5) H'->Q (.int r) H'
theorem gy:aw ["_law_tape_here","_law_p","_law_a"] ["_law_tape_here","_law_p"] (aj (top 86)):=cq
theorem xC (D:ar K mg "_law_number" (top 86)) (c__law_draw:Callee P w K mg base aG 1 "_law_draw" ["_law_tape_here","_law_many"] iK) (n_int:mg "int"=none):Callee P w K mg base aG 2 "_law_number" ["_law_tape_here","_law_p"] uk:=by
 refine cO D gy (λf cdv A outer s H vs Q E hr h=>?_)
 obtain⟨p0,p,n,rfl,tp,n9,p2,p9,q⟩:=h
 have nd:=gy.nd
 refine⟨_,(ae (bh (i:=2) nd (ao aH (aV c__law_draw hr aB (aa (pv 0) (aa (pv 1) af))) (cF mK rfl n_int L2.boot_int (aa (bA cJ (aV c__law_draw hr aB (aa (pv 0) (aa ah af))) ah (ay _)) af)))) (ai (av (ao bE (pv 2) (ao aH (pv 1) (aJ fA (cf (aa ah (aa ah (aa (ao bE ah (aV c__law_draw hr aB (aa (pv 0) (aa ah af)))) (aa (ao bI (j3 gI ah) (aV c__law_draw hr aB (aa (pv 0) (aa ah af)))) (aa (ao sA ah ah) (aa (j3 gI (ao sA ah ah)) af))))))) (aV c__law_draw hr aB (aa (pv 0) (aa ah af))) (λ_ _=>rfl))))))),?_⟩
 show aY _ _ _ [some (.ref p0),some (.int p),none] H
 k_data
 refine⟨p0,p,n,rfl,tp,by omega,by omega,by omega,λr1 H1 r10 r11 o1 t1=>⟨p0,8,n+1,rfl,t1,by omega,by decide,by decide,λr2 H2 r20 r21 o2 t2=>?_⟩⟩
 refine⟨r2,rfl,.inr ⟨r1,rfl,Bd.of (by omega) (by omega),?_⟩⟩
 generalize hz:(if 0<r2 then (1:Int) else 0)=z
 have z0:0<=z/\z<=1:=by subst hz;split<;>omega
 have rz0:0<=r1*z:=Int.mul_nonneg r10 z0.1
 have rz1:r1*z<=r1*1:=Int.mul_le_mul_of_nonneg_left z0.2 r10
 refine⟨Bd.of (by omega) (by omega),p0,50,n+2,rfl,t2,by omega,by decide,by decide,λx H3 x0 x1 o3 t3=>⟨x,rfl,p0,50,n+3,rfl,t3,by omega,by decide,by decide,λy H4 y0 y1 o4 t4=>⟨y,rfl,by show 6<=sizeLine;decide,λpl hpl=>?_⟩⟩⟩
 have s5:=ak (o:=.lst [V.int 0,V.int 0,V.int (1+x),V.int (-1-y),V.int 10000000000000000000000000000000000000000000000000,V.int (-10000000000000000000000000000000000000000000000000)]) hpl
 have e5:upd H4 pl (.lst [V.int 0,V.int 0,V.int (1+x),V.int (-1-y),V.int 10000000000000000000000000000000000000000000000000,V.int (-10000000000000000000000000000000000000000000000000)]) pl=some (.lst [V.int 0,V.int 0,V.int (1+x),V.int (-1-y),V.int 10000000000000000000000000000000000000000000000000,V.int (-10000000000000000000000000000000000000000000000000)]):=ag
 generalize upd H4 pl _=H5 at *
 have t5:=t4.same s5
 refine⟨p0,6,n+4,rfl,t5,by omega,by decide,by decide,λj H6 j0 j1 o6 t6=>?_⟩
 have e6:=o6.Br _ _ (t5.ne e5 (by intro _ z;cases z)) e5
 refine kL (aO.of e6) j0 j1 λv hv=>?_
 have of:nK p0 H H6:=(((o1.trans o2).trans (o3.trans o4)).Br.trans (.of s5)).trans o6.Br
 have fin:∀ c:Int,-(10^50)<=c->c<=10^50->∃ x_3,V.int c=V.int x_3/\Bd p/\Bd x_3/\Q (V.int (r1*z+p*x_3)) H6:=λc c0 c1=>by
  have h1:p*c<=p*10^50:=Int.mul_le_mul_of_nonneg_left c1 (by omega)
  have h2:p * -(10^50)<=p*c:=Int.mul_le_mul_of_nonneg_left c0 (by omega)
  exact⟨c,rfl,Bd.of (by omega) (by omega),Bd.of (by omega) (by omega),q _ _ (by omega) (by omega) of t6⟩
 simp only [List.mem_cons,List.not_mem_nil,or_false] at hv
 rcases hv with rfl | rfl | rfl | rfl | rfl | rfl
 ·exact fin _ (by omega) (by omega)
 ·exact fin _ (by omega) (by omega)
 ·exact fin _ (by omega) (by omega)
 ·exact fin _ (by omega) (by omega)
 ·exact fin _ (by omega) (by omega)
 ·exact fin _ (by omega) (by omega)
theorem Ax {a d L:Int} (hd:0<d) (h0:-L<=a) (h1:a<=L):-L<=a/d/\a/d<=L:=by
 have L0:0<=L:=by omega
 have h2:L*1<=L*d:=Int.mul_le_mul_of_nonneg_left (show 1<=d by omega) L0
 refine⟨Int.le_ediv_of_mul_le hd (by rw [Int.neg_mul];omega),Int.ediv_le_of_le_mul hd (by omega)⟩
def Bz (K:PySem.W.Frag):Sp:=λvs H Q _=>∃(a:Addr) (ns:List Int),vs=[.ref a]/\aO K H a (ns.map V.int)/\ns.length<=63/\∀ H',Q (.bl true) H'
def nB (K:PySem.W.Frag) (C:Addr):Sp:=λvs H Q E=>∃(v:V) (p d g:Int) (rows:PyData),vs=[v,.int d]/\dv K H (.tuple [.int p,.int g,rows]) v/\Num.fK p (.tuple [.int p,.int g,rows]) /\ -(10^60)<=d/\d<=10^60/\((d<1∨(p-1)%d≠0)->Ds C H E) /\
 (1<=d->(p-1)%d=0->∀ H',aA H H'->Q (.int (g^((p-1)/d).toNat%p)) H')
theorem kg:aw ["paper","d","p","full","parts"] ["paper","d"] (aj (top 58)):=cq
theorem sk {C C':Addr} (D:ar K mg "of_order" (top 58)) (c_power:Callee P w K mg base (dh P w) 4 "power" ["n","a","e"] (cG C')) (x_NoOrder:rF K mg "NoOrder" C):Callee P w K mg base (dh P w) 5 "of_order" ["paper","d"] (nB K C):=by
 refine cX D kg (λf cdv A outer s H vs Q E hr h=>?_)
 obtain⟨v,p,d,g,rows,rfl,hd,hp,d0,d1,q1,q2⟩:=h
 obtain⟨pm,p9⟩:=ie hp
 have p2:=pm.two
 have nd:=kg.nd
 refine⟨_,(ae (cR (pv 0) (bT (n:=3) rfl (ax (aq (i:=2) nd rfl (Or.inl rfl) (.inr rfl)) (ax (aq (i:=3) nd rfl (Or.inl rfl) (.inr rfl)) (ax (aq (i:=4) nd rfl (Or.inl rfl) (.inr rfl)) aR))))) (ae (aN (PW.pt (gk (az dJ (pv 1) ah (ay _)) (fE (az ic (ao aF (ao bI (pv 2) ah) (pv 1)) ah (ay _))))) (ai (cz (lH x_NoOrder rfl))) aD) (gK.kA (ai (av (aV c_power hr aE (aa (pv 2) (aa (pv 3) (aa (ao aZ (ao bI (pv 2) ah) (pv 1)) af))))))))),?_⟩
 show aY _ _ _ [some v,some (.int d),none,none,none] H
 obtain⟨pp,y1,y2,vr,rfl,tS,e0,eg,dr⟩:=lg hd
 cases e0
 cases eg
 k_data
 refine⟨pp,_,rfl,tS,rfl,?_⟩
 k_data
 refine aK (λc=>?_) (λc=>⟨by omega,aK (λc2=>?_) (λc2=>?_)⟩)
 ·exact λx hx=>dU x_NoOrder.cls (aA.refl _) hx (q1 (.inl c))
 ·exact λx hx=>dU x_NoOrder.cls (aA.refl _) hx (q1 (.inr c2))
 ·exact⟨by omega,Bd.of (by omega) (by omega),p,g,(p-1)/d,rfl,by omega,by omega,λ_ H1 s1=>q2 (by omega) (by simpa using c2) H1 s1,λz=>absurd z (by have:=Int.ediv_nonneg (show 0<=p-1 by omega) (show 0<=d by omega);omega)⟩
def Dg (p k d:Int):Prop:=∃ u v,Gcd.BN k (p-1) d u v
theorem Dg.pos {p k d:Int} (h:Dg p k d) (k0:0<k):0<d:=by
 obtain⟨u,v,B⟩:=h
 rcases Int.lt_or_eq_of_le B.g0 with z | z
 ·exact z
 ·have:=B.da;rw [<- z] at this;have:=Int.zero_dvd.mp this;omega
theorem Dg.one {p k d d':Int} (h:Dg p k d) (h':Dg p k d'):d=d':=by
 obtain⟨u,v,B⟩:=h
 obtain⟨u',v',B'⟩:=h'
 have l1:d∣d':=by rw [<- B'.lin];exact Int.dvd_add (Int.dvd_mul_of_dvd_right B.da) (Int.dvd_mul_of_dvd_right B.db)
 have l2:d'∣d:=by rw [<- B.lin];exact Int.dvd_add (Int.dvd_mul_of_dvd_right B'.da) (Int.dvd_mul_of_dvd_right B'.db)
 exact Int.dvd_antisymm B.g0 B'.g0 l1 l2
def nt:Sp:=λvs H Q _=>∃(p k a:Int),vs=[.int p,.int k,.int a]/\0<p/\p<=10^100/\0<k/\k<=10^100/\(p∣a->Q (.int 1) H)/\(¬p∣a->∀ d H',Dg p k d->aA H H'->Q (.int d) H')
theorem eR:aw ["p","k","a"] ["p","k","a"] (aj (top 35)):=cq
theorem CA (D:ar K mg "how_many_roots" (top 35)) (c_divisor:Callee P w K mg base aG 1 "divisor" ["a","b"] dY):Callee P w K mg base aG 2 "how_many_roots" ["p","k","a"] nt:=by
 refine cO D eR (λf cdv A outer s H vs Q E hr h=>?_)
 obtain⟨p,k,a,rfl,p0,p1,k0,k1,q1,q2⟩:=h
 have nd:=eR.nd
 refine⟨_,(ai (av (eA (az a9 (ao aF (pv 2) (pv 0)) ah (ay _)) ah (aJ aS (aV c_divisor hr aB (aa (pv 1) (aa (ao bI (pv 0) ah) af))) ah (λ_ _=>rfl))))),?_⟩
 show fN _ _ [some (.int p),some (.int k),some (.int a)] H
 k_data
 refine⟨p0,aK (λc=>q1 (Int.dvd_of_emod_eq_zero c)) (λc=>⟨k,p-1,rfl,⟨by omega,by omega⟩,⟨by omega,by omega⟩,λg u v t H' B s' e=>bC (bG.of e) iQ (q2 (λz=>c (Int.emod_eq_zero_of_dvd z)) g H' ⟨u,v,B⟩ s')⟩)⟩
def jY (e r:Int):PyData:=.tuple [.str "none",.int e,.int r]
def sM (K:PySem.W.Frag):Sp:=λvs H Q _=>∃(p k a:Int),vs=[.int p,.int k,.int a]/\Num.Pm p/\p<=10^100/\0<k/\k<=10^100/\(p∣a->Q .non H) /\
 (¬p∣a->∀ d,Dg p k d->(Num.Al p (a^((p-1)/d).toNat) 1->∀ H',aA H H'->Q .non H')/\(¬Num.Al p (a^((p-1)/d).toNat) 1->∀ u H',aA H H'->dv K H' (jY ((p-1)/d) (a^((p-1)/d).toNat%p)) u->Q u H'))
theorem iA:aw ["p","k","a","e","rest"] ["p","k","a"] (aj (top 36)):=cq
theorem Ad {C:Addr} (D:ar K mg "shown_none" (top 36)) (c_how_many_roots:Callee P w K mg base aG 2 "how_many_roots" ["p","k","a"] nt) (c_power:Callee P w K mg base (dh P w) 4 "power" ["n","a","e"] (cG C)):Callee P w K mg base aG 5 "shown_none" ["p","k","a"] (sM K):=by
 refine cO D iA (λf cdv A outer s H vs Q E hr h=>?_)
 obtain⟨p,k,a,rfl,pm,p1,k0,k1,q1,q2⟩:=h
 have p2:=pm.two
 have nd:=iA.nd
 refine⟨_,(ae (aN (az a9 (ao aF (pv 2) (pv 0)) ah (ay _)) (ai (av fY)) aD) (ae (bh (i:=3) nd (ao aZ (ao bI (pv 0) ah) (aV c_how_many_roots hr aB (aa (pv 0) (aa (pv 1) (aa (pv 2) af)))))) (ae (bh (i:=4) nd (aV c_power hr aE (aa (pv 0) (aa (pv 2) (aa (pv 3) af))))) (ai (av (eA (az a9 (pv 4) ah (ay _)) fY (aI (aa bL (aa (pv 3) (aa (pv 4) af)))))))))),?_⟩
 show aY _ _ _ [some (.int p),some (.int k),some (.int a),none,none] H
 k_data
 refine⟨by omega,aK (λc=>q1 (Int.dvd_of_emod_eq_zero c)) (λc=>?_)⟩
 have na:¬p∣a:=λz=>c (Int.emod_eq_zero_of_dvd z)
 refine⟨p,k,a,rfl,by omega,p1,k0,k1,λz=>absurd z na,λ_ d H1 D s1=>?_⟩
 have d0:=D.pos k0
 have hd1:d<=p-1:=by obtain⟨u,v,B⟩:=id D;exact Int.le_of_dvd (by omega) B.db
 have e0:=Int.ediv_nonneg (show 0<=p-1 by omega) (show 0<=d by omega)
 obtain⟨q3,q4⟩:=q2 na d D
 refine⟨d,rfl,d0,Bd.of (by omega) (by omega),p,a,(p-1)/d,rfl,by omega,by omega,λ_ H2 s2=>⟨rfl,aK (λc2=>?_) (λc2=>⟨by show 3<=sizeLine;decide,λt ht=>?_⟩)⟩,λz=>absurd z (by omega)⟩
 ·have c3:=V.int.inj c2
  exact q3 (Num.Al.iff.mpr (by rw [c3,Int.emod_eq_of_lt (by decide) (by omega)])) H2 (s1.trans s2)
 ·have s3:=ak (o:=.tup [V.str "none",V.int ((p-1)/d),V.int (a^((p-1)/d).toNat%p)]) ht
  exact q4 (λz=>c2 (by rw [Num.Al.iff.mp z,Int.emod_eq_of_lt (by decide) (by omega)])) _ _ ((s1.trans s2).trans s3) ⟨t,_,rfl,bG.of ag,_,_,rfl,rfl,_,_,rfl,rfl,_,_,rfl,rfl,rfl⟩
def rj:Sp:=λvs H Q _=>∃(p r t m:Int),vs=[.int p,.int r,.int t,.int m]/\0<p/\p<=10^100/\0<=r/\r<p/\0<=t/\t<p/\0<=m/\m<=10^6/\∀ l H',aA H H'->H l=none->H' l=some (.lst (((List.range m.toNat).map λi=>r*t^i%p).map V.int))->Q (.ref l) H'
theorem ir:aw ["p","root","turn","many","found","number","step"] ["p","root","turn","many"] (aj (top 77)):=cq
theorem vw (D:ar K mg "all_turned" (top 77)) (n_range:mg "range"=none):Callee P w K mg base aG 1 "all_turned" ["p","root","turn","many"] rj:=by
 refine cO D ir (λf cdv A outer s H vs Q E hr h=>?_)
 obtain⟨p,r,t,m,rfl,p0,p1,r0,r1,t0,t1,m0,m1,q⟩:=h
 have nd:=ir.nd
 refine⟨_,(ae (bh (i:=4) nd (cf af)) (ae (bh (i:=5) nd (pv 1)) (ae (cS PassesOwn.never rfl (dX rfl n_range (aa (pv 3) af)) (aq (i:=6) nd rfl (Or.inl rfl) (.inr rfl)) (ae (eK (tP PySem.F.plainAttrs_list PySem.F.slot_list_append PySem.F.type_list_append jI (pv 4) (aa (pv 5) af))) (ai (bh (i:=5) nd (ao aF (ao aH (pv 5) (pv 2)) (pv 0)))))) (ai (av (pv 4)))))),?_⟩
 show aY _ _ _ [some (.int p),some (.int r),some (.int t),some (.int m),none,none,none] H
 k_data
 refine⟨by decide,λl hl=>?_⟩
 refine⟨by omega,by omega,?_⟩
 refine eh (λi σ' H'=>(∃ o6,σ'=[some (.int p),some (.int r),some (.int t),some (.int m),some (.ref l),some (.int (r*t^i%p)),o6])/\H'=upd H l (.lst (((List.range i).map λi=>r*t^i%p).map V.int))) ⟨⟨_,by rw [Int.pow_zero,Int.mul_one,Int.emod_eq_of_lt r0 r1]⟩,rfl⟩ ?_ ?_
 ·rintro i σ' H' hi ⟨⟨o6,rfl⟩,rfl⟩
  have hi6:i<10^6:=by omega
  k_data
  refine⟨.inl ⟨rfl,_,aO.of ag⟩,zz ag (by rw [List.length_map,List.length_range];exact Nat.lt_of_lt_of_le hi6 (by decide)) ?_⟩
  have m0:=Int.emod_nonneg (r*t^i) (show p≠0 by omega)
  have m1:=Int.emod_lt_of_pos (r*t^i) p0
  refine⟨Bd.of (by omega) (by omega),Bd.of (by omega) (by omega),p0,?_,?_⟩
  ·rw [Num.Al.iff.mp ((Num.Al.rest p (r*t^i)).mul (Num.Al.refl p t)),Int.mul_assoc,<- Int.pow_succ]
  ·rw [uC,List.range_succ,List.map_append (f:=λi=>r*t^i%p)];rfl
 ·rintro σ' H' ⟨⟨o6,rfl⟩,rfl⟩
  k_data
  exact q l _ (ak hl) hl ag
end
end K
namespace K
open PySem PySem.Spec PyProof.Rows L2
section
variable {P:Program} {w:World} {K:PySem.W.Frag} {mg:Str->Option Value} {base:Heap} {C:Addr}
theorem sU {C:Addr} {H:Hp} {Q:VK} {E:XK} {p a z:Int} (pm:Num.Pm p) (p9:p<=10^9) (na:¬p∣a) (q:∀ r H',0<=r->r<p->Num.Al p r (Num.Pz (p-1) a z)->aA H H'->Q (.int r) H'):cG C [.int p,.int a,.int z] H Q E:=by
 have p2:=pm.two
 obtain⟨n0,hf⟩:=Num.iW pm na
 refine⟨p,a,z,rfl,by omega,by omega,λz0 H' s=>q _ _ (Int.emod_nonneg _ (by omega)) (Int.emod_lt_of_pos _ (by omega)) ((Num.Al.rest _ _).trans (Num.fF n0 hf z0).symm) s,λz0 g gd=>⟨λg1 b H' b0 b1 hb s=>?_,λg1=>?_⟩⟩
 ·exact q _ _ (Int.emod_nonneg _ (by omega)) (Int.emod_lt_of_pos _ (by omega)) ((Num.Al.rest _ _).trans (Num.CZ n0 hf (pm.co na) z0 hb)) s
 ·have:=Int.le_of_dvd (by omega) gd.dn
  rcases Int.lt_or_eq_of_le this with c | c
  ·exact absurd gd.dn (pm.no g (by omega) c)
  ·exact absurd (c▸gd.da) na
theorem sS {C:Addr} {H:Hp} {Q:VK} {E:XK} {n a:Int} (n0:0<n) (n9:n<=10^100) (co:Num.Co a n) (q:∀ r H',0<=r->r<n->n∣r*a-1->aA H H'->Q (.int r) H'):dZ C [.int n,.int a] H Q E:=by
 refine⟨n,a,rfl,n0,by omega,λg gd=>⟨λ_ r H' r0 r1 hr s=>q r H' r0 r1 hr s,λg1=>?_⟩⟩
 obtain⟨u,v,e⟩:=co
 have:g∣1:=by rw [<- e];exact Int.dvd_add (Int.dvd_mul_of_dvd_right gd.da) (Int.dvd_mul_of_dvd_right gd.dn)
 have:=Int.le_of_dvd (by decide) this
 omega
theorem zC {CN CF:Addr} {H:Hp} {Q:VK} {E:XK} {v:V} {p g a b:Int} {rows:PyData} {e z:Nat} (hd:dv K H (.tuple [.int p,.int g,rows]) v) (hp:Num.fK p (.tuple [.int p,.int g,rows])) (sm:∀ q,Num.Pm q->q∣(e:Int)->q<=10^6)
  (o:Num.Ord p b e) (ze:z<e) (al:Num.Al p a (b^z)) (b0:-(10^60)<=b) (b1:b<=10^60) (a0:-(10^60)<=a) (a1:a<=10^60)
  (q:∀ t r H',aA H H'->bG K H' t [.int z,r]->Q (.ref t) H'):oV K C CN CF [v,.int b,.int a,.non] H Q E:=by
 obtain⟨pm,p9⟩:=ie hp
 have nb:¬p∣b:=pm.unit o.co
 have na:¬p∣a:=pm.unit ((o.co.pow z).xj al.symm)
 refine⟨v,.non,p,b,a,g,rows,none,rfl,hd,hp,b0,b1,a0,a1,rfl,λh=>h.elim (λh=>absurd h na) λh=>absurd h nb,λ_ _ e' o' _=>?_⟩
 have ee:=o'.sx o
 subst ee
 refine⟨λn1=>absurd ?_ n1,λx xe alx ps hps=>⟨λh6 u H' post hu=>?_,λm hm _ m6=>?_⟩⟩
 ·have h1:=al.pow e'
  rw [Num.bz,Nat.mul_comm] at h1
  exact h1.trans (Num.aL o.one)
 ·have:=Num.vH o xe ze alx al
  subst this
  obtain⟨po,ys,rfl,hSo,ve,r1,rfl,h1,vr,r2,rfl,hvr,z⟩:=hu
  cases z
  cases h1
  exact q _ _ _ post hSo
 ·obtain⟨y,hy,rfl⟩:=List.mem_map.mp hm
  have hy2:=hps.ok y hy
  have:=sm y.1 hy2.1 (by rw [<- hps.prod];exact Num.d5 hy hy2.2.1)
  omega
def nE (K:PySem.W.Frag):Sp:=λvs H Q _=>∃(v:V) (p g k a d:Int) (rows:PyData),vs=[v,.int k,.int a]/\dv K H (.tuple [.int p,.int g,rows]) v/\Num.fK p (.tuple [.int p,.int g,rows])/\0<k/\k<=10^100/\¬p∣a/\Dg p k d/\d<=10^6/\Num.Al p (a^((p-1)/d).toNat) 1 /\
 ∀ r H',0<=r->r<p->Num.Al p (r^k.toNat) a->aA H H'->Q (.int r) H'
theorem kh:aw ["paper","k","a","p","full","parts","many","inner","outer","g","u","v","outer_root","base","exponent","inner_root"] ["paper","k","a"] (aj (top 78)):=cq
theorem sr {C0 C1 CN CF:Addr} (D:ar K mg "one_root" (top 78)) (c_how_many_roots:Callee P w K mg base aG 2 "how_many_roots" ["p","k","a"] nt) (c_whole_of:Callee P w K mg base aG 1 "whole_of" ["parting"] (kS K)) (c_parting_in:Callee P w K mg base aG 1 "parting_in" ["parts"] (oP K)) (c_divisor:Callee P w K mg base aG 1 "divisor" ["a","b"] dY) (c_power:Callee P w K mg base (dh P w) 4 "power" ["n","a","e"] (cG C0)) (c_inverse:Callee P w K mg base (dh P w) 3 "inverse" ["n","a"] (dZ C1)) (c_which:kF P w K mg base (dh P w) 15 "which" ["paper","b","a","kept"] [.none] (oV K C CN CF)):Callee P w K mg base aG 16 "one_root" ["paper","k","a"] (nE K):=by
 refine cO D kh (λf cdv A outer s H vs Q E hr h=>?_)
 obtain⟨v,p,g,k,a,d,rows,rfl,hd,pap,k0,k1,na,D,d6,h1,q⟩:=h
 obtain⟨pm,p9⟩:=ie pap
 have p2:=pm.two
 obtain⟨g',ps,ds,e',hg,hP,hl29,hds⟩:=kO pap
 simp only [PyData.tuple.injEq,List.cons.injEq,PyData.int.injEq,and_true,true_and] at e'
 obtain⟨rfl,rfl⟩:=e'
 have nd:=kh.nd
 refine⟨_,(ae (cR (pv 0) (bT (n:=3) rfl (ax (aq (i:=3) nd rfl (Or.inl rfl) (.inr rfl)) (ax (aq (i:=4) nd rfl (Or.inl rfl) (.inr rfl)) (ax (aq (i:=5) nd rfl (Or.inl rfl) (.inr rfl)) aR))))) (ae (gh (i:=6) nd rfl (Or.inr rfl) (aV c_how_many_roots hr aB (aa (pv 3) (aa (pv 1) (aa (pv 2) af))))) (ae (bh (i:=7) nd (aV c_whole_of hr aB (aa (dc rfl (kG (N':=["prime","times","many"]) (js:=[none,none,some 6]) rfl rfl) (bF (aV c_parting_in hr aB (aa (pv 5) af))) (λ_ _ _ _=>(dD K rfl (n:=2) rfl (ax (aq (i:=0) (show List.Nodup [("prime":Str),("times":Str),("many":Str)] from by decide +kernel) rfl (Or.inl rfl) (.inr rfl)) (ax (aq (i:=1) (show List.Nodup [("prime":Str),("times":Str),("many":Str)] from by decide +kernel) rfl (Or.inl rfl) (.inr rfl)) aR)))) (λ_ _ _ _=>(gb (az a9 (ao aF (pv 2) (pv 0)) ah (ay _)))) (λ_ _ _ _=>(aI (aa (pv 0) (aa (pv 1) af))))) af))) (ae (bh (i:=8) nd (ao aZ (ao bI (pv 3) ah) (pv 7))) (ae (cR (aV c_divisor hr aB (aa (pv 7) (aa (pv 8) af))) (bT (n:=3) rfl (ax (aq (i:=9) nd rfl (Or.inl rfl) (.inr rfl)) (ax (aq (i:=10) nd rfl (Or.inl rfl) (.inr rfl)) (ax (aq (i:=11) nd rfl (Or.inl rfl) (.inr rfl)) aR))))) (ae (bh (i:=12) nd (aV c_power hr aE (aa (pv 3) (aa (pv 2) (aa (ao aH (ao aH (pv 10) (pv 7)) (aV c_inverse hr aE (aa (pv 8) (aa (pv 1) af)))) af))))) (ae (bh (i:=13) nd (aV c_power hr aE (aa (pv 3) (aa (pv 4) (aa (pv 8) af))))) (ae (bh (i:=14) nd (aJ aS (xW c_which (.cons (show RelV V.non _ from rfl) .nil) (hr.mono (by decide)) rfl aE (aa (pv 0) (aa (pv 13) (aa (aV c_power hr aE (aa (pv 3) (aa (pv 2) (aa (ao aH (pv 11) (pv 8)) af)))) af)))) ah (λ_ _=>rfl))) (ae (bh (i:=15) nd (aV c_power hr aE (aa (pv 3) (aa (pv 13) (aa (ao aH (ao aZ (pv 14) (pv 6)) (aV c_inverse hr aE (aa (ao aZ (pv 7) (pv 6)) (aa (ao aZ (pv 1) (pv 6)) af)))) af))))) (ai (av (ao aF (ao aH (pv 12) (pv 15)) (pv 3))))))))))))),?_⟩
 show aY _ _ _ [some v,some (.int k),some (.int a),none,none,none,none,none,none,none,none,none,none,none,none,none] H
 obtain⟨pp,y1,y2,vr,rfl,tS,e0,eg,dr⟩:=lg (id hd)
 cases e0
 cases eg
 k_data
 refine⟨pp,_,rfl,tS,rfl,?_⟩
 k_data
 refine⟨p,k,a,rfl,by omega,by omega,k0,k1,λz=>absurd z na,λ_ d' H1 D' s1=>?_⟩
 cases D.one D'
 have d0:=D.pos k0
 obtain⟨du,dw,B⟩:=D
 refine⟨vr,_,ps,rfl,dv.same s1 _ dr,Be hds,by rw [Num.bK];exact Nat.le_trans hl29 (by decide),λl us H2 s2 fl el dl=>⟨l,rfl,⟨_,aO.of el⟩,?_⟩⟩
 have ul:us.length=ps.length:=by rw [dl.length,List.length_map]
 have R:=Num.AG (g:=g) (a:=a) p2 hP k0 B
 have hpm:∀ y∈ps,Num.Pm y.1:=λy hy=>(hP.ok y hy).1
 refine bH (xs:=us) (λi ys H'=>aA H2 H'/\aQ K H' (((ps.take i).filter λy=>decide (d%y.1=0)).map kB) ys/\ys.length<=i) ⟨aA.refl _,rfl,Nat.le_refl _⟩ (by rw [ul];exact Nat.le_trans hl29 (by decide)) (λi ys H' _ h=>⟨aO.of (h.1 _ _ el),h.2.2⟩) ?_ ?_
 ·rintro i x ys H3 hx ⟨s3,d3,l3⟩
  obtain⟨dd,hdd,hv⟩:=(aQ.same s3 _ dl).get hx
  rw [List.getElem?_map,Option.map_eq_some_iff] at hdd
  obtain⟨⟨y1,y2⟩,hy,rfl⟩:=hdd
  obtain⟨pt,zs,rfl,hSt,x1,r1,rfl,e1,x2,r2,rfl,e2,z⟩:=hv
  cases z
  cases e1
  cases e2
  have yp:=(hpm _ (List.mem_of_getElem? hy)).two
  have tk:ps.take (i+1)=ps.take i++[(y1,y2)]:=by rw [List.take_add_one,hy];rfl
  simp only [b8,List.map_cons,List.map_nil,Option.join]
  k_data
  refine⟨pt,_,rfl,hSt,rfl,?_⟩
  k_data
  refine⟨⟨rfl,True.intro⟩,_,rfl,d,rfl,by omega,?_⟩
  rw [tk,List.filter_append,List.map_append]
  refine aK (λc=>⟨by show 2<=sizeLine;decide,λpn hpn=>?_⟩) (λc=>?_)
  ·have s4:=ak (o:=.tup [V.int y1,V.int y2]) hpn
   refine⟨s3.trans s4,?_,by simp;omega⟩
   rw [List.filter_cons_of_pos (by simp [c])]
   exact (aQ.same s4 _ d3).append ⟨_,_,rfl,⟨pn,_,rfl,bG.of ag,_,_,rfl,rfl,_,_,rfl,rfl,rfl⟩,rfl⟩
  ·refine⟨s3,?_,by omega⟩
   rw [List.filter_cons_of_neg (by simp [c])]
   simpa using d3
 ·rintro ys H3 l2 ⟨s3,d3,l3⟩ hl2
  rw [ul,List.take_length] at d3
  have s4:=ak (o:=.lst ys) hl2
  have e4:upd H3 l2 (.lst ys) l2=some (.lst ys):=ag
  generalize upd H3 l2 (.lst ys)=H4 at *
  have d4:=aQ.same s4 _ d3
  generalize hF:(ps.filter λy=>decide (d%y.1=0))=F at *
  have hFp:∀ y∈F,y∈ps/\d%y.1=0:=λy hy=>by
   rw [<- hF] at hy
   have:=List.mem_filter.mp hy
   exact⟨this.1,by simpa using this.2⟩
  have i0:=R.i0
  have o0:=R.o0
  have io:=R.io
  have iN:((Num.eN F:Nat):Int)<=p-1:=Int.le_of_dvd (by omega) ⟨_,io.symm⟩
  have oN:(p-1)/((Num.eN F:Nat):Int)<=p-1:=Int.le_of_dvd (by omega) ⟨_,by rw [Int.mul_comm];exact io.symm⟩
  refine⟨l2,ys,F,rfl,e4,d4,λy hy=>?_,by omega,λH5 s5=>⟨_,rfl,i0,Bd.of (by omega) (by omega),?_⟩⟩
  ·have:=(hP.ok y (hFp y hy).1)
   have:=this.1.two
   omega
  generalize hI:((Num.eN F:Nat):Int)=I at *
  generalize hO:(p-1)/I=O at *
  have eF:I.toNat=Num.eN F:=by omega
  refine⟨I,O,rfl,⟨by omega,by omega⟩,⟨by omega,by omega⟩,λgg u v t H6 B2 s6 e6=>⟨t,_,rfl,bG.of e6,rfl,?_⟩⟩
  have g1:gg=1:=by
   obtain⟨s',t',e'⟩:=R.cio
   have:gg∣1:=by rw [<- e'];exact Int.dvd_add (Int.dvd_mul_of_dvd_right B2.da) (Int.dvd_mul_of_dvd_right B2.db)
   have h2:=Int.le_of_dvd (by decide) this
   have h0:=B2.g0
   rcases Int.lt_or_eq_of_le h0 with z | z
   ·omega
   ·rw [<- z] at this;have:=Int.zero_dvd.mp this;omega
  subst g1
  have lin:=B2.lin
  have bu:=B2.bu
  have bv:=B2.bv
  k_data
  have uI:-(10^20)<=u*I/\u*I<=10^20:=by
   have h1:(u*I).natAbs<=10^9*10^9:=by rw [Int.natAbs_mul];exact Nat.mul_le_mul (by omega) (by omega)
   omega
  refine⟨Bd.of (by omega) (by omega),Bd.of (by omega) (by omega),sS o0 (by omega) R.cko λiv H7 iv0 iv1 hiv s7=>⟨iv,rfl,Bd.of (by omega) (by omega),Bd.of (by omega) (by omega),sU pm p9 na λr1 H8 r10 r11 hr1 s8=>?_⟩⟩
  have lf:=hg.ord
  refine⟨p,g,O,rfl,by omega,by omega,λ_ H9 s9=>?_,λz=>absurd z (by omega)⟩
  have hb:=Num.Al.rest p (g^O.toNat)
  have b0:=Int.emod_nonneg (g^O.toNat) (show p≠0 by omega)
  have b1:=Int.emod_lt_of_pos (g^O.toNat) (show 0<p by omega)
  generalize g^O.toNat%p=b at *
  refine⟨Bd.of (by omega) (by omega),Bd.of (by omega) (by omega),sU pm p9 na λc H10 c0 c1 hc s10=>?_⟩
  have ob:=R.base lf hb
  obtain⟨x,xI,hx⟩:=Num.i7 pm ob (R.FY pm na hc)
  have dx:=R.dx pm na lf h1 hb hc hx
  have sm:∀ q,Num.Pm q->q∣((I.toNat:Nat):Int)->q<=10^6:=λq hq hdv=>by
   rcases Classical.em (∃ y∈F,y.1=q) with⟨y,hy,rfl⟩ | hn
   ·have:=Int.le_of_dvd d0 (Int.dvd_of_emod_eq_zero (hFp y hy).2)
    omega
   ·refine absurd ?_ (Num.A9 hq (b:=F) (λy hy=>hpm y (hFp y hy).1) λy hy z=>hn ⟨y,hy,z⟩)
    rw [eF] at hdv
    have q2:=hq.two
    rw [<- Int.toNat_of_nonneg (show 0<=q by omega)] at hdv
    exact Int.natCast_dvd_natCast.mp hdv
  have S10:aA H H10:=((((((((s1.trans s2).trans s3).trans s4).trans s5).trans s6).trans s7).trans s8).trans s9).trans s10
  refine zC (dv.same S10 _ hd) pap sm ob xI hx (by omega) (by omega) (by omega) (by omega) λtt rr H11 s11 hT=>bC hT iQ ?_
  have Id:0<I/d:=by
   obtain⟨y,hy⟩:=R.di
   rw [hy,Int.mul_ediv_cancel_left _ (by omega)]
   rcases Int.lt_trichotomy y 0 with z | z | z
   ·have:=Int.mul_neg_of_pos_of_neg d0 z;omega
   ·rw [z,Int.mul_zero] at hy;omega
   ·exact z
  have Id2:I/d<=I:=Int.ediv_le_self _ (by omega)
  have x0:0<=(x:Int)/d:=Int.ediv_nonneg (by omega) (by omega)
  have x1:(x:Int)/d<=x:=Int.ediv_le_self _ (by omega)
  refine⟨_,rfl,d0,Bd.of (by omega) (by omega),d0,Bd.of (by omega) (by omega),d0,Bd.of (by omega) (by omega),sS Id (by omega) R.cki λw' H12 w0 w1 hw s12=>?_⟩
  refine⟨w',rfl,Bd.of (by omega) (by omega),Bd.of (by omega) (by omega),p,b,_,rfl,by omega,by omega,λ_ H13 s13=>⟨r1,rfl,_,rfl,Bd.of (by omega) (by omega),Bd.of (by have:=Int.emod_nonneg (b^((x:Int)/d*w').toNat) (show p≠0 by omega);omega) (by have:=Int.emod_lt_of_pos (b^((x:Int)/d*w').toNat) (show 0<p by omega);omega),by omega,?_⟩,λz=>absurd z (Int.not_lt.mpr (Int.mul_nonneg x0 w0))⟩
  exact q _ H13 (Int.emod_nonneg _ (by omega)) (Int.emod_lt_of_pos _ (by omega)) (((Num.Al.rest p _).pow _).trans (R.root k0 pm na lf lin hiv hr1 hb hc hx dx w0 hw (Num.Al.rest p _))) (((S10.trans s11).trans s12).trans s13)
structure iO (p k a d:Int) (rs:List Int):Prop where
 rise:rs.Pairwise (·<·)
 len:(rs.length:Int)=d
 ok:∀ r∈rs,0<=r/\r<p/\Num.Al p (r^k.toNat) a
 all:∀ x,0<=x->x<p->Num.Al p (x^k.toNat) a->x∈rs
def uB (r t:Int):PyData:=.tuple [.str "turned",.int r,.int t]
def oQ (K:PySem.W.Frag) (CM:Addr) (M:Int):Sp:=λvs H Q E=>∃(v:V) (p g k a:Int) (rows:PyData),vs=[v,.int k,.int a]/\dv K H (.tuple [.int p,.int g,rows]) v/\Num.fK p (.tuple [.int p,.int g,rows])/\0<k/\k<=10^60 /\
 (p∣a->∀ t l s H',aA H H'->H l=none->bG K H' t [.ref l,s]->H' l=some (.lst [.int 0])->dv K H' (.tuple [.str "nought"]) s->Q (.ref t) H') /\
 (¬p∣a->∀ d,Dg p k d ->
  (¬Num.Al p (a^((p-1)/d).toNat) 1->∀ t l s H',aA H H'->H l=none->bG K H' t [.ref l,s]->H' l=some (.lst [])->dv K H' (jY ((p-1)/d) (a^((p-1)/d).toNat%p)) s->Q (.ref t) H') /\
  (Num.Al p (a^((p-1)/d).toNat) 1->(400<d->zh CM "many" (.int d) H E)/\(d<=400->d<=M/\∀ rs r0 tn t l s H',iO p k a d rs->rs[0]?=some r0->0<=tn->tn<p->Num.Ord p tn d.toNat->aA H H'->H l=none->bG K H' t [.ref l,s]->H' l=some (.lst (rs.map V.int))->dv K H' (uB r0 tn) s->Q (.ref t) H')))
theorem AB {p:Int} (pm:Num.Pm p) {r t k d x:Int} (k0:0<k) (D:Dg p k d) (nr:¬p∣r) (hx:Num.Al p (x^k.toNat) (r^k.toNat)) (ot:Num.Ord p t d.toNat):∃ i,i<d.toNat/\Num.Al p x (r*t^i):=by
 have p2:=pm.two
 have d0:=D.pos k0
 obtain⟨b,c,e⟩:=pm.co nr
 have hb0:b*r=1-c*p:=by omega
 have hb:Num.Al p (b*r) 1:=⟨-c,by rw [hb0];grind⟩
 have s1:Num.Al p ((x*b)^k.toNat) 1:=by
  have h1:=hx.mul (Num.Al.refl p (b^k.toNat))
  have h2:=hb.pow k.toNat
  rw [Int.one_pow,Int.mul_pow,Int.mul_comm] at h2
  rw [Int.mul_pow]
  exact h1.trans h2
 have nx:¬p∣x*b:=λz=>by
  obtain⟨y,hy⟩:=z
  have k':k.toNat=(k.toNat-1)+1:=by omega
  have h3:Num.Al p ((x*b)^k.toNat) 0:=by
   rw [k',Int.pow_succ]
   exact⟨(x*b)^(k.toNat-1)*y,by rw [hy];grind⟩
  exact pm.kN (h3.symm.trans s1)
 have s2:=Num.fR pm nx
 obtain⟨m,om,_⟩:=Num.jL (N:=(p-1).toNat) (by omega) s2
 have m1:=Int.natCast_dvd_natCast.mpr (om.dv _ s1)
 have m2:=Int.natCast_dvd_natCast.mpr (om.dv _ s2)
 rw [Int.toNat_of_nonneg (by omega)] at m1 m2
 have m3:(m:Int)∣d:=by
  obtain⟨u,v,B⟩:=D
  rw [<- B.lin]
  exact Int.dvd_add (Int.dvd_mul_of_dvd_right m1) (Int.dvd_mul_of_dvd_right m2)
 have s3:Num.Al p ((x*b)^d.toNat) 1:=by
  rw [<- Int.toNat_of_nonneg (show 0<=d by omega)] at m3
  obtain⟨y,hy⟩:=Int.natCast_dvd_natCast.mp m3
  rw [hy]
  exact Num.aL om.one
 obtain⟨i,hi,hs⟩:=Num.i7 pm ot s3
 refine⟨i,hi,?_⟩
 have h4:=(Num.Al.refl p r).mul hs
 have h5:Num.Al p (r*(x*b)) x:=by
  have:=(Num.Al.refl p x).mul hb
  rw [Int.mul_one] at this
  rw [show r*(x*b)=x*(b*r) by grind]
  exact this
 exact h5.symm.trans h4
theorem m7 {p:Int} (pm:Num.Pm p) {r t k a d:Int} {ns:List Int} (k0:0<k) (d0:0<d) (dk:d∣k) (D:Dg p k d) (r0:0<=r) (r1:r<p) (nr:¬p∣r) (hr:Num.Al p (r^k.toNat) a) (ot:Num.Ord p t d.toNat) (hp:ns.Perm ((List.range d.toNat).map λi=>r*t^i%p)) (hs:ns.Pairwise (·<=·)):iO p k a d ns:=by
 have p2:=pm.two
 have nd:((List.range d.toNat).map λi=>r*t^i%p).Nodup:=by
  refine List.pairwise_map.mpr ?_
  refine List.Pairwise.imp_of_mem (λ{i j} hi hj h e=>h (Num.vT pm ot nr (List.mem_range.mp hi) (List.mem_range.mp hj) (Num.Al.iff.mpr e))) List.nodup_range
 have nd':=hp.nodup_iff.mpr nd
 refine⟨?_,?_,λx hx=>?_,λx x0 x1 hx=>?_⟩
 ·exact (hs.and nd').imp fun⟨h1,h2⟩=>by omega
 ·have:=hp.length_eq
  rw [List.length_map,List.length_range] at this
  omega
 ·obtain⟨i,_,rfl⟩:=List.mem_map.mp (hp.mem_iff.mp hx)
  refine⟨Int.emod_nonneg _ (by omega),Int.emod_lt_of_pos _ (by omega),((Num.Al.rest p _).pow _).trans (Num.vU pm ot ?_ hr i)⟩
  have:((d.toNat:Nat):Int)∣((k.toNat:Nat):Int):=by rw [Int.toNat_of_nonneg (by omega),Int.toNat_of_nonneg (by omega)];exact dk
  exact Int.natCast_dvd_natCast.mp this
 ·refine hp.mem_iff.mpr (List.mem_map.mpr ?_)
  obtain⟨i,hi,e⟩:=AB pm k0 D nr (hx.trans hr.symm) ot
  exact⟨i,List.mem_range.mpr hi,by rw [<- Num.Al.iff.mp e,Int.emod_eq_of_lt x0 x1]⟩
theorem qR:aw ["paper","k","a","p","none","many","turn","found"] ["paper","k","a"] (aj (top 76)):=cq
theorem xK {CN CM:Addr} (D:ar K mg "roots" (top 76)) (c_shown_none:Callee P w K mg base aG 5 "shown_none" ["p","k","a"] (sM K)) (c_how_many_roots:Callee P w K mg base aG 2 "how_many_roots" ["p","k","a"] nt) (c_of_order:Callee P w K mg base (dh P w) 5 "of_order" ["paper","d"] (nB K CN)) (c_all_turned:Callee P w K mg base aG 1 "all_turned" ["p","root","turn","many"] rj) (c_one_root:Callee P w K mg base aG 16 "one_root" ["paper","k","a"] (nE K)) (x_TooMany:nL P w K mg base "TooMany" CM "many") (g_MOST_TOLD:∃ t,mg "MOST_TOLD"=some (.int 400 t)) (n_sorted:mg "sorted"=none):Callee P w K mg base (dh P w) 17 "roots" ["paper","k","a"] (oQ K CM 63):=by
 refine cX D qR (λf cdv A outer s H vs Q E hr h=>?_)
 obtain⟨v,p,g,k,a,rows,rfl,hd,pap,k0,k1,q1,q2⟩:=h
 obtain⟨pm,p9⟩:=ie pap
 have p2:=pm.two
 obtain⟨t0,g_MOST_TOLD⟩:=g_MOST_TOLD
 have nd:=qR.nd
 refine⟨_,(ae (bh (i:=3) nd (aJ aS (pv 0) ah (λ_ _=>rfl))) (ae (aN (az a9 (ao aF (pv 2) (pv 3)) ah (ay _)) (gK.kA (ai (av (aI (aa (cf (aa ah af)) (aa (aI (aa bL af)) af)))))) aD) (ae (bh (i:=4) nd (aV c_shown_none hr aB (aa (pv 3) (aa (pv 1) (aa (pv 2) af))))) (ae (aN (az oq (pv 4) fY (ay _)) (gK.kA (ai (av (aI (aa (cf af) (aa (pv 4) af)))))) aD) (ae (bh (i:=5) nd (aV c_how_many_roots hr aB (aa (pv 3) (aa (pv 1) (aa (pv 2) af))))) (ae (aN (az cJ (pv 5) (i5 (v:=.int 400) rfl g_MOST_TOLD ⟨_,rfl⟩) (ay _)) (ai (cz (jM x_TooMany (hr.mono (by decide)) rfl (aa (pv 5) af)))) aD) (gK.kA (ae (bh (i:=6) nd (aV c_of_order hr aE (aa (pv 0) (aa (pv 5) af)))) (ae (bh (i:=7) nd (aC pJ rfl n_sorted PyProof.Rows.boot_sorted (aa (aV c_all_turned hr aB (aa (pv 3) (aa (aV c_one_root hr aB (aa (pv 0) (aa (pv 1) (aa (pv 2) af)))) (aa (pv 6) (aa (pv 5) af))))) af))) (ai (av (aI (aa (pv 7) (aa (aI (aa bL (aa (aJ fA (pv 7) ah (λ_ _=>rfl)) (aa (pv 6) af)))) af)))))))))))))),?_⟩
 show aY _ _ _ [some v,some (.int k),some (.int a),none,none,none,none,none] H
 obtain⟨pp,y1,y2,vr,rfl,tS,e0,eg,dr⟩:=lg (id hd)
 cases e0
 cases eg
 k_data
 refine bC tS iQ ⟨p,rfl,by omega,aK (λc=>⟨by decide,λl hl=>⟨by decide,λs hs=>⟨by show 2<=sizeLine;decide,λt ht=>?_⟩⟩⟩) (λc=>?_)⟩
 ·have s1:=ak (o:=.lst [V.int 0]) hl
  have s2:=ak (o:=.tup [V.str "nought"]) hs
  have s3:=ak (o:=.tup [V.ref l,V.ref s]) ht
  exact q1 (Int.dvd_of_emod_eq_zero c) t l (.ref s) _ ((s1.trans s2).trans s3) hl (bG.of ag) (s3 _ _ (s2 _ _ ag)) ⟨s,_,rfl,bG.of (s3 _ _ ag),_,_,rfl,rfl,rfl⟩
 have na:¬p∣a:=λz=>c (Int.emod_eq_zero_of_dvd z)
 refine⟨p,k,a,rfl,pm,by omega,k0,by omega,λz=>absurd z na,λ_ d D=>⟨λal H1 s1=>?_,λnal u H1 s1 hu=>?_⟩⟩
 ·refine aK (λc2=>absurd rfl c2) (λ_=>?_)
  refine⟨p,k,a,rfl,by omega,by omega,k0,by omega,λz=>absurd z na,λ_ d' H2 D' s2=>⟨d',rfl,?_⟩⟩
  cases D.one D'
  have d0:=D.pos k0
  have hdv:d∣p-1:=by obtain⟨u,v,B⟩:=id D;exact B.db
  have hdk:d∣k:=by obtain⟨u,v,B⟩:=id D;exact B.da
  have hd1:d<=p-1:=Int.le_of_dvd (by omega) hdv
  obtain⟨q3,q4⟩:=(q2 na d D).2 al
  refine aK (λc4 x dx hx hdx nx=>gM x_TooMany.cls (s1.trans s2) hx hdx nx (q3 c4)) (λc4=>?_)
  obtain⟨d63,q5⟩:=q4 (by omega)
  obtain⟨g',ps,ds,e',hg,hP,hl29,hds⟩:=kO pap
  simp only [PyData.tuple.injEq,List.cons.injEq,PyData.int.injEq,and_true,true_and] at e'
  obtain⟨rfl,rfl⟩:=e'
  refine⟨.ref pp,p,d,g,_,rfl,dv.same (s1.trans s2) _ hd,pap,by omega,by omega,λz=>absurd z (by have:=Int.emod_eq_zero_of_dvd hdv;omega),λ_ _ H3 s3=>?_⟩
  have ot:Num.Ord p (g^((p-1)/d).toNat%p) d.toNat:=by
   have e1:((p-1)/d).toNat=(p-1).toNat/d.toNat:=by
    have:(((p-1).toNat/d.toNat:Nat):Int)=(p-1)/d:=by rw [Int.natCast_ediv,Int.toNat_of_nonneg (by omega),Int.toNat_of_nonneg (by omega)]
    rw [<- this,Int.toNat_natCast]
   rw [e1]
   refine Num.jK (Num.Al.rest p _).symm (Num.fD hg.ord ?_)
   have:((d.toNat:Nat):Int)∣(((p-1).toNat:Nat):Int):=by rw [Int.toNat_of_nonneg (by omega),Int.toNat_of_nonneg (by omega)];exact hdv
   exact Int.natCast_dvd_natCast.mp this
  have t0:=Int.emod_nonneg (g^((p-1)/d).toNat) (show p≠0 by omega)
  have t1:=Int.emod_lt_of_pos (g^((p-1)/d).toNat) (show 0<p by omega)
  generalize g^((p-1)/d).toNat%p=tn at *
  refine⟨.ref pp,p,g,k,a,d,_,rfl,dv.same ((s1.trans s2).trans s3) _ hd,pap,k0,by omega,na,D,by omega,al,λr H4 r0 r1 hr s4=>⟨p,r,tn,d,rfl,by omega,by omega,r0,r1,t0,t1,by omega,by omega,λl H5 s5 hl el=>⟨l,_,rfl,aO.of el,by rw [List.length_map,List.length_range];omega,λl2 ns hp hs hl2=>?_⟩⟩⟩
  have nr:¬p∣r:=λz=>by
   have k0':k.toNat=(k.toNat-1)+1:=by omega
   have h1:p∣r^k.toNat:=by rw [k0',Int.pow_succ];exact Int.dvd_mul_of_dvd_right z
   have h2:p∣r^k.toNat-a:=hr
   have:=Int.dvd_sub h1 h2
   rw [show r^k.toNat-(r^k.toNat-a)=a by omega] at this
   exact na this
  have RO:=m7 pm k0 d0 hdk D r0 r1 nr hr ot hp hs
  have S5:=(((s1.trans s2).trans s3).trans s4).trans s5
  have s6:=ak (o:=.lst (ns.map V.int)) hl2
  have e6:upd H5 l2 (.lst (ns.map V.int)) l2=some (.lst (ns.map V.int)):=ag
  generalize upd H5 l2 (.lst (ns.map V.int))=H6 at *
  have ln:=RO.len
  match ns,RO,ln,e6 with
  | [],_,ln,_=>simp at ln;omega
  | n0::nr',RO,ln,e6 =>
   k_data
   refine wU (aO.of e6) (Int.le_refl 0) rfl ⟨by show 3<=sizeLine;decide,λs hs'=>⟨by show 2<=sizeLine;decide,λt ht=>?_⟩⟩
   have s7:=ak (o:=.tup [V.str "turned",V.int n0,V.int tn]) hs'
   have s8:=ak (o:=.tup [V.ref l2,V.ref s]) ht
   exact q5 (n0::nr') n0 tn t l2 (.ref s) _ RO rfl t0 t1 ot (((S5.trans s6).trans s7).trans s8) (S5.free hl2) (bG.of ag) (s8 _ _ (s7 _ _ e6)) ⟨s,_,rfl,bG.of (s8 _ _ ag),_,_,rfl,rfl,_,_,rfl,rfl,_,_,rfl,rfl,rfl⟩
 ·have un:u≠.non:=by obtain⟨_,_,rfl,_⟩:=hu;intro z;cases z
  refine aK (λ_=>?_) (λc2=>absurd un c2)
  refine⟨by decide,λl hl=>⟨by show 2<=sizeLine;decide,λt ht=>?_⟩⟩
  have s2:=ak (o:=.lst []) hl
  have s3:=ak (o:=.tup [V.ref l,u]) ht
  exact (q2 na d D).1 nal t l u _ ((s1.trans s2).trans s3) (s1.free hl) (bG.of ag) (s3 _ _ ag) (dv.same (s2.trans s3) _ hu)
structure ph (p g:Int) (ps:List (Int × Int)) (ds:Nat->PyData):Prop where
 pm:Num.Pm p
 p9:p<=10^9
 hP:Num.Part (p-1) ps
 l29:ps.length<=29
 hds:∀ i q k,ps[i]?=some (q,k)->Num.fK q (ds i)
 g1:1<=g
 gp:g<p
 o:Num.Ord p g (p-1).toNat
 sm:qT (.tuple [.int p,.int g,.tuple (Num.rowsOf ps ds)])
 sz:iB (.tuple [.int p,.int g,.tuple (Num.rowsOf ps ds)])<=10^6
def uu (K:PySem.W.Frag):Sp:=λvs H Q _=>∃(l:Addr) (n:Int),vs=[.ref l]/\aO K H l [.int n]/\0<=n/\n<=10^100/\Q (.int n) H
theorem iy:aw ["numbers","product","number"] ["numbers"] (aj (top 18)):=cq
theorem xJ (D:ar K mg "product_of" (top 18)):Callee P w K mg base aG 1 "product_of" ["numbers"] (uu K):=by
 refine cO D iy (λf cdv A outer s H vs Q E hr h=>?_)
 obtain⟨l,n,rfl,hl,n0,n1,q⟩:=h
 have nd:=iy.nd
 refine⟨_,(ae (bh (i:=1) nd ah) (ae (cS PassesOwn.never rfl (bF (pv 0)) (aq (i:=2) nd rfl (Or.inl rfl) (.inr rfl)) (ai (c6 (i:=1) nd rfl (Or.inl rfl) (pv 2) (eJ lq)))) (ai (av (pv 1))))),?_⟩
 show aY _ _ _ [some (.ref l),none,none] H
 k_data
 refine⟨⟨_,hl⟩,?_⟩
 refine dW (xs:=[.int n]) (λi σ' H'=>(∃ o2,σ'=[some (.ref l),some (.int (if i=0 then 1 else n)),o2])/\H'=H) ⟨⟨_,rfl⟩,rfl⟩ (λi σ' H' _ h=>h.2▸hl) ?_ ?_
 ·rintro i x σ' H' hx ⟨⟨o2,rfl⟩,rfl⟩
  have i0:i=0:=by
   have:=(List.getElem?_eq_some_iff.mp hx).1
   simpa using this
  subst i0
  cases hx
  k_data
  refine⟨v8 (by decide),Bd.of (by omega) (by omega),?_⟩
  simp
 ·rintro σ' H' ⟨⟨o2,rfl⟩,rfl⟩
  k_data
  exact q
def qV:Sp:=λvs H Q _=>∃(p k a r:Int),vs=[.int p,.int k,.int a,.int r]/\Num.Pm p/\p<=10^9/\0<k/\k<=10^100/\0<=r/\r<p/\Num.Al p (r^k.toNat) a/\∀ H',aA H H'->Q (.bl true) H'
theorem lS:aw ["p","k","a","root"] ["p","k","a","root"] (aj (top 39)):=cq
theorem vb {C:Addr} (D:ar K mg "is_root" (top 39)) (c_power:Callee P w K mg base (dh P w) 4 "power" ["n","a","e"] (cG C)):Callee P w K mg base aG 5 "is_root" ["p","k","a","root"] qV:=by
 refine cO D lS (λf cdv A outer s H vs Q E hr h=>?_)
 obtain⟨p,k,a,r,rfl,pm,p9,k0,k1,r0,r1,al,q⟩:=h
 have p2:=pm.two
 have nd:=lS.nd
 refine⟨_,(ae (aN (PW.pt (gk (az a9 (ao aF (pv 2) (pv 0)) ah (ay _)) (fE (az a9 (ao aF (pv 3) (pv 0)) ah (ay _))))) (ai (av (bA a9 (ao aF (pv 2) (pv 0)) (ao aF (pv 3) (pv 0)) (ay _)))) aD) (ai (av (bA a9 (aV c_power hr aE (aa (pv 0) (aa (pv 3) (aa (pv 1) af)))) (ao aF (pv 2) (pv 0)) (ay _))))),?_⟩
 show aY _ _ _ [some (.int p),some (.int k),some (.int a),some (.int r)] H
 have k':k.toNat=(k.toNat-1)+1:=by omega
 have both:p∣a↔p∣r:=by
  have h5:p∣r^k.toNat-a:=al
  constructor
  ·intro h
   rcases Classical.em (p∣r) with z | z
   ·exact z
   ·refine absurd ?_ (pm.unit ((pm.co z).pow k.toNat))
    have:=Int.dvd_add h5 h
    rwa [Int.sub_add_cancel] at this
  ·intro h
   have h4:p∣r^k.toNat:=by rw [k',Int.pow_succ];exact Int.dvd_mul_of_dvd_right h
   have:=Int.dvd_sub h4 h5
   rwa [show r^k.toNat-(r^k.toNat-a)=a by omega] at this
 have same:p∣a->decide (a%p=r%p)=true:=λh=>by
  rw [Int.emod_eq_zero_of_dvd h,Int.emod_eq_zero_of_dvd (both.mp h)];rfl
 k_data
 refine⟨by omega,aK (λc=>⟨by omega,by omega,?_⟩) (λc=>⟨by omega,aK (λc2=>?_) (λc2=>?_)⟩)⟩
 ·rw [same (Int.dvd_of_emod_eq_zero c)];exact q H (aA.refl _)
 ·exact absurd (Int.emod_eq_zero_of_dvd (both.mpr (Int.dvd_of_emod_eq_zero c2))) c
 ·refine⟨p,r,k,rfl,by omega,by omega,λ_ H1 s1=>⟨by omega,rfl,?_⟩,λz=>absurd z (by omega)⟩
  rw [show decide (V.int (r^k.toNat%p)=V.int (a%p))=true from decide_eq_true (by rw [Num.Al.iff.mp al])]
  exact q H1 s1
def yF (K:PySem.W.Frag):Sp:=λvs H Q _=>∃(l:Addr) (m:Int) (rs:List Int),vs=[.int m,.ref l]/\H l=some (.lst (rs.map V.int))/\rs.length<=1000/\rs.Pairwise (·<·)/\(∀ r∈rs,0<=r/\r<m)/\0<m/\∀ H',aA H H'->Q (.bl true) H'
theorem dP:aw ["whole","numbers"] ["whole","numbers"] (aj (top 38)):=cq
theorem Ah (D:ar K mg "are_rising_below" (top 38)) (c_is_whole:Callee P w K mg base aG 1 "is_whole" ["thing"] (Dd K)) (n_all:mg "all"=none) (n_zip:mg "zip"=none):Callee P w K mg base aG 2 "are_rising_below" ["whole","numbers"] (yF K):=by
 refine cO D dP (λf cdv A outer s H vs Q E hr h=>?_)
 obtain⟨l,m,rs,rfl,hl,r9,ri,rb,m0,q⟩:=h
 have nd:=dP.nd
 refine⟨_,(ae (aN (dH (aT (aC (fe rfl) rfl n_all L2.boot_all (aa (dc rfl (kG (N':=["number"]) (js:=[none]) rfl rfl) (bF (pv 1)) (λ_ _ _ _=>(aq (i:=0) (show List.Nodup [("number":Str)] from by decide +kernel) rfl (Or.inl rfl) (.inr rfl))) (λ_ _ _ _=>aX) (λ_ _ _ _=>(aV c_is_whole hr aB (aa (pv 0) af)))) af)) (λ_=>rfl))) (ai (av cZ)) aD) (ai (av (aC (fe rfl) rfl n_all L2.boot_all (aa (dc rfl (kG (N':=["low","high"]) (js:=[none,none]) rfl rfl) (x6 .l .l rfl n_zip (aa (ao sy (cf (aa (j3 gI ah) af)) (pv 1)) (aa (ao sy (pv 1) (cf (aa (pv 0) af))) af))) (λ_ _ _ _=>(dD K rfl (n:=2) rfl (ax (aq (i:=0) (show List.Nodup [("low":Str),("high":Str)] from by decide +kernel) rfl (Or.inl rfl) (.inr rfl)) (ax (aq (i:=1) (show List.Nodup [("low":Str),("high":Str)] from by decide +kernel) rfl (Or.inl rfl) (.inr rfl)) aR)))) (λ_ _ _ _=>aX) (λ_ _ _ _=>(bA dJ (pv 0) (pv 1) (ay _)))) af))))),?_⟩
 show aY _ _ _ [some (.int m),some (.ref l)] H
 k_data
 refine⟨⟨_,aO.of hl⟩,?_⟩
 refine bH (xs:=rs.map V.int) (λi ys H'=>H'=H/\ys=(List.replicate i true).map V.bl) ⟨rfl,rfl⟩ (by rw [List.length_map];exact Nat.le_trans r9 (by decide)) (λi ys H' hi h=>⟨aO.of (h.1▸hl),by rw [h.2];simp⟩) ?_ ?_
 ·rintro i v ys H2 hx ⟨rfl,rfl⟩
  rw [List.getElem?_map] at hx
  obtain⟨r,hr',rfl⟩:=Option.map_eq_some_iff.mp hx
  simp only [b8,List.map_cons,List.map_nil,Option.join]
  k_data
  refine⟨True.intro,.int r,_,rfl,rfl,rfl,?_⟩
  rw [List.replicate_succ',List.map_append]
  rfl
 rintro ys H2 pl ⟨rfl,rfl⟩ hpl
 have s1:=ak (o:=.lst ((List.replicate (rs.map V.int).length true).map V.bl)) hpl
 refine jz (aO.of ag) ⟨true,by rw [aM];simp,?_⟩
 rw [if_neg (by decide)]
 generalize upd H2 pl (.lst ((List.replicate (rs.map V.int).length true).map V.bl))=H3 at *
 have rl:(rs.map V.int).length=rs.length:=List.length_map ..
 refine⟨by decide,λp1 hp1=>?_⟩
 have s2:=ak (o:=.lst [V.int (-1)]) hp1
 refine⟨p1,l,_,_,rfl,rfl,ag,s2 _ _ (s1 _ _ hl),by rw [rl];exact Nat.le_trans (show 1+rs.length<=1001 by omega) (by decide),λp2 hp2=>?_⟩
 have s3:=ak (o:=.lst ([V.int (-1)]++rs.map V.int)) hp2
 have e3:upd (upd H3 p1 (.lst [V.int (-1)])) p2 (.lst ([V.int (-1)]++rs.map V.int)) p2=some (.lst ([V.int (-1)]++rs.map V.int)):=ag
 generalize upd (upd H3 p1 (.lst [V.int (-1)])) p2 (.lst ([V.int (-1)]++rs.map V.int))=H4 at *
 have S3:=(s1.trans s2).trans s3
 refine⟨by show 1<=sizeLine;decide,λp3 hp3=>?_⟩
 have s4:=ak (o:=.lst [V.int m]) hp3
 refine⟨l,p3,_,_,rfl,rfl,s4 _ _ (S3 _ _ hl),ag,by rw [rl];exact Nat.le_trans (show rs.length+1<=1001 by omega) (by decide),λp4 hp4=>?_⟩
 have s5:=ak (o:=.lst (rs.map V.int++[V.int m])) hp4
 have e5:upd (upd H4 p3 (.lst [V.int m])) p4 (.lst (rs.map V.int++[V.int m])) p4=some (.lst (rs.map V.int++[V.int m])):=ag
 generalize upd (upd H4 p3 (.lst [V.int m])) p4 (.lst (rs.map V.int++[V.int m]))=H5 at *
 have e6:=s5 _ _ (s4 _ _ e3)
 have S5:=(S3.trans s4).trans s5
 refine⟨p2,rfl,p4,rfl,⟨_,aO.of e6⟩,⟨_,aO.of e5⟩,?_⟩
 refine gL (k1:=.l) (k2:=.l) (xs:=[V.int (-1)]++rs.map V.int) (ys:=rs.map V.int++[V.int m]) (λi zs H'=>aA H5 H'/\zs=(List.replicate i true).map V.bl) ⟨aA.refl _,rfl⟩ (by simp [Nat.add_comm]) (by rw [List.length_append,rl];exact Nat.le_trans (show 1+rs.length<=1001 by omega) (by decide)) (λi zs H' hi ⟨z1,z2⟩=>⟨aO.of (z1 _ _ e6),aO.of (z1 _ _ e5),by rw [z2,List.length_map,List.length_replicate];exact Nat.le_refl _⟩) ?_ ?_
 ·rintro i x y zs H' pz hx hy ⟨z1,rfl⟩ hpz
  have key:∃ lo hi:Int,x=.int lo/\y=.int hi/\lo<hi:=by
   have gx:∀ j,(rs.map V.int)[j]?=(rs[j]?).map V.int:=λj=>List.getElem?_map ..
   cases i with
   | zero =>
    cases hx
    cases rs with
    | nil=>cases hy;exact⟨-1,m,rfl,rfl,by omega⟩
    | cons r rs'=>cases hy;exact⟨-1,r,rfl,rfl,by have:=(rb r List.mem_cons_self).1;omega⟩
   | succ j =>
    have hx':(rs.map V.int)[j]?=some x:=by simpa using hx
    rw [gx] at hx'
    obtain⟨a,ha,rfl⟩:=Option.map_eq_some_iff.mp hx'
    by_cases hj:j+1<rs.length
    ·rw [List.getElem?_append_left (by rw [rl];exact hj),gx] at hy
     obtain⟨b,hb,rfl⟩:=Option.map_eq_some_iff.mp hy
     obtain⟨h1,rfl⟩:=List.getElem?_eq_some_iff.mp ha
     obtain⟨h2,rfl⟩:=List.getElem?_eq_some_iff.mp hb
     exact⟨_,_,rfl,rfl,List.pairwise_iff_getElem.mp ri j (j+1) h1 h2 (Nat.lt_succ_self _)⟩
    ·have h1:=(List.getElem?_eq_some_iff.mp ha).1
     rw [List.getElem?_append_right (by rw [rl];omega),rl,show j+1-rs.length=0 by omega] at hy
     cases hy
     exact⟨a,m,rfl,rfl,(rb a (List.mem_of_getElem? ha)).2⟩
  obtain⟨lo,hi,rfl,rfl,lt⟩:=key
  have s6:=ak (o:=.tup [V.int lo,V.int hi]) hpz
  simp only [b8,List.map_cons,List.map_nil,Option.join]
  refine⟨pz,_,rfl,bG.of ag,rfl,?_⟩
  k_data
  refine⟨True.intro,z1.trans s6,?_⟩
  rw [show decide (lo<hi)=true from decide_eq_true lt,List.replicate_succ',List.map_append]
  rfl
 ·rintro zs H' pz ⟨z1,rfl⟩ hpz
  refine jz (aO.of ag) ?_
  rw [show (List.replicate ([V.int (-1)]++rs.map V.int).length true).all id=true by simp]
  exact q _ ((S5.trans z1).trans (ak hpz))
structure EU (p k a:Int) (rs:List Int):Prop where
 rise:rs.Pairwise (·<·)
 ok:∀ r∈rs,0<=r/\r<p/\Num.Al p (r^k.toNat) a
 len:(p∣a->rs.length=1)/\(¬p∣a->∀ d,Dg p k d->(rs.length:Int)=d)
 few:rs.length<=400
def sI (K:PySem.W.Frag):Sp:=λvs H Q _=>∃(lp l:Addr) (p k a:Int) (rs:List Int),vs=[.ref lp,.int k,.int a,.ref l]/\H lp=some (.lst [.int p])/\H l=some (.lst (rs.map V.int))/\Num.Pm p/\p<=10^9/\0<k/\k<=10^60/\EU p k a rs/\∀ H',aA H H'->Q (.bl true) H'
theorem fj:aw ["primes","k","a","found","many"] ["primes","k","a","found"] (aj (top 37)):=cq
theorem zZ (D:ar K mg "are_all_roots" (top 37)) (c_product_of:Callee P w K mg base aG 1 "product_of" ["numbers"] (uu K)) (c_how_many_roots:Callee P w K mg base aG 2 "how_many_roots" ["p","k","a"] nt) (c_are_rising_below:Callee P w K mg base aG 2 "are_rising_below" ["whole","numbers"] (yF K)) (c_is_root:Callee P w K mg base aG 5 "is_root" ["p","k","a","root"] qV) (g_MOST_TOLD:∃ t,mg "MOST_TOLD"=some (.int 400 t)) (n_isinstance:mg "isinstance"=none) (n_list:mg "list"=none) (n_len:mg "len"=none) (n_all:mg "all"=none):Callee P w K mg base aG 6 "are_all_roots" ["primes","k","a","found"] (sI K):=by
 refine cO D fj (λf cdv A outer s H vs Q E hr h=>?_)
 obtain⟨lp,l,p,k,a,rs,rfl,hlp,hl,pm,p9,k0,k1,AR,q⟩:=h
 have p2:=pm.two
 obtain⟨t0,g_MOST_TOLD⟩:=g_MOST_TOLD
 have nd:=fj.nd
 refine⟨_,(ae (bh (i:=4) nd (aV c_product_of hr aB (aa (dc rfl (kG (N':=["p","k","a"]) (js:=[none,some 1,some 2]) rfl rfl) (bF (pv 0)) (λ_ _ _ _=>(aq (i:=0) (show List.Nodup [("p":Str),("k":Str),("a":Str)] from by decide +kernel) rfl (Or.inl rfl) (.inr rfl))) (λ_ _ _ _=>aX) (λ_ _ _ _=>(aV c_how_many_roots hr aB (aa (pv 0) (aa (pv 1) (aa (pv 2) af)))))) af))) (ae (aN (PW.pt (gk (az cJ (pv 4) (i5 (v:=.int 400) rfl g_MOST_TOLD ⟨_,rfl⟩) (ay _)) (gk (dH (aT (aC aW rfl n_isinstance PyProof.Rows.boot_isinstance (aa (pv 3) (aa (bP (v:=.ty "list") rfl n_list L2.boot_list rfl) af))) (λ_=>rfl))) (fE (az ic (aC bp rfl n_len PySem.boot_len (aa (pv 3) af)) (pv 4) (ay _)))))) (ai (av cZ)) aD) (ae (aN (dH (aT (aV c_are_rising_below hr aB (aa (aV c_product_of hr aB (aa (pv 0) af)) (aa (pv 3) af))) (λ_=>rfl))) (ai (av cZ)) aD) (ai (av (aC (fe rfl) rfl n_all L2.boot_all (aa (CU rfl (kG (N':=["p","root","k","a","found"]) (js:=[none,none,some 1,some 2,some 3]) rfl rfl) (bF (pv 0)) (λ_ _ _ _=>(aq (i:=0) (show List.Nodup [("p":Str),("root":Str),("k":Str),("a":Str),("found":Str)] from by decide +kernel) rfl (Or.inl rfl) (.inr rfl))) (λ_ _ _ _=>aX) (λ_ _ _ _=>(x5 (K:=K) rfl (pv 4))) (λ_ _ _ _=>(aq (i:=1) (show List.Nodup [("p":Str),("root":Str),("k":Str),("a":Str),("found":Str)] from by decide +kernel) rfl (Or.inl rfl) (.inr rfl))) (λ_ _ _ _=>aX) (λ_ _ _ _=>(aV c_is_root hr aB (aa (pv 0) (aa (pv 2) (aa (pv 3) (aa (pv 1) af))))))) af))))))),?_⟩
 show aY _ _ _ [some (.ref lp),some (.int k),some (.int a),some (.ref l),none] H
 have rl:(rs.map V.int).length=rs.length:=List.length_map ..
 have h4:=AR.few
 k_data
 refine⟨⟨_,aO.of hlp⟩,?_⟩
 refine bH (xs:=[.int p]) (λi ys H'=>aA H H'/\ys=List.replicate i (V.int rs.length)) ⟨aA.refl _,rfl⟩ (show 1<=sizeLine by decide) (λi ys H' hi h=>⟨aO.of (h.1 _ _ hlp),by rw [h.2];simp⟩) ?_ ?_
 ·rintro i v ys H2 hx ⟨s1,rfl⟩
  have i0:i=0:=by
   have:=(List.getElem?_eq_some_iff.mp hx).1
   simpa using this
  subst i0
  cases hx
  simp only [b8,List.map_cons,List.map_nil,Option.join]
  k_data
  refine⟨⟨rfl,rfl,True.intro⟩,_,rfl,_,rfl,p,k,a,rfl,by omega,by omega,k0,by omega,λz=>⟨s1,?_⟩,λz d H' hd s2=>⟨s1.trans s2,?_⟩⟩
  ·rw [AR.len.1 z];rfl
  ·rw [AR.len.2 z d hd];rfl
 rintro ys H2 pl ⟨s1,rfl⟩ hpl
 have s2:=ak (o:=.lst (List.replicate [V.int p].length (V.int rs.length))) hpl
 refine⟨pl,rs.length,rfl,aO.of ag,by omega,by omega,_,rfl,?_⟩
 generalize upd H2 pl (.lst (List.replicate [V.int p].length (V.int rs.length)))=H3 at *
 have S:=s1.trans s2
 rw [if_neg (by omega)]
 refine cn (d:=.list (rs.map PyData.int)) ⟨l,_,rfl,aO.of (S _ _ hl),aQ.ints _⟩ ⟨true,rfl,?_⟩
 rw [if_neg (by decide)]
 refine cM (aO.of (S _ _ hl)) ⟨rfl,?_⟩
 rw [if_neg (by rw [rl];exact λz=>z rfl)]
 refine⟨lp,p,rfl,aO.of (S _ _ hlp),by omega,by omega,l,p,rs,rfl,S _ _ hl,by omega,AR.rise,λr hr'=>⟨(AR.ok r hr').1,(AR.ok r hr').2.1⟩,by omega,λH4 s4=>⟨true,rfl,?_⟩⟩
 rw [if_neg (by decide)]
 have S4:=S.trans s4
 refine⟨⟨_,aO.of (S4 _ _ hlp)⟩,?_⟩
 refine pN (xs:=[.int p]) (λi ys H'=>aA H H'/\ys=(List.replicate (i*rs.length) true).map V.bl) ⟨S4,by simp⟩ (λi ys H' hi h=>⟨aO.of (h.1 _ _ hlp),?_⟩) ?_ ?_
 ·rw [h.2,List.length_map,List.length_replicate]
  have i1:i<=1:=hi
  exact Nat.le_trans (Nat.le_trans (Nat.mul_le_mul i1 h4) (by omega)) (show 400<=sizeLine by decide)
 ·rintro i v ys H5 hx ⟨s5,rfl⟩
  have i0:i=0:=by
   have:=(List.getElem?_eq_some_iff.mp hx).1
   simpa using this
  subst i0
  cases hx
  simp only [b8,List.map_cons,List.map_nil,Option.join]
  k_data
  refine⟨⟨rfl,rfl,rfl,True.intro⟩,_,rfl,l,rfl,⟨_,aO.of (s5 _ _ hl)⟩,?_⟩
  refine rR (xs:=rs.map V.int) (λj zs H'=>aA H H'/\zs=(List.replicate j true).map V.bl) ⟨s5,by simp⟩ (λj zs H' hj h=>⟨aO.of (h.1 _ _ hl),?_⟩) ?_ (λzs H' h=>⟨h.1,by rw [h.2,rl];simp⟩)
  ·rw [h.2,List.length_map,List.length_replicate]
   rw [rl] at hj
   exact Nat.lt_of_le_of_lt (Nat.le_trans hj h4) (show 400<sizeLine by decide)
  ·rintro j v zs H6 hx ⟨s6,rfl⟩
   rw [List.getElem?_map] at hx
   obtain⟨r,hr',rfl⟩:=Option.map_eq_some_iff.mp hx
   obtain⟨r0,r1,r2⟩:=AR.ok r (List.mem_of_getElem? hr')
   k_data
   refine⟨⟨rfl,rfl,rfl,rfl,True.intro⟩,_,rfl,_,rfl,p,k,a,r,rfl,pm,p9,k0,by omega,r0,r1,r2,λH7 s7=>⟨s6.trans s7,?_⟩⟩
   rw [List.replicate_succ',List.map_append]
   rfl
 rintro ys H2 pz ⟨s5,rfl⟩ hpz
 have s6:=ak (o:=.lst ((List.replicate ([V.int p].length*rs.length) true).map V.bl)) hpz
 refine jz (aO.of ag) ?_
 rw [show (List.replicate ([V.int p].length*rs.length) true).all id=true by simp]
 exact q _ (s5.trans s6)
def Told (p k a:Int) (rs:List Int) (sh:PyData):Prop:=(p∣a/\sh=.tuple [.str "nought"])∨(¬p∣a/\∃ d r0 t,Dg p k d/\rs[0]?=some r0/\0<=t/\t<p/\Num.Ord p t d.toNat/\sh=uB r0 t)
def oS (K:PySem.W.Frag):Sp:=λvs H Q _=>∃(v u:V) (l:Addr) (p g k a:Int) (ps:List (Int × Int)) (ds:Nat->PyData) (rs:List Int) (sh:PyData),vs=[v,.int k,.int a,.ref l,u]/\dv K H (.tuple [.int p,.int g,.tuple (Num.rowsOf ps ds)]) v/\ph p g ps ds/\0<k/\k<=10^60/\H l=some (.lst (rs.map V.int))/\EU p k a rs/\dv K H sh u/\Told p k a rs sh/\∀ H',aA H H'->Q (.bl true) H'
theorem gB:aw ["paper","k","a","found","shown","p","least"] ["paper","k","a","found","shown"] (aj (top 40)):=cq
theorem xM (D:ar K mg "is_shown_by" (top 40)) (c_is_just:Callee P w K mg base aG 15 "is_just" ["thing","right"] (jO K 7)) (c_is_tuple_of:Callee P w K mg base aG 1 "is_tuple_of" ["thing","many"] (rh K)) (c_is_whole:Callee P w K mg base aG 1 "is_whole" ["thing"] (Dd K)) (c_is_order:Callee P w K mg base aG 6 "is_order" ["paper","a","e"] (ny K)) (c_how_many_roots:Callee P w K mg base aG 2 "how_many_roots" ["p","k","a"] nt) (n_min:mg "min"=none):Callee P w K mg base aG 16 "is_shown_by" ["paper","k","a","found","shown"] (oS K):=by
 refine cO D gB (λf cdv A outer s H vs Q E hr h=>?_)
 obtain⟨v,u,l,p,g,k,a,ps,ds,rs,sh,rfl,hd,R,k0,k1,hl,AR,hu,T,q⟩:=h
 have p2:=R.pm.two
 have p9:=R.p9
 have rl:(rs.map V.int).length=rs.length:=List.length_map ..
 have h4:=AR.few
 have nd:=gB.nd
 refine⟨_,(ae (gh (i:=5) nd rfl (Or.inr rfl) (aJ aS (pv 0) ah (λ_ _=>rfl))) (ae (aN (az a9 (ao aF (pv 2) (pv 5)) ah (ay _)) (ai (av (aV c_is_just hr aB (aa (pv 4) (aa (aI (aa bL af)) af))))) aD) (ae (bh (i:=6) nd (aC (uJ rfl) rfl n_min L2.boot_min (aa (dc rfl (kG (N':=["root","p"]) (js:=[none,some 5]) rfl rfl) (bF (pv 3)) (λ_ _ _ _=>(aq (i:=0) (show List.Nodup [("root":Str),("p":Str)] from by decide +kernel) rfl (Or.inl rfl) (.inr rfl))) (λ_ _ _ _=>aX) (λ_ _ _ _=>(ao aF (pv 0) (pv 1)))) af))) (ae (aN (dH (PW.pt (gj (aT (aV c_is_tuple_of hr aB (aa (pv 4) (aa ah af))) (λ_=>rfl)) (gj (aT (aV c_is_just hr aB (aa (i6 C9 (pv 4) kQ (gR ah)) (aa (aI (aa bL (aa (pv 6) af))) af))) (λ_=>rfl)) (gS (aT (aV c_is_whole hr aB (aa (aJ aS (pv 4) ah (λ_ _=>rfl)) af)) (λ_=>rfl))))))) (ai (av cZ)) aD) (ai (av (bV (qG qz dJ ah (aJ aS (pv 4) ah (λ_ _=>rfl)) (pv 5)) (c5 (aV c_is_order hr aB (aa (pv 0) (aa (aJ aS (pv 4) ah (λ_ _=>rfl)) (aa (aV c_how_many_roots hr aB (aa (pv 5) (aa (pv 1) (aa (pv 2) af)))) af)))))))))))),?_⟩
 show aY _ _ _ [some v,some (.int k),some (.int a),some (.ref l),some u,none,none] H
 obtain⟨pp,y1,y2,vr,rfl,tS,e0,eg,dr⟩:=lg hd
 cases e0
 cases eg
 k_data
 refine bC tS iQ ?_
 k_data
 refine⟨by omega,aK (λc=>?_) (λc=>?_)⟩
 ·obtain rfl:sh=.tuple [.str "nought"]:=by
   rcases T with⟨_,z⟩|⟨z,_⟩
   ·exact z
   ·exact absurd (Int.dvd_of_emod_eq_zero c) z
  refine⟨by show 1<=sizeLine;decide,λp1 hp1=>?_⟩
  have s1:=ak (o:=.tup [V.str "nought"]) hp1
  refine⟨_,_,.tuple [.str "nought"],.tuple [.str "nought"],rfl,dv.same s1 _ hu,dv.tup ag (.one rfl),by decide +kernel,?_,λb' H' hb' s'=>?_⟩
  ·simp only [rD,zi,List.length_cons,List.length_nil,and_true]
   exact⟨by decide,by decide +kernel⟩
  ·have:b'=true:=hb'.mpr rfl
   subst this
   exact q H' (s1.trans s')
 rcases T with⟨z,_⟩|⟨na,d,r0,t,D,hr0,t0,t1,ot,rfl⟩
 ·exact absurd (Int.emod_eq_zero_of_dvd z) c
 have d0:=D.pos k0
 refine⟨⟨_,aO.of hl⟩,?_⟩
 refine bH (xs:=rs.map V.int) (λi ys H'=>H'=H/\ys=(rs.take i).map V.int) ⟨rfl,rfl⟩ (by rw [rl];exact Nat.le_trans h4 (by decide)) (λi ys H' hi h=>⟨aO.of (h.1▸hl),by rw [h.2,List.length_map,List.length_take];exact Nat.min_le_left ..⟩) ?_ ?_
 ·rintro i v ys H2 hx ⟨rfl,rfl⟩
  rw [List.getElem?_map] at hx
  obtain⟨r,hr',rfl⟩:=Option.map_eq_some_iff.mp hx
  obtain⟨r0',r1',_⟩:=AR.ok r (List.mem_of_getElem? hr')
  simp only [b8,List.map_cons,List.map_nil,Option.join]
  k_data
  refine⟨⟨rfl,True.intro⟩,_,rfl,p,rfl,by omega,?_⟩
  rw [Int.emod_eq_of_lt r0' r1',List.take_add_one,hr',List.map_append]
  rfl
 rintro ys H2 pl ⟨rfl,rfl⟩ hpl
 rw [rl,List.take_length]
 have s1:=ak (o:=.lst (rs.map V.int)) hpl
 have ne:rs≠[]:=λz=>by subst z;cases hr0
 refine⟨pl,rs,rfl,aO.of ag,ne,λm hm hmin=>?_⟩
 generalize upd H2 pl (.lst (rs.map V.int))=H3 at *
 have em:m=r0:=by
  cases rs with
  | nil=>cases hr0
  | cons x xs =>
   have e0:x=r0:=Option.some.inj hr0
   have h1:=hmin x List.mem_cons_self
   rcases List.mem_cons.mp hm with z | z
   ·exact z.trans e0
   ·have:=(List.pairwise_cons.mp AR.rise).1 m z
    omega
 subst em
 have hu1:=dv.same s1 _ hu
 refine⟨_,u,3,rfl,hu1,true,aM.mpr rfl,?_⟩
 rw [if_pos rfl]
 obtain⟨pu,z1,z2,z3,rfl,tU,u0,u1,u2⟩:=lg hu1
 cases u0
 cases u1
 cases u2
 refine⟨pu,_,rfl,tU,show ¬((0:Nat)=0/\(2:Nat)=3) by decide,λp3 hp3=>?_⟩
 have s3:=ak (o:=.tup (gZ [V.str "turned",V.int m,V.int t] none (some 2))) hp3
 have e3:upd H3 p3 (.tup (gZ [V.str "turned",V.int m,V.int t] none (some 2))) p3=some (.tup [V.str "turned",V.int m]):=ag
 generalize upd H3 p3 (.tup (gZ [V.str "turned",V.int m,V.int t] none (some 2)))=H4 at *
 refine⟨by show 2<=sizeLine;decide,λp4 hp4=>?_⟩
 have s4:=ak (o:=.tup [V.str "turned",V.int m]) hp4
 have ct:PyData.canLay0 (.tuple [.str "turned",.int m])=true:=by
  have cs:PyData.canLay0 (.str "turned")=true:=by decide +kernel
  simp only [PyData.canLay0,PyData.canLayAll0] at cs ⊢
  simpa using cs
 refine⟨_,_,.tuple [.str "turned",.int m],.tuple [.str "turned",.int m],rfl,dv.tup (s4 _ _ e3) ⟨_,_,rfl,rfl,.one rfl⟩,dv.tup ag ⟨_,_,rfl,rfl,.one rfl⟩,ct,?_,λb' H5 hb' s5=>?_⟩
 ·simp only [rD,zi,List.length_cons,List.length_nil,and_true]
  exact⟨by decide,by decide +kernel⟩
 have:b'=true:=hb'.mpr rfl
 subst this
 refine⟨true,aM.mpr rfl,?_⟩
 rw [if_pos rfl]
 have S5:=s3.trans (s4.trans s5)
 refine bC (tU.same S5) (show ([V.str "turned",V.int m,V.int t]:List V)[2]?=some (.int t) from rfl) ⟨.int t,_,rfl,rfl,true,aM.mpr rfl,?_⟩
 rw [if_neg (by decide)]
 unfold sN
 k_data
 refine bC (tU.same S5) (show ([V.str "turned",V.int m,V.int t]:List V)[2]?=some (.int t) from rfl) ?_
 have tn1:1<=t:=by
  rcases Int.lt_or_eq_of_le t0 with z | z
  ·omega
  ·subst z
   have h1:=ot.one
   rw [Int.zero_pow (Nat.pos_iff_ne_zero.mp ot.pos)] at h1
   have h2:p∣0-1:=h1
   have:=Int.le_of_dvd (by decide) (Int.dvd_neg.mpr h2)
   omega
 k_data
 rw [if_pos tn1,if_pos t1]
 have hd5:=dv.same (s1.trans S5) _ hd
 refine bC (tU.same S5) (show ([V.str "turned",V.int m,V.int t]:List V)[2]?=some (.int t) from rfl) ⟨p,k,a,rfl,by omega,by omega,k0,by omega,λz=>absurd z na,λz d' H6 D' s6=>?_⟩
 obtain rfl:=D.one D'
 have dp:d<=10^100:=by
  obtain⟨u,v,B⟩:=D
  have:=Int.le_of_dvd (by omega) B.db
  omega
 refine⟨.ref pp,p,t,d,.int g,_,ps,rfl,dv.same s6 _ hd5,qc R.hds,R.pm,R.hP,by omega,Nat.le_trans R.l29 (by decide),by omega,dp,λbb H7 hb s7=>?_⟩
 have hbb:bb=true:=hb.mpr ⟨by omega,ot⟩
 subst hbb
 exact q H7 ((s1.trans S5).trans (s6.trans s7))
def zu (p k a:Int) (rs:List Int) (sh:PyData):Prop:=(p∣a/\rs=[0]/\sh=.tuple [.str "nought"])∨(¬p∣a/\∃ d,Dg p k d/\d<=400 /\
 ((¬Num.Al p (a^((p-1)/d).toNat) 1/\rs=[]/\sh=jY ((p-1)/d) (a^((p-1)/d).toNat%p))∨(Num.Al p (a^((p-1)/d).toNat) 1/\iO p k a d rs/\∃ r0 t,rs[0]?=some r0/\0<=t/\t<p/\Num.Ord p t d.toNat/\sh=uB r0 t)))
def qY (K:PySem.W.Frag):Sp:=λvs H Q _=>∃(v u:V) (t l:Addr) (p g k a:Int) (ps:List (Int × Int)) (ds:Nat->PyData) (rs:List Int) (sh:PyData),vs=[v,.int k,.int a,.ref t]/\dv K H (.tuple [.int p,.int g,.tuple (Num.rowsOf ps ds)]) v/\ph p g ps ds/\0<k/\k<=10^60/\bG K H t [.ref l,u]/\H l=some (.lst (rs.map V.int))/\dv K H sh u/\zu p k a rs sh/\∀ H',aA H H'->Q (.bl true) H'
theorem gE:aw ["paper","k","a","thing","found","shown","none"] ["paper","k","a","thing"] (aj (top 34)):=cq
theorem vn (D:ar K mg "shows_roots" (top 34)) (c_is_prime_paper:Callee P w K mg base aG 8 "is_prime_paper" ["thing"] (Em K)) (c_is_tuple_of:Callee P w K mg base aG 1 "is_tuple_of" ["thing","many"] (rh K)) (c_shown_none:Callee P w K mg base aG 5 "shown_none" ["p","k","a"] (sM K)) (c_is_just:Callee P w K mg base aG 15 "is_just" ["thing","right"] (jO K 7)) (c_are_all_roots:Callee P w K mg base aG 6 "are_all_roots" ["primes","k","a","found"] (sI K)) (c_is_shown_by:Callee P w K mg base aG 16 "is_shown_by" ["paper","k","a","found","shown"] (oS K)):Callee P w K mg base aG 17 "shows_roots" ["paper","k","a","thing"] (qY K):=by
 refine cO D gE (λf cdv A outer s H vs Q E hr h=>?_)
 obtain⟨v,u,t,l,p,g,k,a,ps,ds,rs,sh,rfl,hd,R,k0,k1,tT,hl,hu,T,q⟩:=h
 have p2:=R.pm.two
 have p9:=R.p9
 have nd:=gE.nd
 refine⟨_,(ae (aN (dH (PW.pt (gj (aT (aV c_is_prime_paper hr aB (aa (pv 0) af)) (λ_=>rfl)) (gS (aT (aV c_is_tuple_of hr aB (aa (pv 3) (aa ah af))) (λ_=>rfl)))))) (ai (av cZ)) aD) (ae (cR (pv 3) (bT (n:=2) rfl (ax (aq (i:=4) nd rfl (Or.inl rfl) (.inr rfl)) (ax (aq (i:=5) nd rfl (Or.inl rfl) (.inr rfl)) aR)))) (ae (bh (i:=6) nd (aV c_shown_none hr aB (aa (aJ aS (pv 0) ah (λ_ _=>rfl)) (aa (pv 1) (aa (pv 2) af))))) (ae (aN (az oq (pv 6) fY (ay _)) (ai (av (aV c_is_just hr aB (aa (pv 3) (aa (aI (aa (cf af) (aa (pv 6) af))) af))))) aD) (ai (av (bV (aV c_are_all_roots hr aB (aa (cf (aa (aJ aS (pv 0) ah (λ_ _=>rfl)) af)) (aa (pv 1) (aa (pv 2) (aa (pv 4) af))))) (c5 (aV c_is_shown_by hr aB (aa (pv 0) (aa (pv 1) (aa (pv 2) (aa (pv 4) (aa (pv 5) af)))))))))))))),?_⟩
 show aY _ _ _ [some v,some (.int k),some (.int a),some (.ref t),none,none,none] H
 obtain⟨pp,y1,y2,vr,rfl,tS,e0,eg,dr⟩:=lg hd
 cases e0
 cases eg
 k_data
 have ppp:=(CY p2 R.hP R.hds).mpr ⟨R.g1,R.gp,R.o⟩
 refine⟨_,_,rfl,hd,R.sm,R.sz,λbb H1 hb s1=>?_⟩
 have hbb:bb=true:=hb.mpr ppp
 subst hbb
 refine⟨true,aM.mpr rfl,?_⟩
 rw [if_pos rfl]
 have ht1:dv K H1 (.tuple [.list (rs.map PyData.int),sh]) (.ref t):=⟨t,_,rfl,tT.same s1,_,_,rfl,⟨l,_,rfl,aO.of (s1 _ _ hl),aQ.ints _⟩,.one (dv.same s1 _ hu)⟩
 refine⟨_,_,2,rfl,ht1,true,aM.mpr rfl,?_⟩
 rw [if_neg (by decide)]
 refine⟨t,_,rfl,tT.same s1,rfl,?_⟩
 k_data
 have rest:∀ H2,aA H1 H2->EU p k a rs->Told p k a rs sh->Az K (.ref pp) (.int 0) H2 λx H3=>[x].length<=sizeLine/\∀ p3,H3 p3=none->sI K [.ref p3,.int k,.int a,.ref l] (upd H3 p3 (.lst [x])) (λx H'=>∃ c,x=.bl c/\if c=true then oS K [.ref pp,.int k,.int a,.ref l,u] H' Q E0 else Q (.bl false) H') E0:=by
  intro H2 s2 AR TO
  refine bC (tS.same (s1.trans s2)) iQ ⟨by show 1<=sizeLine;decide,λp3 hp3=>?_⟩
  have s3:=ak (o:=.lst [V.int p]) hp3
  have S3:=s1.trans (s2.trans s3)
  refine⟨p3,l,p,k,a,rs,rfl,ag,S3 _ _ hl,R.pm,p9,k0,k1,AR,λH4 s4=>⟨true,rfl,?_⟩⟩
  rw [if_pos rfl]
  have S4:=S3.trans s4
  exact⟨_,u,l,p,g,k,a,ps,ds,rs,sh,rfl,dv.same S4 _ hd,R,k0,k1,S4 _ _ hl,AR,dv.same S4 _ hu,TO,λH5 s5=>q H5 (S4.trans s5)⟩
 refine bC (tS.same s1) iQ ⟨p,k,a,rfl,R.pm,by omega,k0,by omega,λz=>?_,λz d' D'=>⟨λal H2 s2=>?_,λnal w' H2 s2 hw=>?_⟩⟩
 ·rcases T with⟨_,rfl,rfl⟩|⟨z',_⟩
  ·k_data
   rw [if_neg (λz=>z True.intro)]
   refine rest H1 (aA.refl _) ⟨List.pairwise_singleton ..,λr hr'=>?_,⟨λ_=>rfl,λz'=>absurd z z'⟩,by decide⟩ (.inl ⟨z,rfl⟩)
   cases List.mem_singleton.mp hr'
   refine⟨Int.le_refl _,by omega,?_⟩
   show p∣0^k.toNat-a
   rw [Int.zero_pow (by omega),Int.zero_sub]
   exact Int.dvd_neg.mpr z
  ·exact absurd z z'
 ·rcases T with⟨z',_⟩|⟨_,d,D,d4,⟨nal,_⟩|⟨_,RO,r0,t',h1,h2,h3,h4,rfl⟩⟩
  ·exact absurd z' z
  ·obtain rfl:=D.one D'
   exact absurd al nal
  ·k_data
   rw [if_neg (λz=>z True.intro)]
   have l4:=RO.len
   exact rest H2 s2 ⟨RO.rise,RO.ok,⟨λz'=>absurd z' z,λ_ d'' D''=>by rw [RO.len,D.one D'']⟩,by omega⟩ (.inr ⟨z,d,r0,t',D,h1,h2,h3,h4,rfl⟩)
 ·rcases T with⟨z',_⟩|⟨_,d,D,d4,⟨_,rfl,rfl⟩|⟨al,_⟩⟩
  ·exact absurd z' z
  ·obtain rfl:=D.one D'
   obtain⟨pn,n1,n2,n3,rfl,tN,_⟩:=lg hw
   k_data
   rw [if_pos (λz=>nomatch z)]
   refine⟨by show 0<=sizeLine;decide,λp3 hp3=>⟨by show 2<=sizeLine;decide,λp4 hp4=>?_⟩⟩
   have s3:=ak (o:=.lst []) hp3
   have s4:=ak (o:=.tup [V.ref p3,V.ref pn]) hp4
   have e3:upd H2 p3 (.lst []) p3=some (.lst []):=ag
   refine⟨_,_,.tuple [.list [],jY ((p-1)/d) (a^((p-1)/d).toNat%p)],.tuple [.list [],jY ((p-1)/d) (a^((p-1)/d).toNat%p)],rfl,dv.same (s2.trans (s3.trans s4)) _ ht1,dv.tup ag ⟨_,_,rfl,⟨p3,[],rfl,aO.of (s4 _ _ e3),rfl⟩,.one (dv.same (s3.trans s4) _ hw)⟩,?_,?_,λb' H' hb' s'=>?_⟩
   ·have cs:PyData.canLay0 (.str "none")=true:=by decide +kernel
    simp only [jY,PyData.canLay0,PyData.canLayAll0] at cs ⊢
    simpa using cs
   ·simp only [jY,rD,zi,List.length_cons,List.length_nil,and_true]
    exact⟨by decide,by decide,by decide,by decide +kernel⟩
   ·have:b'=true:=hb'.mpr rfl
    subst this
    exact q H' ((s1.trans (s2.trans (s3.trans s4))).trans s')
  ·obtain rfl:=D.one D'
   exact absurd al nal
def gc (k p:Int):Nat:=Nat.gcd k.toNat (p-1).toNat
theorem B7 {p k d:Int} (h:Dg p k d) (p1:1<=p) (k0:0<k):d=(gc k p:Nat):=by
 have d0:=h.pos k0
 unfold gc
 obtain⟨u,v,B⟩:=h
 have e1:((k.toNat:Nat):Int)=k:=Int.toNat_of_nonneg (by omega)
 have e2:(((p-1).toNat:Nat):Int)=p-1:=Int.toNat_of_nonneg (by omega)
 have e3:((d.toNat:Nat):Int)=d:=Int.toNat_of_nonneg (by omega)
 have h1:d.toNat∣Nat.gcd k.toNat (p-1).toNat:=Nat.dvd_gcd (Int.natCast_dvd_natCast.mp (by rw [e3,e1];exact B.da)) (Int.natCast_dvd_natCast.mp (by rw [e3,e2];exact B.db))
 have h2:Nat.gcd k.toNat (p-1).toNat∣d.toNat:=by
  refine Int.natCast_dvd_natCast.mp ?_
  rw [e3,<- B.lin]
  refine Int.dvd_add (Int.dvd_mul_of_dvd_right ?_) (Int.dvd_mul_of_dvd_right ?_)
  ·rw [<- e1];exact Int.natCast_dvd_natCast.mpr (by rw [e1];exact Nat.gcd_dvd_left _ _)
  ·rw [<- e2];exact Int.natCast_dvd_natCast.mpr (by rw [e2];exact Nat.gcd_dvd_right _ _)
 have:=Nat.dvd_antisymm h1 h2
 omega
theorem zB {H:Hp} {Q:VK} {E:XK} {k p:Int} (k0:0<=k) (p1:1<=p) (q:Q (.int (gc k p:Nat)) H):lW [.int k,.int (p-1)] H Q E :=
 ⟨k.toNat,(p-1).toNat,by rw [Int.toNat_of_nonneg k0,Int.toNat_of_nonneg (by omega)],q⟩
def FJ:Sp:=λvs H Q _=>∃(t:Addr) (n:Nat) (p:Int),vs=[.ref t,.int p]/\Tp t n H/\n<=10^40/\2<=p/\p<=1000/\∀ k H',1<=k->k<=10^10->Off t H H'->Tp t (n+3) H'->Q (.int k) H'
theorem m9:aw ["_law_tape_here","_law_p","_law_way"] ["_law_tape_here","_law_p"] (aj (top 85)):=cq
theorem Fo (D:ar K mg "_law_k" (top 85)) (c__law_draw:Callee P w K mg base aG 1 "_law_draw" ["_law_tape_here","_law_many"] iK) (c__law_far:Callee P w K mg base aG 2 "_law_far" ["_law_tape_here","_law_many"] yz) (n_max:mg "max"=none):Callee P w K mg base aG 3 "_law_k" ["_law_tape_here","_law_p"] FJ:=by
 refine cO D m9 (λf cdv A outer s H vs Q E hr h=>?_)
 obtain⟨t,n,p,rfl,tp,n9,p2,p9,q⟩:=h
 have nd:=m9.nd
 refine⟨_,(ae (bh (i:=2) nd (aV c__law_draw hr aB (aa (pv 0) (aa ah af)))) (ae (aN (az a9 (pv 2) ah (ay _)) (ai (av (ao bE ah (aV c__law_draw hr aB (aa (pv 0) (aa ah af)))))) aD) (ae (aN (az a9 (pv 2) ah (ay _)) (ai (av (ao bE ah (aV c__law_far hr aB (aa (pv 0) (aa (ao sA ah ah) af)))))) aD) (ae (aN (az a9 (pv 2) ah (ay _)) (ai (av (aC (uG rfl) rfl n_max L2.boot_max (aa ah (aa (ao aZ (ao bI (pv 1) ah) (ao bE ah (aV c__law_draw hr aB (aa (pv 0) (aa ah af))))) af))))) aD) (ai (av (ao aH (ao bI (pv 1) ah) (ao bE ah (aV c__law_draw hr aB (aa (pv 0) (aa ah af))))))))))),?_⟩
 show aY _ _ _ [some (.ref t),some (.int p),none] H
 k_data
 refine⟨t,4,n,rfl,tp,by omega,by decide,by decide,λr1 H1 r10 r11 o1 t1=>⟨rfl,aK (λc=>?_) (λc=>⟨rfl,aK (λc2=>?_) (λc2=>⟨rfl,aK (λc3=>?_) (λc3=>?_)⟩)⟩)⟩⟩
 ·exact⟨t,12,_,rfl,t1,by omega,by decide,by decide,λr2 H2 r20 r21 o2 t2=>⟨_,rfl,q _ _ (by omega) (by omega) (o1.trans o2) (t2.more (by omega))⟩⟩
 ·exact⟨t,1000000000,_,rfl,t1,by omega,by decide,λr2 H2 r20 r21 o2 t2=>⟨_,rfl,q _ _ (by omega) (by omega) (o1.trans o2) (t2.more (by omega))⟩⟩
 ·refine⟨t,6,_,rfl,t1,by omega,by decide,by decide,λr2 H2 r20 r21 o2 t2=>⟨_,rfl,by omega,Bd.of (by omega) (by omega),q _ _ ?_ ?_ (o1.trans o2) (t2.more (by omega))⟩⟩
  ·split<;>omega
  ·have:=Int.ediv_le_self (1+r2) (show 0<=p-1 by omega)
   split<;>omega
 ·refine⟨t,3,_,rfl,t1,by omega,by decide,by decide,λr2 H2 r20 r21 o2 t2=>⟨_,rfl,Bd.of (by omega) (by omega),Bd.of (by omega) (by omega),q _ _ ?_ ?_ (o1.trans o2) (t2.more (by omega))⟩⟩
  ·have h2:1*1<=(p-1)*(1+r2):=Int.mul_le_mul (by omega) (by omega) (by omega) (by omega)
   omega
  ·have h1:(p-1)*(1+r2)<=1000*3:=Int.mul_le_mul (by omega) (by omega) (by omega) (by omega)
   omega
def yE:Sp:=λvs H Q _=>∃(p a:Int) (e:Nat),vs=[.int p,.int a]/\Num.Pm p/\p<=10^9/\0<a/\a<p/\Num.Ord p a e/\e<=10^9/\Q (.int (e:Int)) H
theorem ig:aw ["_law_p","_law_a","_law_here","_law_many"] ["_law_p","_law_a"] (aj (top 89)):=cq
theorem Ag (D:ar K mg "_law_order" (top 89)):Callee P w K mg base aG 1 "_law_order" ["_law_p","_law_a"] yE:=by
 refine cO D ig (λf cdv A outer s H vs Q E hr h=>?_)
 obtain⟨p,a,e,rfl,pm,p9,a0,a1,o,e9,q⟩:=h
 have nd:=ig.nd
 have p2:=pm.two
 have e0:=o.pos
 refine⟨_,(ae (bh (i:=2) nd (ao aF (pv 1) (pv 0))) (ae (bh (i:=3) nd ah) (ae (bj PassesOwn.never (az cJ (pv 2) ah (ay _)) (ae (bh (i:=2) nd (ao aF (ao aH (pv 2) (pv 1)) (pv 0))) (ai (bh (i:=3) nd (ao bE (pv 3) ah))))) (ai (av (ao aH (pv 3) (pv 2))))))),?_⟩
 show aY _ _ _ [some (.int p),some (.int a),none,none] H
 k_data
 refine⟨by omega,?_⟩
 refine bo (α:=Nat) (λm=>[some (.int p),some (.int a),some (.int (a^m%p)),some (.int (m:Int))]) (λm H'=>H'=H/\1<=m/\m<=e) (λm=>e-m) 1 (by rw [Int.pow_one];rfl) ⟨rfl,by decide,e0⟩ ?_
 rintro m H' ⟨rfl,m1,m2⟩
 replace m1:1<=m:=m1
 replace m2:m<=e:=m2
 k_data
 have b0:=Int.emod_nonneg (a^m) (show p≠0 by omega)
 have b1:=Int.emod_lt_of_pos (a^m) (show 0<p by omega)
 refine aK (λc=>?_) (λc=>?_)
 ·have me:m≠e:=λz=>by
   rw [z,Num.Al.iff.mp o.one,Int.emod_eq_of_lt (by decide) (by omega)] at c
   omega
  refine⟨_,λ_ _ z=>z,Bd.of (by omega) (by omega),Bd.of (by omega) (by omega),by omega,m+1,?_,rfl,by omega,by omega,by omega⟩
  rw [Num.Al.iff.mp ((Num.Al.rest p (a^m)).mul (Num.Al.refl p a)),<- Int.pow_succ]
  rfl
 ·have na:¬p∣a^m:=pm.unit (o.co.pow m)
  have h1:a^m%p=1:=by
   have:a^m%p≠0:=λz=>na (Int.dvd_of_emod_eq_zero z)
   omega
  have me:m=e:=by
   have:=Nat.le_of_dvd (by omega) (o.dv m (Num.Al.iff.mpr (by rw [h1,Int.emod_eq_of_lt (by decide) (by omega)])))
   omega
  rw [h1]
  refine⟨Bd.of (by omega) (by omega),v8 (by decide),?_⟩
  rw [Int.mul_one,me]
  exact q
theorem jT {lo:Int} {n:Nat} {js:List (Option Nat)} {g:TG} {tt:TT} {te:TE} {σ:L2.St} {Q:VK} {H1:Hp} (Pv:Nat->List V->Hp->Prop) (h0:Pv 0 [] H1) (hx:n<=sizeLine) (hl:∀ i ys H,i<=n->Pv i ys H->ys.length<=i)
  (hs:∀ i ys H,i<n->Pv i ys H->g (.int (lo+(i:Int))) (b8 js σ) H λσ2 H2=>bD (b8 js σ) σ2/\tt σ2 H2 λb H3=>if b=true then te σ2 H3 λv H4=>Pv (i+1) (ys++[v]) H4 else Pv (i+1) ys H3)
  (hd:∀ ys H p,Pv n ys H->H p=none->Q (.ref p) (upd H p (.lst ys))):mx (zo lo n) js g tt te σ Q H1:=by
 refine⟨λi m ys H=>m=n-i/\i<=n/\Pv i ys H,⟨n,by simp,Nat.zero_le _,h0⟩,?_⟩
 rintro i m ys H ⟨rfl,hi,p⟩
 have hy:=hl i ys H hi p
 by_cases hlt:i<n
 ·refine .inr ⟨hlt,by omega,Pv (i+1),λys' H' p'=>⟨n-(i+1),by omega,rfl,by omega,p'⟩,?_⟩
  rintro x H' ⟨rfl,rfl⟩
  exact hs i ys H' hlt p
 ·have:i=n:=by omega
  subst this
  exact .inl ⟨Nat.le_refl _,by omega,λq hq=>hd ys H q p hq⟩
theorem ua:∀{a b:List Int},a.Pairwise (·<·)->b.Pairwise (·<·)->(∀ x,x∈a↔x∈b)->a=b
 | [],[],_,_,_=>rfl
 | [],y::b,_,_,h=>absurd ((h y).mpr List.mem_cons_self) (by simp)
 | x::a,[],_,_,h=>absurd ((h x).mp List.mem_cons_self) (by simp)
 | x::a,y::b,ha,hb,h=>by
  have ha':=List.pairwise_cons.mp ha
  have hb':=List.pairwise_cons.mp hb
  have e:x=y:=by
   rcases List.mem_cons.mp ((h x).mp List.mem_cons_self) with z | z
   ·exact z
   ·rcases List.mem_cons.mp ((h y).mpr List.mem_cons_self) with z' | z'
    ·exact z'.symm
    ·have:=hb'.1 x z
     have:=ha'.1 y z'
     omega
  subst e
  rw [ua ha'.2 hb'.2 λz=>⟨λhz=>?_,λhz=>?_⟩]
  ·rcases List.mem_cons.mp ((h z).mp (List.mem_cons_of_mem _ hz)) with e | e
   ·have:=ha'.1 z hz;omega
   ·exact e
  ·rcases List.mem_cons.mp ((h z).mpr (List.mem_cons_of_mem _ hz)) with e | e
   ·have:=hb'.1 z hz;omega
   ·exact e
def eX (p k a:Int) (n:Nat):List Int:=((List.range n).map λi:Nat=>(i:Int)).filter λx=>decide (x^k.toNat%p=a%p)
theorem tD {p k a x:Int} {n:Nat}:x∈eX p k a n↔0<=x/\x<n/\x^k.toNat%p=a%p:=by
 unfold eX
 rw [List.mem_filter,List.mem_map]
 constructor
 ·rintro⟨⟨i,hi,rfl⟩,h⟩
  exact⟨by omega,by have:=List.mem_range.mp hi;omega,by simpa using h⟩
 ·rintro⟨h0,h1,h2⟩
  exact⟨⟨x.toNat,List.mem_range.mpr (by omega),by omega⟩,by simpa using h2⟩
theorem wz {p k a:Int} {n:Nat}:(eX p k a n).Pairwise (·<·):=by
 unfold eX
 refine List.Pairwise.filter _ (List.pairwise_map.mpr ?_)
 exact List.pairwise_lt_range.imp λh=>by omega
theorem zG {p k a:Int} {n:Nat}:(eX p k a n).length<=n:=by
 unfold eX
 refine Nat.le_trans (List.length_filter_le _ _) ?_
 simp
theorem AD {p g k a d:Int} (pm:Num.Pm p) (og:Num.Ord p g (p-1).toNat) (k0:0<k) (D:Dg p k d) (al:Num.Al p (a^((p-1)/d).toNat) 1):∃ r,0<=r/\r<p/\Num.Al p (r^k.toNat) a:=by
 have p2:=pm.two
 have d0:=D.pos k0
 obtain⟨u,v,B⟩:=D
 have hd:=B.db
 have lin:=B.lin
 have ec:=Int.mul_ediv_cancel' hd
 have e0:=Int.ediv_nonneg (show 0<=p-1 by omega) (show 0<=d by omega)
 have q0:0<(p-1)/d:=by
  rcases Int.lt_or_eq_of_le e0 with z | z
  ·exact z
  ·rw [<- z,Int.mul_zero] at ec;omega
 have en:(p-1).toNat=d.toNat*((p-1)/d).toNat:=by
  have:(((p-1).toNat:Nat):Int)=((d.toNat*((p-1)/d).toNat:Nat):Int):=by
   rw [Int.natCast_mul,Int.toNat_of_nonneg (by omega),Int.toNat_of_nonneg e0,Int.toNat_of_nonneg (by omega),ec]
  omega
 have o':=Num.fD og (q:=((p-1)/d).toNat) ⟨d.toNat,by rw [en,Nat.mul_comm]⟩
 rw [show (p-1).toNat/((p-1)/d).toNat=d.toNat by rw [en,Nat.mul_div_cancel _ (by omega)]] at o'
 obtain⟨x,_,hx⟩:=Num.i7 pm o' al
 refine⟨Num.Pz (p-1) g (u*x)%p,Int.emod_nonneg _ (by omega),Int.emod_lt_of_pos _ (by omega),?_⟩
 have h1:Num.Al p (Num.Pz (p-1) g (u*x)%p) (Num.Pz (p-1) g (u*x)):=Num.Al.iff.mpr (Int.emod_emod_of_dvd _ (Int.dvd_refl _))
 have n0:0<p-1:=by omega
 have h2:=(h1.pow k.toNat).trans (Num.lL n0 og.one (u*x) k.toNat)
 rw [Int.toNat_of_nonneg (by omega),Num.eB (z:=u*x*k) (y:=d*x) ⟨-(v*x),by rw [<- lin];grind⟩] at h2
 have h3:=h2.trans (Num.fF n0 og.one (z:=d*x) (Int.mul_nonneg (by omega) (by omega)))
 rw [show (d*(x:Int)).toNat=d.toNat*x by
  have:(((d*(x:Int)).toNat:Nat):Int)=((d.toNat*x:Nat):Int):=by
   rw [Int.natCast_mul,Int.toNat_of_nonneg (Int.mul_nonneg (by omega) (by omega)),Int.toNat_of_nonneg (by omega)]
  omega,<- Num.bz] at h3
 exact h3.trans hx.symm
theorem wA {p g k a d:Int} (pm:Num.Pm p) (og:Num.Ord p g (p-1).toNat) (k0:0<k) (na:¬p∣a) (D:Dg p k d) (al:Num.Al p (a^((p-1)/d).toNat) 1):iO p k a d (eX p k a p.toNat):=by
 have p2:=pm.two
 have d0:=D.pos k0
 obtain⟨r,r0,r1,hr⟩:=AD pm og k0 D al
 have hdk:d∣k:=by obtain⟨u,v,B⟩:=id D;exact B.da
 have hdp:d∣p-1:=by obtain⟨u,v,B⟩:=id D;exact B.db
 have k':k.toNat=(k.toNat-1)+1:=by omega
 have nr:¬p∣r:=λz=>na (by
  have h4:p∣r^k.toNat:=by rw [k',Int.pow_succ];exact Int.dvd_mul_of_dvd_right z
  have h5:p∣r^k.toNat-a:=hr
  have:=Int.dvd_sub h4 h5
  rwa [show r^k.toNat-(r^k.toNat-a)=a by omega] at this)
 have ot:Num.Ord p (g^((p-1).toNat/d.toNat)) d.toNat:=Num.fD og (Int.natCast_dvd_natCast.mp (by rw [Int.toNat_of_nonneg (by omega),Int.toNat_of_nonneg (by omega)];exact hdp))
 have RO:iO p k a d ((((List.range d.toNat).map λi=>r*(g^((p-1).toNat/d.toNat))^i%p)).mergeSort):=m7 pm k0 d0 hdk D r0 r1 nr hr ot (List.mergeSort_perm ..) (by
  have:=List.pairwise_mergeSort (le:=λa b:Int=>decide (a<=b)) (λa b c h1 h2=>by simp at *;omega) (λa b=>by simp;omega) ((List.range d.toNat).map λi=>r*(g^((p-1).toNat/d.toNat))^i%p)
  exact this.imp λh=>by simpa using h)
 have ep:((p.toNat:Nat):Int)=p:=Int.toNat_of_nonneg (by omega)
 have e:eX p k a p.toNat=(((List.range d.toNat).map λi=>r*(g^((p-1).toNat/d.toNat))^i%p)).mergeSort:=ua wz RO.rise λx=>by
  rw [tD,ep]
  exact⟨fun⟨h0,h1,h2⟩=>RO.all x h0 h1 (Num.Al.iff.mpr h2),λh=>⟨(RO.ok x h).1,(RO.ok x h).2.1,Num.Al.iff.mp (RO.ok x h).2.2⟩⟩
 rw [e]
 exact RO
def uo (K:PySem.W.Frag):Sp:=λvs H Q _=>∃(p0:Addr) (v:V) (n:Nat) (p g:Int) (ps:List (Int × Int)) (ds:Nat->PyData),vs=[.ref p0,v]/\Tp p0 n H/\n<=10^40/\dv K H (.tuple [.int p,.int g,.tuple (Num.rowsOf ps ds)]) v/\ph p g ps ds/\∀ g' t H',1<=g'->g'<p->Num.Ord p g' (p-1).toNat->nK p0 H H'->Tp p0 (n+1) H'->dv K H' (.tuple [.int p,.int g',.tuple (Num.rowsOf ps ds)]) (.ref t)->Q (.ref t) H'
theorem dN:aw ["_law_tape_here","_law_paper","_law_p","_law_full"] ["_law_tape_here","_law_paper"] (aj (top 92)):=cq
theorem xE (D:ar K mg "_law_other_paper" (top 92)) (c__law_draw:Callee P w K mg base aG 1 "_law_draw" ["_law_tape_here","_law_many"] iK) (c__law_power:Callee P w K mg base aG 1 "_law_power" ["_law_n","_law_a","_law_e"] sL) (n_any:mg "any"=none):Callee P w K mg base aG 2 "_law_other_paper" ["_law_tape_here","_law_paper"] (uo K):=by
 refine cO D dN (λf cdv A outer s H vs Q E hr h=>?_)
 obtain⟨p0,v,n,p,g,ps,ds,rfl,tp,n9,hd,R,q⟩:=h
 have p2:=R.pm.two
 have p9:=R.p9
 have nd:=dN.nd
 refine⟨_,(ae (gh (i:=2) nd rfl (Or.inr rfl) (aJ aS (pv 1) ah (λ_ _=>rfl))) (ae (gh (i:=3) nd rfl (Or.inr rfl) (ao bE ah (aV c__law_draw hr aB (aa (pv 0) (aa (ao bI (pv 2) ah) af))))) (ae (bj PassesOwn.never (aT (aC (wb rfl) rfl n_any L2.boot_any (aa (dc rfl (kG (N':=["_law_part","_law_p","_law_full"]) (js:=[none,some 2,some 3]) rfl rfl) (fZ (aJ aS (pv 1) ah (λ_ _=>rfl))) (λ_ _ _ _=>(aq (i:=0) (show List.Nodup [("_law_part":Str),("_law_p":Str),("_law_full":Str)] from by decide +kernel) rfl (Or.inl rfl) (.inr rfl))) (λ_ _ _ _=>aX) (λ_ _ _ _=>(bA a9 (aV c__law_power hr aB (aa (pv 1) (aa (pv 2) (aa (ao aZ (ao bI (pv 1) ah) (aJ (bQ K rfl) (aJ (bQ K rfl) (pv 0) ah (λ_ _=>rfl)) ah (λ_ _=>rfl))) af)))) ah (ay _)))) af)) (λ_=>rfl)) (ai (gh (i:=3) nd rfl (Or.inr rfl) (ao bE (ao aF (pv 3) (ao bI (pv 2) ah)) ah)))) (ai (av (aI (aa (pv 2) (aa (pv 3) (aa (aJ aS (pv 1) ah (λ_ _=>rfl)) af))))))))),?_⟩
 show aY _ _ _ [some (.ref p0),some v,none,none] H
 have nl:qj (.tuple [.int p,.int g,.tuple (Num.rowsOf ps ds)])=true:=by
  simp only [qj,fC,Bool.and_true,Bool.true_and]
  refine lE λr hr=>?_
  obtain⟨i,q,k,h,rfl⟩:=gu hr
  simp only [qj,fC,Bool.and_true]
  exact tO (R.hds i q k h)
 obtain⟨pp,y1,y2,vr,rfl,tS,e0,eg,dr⟩:=lg (id hd)
 cases e0
 cases eg
 k_data
 refine bC tS iQ ⟨p,rfl,p0,p-1,n,rfl,tp,by omega,by omega,by omega,λr1 H1 r10 r11 o1 t1=>⟨_,rfl,?_⟩⟩
 have hd1:=tp.A8 o1.Br nl hd
 obtain⟨pp',y1,y2,vr',epp,tS1,e0,eg,dr1⟩:=lg (id hd1)
 cases epp
 cases e0
 cases eg
 have g1:=R.g1
 have gp:=R.gp
 refine bo (α:=Int) (λz=>[some (.ref p0),some (.ref pp),some (.int p),some (.int z)]) (λz H2=>aA H1 H2/\1<=z/\z<p) (λz=>if z<=g then (g-z).toNat else (g-z+(p-1)).toNat) (1+r1) rfl ⟨aA.refl _,by show 1<=1+r1;omega,by show 1+r1<p;omega⟩ ?_
 rintro z H2 ⟨s2,z1,zp⟩
 replace z1:1<=z:=z1
 replace zp:z<p:=zp
 have hd2:=dv.same s2 _ hd1
 obtain⟨pr,xs,rfl,hSr,hxs⟩:=dv.same s2 _ dr1
 have xl:xs.length=ps.length:=by rw [hxs.length,Num.bK]
 k_data
 refine bC (tS1.same s2) rfl ⟨pr,rfl,⟨_,hSr⟩,?_⟩
 refine dS (xs:=xs) (λi zs H3=>H3=H2/\zs=(ps.take i).map λy=>V.bl (decide (z^((p-1)/y.1).toNat%p=1))) ⟨rfl,rfl⟩ (by rw [xl];exact Nat.le_trans R.l29 (by decide)) (λi zs H3 hi ⟨z1,z2⟩=>⟨by rw [z1];exact hSr,by rw [z2,List.length_map,List.length_take];omega⟩) ?_ ?_
 ·rintro i x zs H3 hx ⟨rfl,rfl⟩
  obtain⟨q',k',pt,u,hy,rfl,t1',du⟩:=ub hxs hx
  obtain⟨g2,rr,eg⟩:=(R.hds i q' k' hy).head
  rw [eg] at du
  obtain⟨pq,zs',rfl,t2',y3,r3,rfl,f3,_⟩:=du
  cases f3
  have q2:=(R.hP.ok _ (List.mem_of_getElem? hy)).1.two
  replace q2:2<=q':=q2
  have qp:q'∣p-1:=by rw [<- R.hP.prod];exact Num.d5 (List.mem_of_getElem? hy) (R.hP.ok _ (List.mem_of_getElem? hy)).2.1
  have qle:=Int.le_of_dvd (by omega) qp
  show cI 0 _ [none,some (.int p),some (.int z)] _ _
  k_data
  refine⟨⟨rfl,rfl,True.intro⟩,bC t1' iQ (bC t2' iQ ⟨_,rfl,by omega,Bd.of (by omega) (by omega),p,z,_,rfl,by omega,by omega,by omega,by omega,Int.ediv_nonneg (by omega) (by omega),rfl,rfl,?_⟩)⟩
  rw [List.take_add_one,hy,List.map_append]
  simp
 ·rintro zs H3 p3 ⟨rfl,rfl⟩ hp3
  rw [xl,List.take_length] at *
  have s3:=ak (o:=.lst (ps.map λy=>V.bl (decide (z^((p-1)/y.1).toNat%p=1)))) hp3
  refine BZ (bs:=ps.map λy=>decide (z^((p-1)/y.1).toNat%p=1)) (aO.of (by rw [ag,List.map_map];rfl)) ⟨_,aM.mpr rfl,?_⟩
  generalize upd H3 p3 _=H4 at *
  have lo:∀{c:Int},Du p c (p-1) (ps.map (·.1))↔Num.Ord p c (p-1).toNat:=kM p2 R.hP (by omega)
  cases hb:(ps.map λy=>decide (z^((p-1)/y.1).toNat%p=1)).any id with
  | true =>
   rw [if_pos rfl]
   have zg:z≠g:=λe=>by
    subst e
    obtain⟨x,hx,e1⟩:=List.any_eq_true.mp hb
    obtain⟨y,hy,rfl⟩:=List.mem_map.mp hx
    exact (lo.mpr R.o).2 y.1 (List.mem_map.mpr ⟨y,hy,rfl⟩) (of_decide_eq_true e1)
   have em:z%(p-1)+1=if z<p-1 then z+1 else 1:=by
    split
    ·rw [Int.emod_eq_of_lt (by omega) (by omega)]
    ·rw [show z=p-1 by omega,Int.emod_self]
     rfl
   refine⟨_,λ_ _ z=>z,by omega,z%(p-1)+1,rfl,s2.trans s3,?_⟩
   rw [em]
   split
   ·refine⟨by omega,by omega,?_⟩
    first | (split<;>split<;>omega) | (split<;>omega) | omega
   ·refine⟨by omega,by omega,?_⟩
    first | (split<;>split<;>omega) | (split<;>omega) | omega
  | false =>
   rw [if_neg (by decide)]
   have no:¬p∣z:=λh=>by have:=Int.le_of_dvd (by omega) h;omega
   have oz:Num.Ord p z (p-1).toNat:=lo.mp ⟨(cQ p2).mpr (Num.fR R.pm no),λq' hq' e1=>by
    obtain⟨y,hy,rfl⟩:=List.mem_map.mp hq'
    have hm:decide (z^((p-1)/y.1).toNat%p=1)∈ps.map λy=>decide (z^((p-1)/y.1).toNat%p=1):=List.mem_map.mpr ⟨y,hy,rfl⟩
    rw [decide_eq_true e1] at hm
    have:(ps.map λy=>decide (z^((p-1)/y.1).toNat%p=1)).any id=true:=List.any_eq_true.mpr ⟨true,hm,rfl⟩
    rw [hb] at this
    cases this⟩
   refine bC ((tS1.same s2).same s3) rfl ⟨by show 3<=sizeLine;decide,λt ht=>?_⟩
   have s4:=ak (o:=.tup [V.int p,V.int z,V.ref pr]) ht
   have S4:=s2.trans (s3.trans s4)
   exact q z t _ z1 zp oz (o1.Br.trans (nK.of S4)) (t1.same S4) (dv.tup ag ⟨_,_,rfl,rfl,_,_,rfl,rfl,.one ⟨pr,xs,rfl,(hSr.same s3).same s4,aQ.same (s3.trans s4) _ hxs⟩⟩)
noncomputable def iD (p:Int) (d:Nat) (n:Nat):List Int:=by
 classical
 exact ((List.range n).map λi:Nat=>1+(i:Int)).filter λx=>decide (Num.Ord p x d)
theorem vx {p:Int} {d n:Nat}:iD p d (n+1)=iD p d n++(open Classical in if Num.Ord p (1+(n:Int)) d then [1+(n:Int)] else []):=by
 unfold iD
 rw [List.range_succ,List.map_append,List.filter_append]
 congr 1
 simp only [List.map_cons,List.map_nil]
 split
 ·rename_i h;rw [List.filter_cons_of_pos (by simpa using h)];rfl
 ·rename_i h;rw [List.filter_cons_of_neg (by simpa using h)];rfl
theorem qB {p x:Int} {d n:Nat}:x∈iD p d n↔1<=x/\x<=n/\Num.Ord p x d:=by
 unfold iD
 rw [List.mem_filter,List.mem_map]
 constructor
 ·rintro⟨⟨i,hi,rfl⟩,h⟩
  exact⟨by omega,by have:=List.mem_range.mp hi;omega,by simpa using h⟩
 ·rintro⟨h0,h1,h2⟩
  exact⟨⟨(x-1).toNat,List.mem_range.mpr (by omega),by omega⟩,by simpa using h2⟩
theorem qA {p:Int} {d n:Nat}:(iD p d n).length<=n:=by
 unfold iD
 refine Nat.le_trans (List.length_filter_le _ _) ?_
 simp
def uw:Sp:=λvs H Q _=>∃(p0:Addr) (n:Nat) (p:Int) (d:Nat),vs=[.ref p0,.int p,.int d]/\Tp p0 n H/\n<=10^40/\Num.Pm p/\p<=1000/\(∃ x,1<=x/\x<p/\Num.Ord p x d)/\∀ t H',1<=t->t<p->Num.Ord p t d->nK p0 H H'->Tp p0 (n+1) H'->Q (.int t) H'
theorem je:aw ["_law_tape_here","_law_p","_law_d","_law_some"] ["_law_tape_here","_law_p","_law_d"] (aj (top 90)):=cq
theorem xP (D:ar K mg "_law_turn" (top 90)) (c__law_draw:Callee P w K mg base aG 1 "_law_draw" ["_law_tape_here","_law_many"] iK) (c__law_order:Callee P w K mg base aG 1 "_law_order" ["_law_p","_law_a"] yE) (n_range:mg "range"=none) (n_len:mg "len"=none):Callee P w K mg base aG 2 "_law_turn" ["_law_tape_here","_law_p","_law_d"] uw:=by
 refine cO D je (λf cdv A outer s H vs Q E hr h=>?_)
 obtain⟨p0,n,p,d,rfl,tp,n9,pm,p9,⟨x0,x1,xp,ox⟩,q⟩:=h
 have p2:=pm.two
 have nd:=je.nd
 refine⟨_,(ae (i9 (i0:=3) nd rfl (Or.inl rfl) rfl (kG (N':=["_law_x","_law_d","_law_p"]) (js:=[none,some 2,some 1]) rfl rfl) (vF rfl n_range (aa ah (aa (pv 1) af))) (λ_ _ _ _=>(aq (i:=0) (show List.Nodup [("_law_x":Str),("_law_d":Str),("_law_p":Str)] from by decide +kernel) rfl (Or.inl rfl) (.inr rfl))) (λ_ _ _ _=>(gb (az a9 (aV c__law_order hr aB (aa (pv 2) (aa (pv 0) af))) (pv 1) (ay _)))) (λ_ _ _ _=>(pv 0)) (by rfl) (by first | exact .inl rfl | exact .inr rfl)) (ai (av (aJ fA (pv 3) (aV c__law_draw hr aB (aa (pv 0) (aa (aC bp rfl n_len PySem.boot_len (aa (pv 3) af)) af))) (λ_ _=>rfl))))),?_⟩
 show aY _ _ _ [some (.ref p0),some (.int p),some (.int (d:Int)),none] H
 k_data
 refine⟨by omega,by omega,?_⟩
 refine jT (λj ys H'=>H'=H/\ys=(iD p d j).map V.int) ⟨rfl,rfl⟩ (Nat.le_trans (show (p-1).toNat<=1000 by omega) (by decide)) (λj ys H' _ h=>by rw [h.2,List.length_map];exact qA) ?_ ?_
 ·rintro j ys H2 hj ⟨rfl,rfl⟩
  have nj:¬p∣1+(j:Int):=λz=>by have:=Int.le_of_dvd (by omega) z;omega
  obtain⟨m,om,ml⟩:=xU pm nj
  simp only [b8,List.map_cons,List.map_nil,Option.join]
  k_data
  refine⟨⟨rfl,rfl,True.intro⟩,_,rfl,p,1+(j:Int),m,rfl,pm,by omega,by omega,by omega,om,by omega,_,rfl,rfl,?_⟩
  rw [vx]
  refine aK (λc=>⟨rfl,?_⟩) (λc=>⟨rfl,?_⟩)
  ·have e:m=d:=by have:=V.int.inj c;omega
   subst e
   rw [if_pos om,List.map_append];rfl
  ·rw [if_neg (λz=>c (by rw [om.sx z])),List.append_nil]
 rintro ys H2 pl ⟨rfl,rfl⟩ hpl
 have s2:=ak (o:=.lst ((iD p d (p-1).toNat).map V.int)) hpl
 have e2:upd H2 pl (.lst ((iD p d (p-1).toNat).map V.int)) pl=some (.lst ((iD p d (p-1).toNat).map V.int)):=ag
 generalize upd H2 pl (.lst ((iD p d (p-1).toNat).map V.int))=H3 at *
 have l1:0<(iD p d (p-1).toNat).length:=List.length_pos_of_mem (qB.mpr ⟨x1,by omega,ox⟩)
 have l2:(iD p d (p-1).toNat).length<=(p-1).toNat:=qA
 refine cM (aO.of e2) ?_
 rw [List.length_map]
 refine⟨p0,_,n,rfl,tp.same s2,by omega,by omega,by omega,λr H4 r0 r1 o4 t4=>?_⟩
 have ne:pl≠p0:=λz=>by
  obtain⟨c,x,y,cs,g1,g2,g3⟩:=tp
  rw [z,g1] at hpl
  cases hpl
 have e4:H4 pl=some (.lst ((iD p d (p-1).toNat).map V.int)):=by rw [o4 pl ne];exact e2
 refine kL (aO.of e4) r0 (by rw [List.length_map];exact r1) λv hv=>?_
 obtain⟨x,hx,rfl⟩:=List.mem_map.mp hv
 obtain⟨a1,a2,a3⟩:=qB.mp hx
 exact q x H4 a1 (by omega) a3 ((nK.of s2).trans o4.Br) t4
theorem sX {A B:Int}:∀(N:Nat) {g u v ng nu nv:Int},ng.toNat<=N->Gcd.J A B g u v ng nu nv->∃ g u v nu nv,Gcd.J A B g u v 0 nu nv
 | 0,g,u,v,ng,nu,nv,h,j=>by
  have e:ng=0:=by have:=j.n0;omega
  subst e
  exact⟨_,_,_,_,_,j⟩
 | N+1,g,u,v,ng,nu,nv,h,j=>by
  rcases Int.lt_or_eq_of_le j.n0 with z | z
  ·have t:=j.turn z
   exact sX N (by have:=t.2.1;omega) t.1
  ·subst z
   exact⟨_,_,_,_,_,j⟩
theorem DQ {p k:Int} (p1:1<=p) (k0:0<k):∃ d,Dg p k d:=by
 obtain⟨g,u,v,nu,nv,j⟩:=sX (A:=if k<0 then -k else k) (B:=if p-1<0 then -(p-1) else p-1) _ (Nat.le_refl _) (Gcd.J.start (by split<;>omega) (by split<;>omega))
 exact⟨g,_,_,j.done⟩
theorem B8 {p k a d x:Int} (pm:Num.Pm p) (k0:0<k) (na:¬p∣a) (D:Dg p k d) (h3:Num.Al p (x^k.toNat) a):Num.Al p (a^((p-1)/d).toNat) 1:=by
 have p2:=pm.two
 have d0:=D.pos k0
 have k':k.toNat=(k.toNat-1)+1:=by omega
 have hdk:d∣k:=by obtain⟨u,v,B⟩:=id D;exact B.da
 have hdp:d∣p-1:=by obtain⟨u,v,B⟩:=id D;exact B.db
 have nx:¬p∣x:=fun⟨y,hy⟩=>na (by
  have h4:p∣x^k.toNat:=by rw [k',Int.pow_succ];exact Int.dvd_mul_of_dvd_right ⟨y,hy⟩
  have h5:p∣x^k.toNat-a:=h3
  have:=Int.dvd_sub h4 h5
  rwa [show x^k.toNat-(x^k.toNat-a)=a by omega] at this)
 have h4:=(h3.pow ((p-1)/d).toNat).symm
 rw [Num.bz] at h4
 refine h4.trans ?_
 obtain⟨c,hc⟩:=hdk
 have c0:0<=c:=by
  rcases Int.lt_or_le c 0 with z | z
  ·have:=Int.mul_neg_of_pos_of_neg d0 z;omega
  ·exact z
 have e0:=Int.ediv_nonneg (show 0<=p-1 by omega) (show 0<=d by omega)
 have e2:k.toNat*((p-1)/d).toNat=(p-1).toNat*c.toNat:=by
  have:((k.toNat*((p-1)/d).toNat:Nat):Int)=(((p-1).toNat*c.toNat:Nat):Int):=by
   rw [Int.natCast_mul,Int.natCast_mul,Int.toNat_of_nonneg (by omega),Int.toNat_of_nonneg e0,Int.toNat_of_nonneg (by omega),Int.toNat_of_nonneg c0,hc]
   have:=Int.mul_ediv_cancel' hdp
   grind
  omega
 rw [e2]
 exact Num.aL (Num.fR pm nx)
def yy (K:PySem.W.Frag):Sp:=λvs H Q _=>∃(p0:Addr) (n:Nat) (p k a g:Int),vs=[.ref p0,.int p,.int k,.int a]/\Tp p0 n H/\n<=10^40/\Num.Pm p/\p<=71/\Num.Ord p g (p-1).toNat/\0<k/\k<=10^60 /\ -(10^60)<=a/\a<=10^60/\∀ t l u rs sh H',zu p k a rs sh->nK p0 H H'->Tp p0 (n+1) H'->bG K H' t [.ref l,u]->H' l=some (.lst (rs.map V.int))->dv K H' sh u->Q (.ref t) H'
theorem j4:aw ["_law_tape_here","_law_p","_law_k_here","_law_a","_law_roots_here","_law_e"] ["_law_tape_here","_law_p","_law_k_here","_law_a"] (aj (top 91)):=cq
theorem z7 (D:ar K mg "_law_due" (top 91)) (c__law_power:Callee P w K mg base aG 1 "_law_power" ["_law_n","_law_a","_law_e"] sL) (c__law_common:Callee P w K mg base aG 1 "_law_common" ["_law_one","_law_other"] lW) (c__law_turn:Callee P w K mg base aG 2 "_law_turn" ["_law_tape_here","_law_p","_law_d"] uw) (n_range:mg "range"=none) (n_len:mg "len"=none):Callee P w K mg base aG 3 "_law_due" ["_law_tape_here","_law_p","_law_k_here","_law_a"] (yy K):=by
 refine cO D j4 (λf cdv A outer s H vs Q E hr h=>?_)
 obtain⟨p0,n,p,k,a,g,rfl,tp,n9,pm,p9,og,k0,k1,a0,a1,q⟩:=h
 have p2:=pm.two
 have nd:=j4.nd
 refine⟨_,(ae (i9 (i0:=4) nd rfl (Or.inl rfl) rfl (kG (N':=["_law_x","_law_p","_law_k_here","_law_a"]) (js:=[none,some 1,some 2,some 3]) rfl rfl) (dX rfl n_range (aa (pv 1) af)) (λ_ _ _ _=>(aq (i:=0) (show List.Nodup [("_law_x":Str),("_law_p":Str),("_law_k_here":Str),("_law_a":Str)] from by decide +kernel) rfl (Or.inl rfl) (.inr rfl))) (λ_ _ _ _=>(gb (az a9 (aV c__law_power hr aB (aa (pv 1) (aa (pv 0) (aa (pv 2) af)))) (ao aF (pv 3) (pv 1)) (ay _)))) (λ_ _ _ _=>(pv 0)) (by rfl) (by first | exact .inl rfl | exact .inr rfl)) (ae (aN (az a9 (ao aF (pv 3) (pv 1)) ah (ay _)) (ai (av (aI (aa (cf (aa ah af)) (aa (aI (aa bL af)) af))))) aD) (ae (aN (az (xS hr.units) (pv 4) (cf af) (ay _)) (ae (bh (i:=5) nd (ao aZ (ao bI (pv 1) ah) (aV c__law_common hr aB (aa (pv 2) (aa (ao bI (pv 1) ah) af))))) (ai (av (aI (aa (cf af) (aa (aI (aa bL (aa (pv 5) (aa (aV c__law_power hr aB (aa (pv 1) (aa (pv 3) (aa (pv 5) af)))) af)))) af)))))) aD) (ai (av (aI (aa (pv 4) (aa (aI (aa bL (aa (aJ fA (pv 4) ah (λ_ _=>rfl)) (aa (aV c__law_turn hr aB (aa (pv 0) (aa (pv 1) (aa (aC bp rfl n_len PySem.boot_len (aa (pv 4) af)) af)))) af)))) af)))))))),?_⟩
 show aY _ _ _ [some (.ref p0),some (.int p),some (.int k),some (.int a),none,none] H
 have ep:((p.toNat:Nat):Int)=p:=Int.toNat_of_nonneg (by omega)
 have k':k.toNat=(k.toNat-1)+1:=by omega
 k_data
 refine⟨by omega,by omega,?_⟩
 refine jT (λj ys H'=>H'=H/\ys=(eX p k a j).map V.int) ⟨rfl,rfl⟩ (Nat.le_trans (show p.toNat<=71 by omega) (by decide)) (λj ys H' _ h=>by rw [h.2,List.length_map];exact zG) ?_ ?_
 ·rintro j ys H7 hj ⟨rfl,rfl⟩
  have dsu:eX p k a (j+1)=eX p k a j++(if ((j:Nat):Int)^k.toNat%p=a%p then [((j:Nat):Int)] else []):=by
   unfold eX
   rw [List.range_succ,List.map_append,List.filter_append]
   congr 1
   simp only [List.map_cons,List.map_nil]
   split
   ·rename_i h;rw [List.filter_cons_of_pos (by simpa using h)];rfl
   ·rename_i h;rw [List.filter_cons_of_neg (by simpa using h)];rfl
  rw [Int.zero_add]
  simp only [b8,List.map_cons,List.map_nil,Option.join]
  k_data
  refine⟨⟨rfl,rfl,rfl,True.intro⟩,_,rfl,_,rfl,p,j,k,rfl,by omega,by omega,by omega,by omega,by omega,_,rfl,_,rfl,a,rfl,p,rfl,by omega,rfl,?_⟩
  rw [dsu]
  refine aK (λc=>⟨rfl,?_⟩) (λc=>⟨rfl,?_⟩)
  ·rw [if_pos (V.int.inj c),List.map_append];rfl
  ·rw [if_neg (λz=>c (by rw [z])),List.append_nil]
 rintro ys H7 dl ⟨rfl,rfl⟩ hdl
 have s8:=ak (o:=.lst ((eX p k a p.toNat).map V.int)) hdl
 have e8:upd H7 dl (.lst ((eX p k a p.toNat).map V.int)) dl=some (.lst ((eX p k a p.toNat).map V.int)):=ag
 generalize upd H7 dl (.lst ((eX p k a p.toNat).map V.int))=H8 at *
 have t8:=tp.same s8
 refine⟨by omega,aK (λc=>?_) (λc=>?_)⟩
 ·refine⟨by show 1<=sizeLine;decide,λq1 h1=>⟨by show 1<=sizeLine;decide,λq2 h2=>⟨by show 2<=sizeLine;decide,λq3 h3=>?_⟩⟩⟩
  have z1:=ak (o:=.lst [V.int 0]) h1
  have z2:=ak (o:=.tup [V.str "nought"]) h2
  have z3:=ak (o:=.tup [V.ref q1,V.ref q2]) h3
  have f1:upd H8 q1 (.lst [V.int 0]) q1=some (.lst [V.int 0]):=ag
  have f2:upd (upd H8 q1 (.lst [V.int 0])) q2 (.tup [V.str "nought"]) q2=some (.tup [V.str "nought"]):=ag
  have S:=s8.trans (z1.trans (z2.trans z3))
  exact q q3 q1 (.ref q2) [0] _ _ (.inl ⟨Int.dvd_of_emod_eq_zero c,rfl,rfl⟩) (nK.of S) ((tp.same S).more (by omega)) (bG.of ag) (z3 _ _ (z2 _ _ f1)) (dv.tup (z3 _ _ f2) (.one rfl))
 have na:¬p∣a:=λz=>c (Int.emod_eq_zero_of_dvd z)
 obtain⟨d,D⟩:=DQ (p:=p) (by omega) k0
 have d0:=D.pos k0
 have ed:=B7 D (by omega) k0
 have hdp:d∣p-1:=by obtain⟨u,v,B⟩:=id D;exact B.db
 have d1:d<=p-1:=Int.le_of_dvd (by omega) hdp
 have e0:=Int.ediv_nonneg (show 0<=p-1 by omega) (show 0<=d by omega)
 refine⟨by show 0<=sizeLine;decide,λpe hpe=>?_⟩
 have s9:=ak (o:=.lst []) hpe
 refine wc (bs:=eX p k a p.toNat) (cs:=[]) (aO.of (s9 _ _ e8)) (aO.of ag) ⟨_,rfl,?_⟩
 generalize upd H8 pe (.lst [])=H9 at *
 have S9:=s8.trans s9
 have e9:=s9 _ _ e8
 by_cases hr0:eX p k a p.toNat=[]
 ·rw [if_pos (by simpa using hr0)]
  have nal:¬Num.Al p (a^((p-1)/d).toNat) 1:=λal=>by
   have:=(wA pm og k0 na D al).len
   rw [hr0] at this
   have:(0:Int)=d:=this
   omega
  refine zB (by omega) (by omega) ⟨_,rfl,by omega,Bd.of (by omega) (by omega),by show 0<=sizeLine;decide,λq1 h1=>?_⟩
  rw [<- ed]
  have z1:=ak (o:=.lst []) h1
  have f1:upd H9 q1 (.lst []) q1=some (.lst []):=ag
  refine⟨p,a,_,rfl,by omega,by omega,by omega,by omega,e0,by show 3<=sizeLine;decide,λq2 h2=>⟨by show 2<=sizeLine;decide,λq3 h3=>?_⟩⟩
  have z2:=ak (o:=.tup [V.str "none",V.int ((p-1)/d),V.int (a^((p-1)/d).toNat%p)]) h2
  have f2:upd (upd H9 q1 (.lst [])) q2 (.tup [V.str "none",V.int ((p-1)/d),V.int (a^((p-1)/d).toNat%p)]) q2=some (.tup [V.str "none",V.int ((p-1)/d),V.int (a^((p-1)/d).toNat%p)]):=ag
  have z3:=ak (o:=.tup [V.ref q1,V.ref q2]) h3
  have S:=S9.trans (z1.trans (z2.trans z3))
  exact q q3 q1 (.ref q2) [] _ _ (.inr ⟨na,d,D,by omega,.inl ⟨nal,rfl,rfl⟩⟩) (nK.of S) ((tp.same S).more (by omega)) (bG.of ag) (z3 _ _ (z2 _ _ f1)) (dv.tup (z3 _ _ f2) ⟨_,_,rfl,rfl,_,_,rfl,rfl,.one rfl⟩)
 ·rw [if_neg (by simpa using hr0)]
  obtain⟨r0,rr,er⟩:=List.exists_cons_of_ne_nil hr0
  obtain⟨m0,m1,m2⟩:=tD.mp (show r0∈eX p k a p.toNat by rw [er];exact List.mem_cons_self)
  have al:=B8 pm k0 na D (Num.Al.iff.mpr m2)
  have RO:=wA pm og k0 na D al
  have ln:(eX p k a p.toNat).length=d.toNat:=by have:=RO.len;omega
  have at0':(eX p k a p.toNat)[0]?=some r0:=by rw [er];rfl
  refine wU (aO.of e9) (Int.le_refl 0) (v:=.int r0) (by show (List.map V.int _)[0]?=_;rw [List.getElem?_map,at0'];rfl) (cM (aO.of e9) ?_)
  rw [List.length_map,ln]
  have ot:Num.Ord p (g^((p-1).toNat/d.toNat)) d.toNat:=Num.fD og (Int.natCast_dvd_natCast.mp (by rw [Int.toNat_of_nonneg (by omega),Int.toNat_of_nonneg (by omega)];exact hdp))
  have ot':=Num.jK (Num.Al.rest p (g^((p-1).toNat/d.toNat))).symm ot
  have x0:=Int.emod_nonneg (g^((p-1).toNat/d.toNat)) (show p≠0 by omega)
  have x1:=Int.emod_lt_of_pos (g^((p-1).toNat/d.toNat)) (show 0<p by omega)
  have x2:g^((p-1).toNat/d.toNat)%p≠0:=λz=>CI pm ot (Int.dvd_of_emod_eq_zero z)
  refine⟨p0,n,p,d.toNat,rfl,tp.same S9,n9,pm,by omega,⟨_,by omega,x1,ot'⟩,λt H10 t1 tp1 o1 of1 tp10=>⟨by show 3<=sizeLine;decide,λq2 h2=>⟨by show 2<=sizeLine;decide,λq3 h3=>?_⟩⟩⟩
  have ne:dl≠p0:=λz=>by
   obtain⟨c,x,y,cs,g1,g2,g3⟩:=tp
   rw [z,g1] at hdl
   cases hdl
  have z2:=ak (o:=.tup [V.str "turned",V.int r0,V.int t]) h2
  have f2:upd H10 q2 (.tup [V.str "turned",V.int r0,V.int t]) q2=some (.tup [V.str "turned",V.int r0,V.int t]):=ag
  have z3:=ak (o:=.tup [V.ref dl,V.ref q2]) h3
  have S:=z2.trans z3
  exact q q3 dl (.ref q2) _ _ _ (.inr ⟨na,d,D,by omega,.inr ⟨al,RO,r0,t,at0',by omega,tp1,o1,rfl⟩⟩) ((nK.of S9).trans (of1.trans (nK.of S))) (tp10.same S) (bG.of ag) (S _ _ (of1 _ _ ne e9)) (dv.tup (z3 _ _ f2) ⟨_,_,rfl,rfl,_,_,rfl,rfl,.one rfl⟩)
end
end K
namespace L2
open PySem PySem.Spec PyProof.Rows
theorem oo {X:Cx}:iL X (compareOp .IsNot) (λx y H Q=>∃ b c:Bool,x=.bl b/\y=.bl c/\Q (.bl (b != c)) H):=by
 intro pins s σ H x y v u Q I rx ry h
 obtain⟨b,c,rfl,rfl,q⟩:=h
 cases rx
 cases ry
 exact PyProof.Rows.isnot_bool (aU I q rfl)
end L2
namespace K
open PySem PySem.Spec PyProof.Rows L2
section
variable {P:Program} {w:World} {K:PySem.W.Frag} {mg:Str->Option Value} {base:Heap} {C:Addr}
theorem AE {p g:Int} {ps:List (Int × Int)} {ds:Nat->PyData} (pap:Num.fK p (.tuple [.int p,.int g,.tuple (Num.rowsOf ps ds)])) (hg:Num.LF p g) (hP:Num.Part (p-1) ps) (l:ps.length<=29) (hds:∀ i q k,ps[i]?=some (q,k)->Num.fK q (ds i)):ph p g ps ds:=by
 obtain⟨pm,p9⟩:=ie pap
 exact⟨pm,p9,hP,l,hds,hg.one,hg.lt,hg.ord,CK pap,Nat.le_trans (vz pap) (by decide)⟩
theorem ph.other {p g g':Int} {ps:List (Int × Int)} {ds:Nat->PyData} (R:ph p g ps ds) (h1:1<=g') (h2:g'<p) (o:Num.Ord p g' (p-1).toNat):ph p g' ps ds:=by
 have sm:=R.sm
 have p9:=R.p9
 refine⟨R.pm,R.p9,R.hP,R.l29,R.hds,h1,h2,o,?_,R.sz⟩
 simp only [qT,fM,and_true] at sm ⊢
 exact⟨sm.1,by omega,sm.2.2⟩
theorem Ea:Num.Pm 53:=⟨by decide,λd d2 dl hd=>by
 obtain⟨k,rfl⟩:∃ k:Nat,d=k:=⟨d.toNat,by omega⟩
 have h:∀ k:Nat,k<53->2<=k->53%k≠0:=by decide +kernel
 exact h k (by omega) (by omega) (Nat.mod_eq_zero_of_dvd (Int.natCast_dvd_natCast.mp hd))⟩
theorem DR {p k d:Int} (D:Dg p k d) (p2:2<=p):d<=p-1:=by
 obtain⟨u,v,B⟩:=D
 exact Int.le_of_dvd (by omega) B.db
theorem zD {CM:Addr} {H:Hp} {Q:VK} {E:XK} {v:V} {p g k a:Int} {rows:PyData} (hd:dv K H (.tuple [.int p,.int g,rows]) v) (pap:Num.fK p (.tuple [.int p,.int g,rows])) (p9:p<=60) (k0:0<k) (k1:k<=10^60)
  (q:∀ t l s rs sh H',aA H H'->bG K H' t [.ref l,s]->H' l=some (.lst (rs.map V.int))->dv K H' sh s->zu p k a rs sh->Q (.ref t) H'):oQ K CM 63 [v,.int k,.int a] H Q E:=by
 obtain⟨pm,_⟩:=ie pap
 have p2:=pm.two
 refine⟨v,p,g,k,a,rows,rfl,hd,pap,k0,k1,λpa t l s H' ss fl hT el hs=>q t l s [0] _ H' ss hT el hs (.inl ⟨pa,rfl,rfl⟩),λna d D=>?_⟩
 have:=DR D p2
 exact⟨λnal t l s H' ss fl hT el hs=>q t l s [] _ H' ss hT el hs (.inr ⟨na,d,D,by omega,.inl ⟨nal,rfl,rfl⟩⟩),λal=>⟨λc=>absurd c (by omega),λ_=>⟨by omega,λrs r0 tn t l s H' RO er t0 t1 ot ss fl hT el hs=>q t l s rs _ H' ss hT el hs (.inr ⟨na,d,D,by omega,.inr ⟨al,RO,r0,tn,er,t0,t1,ot,rfl⟩⟩)⟩⟩⟩
theorem C8 {p k a:Int} {rs:List Int} {sh:PyData} (h:zu p k a rs sh):sT 6 (.tuple [.list (rs.map PyData.int),sh]):=by
 have key:rs.length<=1000/\sT 5 sh:=by
  rcases h with⟨_,rfl,rfl⟩|⟨_,d,D,d4,⟨_,rfl,rfl⟩|⟨_,RO,r0,t,_,_,_,_,rfl⟩⟩
  ·exact⟨by decide,by simp [sT,ue]⟩
  ·exact⟨by decide,by simp [jY,sT,ue]⟩
  ·exact⟨by have:=RO.len;omega,by simp [uB,sT,ue]⟩
 have hl:sT 5 (.list (rs.map PyData.int)):=by
  simp only [sT,List.length_map]
  exact⟨by omega,uf λd hd=>by obtain⟨i,_,rfl⟩:=List.mem_map.mp hd;simp [sT]⟩
 simp only [sT,ue,List.length_cons,List.length_nil,and_true]
 exact⟨by decide,hl,key.2⟩
structure EZ (K:PySem.W.Frag) (p0:Addr) (p g g':Int) (ps:List (Int × Int)) (ds:Nat->PyData) (v u:V) (n:Nat) (H:Hp):Prop where
 tp:Tp p0 n H
 hv:dv K H (.tuple [.int p,.int g,.tuple (Num.rowsOf ps ds)]) v
 hu:dv K H (.tuple [.int p,.int g',.tuple (Num.rowsOf ps ds)]) u
theorem yv:aw ["_law_script","_law_tape_here","_law_p","_law_paper","_law_other","_law_turn_here","_law_k_here","_law_a","_law_due_here","_law_handed","_law_one"] ["_law_script"] (aj (top 94)):=cq
theorem CB {CM:Addr} {fl:Addr} {fdl:FuncData} (F:vZ K "law" "law" (top 94) fl fdl) (c__law_tape:Callee P w K mg base aG 1 "_law_tape" ["_law_script"] (yG K)) (c__law_draw:Callee P w K mg base aG 1 "_law_draw" ["_law_tape_here","_law_many"] iK) (c__law_prime:Callee P w K mg base aG 2 "_law_prime" ["_law_n"] qX) (c_prime_paper:Callee P w K mg base (dh P w) 67 "prime_paper" ["n"] (qW K)) (c__law_other_paper:Callee P w K mg base aG 2 "_law_other_paper" ["_law_tape_here","_law_paper"] (uo K)) (c__law_k:Callee P w K mg base aG 3 "_law_k" ["_law_tape_here","_law_p"] FJ) (c__law_number:Callee P w K mg base aG 2 "_law_number" ["_law_tape_here","_law_p"] uk) (c__law_due:Callee P w K mg base aG 3 "_law_due" ["_law_tape_here","_law_p","_law_k_here","_law_a"] (yy K)) (c_shows_roots:Callee P w K mg base aG 17 "shows_roots" ["paper","k","a","thing"] (qY K)) (c_roots:Callee P w K mg base (dh P w) 17 "roots" ["paper","k","a"] (oQ K CM 63)) (c__law_same:Callee P w K mg base aG 7 "_law_same" ["_law_found","_law_due_here"] (gW K 6)) (n_range:mg "range"=none) (n_list:mg "list"=none):cV P w K mg base aG 68 fl fdl ["_law_script"] (Bz K):=by
 refine zL F yv (λvs H Q E h=>by obtain⟨a,b,rfl,_⟩:=h;rfl) (λcdv A outer s H vs Q E hr h=>?_)
 obtain⟨sc,ns,rfl,hS,h63,q⟩:=h
 have nd:=yv.nd
 refine⟨_,(ae (bh (i:=1) nd (aV c__law_tape hr aB (aa (pv 0) af))) (ae (bh (i:=2) nd (aV c__law_prime hr aB (aa (ao bE ah (aV c__law_draw hr aB (aa (pv 1) (aa ah af)))) af))) (ae (bh (i:=3) nd (aV c_prime_paper hr aE (aa (pv 2) af))) (ae (bh (i:=4) nd (aV c__law_other_paper hr aB (aa (pv 1) (aa (pv 3) af)))) (ae (cS PassesOwn.never rfl (dX rfl n_range (aa ah af)) (aq (i:=5) nd rfl (Or.inl rfl) (.inr rfl)) (ae (bh (i:=6) nd (aV c__law_k hr aB (aa (pv 1) (aa (pv 2) af)))) (ae (bh (i:=7) nd (aV c__law_number hr aB (aa (pv 1) (aa (pv 2) af)))) (ae (bh (i:=8) nd (aV c__law_due hr aB (aa (pv 1) (aa (pv 2) (aa (pv 6) (aa (pv 7) af)))))) (ae (bh (i:=9) nd (aI (aa (cF iR rfl n_list L2.boot_list (aa (aJ aS (pv 8) ah (λ_ _=>rfl)) af)) (aa (aJ aS (pv 8) ah (λ_ _=>rfl)) af)))) (ae (cS PassesOwn.never rfl (bF (cf (aa (pv 3) (aa (pv 4) af)))) (aq (i:=10) nd rfl (Or.inl rfl) (.inr rfl)) (ai (aN (PW.pt (gk (az oo (aV c_shows_roots hr aB (aa (pv 10) (aa (pv 6) (aa (pv 7) (aa (pv 9) af))))) cZ (ay _)) (fE (az oo (aV c_shows_roots hr aB (aa (pv 10) (aa (pv 6) (aa (pv 7) (aa (aV c_roots hr aE (aa (pv 3) (aa (pv 6) (aa (pv 7) af)))) af))))) cZ (ay _))))) (ai (av cZ)) aD))) (ai (aN (PW.pt (gk (az oo (aV c_shows_roots hr aB (aa (pv 4) (aa (pv 6) (aa (pv 7) (aa (pv 9) af))))) cZ (ay _)) (fE (dH (aT (aV c__law_same hr aB (aa (pv 9) (aa (pv 8) af))) (λ_=>rfl)))))) (ai (av cZ)) aD)))))))) (ai (av cZ))))))),?_⟩
 show aY _ _ _ [some (.ref sc),none,none,none,none,none,none,none,none,none,none] H
 k_data
 refine⟨sc,ns,rfl,hS,h63,λp0 H1 s1 f1 tp1=>⟨p0,48,0,rfl,tp1,by decide,by decide,by decide,λr H2 r0 r1 o2 t2=>⟨_,rfl,2+r,53,rfl,by omega,by omega,Ea,by decide,λp pm pn p9 _=>⟨p,rfl,pm,by omega,λd v H3 pap s3 hv=>?_⟩⟩⟩⟩
 have p2:=pm.two
 obtain⟨g,ps,ds,rfl,hg,hP,hl29,hds⟩:=kO pap
 have R:=AE pap hg hP hl29 hds
 have nl:=tO pap
 have t3:=t2.same s3
 refine⟨p0,v,1,p,g,ps,ds,rfl,t3,by decide,hv,R,λg' ot H4 g1' gp' og of4 t4 hu=>?_⟩
 have R':=R.other g1' gp' og
 have nl':qj (.tuple [.int p,.int g',.tuple (Num.rowsOf ps ds)])=true:=nl
 refine eh (λi σ' H'=>(∃ o5 o6 o7 o8 o9 o10,σ'=[some (.ref sc),some (.ref p0),some (.int p),some v,some (.ref ot),o5,o6,o7,o8,o9,o10])/\EZ K p0 p g g' ps ds v (.ref ot) (2+9*i) H') ⟨⟨_,_,_,_,_,_,rfl⟩,t4,t3.A8 of4 nl hv,hu⟩ ?_ ?_
 ·rintro i σ' H5 hi ⟨⟨o5,o6,o7,o8,o9,o10,rfl⟩,iv⟩
  have hi3:i<2:=by simpa using hi
  k_data
  refine⟨p0,_,p,rfl,iv.tp,by omega,p2,by omega,λk H6 k1 k2 ok6 t6=>⟨p0,p,_,rfl,t6,by omega,p2,by omega,λa H7 a0 a1 of7 t7=>⟨p0,_,p,k,a,g,rfl,t7,by omega,pm,by omega,R.o,by omega,by omega,a0,a1,λt l u rs sh H8 TO of8 t8 hT el hsh=>?_⟩⟩⟩
  have iv8:EZ K p0 p g g' ps ds v (.ref ot) (2+9*(i+1)) H8:=⟨t8.more (by omega),t7.A8 of8 nl (t6.A8 of7 nl (iv.tp.A8 ok6.Br nl iv.hv)),t7.A8 of8 nl' (t6.A8 of7 nl' (iv.tp.A8 ok6.Br nl' iv.hu))⟩
  refine bC hT iQ ⟨l,rfl,_,.inl (aO.of el),λl2 hl2=>?_⟩
  have s9:=ak (o:=.lst (rs.map V.int)) hl2
  have e9:upd H8 l2 (.lst (rs.map V.int)) l2=some (.lst (rs.map V.int)):=ag
  generalize upd H8 l2 (.lst (rs.map V.int))=H9 at *
  refine bC (hT.same s9) Dx ⟨by show 2<=sizeLine;decide,λhn hhn=>⟨by show 2<=sizeLine;decide,λql hql=>?_⟩⟩
  have s10:=ak (o:=.tup [V.ref l2,u]) hhn
  have e10:upd H9 hn (.tup [V.ref l2,u]) hn=some (.tup [V.ref l2,u]):=ag
  generalize upd H9 hn (.tup [V.ref l2,u])=H10 at *
  have s11:=ak (o:=.lst [v,V.ref ot]) hql
  have e11:upd H10 ql (.lst [v,V.ref ot]) ql=some (.lst [v,V.ref ot]):=ag
  generalize upd H10 ql (.lst [v,V.ref ot])=H11 at *
  have S:=(s9.trans s10).trans s11
  have iv11:EZ K p0 p g g' ps ds v (.ref ot) (2+9*(i+1)) H11:=⟨iv8.tp.same S,dv.same S _ iv8.hv,dv.same S _ iv8.hu⟩
  have hn11:=s11 _ _ e10
  have l11:=(s10.trans s11) _ _ e9
  have sh11:=dv.same S _ hsh
  refine⟨⟨_,aO.of e11⟩,?_⟩
  refine dW (xs:=[v,.ref ot]) (λj σ' H'=>(∃ o',σ'=[some (.ref sc),some (.ref p0),some (.int p),some v,some (.ref ot),some (.int (i:Int)),some (.int k),some (.int a),some (.ref t),some (.ref hn),o'])/\aA H11 H') ⟨⟨_,rfl⟩,aA.refl _⟩ (λj σ' H' _ h=>aO.of (h.2 _ _ e11)) ?_ ?_
  ·rintro j x σ' H12 hx ⟨⟨o',rfl⟩,s12⟩
   obtain⟨gx,hx9,Rx⟩:∃ gx,dv K H12 (.tuple [.int p,.int gx,.tuple (Num.rowsOf ps ds)]) x/\ph p gx ps ds:=by
    have hx':=List.mem_of_getElem? hx
    simp only [List.mem_cons,List.not_mem_nil,or_false] at hx'
    rcases hx' with rfl | rfl
    ·exact⟨g,dv.same s12 _ iv11.hv,R⟩
    ·exact⟨g',dv.same s12 _ iv11.hu,R'⟩
   k_data
   refine⟨x,u,hn,l2,p,gx,k,a,ps,ds,rs,sh,rfl,hx9,Rx,by omega,by omega,bG.of (s12 _ _ hn11),s12 _ _ l11,dv.same s12 _ sh11,TO,λH13 s13=>⟨true,rfl,?_⟩⟩
   rw [if_neg (by decide)]
   refine zD (dv.same (s12.trans s13) _ iv11.hv) pap (by omega) (by omega) (by omega) λt' l' u' rs' sh' H14 s14 hT' el' hs' TO'=>⟨x,u',t',l',p,gx,k,a,ps,ds,rs',sh',rfl,dv.same (s13.trans s14) _ hx9,Rx,by omega,by omega,hT',el',hs',TO',λH15 s15=>⟨true,rfl,?_⟩⟩
   rw [if_neg (by decide)]
   exact s12.trans (s13.trans (s14.trans s15))
  ·rintro σ' H12 ⟨⟨o',rfl⟩,s12⟩
   k_data
   refine⟨.ref ot,u,hn,l2,p,g',k,a,ps,ds,rs,sh,rfl,dv.same s12 _ iv11.hu,R',by omega,by omega,bG.of (s12 _ _ hn11),s12 _ _ l11,dv.same s12 _ sh11,TO,λH13 s13=>⟨true,rfl,?_⟩⟩
   rw [if_neg (by decide)]
   have S13:=s12.trans s13
   refine⟨.ref hn,.ref t,.tuple [.list (rs.map PyData.int),sh],rfl,⟨hn,_,rfl,bG.of (S13 _ _ hn11),_,_,rfl,⟨l2,_,rfl,aO.of (S13 _ _ l11),aQ.ints _⟩,.one (dv.same S13 _ sh11)⟩,⟨t,_,rfl,(hT.same S).same S13,_,_,rfl,⟨l,_,rfl,aO.of ((S.trans S13) _ _ el),aQ.ints _⟩,.one (dv.same S13 _ sh11)⟩,C8 TO,λH14 s14=>⟨true,rfl,?_⟩⟩
   rw [if_neg (by decide)]
   have S14:=S13.trans s14
   exact⟨iv11.tp.same S14,dv.same S14 _ iv11.hv,dv.same S14 _ iv11.hu⟩
 ·rintro σ' H5 ⟨⟨o5,o6,o7,o8,o9,o10,rfl⟩,iv⟩
  k_data
  exact q H5
end
end K
namespace PySem.W.Fast
def tw15440352383467009803:=0
def tw14519367574912915456:=0
def tw7047954964012006496:=0
def tw12915499553460785408:=0
def tw15032811447968845120:=0
def tw1719359512317234720:=0
def tw16286281868581444128:=0
def tw14017641219295606368:=0
def tw17699179925815596672:=0
def tw13963665644621660896:=0
def tw4025018355236357952:=0
def tw17670815387725485888:=0
def tw10436539364237209440:=0
def tw11906004455676589952:=0
def tw9662402502264529824:=0
def tw2171823534749849536:=0
def tw9251872615736574944:=0
def tw2975106185139000353:=0
def tw15093990515145420993:=0
def tw18399715431092385985:=0
def tw15500577518504896737:=0
def tw262799385618150625:=0
def tw6669068209373080993:=0
def tw9914218608496612833:=0
def tw7001323227254815233:=0
def tw1524267335614614081:=0
def tw14857588736166572705:=0
def tw15945568351041096577:=0
def tw10963841526144445409:=0
def tw2114246595007651010:=0
def tw7835131179074400578:=0
def tw6692869634130733506:=0
def tw2701518931716302434:=0
def tw9319482427256628002:=0
def tw17041238414562409282:=0
def tw3996145375577005986:=0
def tw6569844168206248995:=0
def tw10770214453677915171:=0
def tw6088966467480943747:=0
def tw4912691692228333763:=0
def tw1663189023904957827:=0
def tw7084921102143670819:=0
def tw11325110041768613475:=0
def tw5510729936875320963:=0
def tw15118461356301037315:=0
def tw869348037966977891:=0
def tw13232545988190089252:=0
def tw9473755963351380036:=0
def tw7769393410126830948:=0
def tw16024003173499509220:=0
def tw14210597855791202788:=0
def tw14265958337920906820:=0
def tw1332196470520393348:=0
def tw12328693073642979044:=0
def tw6599059537879837444:=0
def tw17228236906718316324:=0
def tw6846525752496325476:=0
def tw6900882102097376164:=0
def tw10751153980404082693:=0
def tw8724201107594140709:=0
def tw15247619093576409157:=0
def tw6018652712945583237:=0
def tw9327067296507644037:=0
def tw8872901193308838117:=0
def tw4097103832106659109:=0
def tw9096981770029250949:=0
def tw3352125840133491109:=0
def tw10495004687797354981:=0
def tw1054675931521856997:=0
def tw14138231575104384805:=0
def tw5822806335738650565:=0
def tw7066948073038048229:=0
def tw8158661734416128038:=0
def tw11593587158786620454:=0
def tw16644688692814433478:=0
def tw13895259377240039686:=0
def tw9720674650963035462:=0
def tw8346847894210491846:=0
def tw4577053191475465702:=0
def tw17558088795095440870:=0
def tw9043445800896892454:=0
def tw18065522538614469158:=0
def tw8177290085507830374:=0
def tw11052917080532614758:=0
def tw16626874414622136966:=0
def tw5415430199190531846:=0
def tw16718777811511112486:=0
def tw17112591485711086374:=0
def tw9996522509257232358:=0
def tw10346583684393312295:=0
def tw3982727734085288167:=0
def tw841073095149103367:=0
def tw2865267282368001287:=0
def tw11510485122038953255:=0
def tw1829254218599318951:=0
def tw14630717436178249287:=0
def tw14036850154095534152:=0
def tw5620653885812930728:=0
def tw2125094466989616328:=0
def tw8856671568653268232:=0
def tw6860969406829119912:=0
def tw13333962446108319144:=0
def tw13100096975950699944:=0
def tw15204153192486810088:=0
def tw15991661437735790056:=0
def tw13030666113542686216:=0
def tw2009124364574530056:=0
def tw8311805288258874888:=0
def tw3994582395584168488:=0
def tw14229266002702321224:=0
def tw7356090914975128168:=0
def tw4837199389531471656:=0
def tw2346641563485810568:=0
def tw15924810127103911848:=0
def tw15350435685071757256:=0
def tw13332476707759185961:=0
def tw14710457661003147369:=0
def tw16419722257152233641:=0
def tw4985839233959583945:=0
def tw4110391715401954537:=0
def tw4795108596419063081:=0
def tw16590207186361696777:=0
def tw5104694876453829193:=0
def tw1054034472137678569:=0
def tw9322258880137572105:=0
def tw5954758585461924649:=0
def tw17878241479383980937:=0
def tw1718175772461737897:=0
def tw8612769259069559850:=0
def tw12869170967557109834:=0
def tw1128008764378671626:=0
def tw5287838756909969962:=0
def tw9590341322457626410:=0
def tw712609307033803658:=0
def tw16201494121648530539:=0
def tw5403797443230689547:=0
def tw6040437546918944171:=0
def tw4478001555441884587:=0
def tw12660271635885360587:=0
def tw5031989612972497419:=0
def tw4490678214160980555:=0
def tw17998849868791557867:=0
def tw872811005787824875:=0
def tw553120298260313867:=0
def tw4327072332134269036:=0
def tw6914824899018997964:=0
def tw9197759597152456940:=0
def tw6298879139830651180:=0
def tw3468404875464692108:=0
def tw3173870116283373004:=0
def tw17969520021057319436:=0
def tw15495413237240762188:=0
def tw15670382456226947020:=0
def tw7242942735484077004:=0
def tw10694139597593452557:=0
def tw12352326106443041805:=0
def tw751948720611178669:=0
def tw16820224381693193517:=0
def tw15186628596059278669:=0
def tw7980380094772359661:=0
def tw8935731093471133165:=0
def tw15425554115120004589:=0
def tw13856433186643743277:=0
def tw15094823140778451565:=0
def tw4046930192946468653:=0
def tw17996148015139266413:=0
def tw6795030744136188813:=0
def tw13263059779785046925:=0
def tw8810043002950213517:=0
def tw1680173968431048621:=0
def tw17721819318067531854:=0
def tw4132855549883361646:=0
def tw7802937964685702542:=0
def tw14067775565182235022:=0
def tw13440601682470274510:=0
def tw15394176361128271310:=0
def tw885045009808260622:=0
def tw6927814512609790574:=0
def tw13244049981449196430:=0
def tw4044957780987130830:=0
def tw9239712495823711247:=0
def tw3163806463015690415:=0
def tw2280198330584609999:=0
def tw13755479032447726831:=0
def tw820764179529955567:=0
def tw8972457469774895407:=0
def tw3370653911189299631:=0
def tw3608281673627249103:=0
def tw4576539374409189871:=0
def tw14067953183305166511:=0
def tw17905409303822998223:=0
def tw15407073352545921775:=0
def tw13230450438606905167:=0
def tw9979515525185303535:=0
def tw14555833495834427472:=0
def tw13513087612989046992:=0
def tw5403016652974932240:=0
def tw17621104321409316208:=0
def tw4986603551813899728:=0
def tw1413137077110850032:=0
def tw6696009147302677008:=0
def tw11986423340717834832:=0
def tw13892504185860866640:=0
def tw4948406627862388432:=0
def tw9413432033191879472:=0
def tw14616684933512437584:=0
def tw2774935963499638672:=0
def tw13341135401109884912:=0
def tw17005856067466932273:=0
def tw11517418314418255985:=0
def tw12242048597911259441:=0
def tw6082786138767829361:=0
def tw18115468663961341297:=0
def tw5852133027074542993:=0
def tw1896538969846378897:=0
def tw3255247398693523057:=0
def tw14277762008616644241:=0
def tw13014800302564069233:=0
def tw220628698596996977:=0
def tw10662234051767386130:=0
def tw17387832140329323730:=0
def tw10469794149872964082:=0
def tw14124499996823969298:=0
def tw14769119021053495858:=0
def tw3085981991146284594:=0
def tw2730156256456917586:=0
def tw13671440822910414578:=0
def tw16584225289559468850:=0
def tw5351577050177911634:=0
def tw14817528385829643250:=0
def tw6804989389050571762:=0
def tw7321676274123116691:=0
def tw5360283926869081235:=0
def tw16797207972134790547:=0
def tw4816723292648178259:=0
def tw12922687273658933875:=0
def tw13737210216041659027:=0
def tw13115764184396324531:=0
def tw7674877802604510931:=0
def tw17364723936427140851:=0
def tw17207449882278633363:=0
def tw3615230578890146836:=0
def tw10805707260698468852:=0
def tw6413227329341457940:=0
def tw16600169460271712852:=0
def tw810645661355060820:=0
def tw7000364182132318836:=0
def tw14598047920538497876:=0
def tw1767033588335492084:=0
def tw4749659221054115828:=0
def tw7799162175728399413:=0
def tw3221830054099822901:=0
def tw11393064581579566453:=0
def tw2100193306134542773:=0
def tw16360084277363043829:=0
def tw11173587171465510453:=0
def tw11232604961980193493:=0
def tw9999470703677415125:=0
def tw14769249743393749813:=0
def tw6614646093859542869:=0
def tw7847860249499835317:=0
def tw7116461561607697333:=0
def tw7627012235808324597:=0
def tw15847225062621246518:=0
def tw9879601088217997494:=0
def tw2187051547408395606:=0
def tw2539753714706665846:=0
def tw15444282660857751990:=0
def tw12279410463449309686:=0
def tw6113668155457878582:=0
def tw15479951007249627734:=0
def tw17023494955636900470:=0
def tw2696041351121404598:=0
def tw12771095557021315830:=0
def tw15643407914680274678:=0
def tw3162962614989578006:=0
def tw15573848484576816950:=0
def tw3253794375870632886:=0
def tw11311992682608280534:=0
def tw18326703204245022710:=0
def tw16154554773379309623:=0
def tw10717387053530394711:=0
def tw10914540117139873111:=0
def tw1091883437681188215:=0
def tw13177567074960140951:=0
def tw1404372564501370551:=0
def tw2319076539066416983:=0
def tw12852667821053330327:=0
def tw7633705892371032983:=0
def tw7931100376245706808:=0
def tw9013131184730610872:=0
def tw4580831076099923224:=0
def tw12297978773669617944:=0
def tw1272883174944123192:=0
def tw7544052678531744120:=0
def tw4169594943538559352:=0
def tw7258263647671281112:=0
def tw1936043722208414232:=0
def tw447098078234966552:=0
def tw11975545522052233848:=0
def tw11265740716226836280:=0
def tw2137621594168033144:=0
def tw1340229548644456505:=0
def tw11529525304102979673:=0
def tw7779843656291500121:=0
def tw15542674752534698201:=0
def tw16248231989732932825:=0
def tw3071858990151433593:=0
def tw3238616465527289401:=0
def tw3699224644118474329:=0
def tw18279263559978243801:=0
def tw17501523724511806201:=0
def tw10120922857989316345:=0
def tw11974596003406740217:=0
def tw861222877341443865:=0
def tw9751327830057864218:=0
def tw12753164590248949786:=0
def tw5436852761006204986:=0
def tw11635969276853346394:=0
def tw9282071448838927450:=0
def tw6971659025908329626:=0
def tw13591608183343919354:=0
def tw9618790621119143194:=0
def tw7537479640690281818:=0
def tw14293171384611923546:=0
def tw15003876747366988666:=0
def tw11080723520567255994:=0
def tw17640891661910443994:=0
def tw13414093262605254650:=0
def tw13907679578501739643:=0
def tw4989588970574150843:=0
def tw18422002366615307547:=0
def tw12882903837210150203:=0
def tw4997143095675149659:=0
def tw17745360307265369627:=0
def tw8030519263867974267:=0
def tw11888677538449948475:=0
def tw4850057386211903355:=0
def tw14195510323163982779:=0
def tw7660376387055604731:=0
def tw3465600414684947548:=0
def tw6351792162202191036:=0
def tw17023698196018048188:=0
def tw13088299696080063868:=0
def tw11525319021574149500:=0
def tw14671617335086000572:=0
def tw4191053711713700316:=0
def tw9806272861810544124:=0
def tw8352201898200343068:=0
def tw12247215539133459996:=0
def tw1281050890874329660:=0
def tw16071311337388856892:=0
def tw1167287169545284188:=0
def tw4995350481519539900:=0
def tw17852514223627844412:=0
def tw13436379901595032508:=0
def tw1121250388234364924:=0
def tw15835095157677148189:=0
def tw1547241510747894845:=0
def tw11674833180980851837:=0
def tw1379912786598320381:=0
def tw14004875087052245341:=0
def tw5554632142687459741:=0
def tw8466366895682460093:=0
def tw1426837809295686077:=0
def tw15258746432923490781:=0
def tw11251252719686288925:=0
def tw7596096770874190429:=0
def tw9741813590718742109:=0
def tw4442789534299646749:=0
def tw9494313638019598237:=0
def tw4291558307119560637:=0
def tw13371143705762401213:=0
def tw4819359492665572349:=0
def tw221614538784522270:=0
def tw12706771802088863806:=0
def tw4089756694442212606:=0
def tw13982202045348674814:=0
def tw18291537493884871262:=0
def tw14505982000155868926:=0
def tw4711096679840134942:=0
def tw16679700001777850174:=0
def tw15627322122109648734:=0
def tw12437532309609654206:=0
def tw7281839595195548606:=0
def tw7509090023996766239:=0
def tw11677109027298753567:=0
def tw2276892986051409983:=0
def tw17164504516216385599:=0
def tw8706488723097565311:=0
def tw6168645160184170655:=0
def tw16723084382859404639:=0
def tw7629376848145614335:=0
def tw7315025975537589791:=0
def tw204814970629789311:=0
def tw4018968806660561535:=0
def tw6691671139122303647:=0
def tw1662083763525676831:=0
def tw4389043701132285919:=0
end PySem.W.Fast
namespace K
open PySem PySem.Spec PyProof.Rows L2
theorem uU:kY "TooFar.__init__" "part" "part" (inClass (top 5) 0):=⟨⟨rfl,rfl,rfl,by decide +kernel,rfl,by decide +kernel,by decide +kernel⟩,⟨_,_,_,_,rfl,λ_=>rfl,λ_=>rfl⟩,rfl,rfl,by decide,by decide,λ_ _ _ _ _ _ us hl=>match us,hl with | [_,_],_=>rfl⟩
theorem rS:kY "NoPrime.__init__" "divisor" "divisor" (inClass (top 6) 0):=⟨⟨rfl,rfl,rfl,by decide +kernel,rfl,by decide +kernel,by decide +kernel⟩,⟨_,_,_,_,rfl,λ_=>rfl,λ_=>rfl⟩,rfl,rfl,by decide,by decide,λ_ _ _ _ _ _ us hl=>match us,hl with | [_,_],_=>rfl⟩
theorem nV:kY "NoInverse.__init__" "divisor" "divisor" (inClass (top 7) 0):=⟨⟨rfl,rfl,rfl,by decide +kernel,rfl,by decide +kernel,by decide +kernel⟩,⟨_,_,_,_,rfl,λ_=>rfl,λ_=>rfl⟩,rfl,rfl,by decide,by decide,λ_ _ _ _ _ _ us hl=>match us,hl with | [_,_],_=>rfl⟩
theorem rT:kY "TooMany.__init__" "many" "many" (inClass (top 8) 0):=⟨⟨rfl,rfl,rfl,by decide +kernel,rfl,by decide +kernel,by decide +kernel⟩,⟨_,_,_,_,rfl,λ_=>rfl,λ_=>rfl⟩,rfl,rfl,by decide,by decide,λ_ _ _ _ _ _ us hl=>match us,hl with | [_,_],_=>rfl⟩
end K
open PySem PySem.W PyProof.Rows L2
set_option maxHeartbeats 0 in
theorem PySem.Challenge.cw_rootprime_k53_whole_right_roots_are_let_holds : PySem.Challenge.rw_rootprime_k53_whole_right_roots_are_let.Holds := by
 w_on;o_law;k_head;(case hw=>w_witness2)
 k_fill
 refine L2.y7 (l:=PySem.Challenge.rw_rootprime_k53_whole_right_roots_are_let) (n:=63) (k:=68) (x := "_law_script") (CX:=L2.aG) (sp:=K.Bz) rfl (by decide) rfl ⟨rfl,by decide,by decide⟩ (λw h Y=>PySem.W.kIn_of Y) ?F ?S ?C
 case F =>
  intro w mg fa h KX G hmg
  have d_divisor:L2.ar (L2.cp KX) mg "divisor" (K.top 10):=K.cH KX G
  have d_inverse:L2.ar (L2.cp KX) mg "inverse" (K.top 11):=K.cH KX G
  have d_is_whole:L2.ar (L2.cp KX) mg "is_whole" (K.top 14):=K.cH KX G
  have d_is_tuple_of:L2.ar (L2.cp KX) mg "is_tuple_of" (K.top 15):=K.cH KX G
  have d_is_just:L2.ar (L2.cp KX) mg "is_just" (K.top 16):=K.cH KX G
  have d_are_just:L2.ar (L2.cp KX) mg "are_just" (K.top 17):=K.cH KX G
  have d_product_of:L2.ar (L2.cp KX) mg "product_of" (K.top 18):=K.cH KX G
  have d_primes_in:L2.ar (L2.cp KX) mg "primes_in" (K.top 19):=K.cH KX G
  have d_parting_in:L2.ar (L2.cp KX) mg "parting_in" (K.top 20):=K.cH KX G
  have d_power:L2.ar (L2.cp KX) mg "power" (K.top 22):=K.cH KX G
  have d_is_least:L2.ar (L2.cp KX) mg "is_least" (K.top 23):=K.cH KX G
  have d_is_prime_paper:L2.ar (L2.cp KX) mg "is_prime_paper" (K.top 25):=K.cH KX G
  have d_is_order:L2.ar (L2.cp KX) mg "is_order" (K.top 26):=K.cH KX G
  have d_are_prime_papers:L2.ar (L2.cp KX) mg "are_prime_papers" (K.top 27):=K.cH KX G
  have d_is_right_above:L2.ar (L2.cp KX) mg "is_right_above" (K.top 28):=K.cH KX G
  have d_is_paper_form:L2.ar (L2.cp KX) mg "is_paper_form" (K.top 29):=K.cH KX G
  have d_come_to:L2.ar (L2.cp KX) mg "come_to" (K.top 30):=K.cH KX G
  have d_is_row_form:L2.ar (L2.cp KX) mg "is_row_form" (K.top 31):=K.cH KX G
  have d_without:L2.ar (L2.cp KX) mg "without" (K.top 32):=K.cH KX G
  have d_shows_roots:L2.ar (L2.cp KX) mg "shows_roots" (K.top 34):=K.cH KX G
  have d_how_many_roots:L2.ar (L2.cp KX) mg "how_many_roots" (K.top 35):=K.cH KX G
  have d_shown_none:L2.ar (L2.cp KX) mg "shown_none" (K.top 36):=K.cH KX G
  have d_are_all_roots:L2.ar (L2.cp KX) mg "are_all_roots" (K.top 37):=K.cH KX G
  have d_are_rising_below:L2.ar (L2.cp KX) mg "are_rising_below" (K.top 38):=K.cH KX G
  have d_is_root:L2.ar (L2.cp KX) mg "is_root" (K.top 39):=K.cH KX G
  have d_is_shown_by:L2.ar (L2.cp KX) mg "is_shown_by" (K.top 40):=K.cH KX G
  have d_least_divisor:L2.ar (L2.cp KX) mg "least_divisor" (K.top 43):=K.cH KX G
  have d_least_divisor_from:L2.ar (L2.cp KX) mg "least_divisor_from" (K.top 44):=K.cH KX G
  have d_parted:L2.ar (L2.cp KX) mg "parted" (K.top 45):=K.cH KX G
  have d_whole_of:L2.ar (L2.cp KX) mg "whole_of" (K.top 46):=K.cH KX G
  have d_prime_paper:L2.ar (L2.cp KX) mg "prime_paper" (K.top 48):=K.cH KX G
  have d_parting_paper:L2.ar (L2.cp KX) mg "parting_paper" (K.top 49):=K.cH KX G
  have d_least_full:L2.ar (L2.cp KX) mg "least_full" (K.top 50):=K.cH KX G
  have d_order_from:L2.ar (L2.cp KX) mg "order_from" (K.top 52):=K.cH KX G
  have d_most_times:L2.ar (L2.cp KX) mg "most_times" (K.top 53):=K.cH KX G
  have d_raised:L2.ar (L2.cp KX) mg "raised" (K.top 54):=K.cH KX G
  have d_times_in_order:L2.ar (L2.cp KX) mg "times_in_order" (K.top 55):=K.cH KX G
  have d_times_to_one:L2.ar (L2.cp KX) mg "times_to_one" (K.top 56):=K.cH KX G
  have d_order:L2.ar (L2.cp KX) mg "order" (K.top 57):=K.cH KX G
  have d_of_order:L2.ar (L2.cp KX) mg "of_order" (K.top 58):=K.cH KX G
  have d_small_steps:L2.ar (L2.cp KX) mg "small_steps" (K.top 61):=K.cH KX G
  have d_put_together:L2.ar (L2.cp KX) mg "put_together" (K.top 63):=K.cH KX G
  have d_first_apart:L2.ar (L2.cp KX) mg "first_apart" (K.top 64):=K.cH KX G
  have d_are_apart:L2.ar (L2.cp KX) mg "are_apart" (K.top 65):=K.cH KX G
  have d_both_together:L2.ar (L2.cp KX) mg "both_together" (K.top 66):=K.cH KX G
  have d_which:L2.nJ (L2.cp KX) mg "which" (K.top 69) #[.none]:=by
   dsimp only [L2.cp]
   refine' L2.uN KX G ?a ?l ?c ?k ?t ?e
   (case a=>k_is);(case l=>k_is);(case c=>k_is);(case k=>k_is);(case t=>k_is);(case e=>rfl)
  have d_refuse_far:L2.ar (L2.cp KX) mg "refuse_far" (K.top 70):=K.cH KX G
  have d_sought:L2.ar (L2.cp KX) mg "sought" (K.top 71):=K.cH KX G
  have d_digits:L2.ar (L2.cp KX) mg "digits" (K.top 72):=K.cH KX G
  have d_steps_to:L2.ar (L2.cp KX) mg "steps_to" (K.top 73):=K.cH KX G
  have d_number_of:L2.ar (L2.cp KX) mg "number_of" (K.top 74):=K.cH KX G
  have d_roots:L2.ar (L2.cp KX) mg "roots" (K.top 76):=K.cH KX G
  have d_all_turned:L2.ar (L2.cp KX) mg "all_turned" (K.top 77):=K.cH KX G
  have d_one_root:L2.ar (L2.cp KX) mg "one_root" (K.top 78):=K.cH KX G
  have d__law_is_prime:L2.ar (L2.cp KX) mg "_law_is_prime" (K.top 80):=K.cH KX G
  have d__law_prime:L2.ar (L2.cp KX) mg "_law_prime" (K.top 81):=K.cH KX G
  have d__law_tape:L2.ar (L2.cp KX) mg "_law_tape" (K.top 82):=K.cH KX G
  have d__law_draw:L2.ar (L2.cp KX) mg "_law_draw" (K.top 83):=K.cH KX G
  have d__law_far:L2.ar (L2.cp KX) mg "_law_far" (K.top 84):=K.cH KX G
  have d__law_k:L2.ar (L2.cp KX) mg "_law_k" (K.top 85):=K.cH KX G
  have d__law_number:L2.ar (L2.cp KX) mg "_law_number" (K.top 86):=K.cH KX G
  have d__law_power:L2.ar (L2.cp KX) mg "_law_power" (K.top 87):=K.cH KX G
  have d__law_common:L2.ar (L2.cp KX) mg "_law_common" (K.top 88):=K.cH KX G
  have d__law_order:L2.ar (L2.cp KX) mg "_law_order" (K.top 89):=K.cH KX G
  have d__law_turn:L2.ar (L2.cp KX) mg "_law_turn" (K.top 90):=K.cH KX G
  have d__law_due:L2.ar (L2.cp KX) mg "_law_due" (K.top 91):=K.cH KX G
  have d__law_other_paper:L2.ar (L2.cp KX) mg "_law_other_paper" (K.top 92):=K.cH KX G
  have d__law_same:L2.ar (L2.cp KX) mg "_law_same" (K.top 93):=K.cH KX G
  have d_law:L2.ar (L2.cp KX) mg "law" (K.top 94):=K.cH KX G
  have n_abs:mg "abs"=none:=PySem.W.mg_none_of KX G (by k_is)
  have n_int:mg "int"=none:=PySem.W.mg_none_of KX G (by k_is)
  have n_range:mg "range"=none:=PySem.W.mg_none_of KX G (by k_is)
  have n_tuple:mg "tuple"=none:=PySem.W.mg_none_of KX G (by k_is)
  have n_all:mg "all"=none:=PySem.W.mg_none_of KX G (by k_is)
  have n_any:mg "any"=none:=PySem.W.mg_none_of KX G (by k_is)
  have n_list:mg "list"=none:=PySem.W.mg_none_of KX G (by k_is)
  have n_min:mg "min"=none:=PySem.W.mg_none_of KX G (by k_is)
  have n_max:mg "max"=none:=PySem.W.mg_none_of KX G (by k_is)
  have n_len:mg "len"=none:=PySem.W.mg_none_of KX G (by k_is)
  have n_zip:mg "zip"=none:=PySem.W.mg_none_of KX G (by k_is)
  have n_enumerate:mg "enumerate"=none:=PySem.W.mg_none_of KX G (by k_is)
  have n_sorted:mg "sorted"=none:=PySem.W.mg_none_of KX G (by k_is)
  have n_isinstance:mg "isinstance"=none:=PySem.W.mg_none_of KX G (by k_is)
  have n_bool:mg "bool"=none:=PySem.W.mg_none_of KX G (by k_is)
  refine' L2.b7 (PySem.W.mg_of (n := "PrimeError") KX G ?xa) (λa_PrimeError=>?g1)
  (case xa=>k_is)
  refine' L2.b7 (L2.eU KX a_PrimeError ?l ?c2 ?c3 ?e1 ?e2 ?e3 ?e4 ?e5 ?e6 ?ob ?kp) (λc_PrimeError=>?g2)
  (case l=>k_is);(case c2=>rfl);(case c3=>rfl);(case e1=>k_is);(case e2=>k_is);(case e3=>k_is);(case e4=>k_is);(case e5=>k_is);(case e6=>k_is);(case ob=>exact⟨_,_,_,_,_,_,_,_,_,_,_,_,_,_,_,_,rfl,rfl,rfl,rfl⟩);(case kp=>k_is)
  refine' L2.b7 (L2.kW a_PrimeError c_PrimeError.2 c_PrimeError.1 ?i) (λx_PrimeError=>?g3)
  (case i=>k_is)
  refine' L2.b7 (PySem.W.mg_of (n := "NoNumber") KX G ?xa) (λa_NoNumber=>?g4)
  (case xa=>k_is)
  refine' L2.b7 (L2.eU KX a_NoNumber ?l ?c2 ?c3 ?e1 ?e2 ?e3 ?e4 ?e5 ?e6 ?ob ?kp) (λc_NoNumber=>?g5)
  (case l=>k_is);(case c2=>rfl);(case c3=>rfl);(case e1=>k_is);(case e2=>k_is);(case e3=>k_is);(case e4=>k_is);(case e5=>k_is);(case e6=>k_is);(case ob=>exact⟨_,_,_,_,_,_,_,_,_,_,_,_,_,_,_,_,rfl,rfl,rfl,rfl⟩);(case kp=>k_is)
  refine' L2.b7 (L2.kW a_NoNumber c_NoNumber.2 c_NoNumber.1 ?i) (λx_NoNumber=>?g6)
  (case i=>k_is)
  refine' L2.b7 (PySem.W.mg_of (n := "Nought") KX G ?xa) (λa_Nought=>?g7)
  (case xa=>k_is)
  refine' L2.b7 (L2.eU KX a_Nought ?l ?c2 ?c3 ?e1 ?e2 ?e3 ?e4 ?e5 ?e6 ?ob ?kp) (λc_Nought=>?g8)
  (case l=>k_is);(case c2=>rfl);(case c3=>rfl);(case e1=>k_is);(case e2=>k_is);(case e3=>k_is);(case e4=>k_is);(case e5=>k_is);(case e6=>k_is);(case ob=>exact⟨_,_,_,_,_,_,_,_,_,_,_,_,_,_,_,_,rfl,rfl,rfl,rfl⟩);(case kp=>k_is)
  refine' L2.b7 (L2.kW a_Nought c_Nought.2 c_Nought.1 ?i) (λx_Nought=>?g9)
  (case i=>k_is)
  refine' L2.b7 (PySem.W.mg_of (n := "NoOrder") KX G ?xa) (λa_NoOrder=>?g10)
  (case xa=>k_is)
  refine' L2.b7 (L2.eU KX a_NoOrder ?l ?c2 ?c3 ?e1 ?e2 ?e3 ?e4 ?e5 ?e6 ?ob ?kp) (λc_NoOrder=>?g11)
  (case l=>k_is);(case c2=>rfl);(case c3=>rfl);(case e1=>k_is);(case e2=>k_is);(case e3=>k_is);(case e4=>k_is);(case e5=>k_is);(case e6=>k_is);(case ob=>exact⟨_,_,_,_,_,_,_,_,_,_,_,_,_,_,_,_,rfl,rfl,rfl,rfl⟩);(case kp=>k_is)
  refine' L2.b7 (L2.kW a_NoOrder c_NoOrder.2 c_NoOrder.1 ?i) (λx_NoOrder=>?g12)
  (case i=>k_is)
  refine' L2.b7 (PySem.W.mg_of (n := "TooFar") KX G ?xa) (λa_TooFar=>?g13)
  (case xa=>k_is)
  refine' L2.b7 (L2.eU KX a_TooFar ?l ?c2 ?c3 ?e1 ?e2 ?e3 ?e4 ?e5 ?e6 ?ob ?kp) (λc_TooFar=>?g14)
  (case l=>k_is);(case c2=>rfl);(case c3=>rfl);(case e1=>k_is);(case e2=>k_is);(case e3=>k_is);(case e4=>k_is);(case e5=>k_is);(case e6=>k_is);(case ob=>exact⟨_,_,_,_,_,_,_,_,_,_,_,_,_,_,_,_,rfl,rfl,rfl,rfl⟩);(case kp=>k_is)
  refine' L2.b7 (L2.kX K.uU a_TooFar c_TooFar.2 c_TooFar.1 ?nf ?i ?fn ?l ?cc ?kk) (λx_TooFar=>?g15)
  (case nf=>k_is);(case i=>k_is);(case fn=>k_is);(case l=>k_is);(case cc=>k_is);(case kk=>k_is)
  refine' L2.b7 (PySem.W.mg_of (n := "NoPrime") KX G ?xa) (λa_NoPrime=>?g16)
  (case xa=>k_is)
  refine' L2.b7 (L2.eU KX a_NoPrime ?l ?c2 ?c3 ?e1 ?e2 ?e3 ?e4 ?e5 ?e6 ?ob ?kp) (λc_NoPrime=>?g17)
  (case l=>k_is);(case c2=>rfl);(case c3=>rfl);(case e1=>k_is);(case e2=>k_is);(case e3=>k_is);(case e4=>k_is);(case e5=>k_is);(case e6=>k_is);(case ob=>exact⟨_,_,_,_,_,_,_,_,_,_,_,_,_,_,_,_,rfl,rfl,rfl,rfl⟩);(case kp=>k_is)
  refine' L2.b7 (L2.kX K.rS a_NoPrime c_NoPrime.2 c_NoPrime.1 ?nf ?i ?fn ?l ?cc ?kk) (λx_NoPrime=>?g18)
  (case nf=>k_is);(case i=>k_is);(case fn=>k_is);(case l=>k_is);(case cc=>k_is);(case kk=>k_is)
  refine' L2.b7 (PySem.W.mg_of (n := "NoInverse") KX G ?xa) (λa_NoInverse=>?g19)
  (case xa=>k_is)
  refine' L2.b7 (L2.eU KX a_NoInverse ?l ?c2 ?c3 ?e1 ?e2 ?e3 ?e4 ?e5 ?e6 ?ob ?kp) (λc_NoInverse=>?g20)
  (case l=>k_is);(case c2=>rfl);(case c3=>rfl);(case e1=>k_is);(case e2=>k_is);(case e3=>k_is);(case e4=>k_is);(case e5=>k_is);(case e6=>k_is);(case ob=>exact⟨_,_,_,_,_,_,_,_,_,_,_,_,_,_,_,_,rfl,rfl,rfl,rfl⟩);(case kp=>k_is)
  refine' L2.b7 (L2.kX K.nV a_NoInverse c_NoInverse.2 c_NoInverse.1 ?nf ?i ?fn ?l ?cc ?kk) (λx_NoInverse=>?g21)
  (case nf=>k_is);(case i=>k_is);(case fn=>k_is);(case l=>k_is);(case cc=>k_is);(case kk=>k_is)
  refine' L2.b7 (PySem.W.mg_of (n := "TooMany") KX G ?xa) (λa_TooMany=>?g22)
  (case xa=>k_is)
  refine' L2.b7 (L2.eU KX a_TooMany ?l ?c2 ?c3 ?e1 ?e2 ?e3 ?e4 ?e5 ?e6 ?ob ?kp) (λc_TooMany=>?g23)
  (case l=>k_is);(case c2=>rfl);(case c3=>rfl);(case e1=>k_is);(case e2=>k_is);(case e3=>k_is);(case e4=>k_is);(case e5=>k_is);(case e6=>k_is);(case ob=>exact⟨_,_,_,_,_,_,_,_,_,_,_,_,_,_,_,_,rfl,rfl,rfl,rfl⟩);(case kp=>k_is)
  refine' L2.b7 (L2.kX K.rT a_TooMany c_TooMany.2 c_TooMany.1 ?nf ?i ?fn ?l ?cc ?kk) (λx_TooMany=>?g24)
  (case nf=>k_is);(case i=>k_is);(case fn=>k_is);(case l=>k_is);(case cc=>k_is);(case kk=>k_is)
  refine' L2.b7 (PySem.W.mg_of (n := "Kept") KX G ?xa) (λa_Kept=>?g25)
  (case xa=>k_is)
  refine' L2.b7 (L2.Cu KX a_Kept ?p1 ?p2 ?p3 ?p4 ?p5 ?p6) (λo_Kept=>?g26)
  (case p1=>k_is);(case p2=>k_is);(case p3=>k_is);(case p4=>k_is);(case p5=>k_is);(case p6=>k_is)
  refine' L2.b7 (L2.lB (m := "__init__") (qual := "Kept.__init__") (st:=L2.inClass (K.top 60) 0) o_Kept ?xa ?fn ?kk ?l ?cc) (λm_Kept___init__=>?g27)
  (case xa=>k_is);(case fn=>k_is);(case kk=>k_is);(case l=>k_is);(case cc=>k_is)
  refine' L2.b7 (L2.lB (m := "steps") (qual := "Kept.steps") (st:=L2.inClass (K.top 60) 1) o_Kept ?xa ?fn ?kk ?l ?cc) (λm_Kept_steps=>?g28)
  (case xa=>k_is);(case fn=>k_is);(case kk=>k_is);(case l=>k_is);(case cc=>k_is)
  refine' L2.b7 (L2.lB (m := "tables") (qual := "Kept.tables") (st:=L2.inClass (K.top 60) 2) o_Kept ?xa ?fn ?kk ?l ?cc) (λm_Kept_tables=>?g29)
  (case xa=>k_is);(case fn=>k_is);(case kk=>k_is);(case l=>k_is);(case cc=>k_is)
  refine' L2.b7 (L2.lB (m := "used_table") (qual := "Kept.used_table") (st:=L2.inClass (K.top 60) 3) o_Kept ?xa ?fn ?kk ?l ?cc) (λm_Kept_used_table=>?g30)
  (case xa=>k_is);(case fn=>k_is);(case kk=>k_is);(case l=>k_is);(case cc=>k_is)
  refine' L2.b7 (L2.lB (m := "add_steps") (qual := "Kept.add_steps") (st:=L2.inClass (K.top 60) 4) o_Kept ?xa ?fn ?kk ?l ?cc) (λm_Kept_add_steps=>?g31)
  (case xa=>k_is);(case fn=>k_is);(case kk=>k_is);(case l=>k_is);(case cc=>k_is)
  refine' L2.b7 (L2.nZ (f := "most") o_Kept ?xa) (λna_most=>?g32)
  (case xa=>k_is)
  refine' L2.b7 (L2.nZ (f := "counted") o_Kept ?xa) (λna_counted=>?g33)
  (case xa=>k_is)
  refine' L2.b7 (L2.nZ (f := "laid") o_Kept ?xa) (λna_laid=>?g34)
  (case xa=>k_is)
  refine' L2.b7 (PySem.W.mg_of (n := "GREATEST") KX G ?xa) (λg_GREATEST=>?g35)
  (case xa=>k_is)
  refine' L2.b7 (PySem.W.mg_of (n := "FARTHEST") KX G ?xa) (λg_FARTHEST=>?g36)
  (case xa=>k_is)
  refine' L2.b7 (PySem.W.mg_of (n := "MOST_TOLD") KX G ?xa) (λg_MOST_TOLD=>?g37)
  (case xa=>k_is)
  refine L2.zU hmg d_law (λ_ _ _ _ _ _ _=>rfl) λbase f fd kb F=>?_
  have dvr:=λP w=>K.r8 (P:=P) (w:=w) (base:=base) d_divisor n_abs
  have inv:=λP w=>K.sf (P:=P) (w:=w) (base:=base) d_inverse (dvr P w) (x_NoInverse _ _ _)
  have pw:=λP w=>K.xH (P:=P) (w:=w) (base:=base) d_power (inv P w) n_abs
  have lt:=λP w=>K.sg (P:=P) (w:=w) (base:=base) d_is_least (pw P w) n_all
  have fr:=λP w=>K.z9 (P:=P) (w:=w) (base:=base) d_least_divisor_from
  have ls:=λP w=>K.xB (P:=P) (w:=w) (base:=base) d_least_divisor (fr P w) x_NoNumber (x_TooFar _ _ _) ⟨_,g_GREATEST⟩
  have pd:=λP w=>K.vf (P:=P) (w:=w) (base:=base) d_parted (fr P w) x_NoNumber (x_TooFar _ _ _) ⟨_,g_GREATEST⟩
  have pi:=λP w=>K.qw (P:=P) (w:=w) (base:=base) d_primes_in
  have pp:=λP w=>K.CP (K.mZ (P:=P) (w:=w) (base:=base) d_prime_paper d_parting_paper (ls P w) (pd P w) (K.oa d_least_full (lt P w)) (pi P w) (x_NoPrime _ _ _) n_tuple 30).1
  have ra:=λP w=>K.vi (P:=P) (w:=w) (base:=base) d_raised (pw P w) n_range
  have wo:=λP w=>K.xR (P:=P) (w:=w) (base:=base) d_whole_of n_range
  have od:=λP w=>K.xD (P:=P) (w:=w) (base:=base) d_order (K.oh d_order_from (K.qv d_parting_in) (K.xG d_parting_in) (K.Ac d_most_times) (ra P w) (K.qy d_times_in_order (ra P w) (K.xO d_times_to_one (pw P w)) n_len 6) (wo P w) (pw P w) n_min n_zip n_tuple) x_Nought
  have put:=λP w=>K.CD (P:=P) (w:=w) (base:=base) d_put_together (K.xr d_first_apart (K.xk d_are_apart (dvr P w)) n_enumerate) (K.z5 d_both_together (dvr P w) (inv P w))
  have ki:=λP w=>K.xy (P:=P) (w:=w) (mg:=mg) (base:=base) m_Kept___init__ o_Kept.cls na_most na_counted na_laid
  have ka:=λP w=>K.Aa (P:=P) (w:=w) (mg:=mg) (base:=base) m_Kept_add_steps o_Kept.cls na_counted
  have kt:=λP w=>K.sj (P:=P) (w:=w) (mg:=mg) (base:=base) m_Kept_tables o_Kept.cls na_laid n_list
  have ku:=λP w=>K.xA (P:=P) (w:=w) (mg:=mg) (base:=base) m_Kept_used_table o_Kept.cls na_laid na_most n_len (K.xN d_small_steps n_len) (ka P w) (kt P w)
  have dg:=λP w=>K.va (P:=P) (w:=w) (base:=base) d_digits o_Kept.cls (pw P w) (inv P w) (ku P w) (ka P w) (K.Ae d_number_of) (K.su d_steps_to) n_len n_range n_tuple
  have so:=λP w=>K.vp (P:=P) (w:=w) (base:=base) d_sought o_Kept.cls o_Kept (ki P w) (dg P w) (K.xF d_parting_in) (wo P w) (K.Af d_number_of) (put P w) n_len n_tuple
  have whD:=λP w=>K.xQ (P:=P) (w:=w) (base:=base) d_which (od P w) (pw P w) (K.Cz d_refuse_far (x_TooFar _ _ _) ⟨_,g_FARTHEST⟩ n_max) (pi P w) (so P w) x_Nought
  have dw:=λP w=>K.z6 (P:=P) (w:=w) (base:=base) d__law_draw n_len
  have lp:=λP w=>K.Ab (P:=P) (w:=w) (base:=base) d__law_power
  have cm:=λP w=>K.u9 (P:=P) (w:=w) (base:=base) d__law_common
  have fa:=λP w=>K.z8 (P:=P) (w:=w) (base:=base) d__law_far (dw P w)
  have sa:=λP w=>K.qx (P:=P) (w:=w) (base:=base) d__law_same n_isinstance n_bool n_list n_tuple n_len n_zip n_all 6
  have hm:=λP w=>K.CA (P:=P) (w:=w) (base:=base) d_how_many_roots (dvr P w)
  have no:=λP w=>K.Ad (P:=P) (w:=w) (base:=base) d_shown_none (hm P w) (pw P w)
  have on:=λP w=>K.sr (P:=P) (w:=w) (base:=base) d_one_root (hm P w) (wo P w) (K.qv d_parting_in) (dvr P w) (pw P w) (inv P w) (whD P w)
  have rt:=λP w=>K.xK (P:=P) (w:=w) (base:=base) d_roots (no P w) (hm P w) (K.sk d_of_order (pw P w) x_NoOrder) (K.vw d_all_turned n_range) (on P w) (x_TooMany _ _ _) ⟨_,g_MOST_TOLD⟩ n_sorted
  have wl:=λP w=>K.Fp (P:=P) (w:=w) (base:=base) d_is_whole n_isinstance n_int n_bool
  have tf:=λP w=>K.CG (P:=P) (w:=w) (base:=base) d_is_tuple_of n_isinstance n_tuple n_len
  have pf:=λP w=>K.D5 (P:=P) (w:=w) (base:=base) d_is_paper_form (wl P w) (tf P w) n_isinstance n_tuple
  have rf:=λP w=>K.D8 (P:=P) (w:=w) (base:=base) d_is_row_form (wl P w) (tf P w) (pf P w)
  have ct:=λP w=>K.D4 (P:=P) (w:=w) (base:=base) d_come_to (rf P w) (K.D9 d_without)
  have rab:=λP w=>K.D7 (P:=P) (w:=w) (base:=base) d_is_right_above (pf P w) (ct P w) (lt P w) (pi P w)
  have ppr:=λP w=>K.D6 (P:=P) (w:=w) (base:=base) d_is_prime_paper (K.CC d_are_prime_papers (rab P w) n_list)
  have iord:=λP w=>K.si (P:=P) (w:=w) (base:=base) d_is_order (lt P w) (pi P w)
  have jst:=λP w=>K.tM (P:=P) (w:=w) (base:=base) (fi:=0) d_is_just d_are_just (wl P w) n_isinstance n_list n_tuple n_len n_zip n_all 7
  have al:=λP w=>K.zZ (P:=P) (w:=w) (base:=base) d_are_all_roots (K.xJ d_product_of) (hm P w) (K.Ah d_are_rising_below (wl P w) n_all n_zip) (K.vb d_is_root (pw P w)) ⟨_,g_MOST_TOLD⟩ n_isinstance n_list n_len n_all
  have sb:=λP w=>K.xM (P:=P) (w:=w) (base:=base) d_is_shown_by (jst P w) (tf P w) (wl P w) (iord P w) (hm P w) n_min
  have shr:=λP w=>K.vn (P:=P) (w:=w) (base:=base) d_shows_roots (ppr P w) (tf P w) (no P w) (jst P w) (al P w) (sb P w)
  have du:=λP w=>K.z7 (P:=P) (w:=w) (base:=base) d__law_due (lp P w) (cm P w) (K.xP d__law_turn (dw P w) (K.Ag d__law_order) n_range n_len) n_range n_len
  exact K.CB F (K.Ai d__law_tape) (dw _ _) (K.vh d__law_prime (K.vc d__law_is_prime n_int)) (pp _ _) (K.xE d__law_other_paper (dw _ _) (lp _ _) n_any) (K.Fo d__law_k (dw _ _) (fa _ _) n_max) (K.xC d__law_number (dw _ _) n_int) (du _ _) (shr _ _) (rt _ _) (sa _ _) n_range n_list
 case S=>exact λK H a ns hl hO hS=>⟨a,ns,rfl,hS,hl,λ_=>rfl⟩
 case C=>exact λ_ _ _ _ z=>z
