import PyProof.Rows.All
import Wide.All
import OpenK.AllK
import Wide.FinOn
import Lean
import PyProof.EqAt
import PyProof.EqKinds
import PyProof.TupleCall
import KE.KRevSl
import PyProof.NeData
import PyProof.P3Eq
import PyProof.Rows.Range3
import PyProof.EnumMake
import PyProof.Draws
import PyProof.ZipIter
import PyProof.Rows.SortShell
import KE.KDictList
import KE.KDictSum
import PyProof.WalkInts
import PyProof.Rows.SeqCalls
import PyProof.DictCompW
import PySem.Challenge.RW_rootprime_k77_tables_of_powers
set_option Elab.async false
local macro_rules | `(tactic| omega) => `(tactic| lia)
set_option linter.all false
set_option maxRecDepth 100000
namespace L2
open PySem PySem.Spec PyProof.Rows
abbrev Key:=Sum Int Str
def jh:Key->Value->Bool
 | .inl k,v=>Value.isInt k v
 | .inr x,v=>Value.isStrOf x v
def yr (w:World):Key->Int
 | .inl k=>hashInt k
 | .inr x=>hashStr w x
theorem aY:∀{k:Key} {v:Value},jh k v=true->(∃ i t,k=Sum.inl i/\v=Value.int i t)∨(∃ x t,k=Sum.inr x/\v=Value.str x t)
 | .inl i,v,h=>by
  obtain⟨t,e⟩:=Value.isInt_shape (k:=i) (v:=v) h
  exact .inl ⟨i,t,rfl,e⟩
 | .inr x,v,h=>by
  obtain⟨t,e⟩:=Value.isStrOf_shape (x:=x) (v:=v) h
  exact .inr ⟨x,t,rfl,e⟩
theorem oS (i:Int) (t:Tok):jh (.inl i) (.int i t)=true:=by simp [jh,Value.isInt]
theorem oU (x:Str) (t:Tok):jh (.inr x) (.str x t)=true:=by simp [jh,Value.isStrOf]
theorem vH (a b:Int):decide ((Sum.inl a:Key)=Sum.inl b)=(a==b):=by
 by_cases e:a=b
 ·subst e;simp
 ·have h:¬(Sum.inl a:Key)=Sum.inl b:=λq=>e (Sum.inl.inj q)
  rw [decide_eq_false h]
  exact (beq_eq_false_iff_ne.mpr e).symm
theorem vK (a b:Str):decide ((Sum.inr a:Key)=Sum.inr b)=decide (a=b):=by
 by_cases e:a=b
 ·subst e;simp
 ·have h:¬(Sum.inr a:Key)=Sum.inr b:=λq=>e (Sum.inr.inj q)
  rw [decide_eq_false h,decide_eq_false e]
theorem vI (a:Int) (b:Str):decide ((Sum.inl a:Key)=Sum.inr b)=false:=decide_eq_false (λq=>nomatch q)
theorem vJ (a:Str) (b:Int):decide ((Sum.inr a:Key)=Sum.inl b)=false:=decide_eq_false (λq=>nomatch q)
def aL (prog:Program) (w:World):PySem.KeyKind prog w Key where
 is:=jh
 hash:=yr w
 inj:=λv a b ha hb=>by
  rcases aY ha with⟨i,t,rfl,rfl⟩|⟨x,t,rfl,rfl⟩
  ·rcases aY hb with⟨j,u,rfl,e⟩|⟨y,u,rfl,e⟩
   ·injection e with e1 _;rw [e1]
   ·exact nomatch e
  ·rcases aY hb with⟨j,u,rfl,e⟩|⟨y,u,rfl,e⟩
   ·exact nomatch e
   ·injection e with e1 _;rw [e1]
 byValue:=λk v h=>by
  rcases aY h with⟨i,t,rfl,rfl⟩|⟨x,t,rfl,rfl⟩<;>rfl
 pyHash:=λhv h=>by
  rcases aY hv with⟨i,t,rfl,rfl⟩|⟨x,t,rfl,rfl⟩
  ·exact wpAny_pyHash_int h
  ·exact wpAny_pyHash_str h
 eqBool:=λhu hv h=>by
  rcases aY hu with⟨i,t,rfl,rfl⟩|⟨x,t,rfl,rfl⟩
  ·rcases aY hv with⟨j,u,rfl,rfl⟩|⟨y,u,rfl,rfl⟩
   ·rw [vH] at h;exact wpAny_eqBool_int h
   ·rw [vI] at h;exact SeqAt.EqAt.int_str i t y u _ _ _ _ h
  ·rcases aY hv with⟨j,u,rfl,rfl⟩|⟨y,u,rfl,rfl⟩
   ·rw [vJ] at h;exact SeqAt.EqAt.str_int x t j u _ _ _ _ h
   ·rw [vK] at h;exact wpAny_eqBool_str h
 «strs»:=λk x t v h=>by
  rcases aY h with⟨i,u,rfl,e⟩|⟨y,u,rfl,e⟩
  ·exact nomatch e
  ·injection e with e1 _
   subst e1
   cases v<;>rfl
theorem lb (prog:Program) (w:World) (i:Int) (t:Tok):(aL prog w).is (.inl i) (.int i t)=true:=oS i t
theorem lg (prog:Program) (w:World) (x:Str) (t:Tok):(aL prog w).is (.inr x) (.str x t)=true:=oU x t
inductive V where
 | non | bl (b:Bool) | int (i:Int) | str (x:Str) | byt (b:Array UInt8) | flt (b:UInt64) | ref (a:Addr) | ty (n:String)
 deriving DecidableEq
def RelV:V->Value->Prop
 | .non,u=>u=Value.none
 | .bl b,u=>u=Value.bool b
 | .int i,u=>∃ t,u=Value.int i t
 | .str x,u=>∃ t,u=Value.str x t
 | .byt b,u=>∃ t,u=Value.bytes b t
 | .flt b,u=>∃ t,u=Value.float b t
 | .ref a,u=>u=Value.ref a
 | .ty n,u=>u=Value.type n
abbrev Vals:List V->List Value->Prop:=Paired RelV
theorem Vals.length {xs:List V} {us:List Value} (r:Vals xs us):xs.length=us.length:=Paired.length r
theorem Vals.get:∀{xs:List V} {us:List Value} {i:Nat} {x:V},Vals xs us->xs[i]?=some x->∃ u,us[i]?=some u/\RelV x u
 | _,_,_,_,.nil,e=>by simp at e
 | _,_,0,_,.cons r _,e=>by simp at e;subst e;exact⟨_,rfl,r⟩
 | _,_,i+1,x,.cons _ t,e=>by
  obtain⟨u,h1,h2⟩:=Vals.get (i:=i) (x:=x) t (by simpa using e)
  exact⟨u,by simpa using h1,h2⟩
theorem Vals.append:∀{xs ys:List V} {us ws:List Value},Vals xs us->Vals ys ws->Vals (xs++ys) (us++ws)
 | _,_,_,_,.nil,s=>s
 | _,_,_,_,.cons r t,s=>.cons r (Vals.append t s)
theorem Vals.take:∀{xs:List V} {us:List Value} (n:Nat),Vals xs us->Vals (xs.take n) (us.take n)
 | _,_,0,_=>.nil
 | _,_,_+1,.nil=>.nil
 | _,_,n+1,.cons r t=>.cons r (Vals.take n t)
theorem Vals.drop:∀{xs:List V} {us:List Value} (n:Nat),Vals xs us->Vals (xs.drop n) (us.drop n)
 | _,_,0,r=>r
 | _,_,_+1,.nil=>.nil
 | _,_,n+1,.cons _ t=>Vals.drop n t
def dD:Option V->Option Value->Prop
 | some v,some u=>RelV v u
 | none,none=>True
 | _,_=>False
def KV {κ:Type}:List (κ × V)->List (κ × Value)->Prop:=Paired fun(p:κ × V) (q:κ × Value)=>p.1=q.1/\RelV p.2 q.2
def kV:Key->V
 | .inl i=>.int i
 | .inr x=>.str x
inductive HO where
  | lst (xs:List V)
  | tup (xs:List V)
  | dK (kvs:List (Key × V)) | dT (kvs:List (List Key × V))
  | set (S:Int->Bool) (n:Nat)
  | ins (C dx:Addr) (fs:List (Str × V))
  | own (x:Addr)
  | xd (fs:List (Str × V))
  | met (f x:Addr)
  | rng (lo hi:Int)
  | frz (o:Obj) (u:HO)
  | tbl (ps:Array Value)
  | ext (φ:Heap->Prop)
abbrev Hp:=Addr->Option HO
def upd (H:Hp) (a:Addr) (o:HO):Hp:=λb=>if b=a then some o else H b
theorem ag {H:Hp} {a:Addr} {o:HO}:upd H a o a=some o:=by unfold upd;rw [if_pos rfl]
theorem ak {H:Hp} {a b:Addr} {o:HO} (h:b≠a):upd H a o b=H b:=by unfold upd;rw [if_neg h]
theorem xq {H:Hp} {a b:Addr} {o u:HO} (h:H a=some o) (h':H b=some u) (d:o≠u):a≠b:=by
 intro e;subst e;rw [h] at h';exact d (Option.some.inj h')
theorem aT {H:Hp} {a b:Addr} {o:HO} (h:H a=some o) (h':H b=none):a≠b:=by
 intro e;subst e;rw [h] at h';cases h'
section
variable (P:Program) (w:World)
def aN (H:Hp) (h:Heap) (a:Addr):HO->Prop
 | .lst xs=>xs.length<=sizeLine/\∃(its:List Value) (n:Nat),Vals xs its/\h.get? a=some { cls:=.type "list",data:=.seq its.toArray n }
 | .tup xs=>xs.length<=sizeLine/\∃ its:List Value,Vals xs its/\IsTup h a its.toArray
 | .dK kvs=>kvs.length<=sizeLine/\(a==sysModules)=false/\∃ vs,KV kvs vs/\h.DictOf (aL P w) a vs
 | .dT kvs=>kvs.length<=sizeLine/\(a==sysModules)=false/\∃ xs:List (List Key × Addr × Value),
   Paired (fun(p:List Key × V) (q:List Key × Addr × Value)=>p.1=q.1/\H q.2.1=some (.tup (p.1.map kV))/\RelV p.2 q.2.2) kvs xs /\
   ∃ o es ep,h.get? a=some o/\o.ExactDict/\o.data=.dict es ep/\es.toList=xs.map (entryOfKey (tupleKind (aL P w)))/\(xs.map (·.1)).Nodup
 | .set S n=>h.SetOf (intKind P w) a S n
 | .ins C dx fs=>H dx=some (.own a)/\fs.length<=1000/\dx≠a/\h.get? a=some (PySem.W.instObj C dx) /\
   ∃ mA,h.Ns1 dx mA/\(∀ f,dD (fs.lookup f) (mA f))/\PySem.Within mA (fs.map (·.1))
 | .own _=>∃ o,h.get? a=some o
 | .xd fs=>∃ mA,h.Ns1 a mA/\∀ f,dD (fs.lookup f) (mA f)
 | .rng lo hi=>∃ t u v,h.get? a=some { cls:=.type "range",data:=.fields #[.int lo t,.int hi u,.int 1 v] }
 | .frz o u=>h.get? a=some o/\aN H h a u
 | .tbl ps=>h.get? a=some { cls:=.none,data:=.fields ps }
 | .met f x=>h.get? a=some (PySem.W.methodObj (.ref f) (.ref x))
 | .ext φ=>φ h/\(∃ o,h.get? a=some o)/\∀ h1 h2:Heap,φ h1->(∀ o,h1.get? a=some o->h2.get? a=some o)->φ h2
def dw (H:Hp) (h:Heap):Prop:=∀ a o,H a=some o->aN P w H h a o
end
section
variable {P:Program} {w:World} {H H':Hp} {h h':Heap} {a:Addr} {o:HO}
theorem aN.lt (x:aN P w H h a o):a<h.objs.size:=by
 cases o with
 | lst xs=>obtain⟨_,_,_,_,e⟩:=x;exact Heap.lt_size e
 | tup xs=>obtain⟨_,_,_,p⟩:=x;exact p.lt
 | dK kvs=>obtain⟨_,_,_,_,o,_,_,e,_⟩:=x;exact Heap.lt_size e
 | dT kvs=>obtain⟨_,_,_,_,o,_,_,e,_⟩:=x;exact Heap.lt_size e
 | set S n=>obtain⟨o,_,_,_,e,_⟩:=x;exact Heap.lt_size e
 | ins C dx fs=>obtain⟨_,_,_,e,_⟩:=x;exact Heap.lt_size e
 | own y=>obtain⟨_,e⟩:=x;exact Heap.lt_size e
 | xd fs=>obtain⟨_,⟨_,_,_,e,_⟩,_⟩:=x;exact Heap.lt_size e
 | rng lo hi=>obtain⟨_,_,_,e⟩:=x;exact Heap.lt_size e
 | frz ob u=>obtain⟨e,_⟩:=x;exact Heap.lt_size e
 | tbl ps=>exact Heap.lt_size (show h.get? a=some _ from x)
 | met f y=>exact Heap.lt_size (show h.get? a=some _ from x)
 | ext φ=>obtain⟨_,⟨_,e⟩,_⟩:=x;exact Heap.lt_size e
theorem Paired.vM {α β:Type} {F G:α->β->Prop}:∀{l₁:List α} {l₂:List β},Paired F l₁ l₂->(∀ a b,F a b->G a b)->Paired G l₁ l₂
 | _,_,.nil,_=>.nil
 | _,_,.cons r t,f=>.cons (f _ _ r) (Paired.vM t f)
theorem aN.fW (x:aN P w H h a o) (k:∀ b u,(b=a∨H b=some (.own a))->h.get? b=some u->h'.get? b=some u)
  (ho:∀ b,H b=some (.own a)->H' b=some (.own a)) (ht:∀ b xs,H b=some (.tup xs)->H' b=some (.tup xs)):aN P w H' h' a o:=by
 induction o with
 | lst xs=>obtain⟨z,its,n,r,e⟩:=x;exact⟨z,its,n,r,k _ _ (.inl rfl) e⟩
 | tup xs=>obtain⟨z,its,r,ob,e,c⟩:=x;exact⟨z,its,r,ob,k _ _ (.inl rfl) e,c⟩
 | dK kvs=>obtain⟨z,y,vs,r,ob,es,ep,e,c⟩:=x;exact⟨z,y,vs,r,ob,es,ep,k _ _ (.inl rfl) e,c⟩
 | dT kvs =>
  obtain⟨z,y,xs,r,ob,es,ep,e,c⟩:=x
  exact⟨z,y,xs,Paired.vM r λp q z=>⟨z.1,ht _ _ z.2.1,z.2.2⟩,ob,es,ep,k _ _ (.inl rfl) e,c⟩
 | set S n=>obtain⟨ob,es,ep,t,e,c⟩:=x;exact⟨ob,es,ep,t,k _ _ (.inl rfl) e,c⟩
 | ins C dx fs =>
  obtain⟨d,z,ne,e,mA,⟨od,es,ep,e2,c⟩,r⟩:=x
  exact⟨ho _ d,z,ne,k _ _ (.inl rfl) e,mA,⟨od,es,ep,k _ _ (.inr d) e2,c⟩,r⟩
 | own y=>obtain⟨ob,e⟩:=x;exact⟨ob,k _ _ (.inl rfl) e⟩
 | xd fs=>obtain⟨mA,⟨od,es,ep,e,c⟩,r⟩:=x;exact⟨mA,⟨od,es,ep,k _ _ (.inl rfl) e,c⟩,r⟩
 | rng lo hi=>obtain⟨t,u,v,e⟩:=x;exact⟨t,u,v,k _ _ (.inl rfl) e⟩
 | frz ob u ih=>obtain⟨e,q⟩:=x;exact⟨k _ _ (.inl rfl) e,ih q⟩
 | tbl ps =>
  have e:h.get? a=some { cls:=.none,data:=.fields ps }:=x
  show h'.get? a=some { cls:=.none,data:=.fields ps }
  exact k a _ (.inl rfl) e
 | met f y =>
  have e:h.get? a=some (PySem.W.methodObj (.ref f) (.ref y)):=x
  show h'.get? a=some (PySem.W.methodObj (.ref f) (.ref y))
  exact k a _ (.inl rfl) e
 | ext φ=>obtain⟨p,⟨o,e⟩,st⟩:=x;exact⟨st _ _ p λo q=>k _ _ (.inl rfl) q,⟨o,k _ _ (.inl rfl) e⟩,st⟩
theorem dw.lt (x:dw P w H h) (e:H a=some o):a<h.objs.size:=(x a o e).lt
theorem dw.fresh (x:dw P w H h) (e:h.objs.size<=a):H a=none:=by
 cases q:H a with
 | none=>rfl
 | some u=>exact absurd (Nat.lt_of_lt_of_le (x.lt q) e) (Nat.lt_irrefl _)
theorem dw.kept (x:dw P w H h) (k:∀ b u,h.get? b=some u->h'.get? b=some u):dw P w H h':=λa o e =>
 (x a o e).fW (λb u _ q=>k b u q) (λ_ q=>q) λ_ _ q=>q
theorem dw.laid (x:dw P w H h) (k:∀ b u,h.get? b=some u->h'.get? b=some u) (hp:h.objs.size<=a) (new:aN P w (upd H a o) h' a o):dw P w (upd H a o) h':=λb u e=>by
 have hn:=x.fresh hp
 by_cases hb:b=a
 ·subst hb;rw [ag] at e;cases e;exact new
 ·rw [ak hb] at e
  exact (x b u e).fW (λc v _ q=>k c v q) (λc q=>by rw [ak (aT q hn)];exact q) λc xs q=>by rw [ak (aT q hn)];exact q
end
def Rd (H:Hp) (a:Addr) (u:HO):Prop:=H a=some u∨∃ o,H a=some (.frz o u)
theorem Rd.ok {P:Program} {w:World} {H:Hp} {h:Heap} {a:Addr} {u:HO} (r:Rd H a u) (x:dw P w H h):aN P w H h a u:=by
 rcases r with r | ⟨o,r⟩
 ·exact x a u r
 ·obtain⟨_,q⟩:=x a _ r
  exact q
def wI:Option HO->Prop
 | some (.lst _)=>True
 | some (.dK _)=>True
 | some (.dT _)=>True
 | some (.set _ _)=>True
 | some (.ins _ _ _)=>True
 | some (.ext _)=>True
 | _=>False
section
variable {P:Program} {w:World} {H:Hp} {h h':Heap} {x e:Addr} {o':HO}
theorem dw.write (ok:dw P w H h) (mu:wI (H x)) (he:e=x∨H e=some (.own x)) (k:∀ b u,b≠e->h.get? b=some u->h'.get? b=some u) (heo:∃ u,h'.get? e=some u)
  (new:aN P w (upd H x o') h' x o'):dw P w (upd H x o') h':=λb u q=>by
 have nown:∀ c y,H c=some (.own y)->c≠x:=λc y r z=>by subst z;rw [r] at mu;exact mu
 have ntup:∀ c xs,H c=some (.tup xs)->c≠x:=λc xs r z=>by subst z;rw [r] at mu;exact mu
 by_cases hb:b=x
 ·subst hb;rw [ag] at q;cases q;exact new
 ·rw [ak hb] at q
  by_cases hbe:b=e
  ·have q':H b=some (.own x):=by
    rcases he with z | z
    ·exact absurd (hbe.trans z) hb
    ·rw [hbe];exact z
   rw [q] at q';cases q'
   obtain⟨v,hv⟩:=heo
   exact⟨v,by rw [hbe];exact hv⟩
  ·refine (ok b u q).fW (λc v hc r=>k c v ?_ r) (λc r=>by rw [ak (nown c b r)];exact r) λc xs r=>by rw [ak (ntup c xs r)];exact r
   rcases hc with rfl | hc
   ·exact hbe
   ·rintro rfl
    rcases he with z | z
    ·exact nown c b hc z
    ·rw [hc] at z;cases z;exact hb rfl
end
structure Un (fs ex:List Addr) (H H':Hp) (h h':Heap):Prop where
 keep:∀ b o,h.get? b=some o->H b=none->b∉fs->b∉ex->h'.get? b=some o
 slot:∀ b o,h.get? b=some o->H b=none->b∈fs->b∉ex->∃ sl,h'.get? b=some { o with slots:=sl }
 free:∀ b o,h.get? b=some o->H b=none->b∉ex->H' b=none
 there:∀ b o,h.get? b=some o->b∉ex->∃ o',h'.get? b=some o'
 tups:∀ b xs,H b=some (.tup xs)->H' b=some (.tup xs)
 frzs:∀ b o u,H b=some (.frz o u)->H' b=some (.frz o u)
 tbls:∀ b ps,H b=some (.tbl ps)->∃ more,H' b=some (.tbl (ps++more))
section
variable {fs fs' ex ex':List Addr} {H H1 H2:Hp} {h h1 h2 h':Heap} {a x e:Addr} {o:HO}
theorem Un.any (u:Un fs ex H H1 h h1) {b:Addr} {ob:Obj} (q:h.get? b=some ob) (n:H b=none) (hx:b∉ex):∃ sl,h1.get? b=some { ob with slots:=sl }:=by
 by_cases hb:b∈fs
 ·exact u.slot b ob q n hb hx
 ·exact⟨ob.slots,u.keep b ob q n hb hx⟩
theorem Un.trans (a:Un fs ex H H1 h h1) (b:Un fs ex H1 H2 h1 h2):Un fs ex H H2 h h2 where
 keep:=λc ob q n hc hx=>b.keep c ob (a.keep c ob q n hc hx) (a.free c ob q n hx) hc hx
 slot:=λc ob q n hc hx=>by
  obtain⟨sl,e1⟩:=a.slot c ob q n hc hx
  obtain⟨sl',e2⟩:=b.slot c _ e1 (a.free c ob q n hx) hc hx
  exact⟨sl',e2⟩
 free:=λc ob q n hx=>by
  obtain⟨o',e1⟩:=a.there c ob q hx
  exact b.free c o' e1 (a.free c ob q n hx) hx
 there:=λc ob q hx=>by
  obtain⟨o',e1⟩:=a.there c ob q hx
  exact b.there c o' e1 hx
 tups:=λc xs q=>b.tups c xs (a.tups c xs q)
 frzs:=λc ob xs q=>b.frzs c ob xs (a.frzs c ob xs q)
 tbls:=λc ps q=>by
  obtain⟨m1,e1⟩:=a.tbls c ps q
  obtain⟨m2,e2⟩:=b.tbls c _ e1
  exact⟨m1++m2,by rw [e2,Array.append_assoc]⟩
theorem Un.kept (k:∀ b u,h.get? b=some u->h'.get? b=some u):Un fs ex H H h h' :=
 ⟨λb ob q _ _ _=>k b ob q,λb ob q _ _ _=>⟨ob.slots,k b ob q⟩,λ_ _ _ n _=>n,λb ob q _=>⟨ob,k b ob q⟩,λ_ _ q=>q,λ_ _ _ q=>q,λ_ ps q=>⟨#[],by rw [q];simp⟩⟩
theorem Un.refl:Un fs ex H H h h:=Un.kept λ_ _ q=>q
theorem Un.laid (k:∀ b u,h.get? b=some u->h'.get? b=some u) (hp:h.objs.size<=a) (hn:H a=none):Un fs ex H (upd H a o) h h' where
 keep:=λb u q _ _ _=>k b u q
 slot:=λb u q _ _ _=>⟨u.slots,k b u q⟩
 free:=λb u q n _=>by rw [ak (Nat.ne_of_lt (Nat.lt_of_lt_of_le (Heap.lt_size q) hp))];exact n
 there:=λb u q _=>⟨u,k b u q⟩
 tups:=λb xs q=>by rw [ak (aT q hn)];exact q
 frzs:=λb u xs q=>by rw [ak (aT q hn)];exact q
 tbls:=λb ps q=>⟨#[],by rw [ak (aT q hn),q];simp⟩
theorem Un.write (mu:wI (H x)) (he:e=x∨H e=some (.own x)) (k:∀ b u,b≠e->h.get? b=some u->h'.get? b=some u) (heo:∃ u,h'.get? e=some u):Un fs ex H (upd H x o) h h':=by
 have hx:∀ b,H b=none->b≠x:=λb n z=>by subst z;rw [n] at mu;exact mu
 have hb:∀ b,H b=none->b≠e:=λb n z=>by
  subst z
  rcases he with r | r
  ·exact hx b n r
  ·rw [n] at r;cases r
 have hm:∀ b u,H b=some u->¬wI (some u)->b≠x:=λb u q nm z=>by subst z;rw [q] at mu;exact nm mu
 refine⟨λb u q n _ _=>k b u (hb b n) q,λb u q n _ _=>⟨u.slots,k b u (hb b n) q⟩,λb u q n _=>by rw [ak (hx b n)];exact n,λb u q _=>?_,
  λb xs q=>by rw [ak (hm b _ q λz=>z)];exact q,λb u xs q=>by rw [ak (hm b _ q λz=>z)];exact q,λb ps q=>⟨#[],by rw [ak (hm b _ q λz=>z),q];simp⟩⟩
 by_cases hbe:b=e
 ·subst hbe;exact heo
 ·exact⟨u,k b u hbe q⟩
theorem Un.mono (u:Un fs ex H H1 h h1) (hs:∀ b∈fs,b∈fs') (hx:∀ b∈ex,b∈ex'):Un fs' ex' H H1 h h1 :=
 ⟨λb ob q n hb he=>u.keep b ob q n (λz=>hb (hs b z)) λz=>he (hx b z),λ_ _ q n _ he=>u.any q n λz=>he (hx _ z),λb ob q n he=>u.free b ob q n λz=>he (hx b z),λb ob q he=>u.there b ob q λz=>he (hx b z),u.tups,u.frzs,u.tbls⟩
end
def ya (h:Heap) (H:Hp):List Addr:=(List.range h.objs.size).filter λa=>(H a).isSome
def jT (h:Heap) (H:Hp):Heap:=PySem.W.hideAll h (ya h H)
theorem oK (h:Heap) (H:Hp):(jT h H).objs.size=h.objs.size:=PySem.W.hideAll_size _ _
theorem qF {h:Heap} {H:Hp} {b:Addr} {o:Obj} (e:h.get? b=some o) (n:H b=none):(jT h H).get? b=some o :=
 PySem.W.hideAll_get _ e λhm=>by
  have q:(H b).isSome=true:=(List.mem_filter.mp hm).2
  rw [n] at q;simp at q
theorem tO {h:Heap} {H:Hp} {b:Addr} {o:Obj} (e:(jT h H).get? b=some o):h.get? b=some o/\H b=none:=by
 have e':h.get? b=some o:=PySem.W.of_hideAll (ya h H) e
 refine⟨e',?_⟩
 cases q:H b with
 | none=>rfl
 | some x =>
  have hm:b∈ya h H:=List.mem_filter.mpr ⟨List.mem_range.mpr (Heap.lt_size e'),by simp [q]⟩
  have z:(jT h H).get? b=none:=PySem.W.hideAll_none (ya h H) hm
  rw [z] at e;cases e
def sH (g h:Heap) (L:Addr):List (Addr × Obj):=(List.range h.objs.size).filterMap λa=>if a=L∨(g.get? a).isSome=true then none else (h.get? a).map λo=>(a,o)
def rest (g h:Heap) (L d:Addr):List (Addr × Obj):=(sH g h L).filter λp=>decide (p.1≠d)
structure Mod (K:PySem.W.Frag) (mg:Str->Option Value) (base:Heap):Prop where
 kin:K.In base
 glob:base.Ns mainGlobals mg
 blt:∃ mb,base.Ns builtinsNs mb/\∀ x:Str,x ≠ "__name__"->mb x=bootBuiltins x
 nolimit:base.NoLimit
structure Cx where
 prog:Program
 w:World
 K:PySem.W.Frag
 mg:Str->Option Value
 base:Heap
 A:Around
 N:List Str
 s₀:Shared
 H₀:Hp
 env:Env
 outer:List Env
 stack:List Env
 ex:List Addr
 fn:Str->Bool
 calm:Bool
 pn:List (Addr × Obj)
 xe:Value->Shared->Prop
def dB (l:List Env):List Addr:=l.filterMap (·.frame)
abbrev Cx.fs (X:Cx):List Addr:=dB X.outer
def vn (sc:Scope) (x:Str):Prop:=sc.names.lookup x=some .local∨sc.names.lookup x=some .cell∨sc.names.lookup x=some .free
def Loc (sc:Scope) (x:Str):Prop:=sc.names.lookup x=some .local∨sc.names.lookup x=some .cell
def Look (env:Env) (h:Heap) (m:Str->Option Value) (x:Str) (u:Value):Prop :=
 (env.kindOf x=some .local/\m x=some u)∨((env.kindOf x=some .cell∨env.kindOf x=some .free)/\∃ c,env.cells.lookup x=some c/\h.IsCell c (some u))
structure Cx.Ok (X:Cx):Prop where
 mod:Mod X.K X.mg X.base
 kind:X.env.scope.kind=.function
 glob:X.env.globals=mainGlobals
 blt:X.env.builtins=builtinsNs
 above:X.s₀.heap.objs.size<=X.env.locals
 inj:∀ x y c,X.env.cells.lookup x=some c->X.env.cells.lookup y=some c->x=y
 has:∀ x,(X.env.kindOf x=some .cell∨X.env.kindOf x=some .free)->∃ c,X.env.cells.lookup x=some c
 cab:∀ x c,X.fn x=true->X.env.cells.lookup x=some c->X.s₀.heap.objs.size<=c
 hd:X.calm=true->X.A.handled=none
 frames:X.A.frames=some X.stack
 stk:X.stack=X.outer∨(X.stack=X.env::X.outer/\X.env.frame=some X.env.locals)
 exf:∀ b∈X.ex,b≠X.env.locals/\∀ x c,X.env.cells.lookup x=some c->c≠b
 bs:∀ b o,X.base.get? b=some o->X.s₀.heap.get? b=some o/\X.H₀ b=none
 bsz:X.base.objs.size<=X.s₀.heap.objs.size
 noex:∀ b o,X.base.get? b=some o->b∉X.ex
 exfs:∀ b∈X.ex,b∉X.fs
 gg:X.s₀.heap.FunFrames X.base X.outer
 frf:∀ b∈X.fs,X.H₀ b=none
structure Inv (X:Cx) (pins:List (Addr × Obj)) (σ:List (Option V)) (H:Hp) (s:Shared):Prop where
 ok:X.Ok
 os:s.os=X.s₀.os
 bare:AllBare s.gens
 base:Un X.fs X.ex X.H₀ H X.s₀.heap s.heap
 loc:∃ m,s.heap.Ns X.env.locals m/\∀(i:Nat) (x:Str) (v:V),X.N[i]?=some x->σ[i]?=some (some v)->vn X.env.scope x->∃ u,RelV v u/\Look X.env s.heap m x u
 cell:∀ x c,X.env.cells.lookup x=some c->∃ v,s.heap.IsCell c v
 free:H X.env.locals=none
 freeC:∀ x c,X.env.cells.lookup x=some c->H c=none
 pin:∀ p∈X.pn++pins,s.heap.get? p.1=some p.2/\H p.1=none/\p.1≠X.env.locals/\p.1∉X.fs/\∀ v,p.2.data≠.cell v
 hok:dw X.prog X.w H s.heap
 len:σ.length=X.N.length
section
variable {X:Cx} {pins:List (Addr × Obj)} {σ:List (Option V)} {H H':Hp} {s:Shared} {h':Heap}
theorem Cx.Ok.yv (ok:X.Ok) {b:Addr} {o:Obj} (e:X.base.get? b=some o):b∉X.fs:=λhb=>by
 have:=(ok.gg.mem hb).1
 rw [e] at this;cases this
theorem Inv.bs (I:Inv X pins σ H s):∀ b o,X.base.get? b=some o->s.heap.get? b=some o/\H b=none:=λb o e =>
 ⟨I.base.keep b o (I.ok.bs b o e).1 (I.ok.bs b o e).2 (I.ok.yv e) (I.ok.noex b o e),I.base.free b o (I.ok.bs b o e).1 (I.ok.bs b o e).2 (I.ok.noex b o e)⟩
theorem Inv.bk (I:Inv X pins σ H s):∀ b o,X.base.get? b=some o->s.heap.get? b=some o:=λb o e=>(I.bs b o e).1
theorem Inv.mod (I:Inv X pins σ H s):Mod X.K X.mg X.base:=I.ok.mod
theorem Inv.cH (I:Inv X pins σ H s):X.K.In s.heap:=I.ok.mod.kin.keeps I.bk
theorem Inv.fr (I:Inv X pins σ H s):∃ m,Fr X.base X.env.locals s.heap m :=
 let ⟨m,hn,_⟩:=I.loc
 ⟨m,hn,I.bk,Nat.le_trans I.ok.bsz I.ok.above⟩
theorem Inv.lt (I:Inv X pins σ H s):X.env.locals<s.heap.objs.size:=let ⟨_,hn,_⟩:=I.loc;hn.lt
theorem Inv.sz (I:Inv X pins σ H s):X.s₀.heap.objs.size<=s.heap.objs.size:=Nat.le_trans I.ok.above (Nat.le_of_lt I.lt)
theorem Inv.tN (I:Inv X pins σ H s) {a:Addr} (h:s.heap.objs.size<=a):a∉X.fs:=λhb=>by
 obtain⟨_,o,ho,_⟩:=I.ok.gg.mem hb
 exact absurd (Nat.lt_of_lt_of_le (Heap.lt_size ho) (Nat.le_trans I.sz h)) (Nat.lt_irrefl _)
theorem Inv.qc (I:Inv X pins σ H s):∀ x c,X.env.cells.lookup x=some c->c≠X.env.locals:=λx c e z=>by
 obtain⟨v,o,ho,hd⟩:=I.cell x c e
 obtain⟨m,⟨o',es,ep,ho',hd',_⟩,_⟩:=I.loc
 rw [z,ho'] at ho;cases ho;rw [hd'] at hd;cases hd
theorem Inv.gg (I:Inv X pins σ H s):s.heap.FunFrames X.base X.outer:=by
 have all:∀(l:List Env),(∀ b∈dB l,b∈X.fs)->X.s₀.heap.FunFrames X.base l->s.heap.FunFrames X.base l:=by
  intro l
  induction l with
  | nil=>intro _ _;trivial
  | cons env r ih =>
   intro hs hl
   obtain⟨hk,⟨L,o,hf,hn,ho,hd⟩,hr⟩:=hl
   have hL:L∈X.fs:=hs L (by unfold dB;rw [List.filterMap_cons,hf];exact List.mem_cons_self)
   obtain⟨sl,e⟩:=I.base.slot L o ho (I.ok.frf L hL) hL λz=>I.ok.exfs L z hL
   exact⟨hk,⟨L,_,hf,hn,e,hd⟩,ih (λb hb=>hs b (by unfold dB;rw [List.filterMap_cons,hf];exact List.mem_cons_of_mem _ hb)) hr⟩
 exact all X.outer (λ_ hb=>hb) I.ok.gg
theorem Inv.stack (I:Inv X pins σ H s):s.heap.FunFrames X.base X.stack:=by
 rcases I.ok.stk with e | ⟨e,hf⟩
 ·rw [e];exact I.gg
 ·rw [e]
  obtain⟨m,hn,_⟩:=I.loc
  refine .cons (by rw [I.ok.kind];decide) hf hn ?_ I.gg
  exact Heap.get?_none_of_le (Nat.le_trans I.ok.bsz I.ok.above)
theorem Inv.du (I:Inv X pins σ H s):∀ b∈dB X.stack,b∈X.env.locals::X.fs:=λb hb=>by
 rcases I.ok.stk with e | ⟨e,hf⟩
 ·rw [e] at hb;exact List.mem_cons_of_mem _ hb
 ·rw [e] at hb
  unfold dB at hb
  rw [List.filterMap_cons,hf] at hb
  exact hb
theorem Inv.cQ (I:Inv X pins σ H s):∀ b∈dB X.stack,H b=none:=λb hb=>by
 rcases List.mem_cons.mp (I.du b hb) with e | hb
 ·rw [e];exact I.free
 ·obtain⟨_,o,ho,_⟩:=I.ok.gg.mem hb
  exact I.base.free b o ho (I.ok.frf b hb) λz=>I.ok.exfs b z hb
theorem Inv.step {g':Array GenState} {t':Nat} {d':Drawn} {ch:List Addr} (I:Inv X pins σ H s)
  (hch:∀ b∈ch,(b∈X.ex∨X.s₀.heap.objs.size<=b)/\b≠X.env.locals/\(∀ x c,X.env.cells.lookup x=some c->c≠b)/\∀ p∈X.pn++pins,p.1≠b)
  (keep:∀ b o,b≠X.env.locals->b∉X.fs->b∉ch->s.heap.get? b=some o->H b=none->h'.get? b=some o)
  (slot:∀ b o,b≠X.env.locals->b∈X.fs->b∉ch->s.heap.get? b=some o->H b=none->∃ sl,h'.get? b=some { o with slots:=sl }) (free:∀ b o,b∉ch->s.heap.get? b=some o->H b=none->H' b=none)
  (there:∀ b o,b∉ch->s.heap.get? b=some o->∃ o',h'.get? b=some o')
  (tups:∀ b xs,H b=some (.tup xs)->H' b=some (.tup xs)) (frzs:∀ b o u,H b=some (.frz o u)->H' b=some (.frz o u)) (tbls:∀ b ps,H b=some (.tbl ps)->∃ more,H' b=some (.tbl (ps++more)))
  (ns:∀ m,s.heap.Ns X.env.locals m->h'.Ns X.env.locals m) (hok:dw X.prog X.w H' h') (hg:AllBare g') :
  Inv X pins σ H' { s with heap:=h',gens:=g',drawn:=d',toks:=t' }:=by
 have neL:∀ b o,X.s₀.heap.get? b=some o->b≠X.env.locals:=λb o e=>Nat.ne_of_lt (Nat.lt_of_lt_of_le (Heap.lt_size e) I.ok.above)
 have neC:∀ b o,X.s₀.heap.get? b=some o->b∉X.ex->b∉ch:=λb o e hx hb=>by
  rcases (hch b hb).1 with z | z
  ·exact hx z
  ·exact absurd (Nat.lt_of_lt_of_le (Heap.lt_size e) z) (Nat.lt_irrefl _)
 have cellK:∀ x c,X.env.cells.lookup x=some c->∀ v,s.heap.IsCell c v->h'.IsCell c v:=λx c e v ⟨o,ho,hd⟩=>by
  have nch:c∉ch:=λz=>(hch c z).2.2.1 x c e rfl
  by_cases hc:c∈X.fs
  ·obtain⟨sl,q⟩:=slot c o (I.qc x c e) hc nch ho (I.freeC x c e)
   exact⟨_,q,hd⟩
  ·exact⟨o,keep c o (I.qc x c e) hc nch ho (I.freeC x c e),hd⟩
 refine⟨I.ok,I.os,hg,⟨λb o e n hb hx=>?_,λb o e n hb hx=>?_,λb o e n hx=>?_,λb o e hx=>?_,λb xs e=>tups b xs (I.base.tups b xs e),λb o xs e=>frzs b o xs (I.base.frzs b o xs e),λb ps e=>?_⟩,?_,λx c e=>?_,?_,λx c e=>?_,λp hp=>?_,hok,I.len⟩
 ·exact keep b o (neL b o e) hb (neC b o e hx) (I.base.keep b o e n hb hx) (I.base.free b o e n hx)
 ·obtain⟨sl,e1⟩:=I.base.slot b o e n hb hx
  obtain⟨sl',e2⟩:=slot b _ (neL b o e) hb (neC b o e hx) e1 (I.base.free b o e n hx)
  exact⟨sl',e2⟩
 ·obtain⟨o',e1⟩:=I.base.there b o e hx
  exact free b o' (neC b o e hx) e1 (I.base.free b o e n hx)
 ·obtain⟨o',e1⟩:=I.base.there b o e hx
  exact there b o' (neC b o e hx) e1
 ·obtain⟨m1,e1⟩:=I.base.tbls b ps e
  obtain⟨m2,e2⟩:=tbls b _ e1
  exact⟨m1++m2,by rw [e2,Array.append_assoc]⟩
 ·obtain⟨m,hn,hl⟩:=I.loc
  refine⟨m,ns m hn,λi x v e1 e2 e3=>?_⟩
  obtain⟨u,r,l⟩:=hl i x v e1 e2 e3
  refine⟨u,r,?_⟩
  rcases l with l | ⟨k,c,e,z⟩
  ·exact .inl l
  ·exact .inr ⟨k,c,e,cellK x c e _ z⟩
 ·obtain⟨v,z⟩:=I.cell x c e
  exact⟨v,cellK x c e v z⟩
 ·obtain⟨m,⟨o,_,_,ho,_⟩,_⟩:=I.loc
  exact free _ o (λz=>(hch _ z).2.1 rfl) ho I.free
 ·obtain⟨v,o,ho,hd⟩:=I.cell x c e
  exact free c o (λz=>(hch c z).2.2.1 x c e rfl) ho (I.freeC x c e)
 ·obtain⟨e,n,ne,nf,d⟩:=I.pin p hp
  have nch:p.1∉ch:=λz=>(hch p.1 z).2.2.2 p hp rfl
  exact⟨keep p.1 p.2 ne nf nch e n,free p.1 p.2 nch e n,ne,nf,d⟩
theorem Inv.un {t':Nat} (I:Inv X pins σ H s) (u:Un X.fs [] H H' s.heap h') (hok:dw X.prog X.w H' h'):Inv X pins σ H' { s with heap:=h',toks:=t' }:=by
 obtain⟨m,⟨o,es,ep,ho,r⟩,_⟩:=id I.loc
 obtain⟨sl,hL⟩:=u.any ho I.free (by simp)
 exact I.step (g':=s.gens) (d':=s.drawn) (ch:=[]) (λ_ z=>nomatch z) (λb o _ hb _ e n=>u.keep b o e n hb (by simp)) (λb o _ hb _ e n=>u.slot b o e n hb (by simp)) (λb o _ e n=>u.free b o e n (by simp)) (λb o _ e=>u.there b o e (by simp)) u.tups u.frzs u.tbls (λm' hm=>by
  obtain⟨o',es',ep',ho',r'⟩:=hm
  rw [ho] at ho';cases ho'
  exact⟨_,es',ep',hL,r'⟩) hok I.bare
theorem Inv.call {g':Array GenState} {t':Nat} {d':Drawn} {ch:List Addr} (I:Inv X pins σ H s) (u:Un (dB X.stack) ch H H' s.heap h') (hok:dw X.prog X.w H' h') (hg:AllBare g')
  (hch:∀ b∈ch,(b∈X.ex∨X.s₀.heap.objs.size<=b)/\b≠X.env.locals/\(∀ x c,X.env.cells.lookup x=some c->c≠b)/\∀ p∈X.pn++pins,p.1≠b) :
  Inv X pins σ H' { s with heap:=h',gens:=g',drawn:=d',toks:=t' }:=by
 obtain⟨m,⟨o,es,ep,ho,r⟩,_⟩:=id I.loc
 obtain⟨sl,hL⟩:=u.any ho I.free λz=>(hch _ z).2.1 rfl
 exact I.step (ch:=ch) hch (λb o hL hb hc e n=>u.keep b o e n (λz=>(List.mem_cons.mp (I.du b z)).elim hL hb) hc) (λb o _ _ hc e n=>u.any e n hc) (λb o hc e n=>u.free b o e n hc) (λb o hc e=>u.there b o e hc) u.tups u.frzs u.tbls (λm' hm=>by
  obtain⟨o',es',ep',ho',r'⟩:=hm
  rw [ho] at ho';cases ho'
  exact⟨_,es',ep',hL,r'⟩) hok hg
theorem Inv.turned {t':Nat} {it:Addr} (I:Inv X pins σ H s) (k:∀ b o,b≠it->s.heap.get? b=some o->h'.get? b=some o) (hn:H it=none) (hL:it≠X.env.locals)
  (h1:it∈X.ex∨X.s₀.heap.objs.size<=it) (h2:∀ x c,X.env.cells.lookup x=some c->c≠it) (h3:∀ p∈X.pn++pins,p.1≠it):Inv X pins σ H { s with heap:=h',toks:=t' }:=by
 have nit:∀ b u,H b=some u->b≠it:=λb u e z=>by rw [z,hn] at e;cases e
 refine I.step (g':=s.gens) (d':=s.drawn) (ch:=[it]) (λb hb=>?_) (λb o _ _ hc e _=>k b o (λz=>hc (by simp [z])) e) (λb o _ _ hc e _=>⟨o.slots,k b o (λz=>hc (by simp [z])) e⟩) (λ_ _ _ _ n=>n)
  (λb o hc e=>⟨o,k b o (λz=>hc (by simp [z])) e⟩) (λ_ _ e=>e) (λ_ _ _ e=>e) (λb ps e=>⟨#[],by rw [e];simp⟩) (λm hm=>?_) (λb u e=>?_) I.bare
 ·have e:b=it:=by simpa using hb
  subst e
  exact⟨h1,hL,h2,h3⟩
 ·obtain⟨o,es,ep,ho,r⟩:=hm
  exact⟨o,es,ep,k _ o (Ne.symm hL) ho,r⟩
 ·refine (I.hok b u e).fW (λc v hc q=>k c v ?_ q) (λ_ q=>q) λ_ _ q=>q
  rcases hc with z | z
  ·rw [z];exact nit b u e
  ·exact nit c _ z
theorem Inv.tok (I:Inv X pins σ H s) (t:Nat):Inv X pins σ H { s with toks:=t }:=I.un (h':=s.heap) (t':=t) Un.refl I.hok
theorem Inv.kept {t':Nat} (I:Inv X pins σ H s) (k:∀ b u,s.heap.get? b=some u->h'.get? b=some u):Inv X pins σ H { s with heap:=h',toks:=t' }:=I.un (Un.kept k) (I.hok.kept k)
theorem Inv.laid {a:Addr} {o:HO} {t':Nat} (I:Inv X pins σ H s) (k:∀ b u,s.heap.get? b=some u->h'.get? b=some u) (hp:s.heap.objs.size<=a) (new:aN X.prog X.w (upd H a o) h' a o) :
  Inv X pins σ (upd H a o) { s with heap:=h',toks:=t' }:=I.un (Un.laid k hp (I.hok.fresh hp)) (I.hok.laid k hp new)
theorem Inv.write {x e:Addr} {o:HO} {t':Nat} (I:Inv X pins σ H s) (mu:wI (H x)) (he:e=x∨H e=some (.own x)) (k:∀ b u,b≠e->s.heap.get? b=some u->h'.get? b=some u) (heo:∃ u,h'.get? e=some u)
  (new:aN X.prog X.w (upd H x o) h' x o):Inv X pins σ (upd H x o) { s with heap:=h',toks:=t' }:=I.un (Un.write mu he k heo) (I.hok.write mu he k heo new)
theorem Inv.weak {σ':List (Option V)} (I:Inv X pins σ H s) (hl:σ'.length=σ.length) (w:∀(i:Nat) v,σ'[i]?=some (some v)->σ[i]?=some (some v)):Inv X pins σ' H s :=
 ⟨I.ok,I.os,I.bare,I.base,let ⟨m,hn,hl'⟩:=I.loc;⟨m,hn,λi x v e1 e2 e3=>hl' i x v e1 (w i v e2) e3⟩,I.cell,I.free,I.freeC,I.pin,I.hok,hl.trans I.len⟩
theorem Inv.eh {pins':List (Addr × Obj)} (I:Inv X pins σ H s) (h:∀ p∈pins',s.heap.get? p.1=some p.2/\H p.1=none/\p.1≠X.env.locals/\p.1∉X.fs/\∀ v,p.2.data≠.cell v):Inv X pins' σ H s :=
 ⟨I.ok,I.os,I.bare,I.base,I.loc,I.cell,I.free,I.freeC,λp hp=>(List.mem_append.mp hp).elim (λz=>I.pin p (List.mem_append_left _ z)) (h p),I.hok,I.len⟩
theorem ip {N:List Str} (hN:N.Nodup) {i j:Nat} {x:Str} (a:N[i]?=some x) (b:N[j]?=some x):i=j:=by
 obtain⟨h1,e1⟩:=List.getElem?_eq_some_iff.mp a
 obtain⟨h2,e2⟩:=List.getElem?_eq_some_iff.mp b
 exact (List.getElem_inj hN).mp (e1.trans e2.symm)
theorem pH {M:Model} {A:Around} {E:Value->Shared->Prop} {i:Nat} {x:Str} {v:V} {u:Value} {Q:Unit->Shared->Prop} (I:Inv X pins σ H s) (hN:X.N.Nodup) (hi:X.N[i]?=some x) (hx:Loc X.env.scope x) (r:RelV v u)
  (h:∀ s',Inv X pins (σ.set i (some v)) H s'->(∃ a,Heap.SameBut a s.heap s'.heap/\(a=X.env.locals∨X.env.cells.lookup x=some a))->Q () s') (hf:X.fn x=true∨X.env.scope.names.lookup x=some .local:=by first | exact .inl rfl | exact .inr rfl | assumption):wpAny M A (storeName X.env x u) Q E s:=by
 obtain⟨m,hn,hl⟩:=id I.loc
 have hcls:(X.env.scope.kind==.class || (X.env.scope.kind==.module && X.env.locals != X.env.globals))=false:=by rw [I.ok.kind];rfl
 have hiσ:i<σ.length:=by rw [I.len];exact (List.getElem?_eq_some_iff.mp hi).1
 have qc:=I.qc
 have tracked:∀{a:Addr} {h':Heap},(∃ o,s.heap.get? a=some o/\H a=none)->Heap.SameBut a s.heap h'->dw X.prog X.w H h':=λ{a h'} ha hs b ob e=>by
  obtain⟨_,_,hfree⟩:=ha
  refine (I.hok b ob e).fW (λc w' hc q=>(hs.2 c ?_).trans q) (λ_ q=>q) λ_ _ q=>q
  rintro rfl
  rcases hc with rfl | hc
  ·rw [hfree] at e;cases e
  ·rw [hfree] at hc;cases hc
 rcases hx with hk | hk
 ·refine wpAny_storeName_local hk hn (λh' hn' hs=>?_) hcls
  obtain⟨oL,_,_,hoL,_⟩:=id hn
  refine h _ ⟨I.ok,I.os,I.bare,⟨λb o e n hb hx=>?_,λb o e n hb hx=>?_,I.base.free,λb o e hx=>?_,I.base.tups,I.base.frzs,I.base.tbls⟩,⟨_,hn',λj y v' e1 e2 e3=>?_⟩,λy c e=>?_,I.free,I.freeC,λp hp=>?_,tracked ⟨oL,hoL,I.free⟩ hs,by simpa using I.len⟩ ⟨_,hs,.inl rfl⟩
  ·exact (hs.2 b (Nat.ne_of_lt (Nat.lt_of_lt_of_le (Heap.lt_size e) I.ok.above))).trans (I.base.keep b o e n hb hx)
  ·obtain⟨sl,e1⟩:=I.base.slot b o e n hb hx
   exact⟨sl,(hs.2 b (Nat.ne_of_lt (Nat.lt_of_lt_of_le (Heap.lt_size e) I.ok.above))).trans e1⟩
  ·obtain⟨o',e1⟩:=I.base.there b o e hx
   exact⟨o',(hs.2 b (Nat.ne_of_lt (Nat.lt_of_lt_of_le (Heap.lt_size e) I.ok.above))).trans e1⟩
  ·by_cases hj:j=i
   ·subst hj
    rw [hi] at e1;cases e1
    rw [List.getElem?_set_self hiσ] at e2
    cases e2
    exact⟨u,r,.inl ⟨hk,by simp⟩⟩
   ·rw [List.getElem?_set_ne (Ne.symm hj)] at e2
    obtain⟨u',r',q⟩:=hl j y v' e1 e2 e3
    refine⟨u',r',?_⟩
    rcases q with⟨k,e⟩|⟨k,c,e,z⟩
    ·refine .inl ⟨k,?_⟩
     have:y≠x:=λe=>hj (ip hN e1 (e▸hi))
     simp [this,e]
    ·exact .inr ⟨k,c,e,z.sameBut hs (qc y c e)⟩
  ·obtain⟨w',z⟩:=I.cell y c e
   exact⟨w',z.sameBut hs (qc y c e)⟩
  ·obtain⟨e,n,ne,nf,d⟩:=I.pin p hp
   exact⟨(hs.2 p.1 ne).trans e,n,ne,nf,d⟩
 ·have hfn:X.fn x=true:=by
   rcases hf with z | z
   ·exact z
   ·rw [z] at hk;cases hk
  obtain⟨c,hc⟩:=I.ok.has x (.inl hk)
  obtain⟨w',z⟩:=I.cell x c hc
  refine wpAny_storeName_cell I.ok.kind hk hc z (λh' hc' hs=>?_)
  obtain⟨oc,hoc,hocd⟩:=id z
  refine h { s with heap:=h' } ⟨I.ok,I.os,I.bare,⟨λb o e n hb hx=>?_,λb o e n hb hx=>?_,I.base.free,λb o e hx=>?_,I.base.tups,I.base.frzs,I.base.tbls⟩,⟨m,hn.sameBut hs (Ne.symm (qc x c hc)),λj y v' e1 e2 e3=>?_⟩,λy c' e=>?_,I.free,I.freeC,λp hp=>?_,tracked ⟨oc,hoc,I.freeC x c hc⟩ hs,by simpa using I.len⟩ ⟨c,hs,.inr hc⟩
  ·exact (hs.2 b (Nat.ne_of_lt (Nat.lt_of_lt_of_le (Heap.lt_size e) (I.ok.cab x c hfn hc)))).trans (I.base.keep b o e n hb hx)
  ·obtain⟨sl,e1⟩:=I.base.slot b o e n hb hx
   exact⟨sl,(hs.2 b (Nat.ne_of_lt (Nat.lt_of_lt_of_le (Heap.lt_size e) (I.ok.cab x c hfn hc)))).trans e1⟩
  ·obtain⟨o',e1⟩:=I.base.there b o e hx
   exact⟨o',(hs.2 b (Nat.ne_of_lt (Nat.lt_of_lt_of_le (Heap.lt_size e) (I.ok.cab x c hfn hc)))).trans e1⟩
  ·by_cases hj:j=i
   ·subst hj
    rw [hi] at e1;cases e1
    rw [List.getElem?_set_self hiσ] at e2
    cases e2
    exact⟨u,r,.inr ⟨.inl hk,c,hc,hc'⟩⟩
   ·rw [List.getElem?_set_ne (Ne.symm hj)] at e2
    obtain⟨u',r',q⟩:=hl j y v' e1 e2 e3
    refine⟨u',r',?_⟩
    rcases q with q | ⟨k,c',e,z'⟩
    ·exact .inl q
    ·refine .inr ⟨k,c',e,z'.sameBut hs ?_⟩
     rintro rfl
     exact hj (ip hN e1 (I.ok.inj _ _ _ e hc▸hi))
  ·by_cases hcc:c'=c
   ·subst hcc;exact⟨_,hc'⟩
   ·obtain⟨w2,z2⟩:=I.cell y c' e
    exact⟨w2,z2.sameBut hs hcc⟩
  ·obtain⟨e,n,ne,nf,d⟩:=I.pin p hp
   refine⟨(hs.2 p.1 ?_).trans e,n,ne,nf,d⟩
   intro q
   rw [q,hoc] at e
   have q':oc=p.2:=Option.some.inj e
   exact d w' (by rw [<- q'];exact hocd)
theorem br {M:Model} {A:Around} {E:Value->Shared->Prop} {i:Nat} {x:Str} {v:V} {u:Value} {Q:Unit->Shared->Prop} (I:Inv X pins σ H s) (hN:X.N.Nodup) (hi:X.N[i]?=some x) (hx:Loc X.env.scope x) (r:RelV v u)
  (h:∀ s',Inv X pins (σ.set i (some v)) H s'->Q () s') (hf:X.fn x=true∨X.env.scope.names.lookup x=some .local:=by first | exact .inl rfl | exact .inr rfl | assumption):wpAny M A (storeName X.env x u) Q E s :=
 pH I hN hi hx r (λs' I' _=>h s' I') hf
theorem Inv.pZ {s':Shared} {ch:List Addr} (I:Inv X pins σ H s) (ho:s'.os=s.os) (u:Un (dB X.stack) ch H H' s.heap s'.heap) (hok:dw X.prog X.w H' s'.heap) (hg:AllBare s'.gens)
  (hch:∀ b∈ch,(b∈X.ex∨X.s₀.heap.objs.size<=b)/\b≠X.env.locals/\(∀ x c,X.env.cells.lookup x=some c->c≠b)/\∀ p∈X.pn++pins,p.1≠b):Inv X pins σ H' s':=by
 obtain⟨h',g',d',t',o'⟩:=s'
 have e:o'=s.os:=ho
 subst e
 exact I.call (g':=g') (t':=t') (d':=d') u hok hg hch
end
abbrev XK:=Value->Option Addr->Hp->Prop
abbrev St:=List (Option V)
abbrev VK:=V->Hp->Prop
abbrev TE:=St->Hp->VK->Prop
abbrev TT:=St->Hp->(Bool->Hp->Prop)->Prop
abbrev TA:=St->Hp->(List V->Hp->Prop)->Prop
structure Ends where
 nx:St->Hp->Prop
 rt:VK
 bk:St->Hp->Prop:=λ_ _=>False
 ct:St->Hp->Prop:=λ_ _=>False
abbrev TS:=Ends->St->Hp->Prop
def EP (X:Cx) (pins:List (Addr × Obj)) (σ:St) (Q:VK) (u:Value) (s':Shared):Prop:=∃ v H',Inv X pins σ H' s'/\RelV v u/\Q v H'
def TP (X:Cx) (pins:List (Addr × Obj)) (σ:St) (Q:Bool->Hp->Prop) (b:Bool) (s':Shared):Prop:=∃ H',Inv X pins σ H' s'/\Q b H'
def AP (X:Cx) (pins:List (Addr × Obj)) (σ:St) (Q:List V->Hp->Prop) (us:List Value) (s':Shared):Prop:=∃ vs H',Inv X pins σ H' s'/\Vals vs us/\Q vs H'
def SP (X:Cx) (pins:List (Addr × Obj)) (D:Ends) (f:Flow) (s':Shared):Prop :=
 match f with
 | .next=>∃ σ' H',Inv X pins σ' H' s'/\D.nx σ' H'
 | .brk=>∃ σ' H',Inv X pins σ' H' s'/\D.bk σ' H'
 | .cont=>∃ σ' H',Inv X pins σ' H' s'/\D.ct σ' H'
 | .ret u=>∃ v σ' H',Inv X pins σ' H' s'/\RelV v u/\D.rt v H'
def PE (X:Cx) (e:Expr) (t:TE):Prop :=
 ∀(pins:List (Addr × Obj)) (s:Shared) (σ:St) (H:Hp) (Q:VK),Inv X pins σ H s->t σ H Q->wpAny (model X.prog X.w) X.A (eval e X.env) (EP X pins σ Q) X.xe s
def PT (X:Cx) (e:Expr) (t:TT):Prop :=
 ∀(pins:List (Addr × Obj)) (s:Shared) (σ:St) (H:Hp) (Q:Bool->Hp->Prop),Inv X pins σ H s->t σ H Q->wpAny (model X.prog X.w) X.A (isTrue e X.env (eval e X.env)) (TP X pins σ Q) X.xe s
def PW (X:Cx) (e:Expr) (t:TT):Prop :=
 ∀(whole:Sem Value) (pins:List (Addr × Obj)) (s:Shared) (σ:St) (H:Hp) (Q:Bool->Hp->Prop),Inv X pins σ H s->t σ H Q->wpAny (model X.prog X.w) X.A (isTrue e X.env whole) (TP X pins σ Q) X.xe s
theorem PW.pt {X:Cx} {e:Expr} {t:TT} (h:PW X e t):PT X e t:=h _
def PA (X:Cx) (es:List Expr) (t:TA):Prop :=
 ∀(pos:Pos) (pins:List (Addr × Obj)) (s:Shared) (σ:St) (H:Hp) (Q:List V->Hp->Prop),Inv X pins σ H s->t σ H Q->wpAny (model X.prog X.w) X.A (spliced (backTo pos (starEach es X.env))) (AP X pins σ Q) X.xe s
def PS (X:Cx) (st:Stmt) (t:TS):Prop :=
 ∀(pins:List (Addr × Obj)) (s:Shared) (σ:St) (H:Hp) (D:Ends),Inv X pins σ H s->t D σ H->wpAny (model X.prog X.w) X.A (exec st X.env) (SP X pins D) X.xe s
def fZ (X:Cx) (st:List Stmt) (t:TS):Prop :=
 ∀(pins:List (Addr × Obj)) (s:Shared) (σ:St) (H:Hp) (D:Ends),Inv X pins σ H s->t D σ H->wpAny (model X.prog X.w) X.A (execs st X.env) (SP X pins D) X.xe s
theorem a5 {α:Type} {t:Sem α} {Q Q':α->Shared->Prop} {M:Model} {A:Around} {E:Value->Shared->Prop} {s:Shared} (h:wpAny M A t Q E s) (hQ:∀ a s,Q a s->Q' a s):wpAny M A t Q' E s:=wpAny_mono h hQ λ_ _ x=>x
section
variable {X:Cx}
def rT (i:Nat):TE:=λσ H Q=>∃ v,σ[i]?=some (some v)/\Q v H
def tC (v:V):TE:=λ_ H Q=>Q v H
theorem fk {i:Nat} {x:Str} {pos:Pos} (hN:X.N[i]?=some x) (hv:vn X.env.scope x) (hd:(x==("__debug__":Str))=false:=by decide) (hcd:(x==("__classdict__":Str))=false:=by decide):PE X (.Name x pos) (rT i):=by
 intro pins s σ H Q I h
 obtain⟨v,e,h⟩:=h
 obtain⟨m,hn,hl⟩:=I.loc
 obtain⟨u,r,l⟩:=hl i x v hN e hv
 have fin:EP X pins σ Q u s:=⟨v,H,I,r,h⟩
 rcases l with⟨hk,hm⟩|⟨hk,c,hc,hcell⟩
 ·exact wpAny_Name (wpAny_loadName_local I.ok.kind hk hn hm fin) hd
 ·rcases hk with hk | hk
  ·exact wpAny_Name (wpAny_loadName_cell I.ok.kind hk hc hcell fin) hd
  ·exact wpAny_Name (wpAny_loadName_free I.ok.kind hk hc hcell fin hcd) hd
theorem af {i j pos}:PE X (.Constant (.int i) j pos) (tC (.int i)):=λ_ _ _ H _ I h=>wpAny_Constant_int ⟨.int i,H,I.tok _,⟨_,rfl⟩,h⟩
theorem cM {b j pos}:PE X (.Constant (.bool b) j pos) (tC (.bl b)):=λ_ _ _ H _ I h=>Constant_bool ⟨.bl b,H,I,rfl,h⟩
theorem iA {j pos}:PE X (.Constant .none j pos) (tC .non):=λ_ _ _ H _ I h=>Constant_none ⟨.non,H,I,rfl,h⟩
theorem bI {x j pos}:PE X (.Constant (.str x) j pos) (tC (.str x)):=λ_ _ _ H _ I h=>Calls.Constant_str ⟨.str x,H,I.tok _,⟨_,rfl⟩,h⟩
def Gl (X:Cx) (x:Str):Prop:=X.env.kindOf x=some .globalImplicit
theorem cI {E:Value->Shared->Prop} {pins:List (Addr × Obj)} {s:Shared} {σ:St} {H:Hp} {x:Str} {u:Value} {pos:Pos} {Q:Value->Shared->Prop} (I:Inv X pins σ H s) (hg:Gl X x) (hm:X.mg x=some u) (h:Q u s)
  (hd:(x==("__debug__":Str))=false:=by decide):wpAny (model X.prog X.w) X.A (eval (.Name x pos) X.env) Q E s :=
 Calls.Name_function_global I.ok.kind hg (Calls.loadGlobal_global (by rw [I.ok.glob];exact I.mod.glob.keeps I.bk) hm h) hd
theorem gh {E:Value->Shared->Prop} {pins:List (Addr × Obj)} {s:Shared} {σ:St} {H:Hp} {x:Str} {u:Value} {pos:Pos} {Q:Value->Shared->Prop} (I:Inv X pins σ H s) (hg:Gl X x) (hm:X.mg x=none) (hv:bootBuiltins x=some u) (h:Q u s)
  (hn:x ≠ "__name__":=by decide) (hd:(x==("__debug__":Str))=false:=by decide):wpAny (model X.prog X.w) X.A (eval (.Name x pos) X.env) Q E s:=by
 obtain⟨mb,h1,h2⟩:=I.mod.blt
 exact Calls.Name_function_global I.ok.kind hg (Calls.loadGlobal_builtin (by rw [I.ok.glob];exact I.mod.glob.keeps I.bk) hm (by rw [I.ok.blt];exact h1.keeps I.bk) ((h2 x hn).trans hv) h) hd
theorem bA {x:Str} {v:V} {u:Value} {pos:Pos} (hg:Gl X x) (hm:X.mg x=some u) (r:RelV v u) (hd:(x==("__debug__":Str))=false:=by decide):PE X (.Name x pos) (tC v) :=
 λ_ _ _ H _ I h=>cI I hg hm ⟨v,H,I,r,h⟩ hd
theorem fH {x:Str} {v:V} {u:Value} {pos:Pos} (hg:Gl X x) (hm:X.mg x=none) (hv:bootBuiltins x=some u) (r:RelV v u) (hn:x ≠ "__name__":=by decide) (hd:(x==("__debug__":Str))=false:=by decide):PE X (.Name x pos) (tC v) :=
 λ_ _ _ H _ I h=>gh I hg hm hv ⟨v,H,I,r,h⟩ hn hd
variable {a b:Expr} {ta tb:TE} {pos:Pos}
def tB (t:TE):TT:=λσ H Q=>t σ H λx H1=>∃ c,x=.bl c/\Q c H1
variable {tA tB':TT} {rest:List Expr}
def xG (t u:TT):TT:=λσ H Q=>t σ H λc H1=>if c=true then u σ H1 Q else Q false H1
def yZ (t u:TT):TT:=λσ H Q=>t σ H λc H1=>if c=true then Q true H1 else u σ H1 Q
def xR (t:TT):TT:=λσ H Q=>t σ H λc H1=>Q (!c) H1
theorem j9 (ha:PT X a tA):PW X (.BoolOp .And [a] pos) tA:=by
 intro wh pins s σ H Q I h
 refine isTrue_and (a5 (ha pins s σ H Q I h) λc s1 e=>?_)
 cases c with
 | true=>exact isTrue_and_nil e
 | false=>exact e
theorem iJ (ha:PT X a tA):PW X (.BoolOp .Or [a] pos) tA:=by
 intro wh pins s σ H Q I h
 refine isTrue_or (a5 (ha pins s σ H Q I h) λc s1 e=>?_)
 cases c with
 | false=>exact isTrue_or_nil e
 | true=>exact e
theorem mQ (ha:PT X a tA) (hb:PW X (.BoolOp .And (b::rest) pos) tB'):PW X (.BoolOp .And (a::b::rest) pos) (xG tA tB'):=by
 intro wh pins s σ H Q I h
 refine isTrue_and (a5 (ha pins s σ H _ I h) λc s1 ⟨H1,I1,q1⟩=>?_)
 cases c with
 | true=>exact hb wh pins s1 σ H1 Q I1 q1
 | false=>exact⟨H1,I1,q1⟩
theorem gz (ha:PT X a tA) (hb:PW X (.BoolOp .Or (b::rest) pos) tB'):PW X (.BoolOp .Or (a::b::rest) pos) (yZ tA tB'):=by
 intro wh pins s σ H Q I h
 refine isTrue_or (a5 (ha pins s σ H _ I h) λc s1 ⟨H1,I1,q1⟩=>?_)
 cases c with
 | true=>exact⟨H1,I1,q1⟩
 | false=>exact hb wh pins s1 σ H1 Q I1 q1
theorem b4 (ha:PT X a tA):PT X (.UnaryOp .Not a pos) (xR tA):=by
 intro pins s σ H Q I h
 exact isTrue_not (ha pins s σ H (λc H1=>Q (!c) H1) I h)
def uW (ta tb:TE):TE:=λσ H Q=>ta σ H λx H1=>∃ c,x=.bl c/\if c=true then tb σ H1 Q else Q (.bl false) H1
def yE (ta tb:TE):TE:=λσ H Q=>ta σ H λx H1=>∃ c,x=.bl c/\if c=true then Q (.bl true) H1 else tb σ H1 Q
def xS (ta:TE):TE:=λσ H Q=>ta σ H λx H1=>∃ c,x=.bl c/\Q (.bl (!c)) H1
theorem rm {op} {t:TE} (h:PE X a t):PE X (.BoolOp op [a] pos) t:=λpins s σ H Q I hw=>BoolOp_one (h pins s σ H Q I hw)
theorem ri (ha:PE X a ta) (hb:PE X (.BoolOp .And (b::rest) pos) tb):PE X (.BoolOp .And (a::b::rest) pos) (uW ta tb):=by
 intro pins s σ H Q I h
 refine BoolOp_and (a5 (ha pins s σ H _ I h) λv s1 ⟨x,H1,I1,r1,q1⟩=>?_)
 obtain⟨c,rfl,q1⟩:=q1
 cases r1
 refine wpAny_truthy_bool ?_
 cases c with
 | true=>exact hb pins s1 σ H1 Q I1 q1
 | false=>exact⟨.bl false,H1,I1,rfl,q1⟩
def yY (t:TT) (ta tb:TE):TE:=λσ H Q=>t σ H λc H1=>if c=true then ta σ H1 Q else tb σ H1 Q
theorem lx {c:Expr} (hc:PT X c tA) (ha:PE X a ta) (hb:PE X b tb):PE X (.IfExp c a b pos) (yY tA ta tb):=by
 intro pins s σ H Q I h
 refine wpAny_IfExp (a5 (hc pins s σ H _ I h) λd s1 ⟨H1,I1,q1⟩=>?_)
 cases d with
 | true=>exact ha pins s1 σ H1 Q I1 q1
 | false=>exact hb pins s1 σ H1 Q I1 q1
end
def aW (K:PySem.W.Frag) (H:Hp) (a:Addr) (xs:List V):Prop :=
 Rd H a (.lst xs) ∨
  ∃(o:Obj) (its:Array Value) (n:Nat),K.lookup a=some o/\o.cls=.type "list"/\o.dict=none/\o.data=.seq its n/\its.size<=sizeLine/\Vals xs its.toList
def cF (K:PySem.W.Frag) (H:Hp) (a:Addr) (xs:List V):Prop :=
 Rd H a (.tup xs) ∨
  ∃(o:Obj) (its:Array Value) (n:Nat),K.lookup a=some o/\o.cls=.type "tuple"/\o.data=.seq its n/\its.size<=sizeLine/\Vals xs its.toList
def ym:Value->Option V
 | .none=>some .non
 | .bool b=>some (.bl b)
 | .int i _=>some (.int i)
 | .str x _=>some (.str x)
 | .bytes b _=>some (.byt b)
 | .float b _=>some (.flt b)
 | .ref a=>some (.ref a)
 | .type n=>some (.ty n)
 | _=>none
theorem RelV.abs {x:V} {u:Value} (r:RelV x u):ym u=some x:=by
 cases x with
 | non=>cases r;rfl
 | bl _=>cases r;rfl
 | int _=>obtain⟨t,rfl⟩:=r;rfl
 | str _=>obtain⟨t,rfl⟩:=r;rfl
 | byt _=>obtain⟨t,rfl⟩:=r;rfl
 | flt _=>obtain⟨t,rfl⟩:=r;rfl
 | ref _=>cases r;rfl
 | ty _=>cases r;rfl
theorem RelV.inj {x y:V} {u:Value} (r:RelV x u) (q:RelV y u):x=y:=Option.some.inj (r.abs.symm.trans q.abs)
theorem Vals.inj:∀{xs ys:List V} {us:List Value},Vals xs us->Vals ys us->xs=ys
 | _,_,_,.nil,.nil=>rfl
 | _,_,_,.cons r t,.cons r' t'=>by rw [r.inj r',Vals.inj t t']
section
variable {X:Cx} {pins:List (Addr × Obj)} {σ:St} {H:Hp} {s:Shared} {a:Addr} {xs ys:List V}
theorem aW.of {K:PySem.W.Frag} (h:H a=some (.lst xs)):aW K H a xs:=.inl (.inl h)
theorem cF.of {K:PySem.W.Frag} (h:H a=some (.tup xs)):cF K H a xs:=.inl (.inl h)
theorem Inv.list (I:Inv X pins σ H s) (h:aW X.K H a xs):∃ its:List Value,Vals xs its/\PlainL s.heap a its.toArray/\xs.length<=sizeLine:=by
 rcases h with h | ⟨o,its,n,hk,hc,hd,hs,hz,r⟩
 ·obtain⟨z,its,n,r,e⟩:=h.ok I.hok
  exact⟨its,r,⟨_,n,e,rfl,rfl,rfl⟩,z⟩
 ·refine⟨its.toList,r,⟨o,n,I.cH a o hk,hc,hd,by simpa using hs⟩,?_⟩
  have e:=r.length
  simp only [Array.length_toList] at e
  omega
theorem Inv.tuple (I:Inv X pins σ H s) (h:cF X.K H a xs):∃ its:List Value,Vals xs its/\IsTup s.heap a its.toArray/\xs.length<=sizeLine:=by
 rcases h with h | ⟨o,its,n,hk,hc,hs,hz,r⟩
 ·obtain⟨z,its,r,p⟩:=h.ok I.hok
  exact⟨its,r,p,z⟩
 ·refine⟨its.toList,r,⟨o,I.cH a o hk,hc,n,by simpa using hs⟩,?_⟩
  have e:=r.length
  simp only [Array.length_toList] at e
  omega
theorem Inv.hZ (I:Inv X pins σ H s) (h:aW X.K H a xs) (h':aW X.K H a ys):xs=ys:=by
 obtain⟨its,r,⟨o,n,e,_,_,d⟩,_⟩:=I.list h
 obtain⟨its',r',⟨o',n',e',_,_,d'⟩,_⟩:=I.list h'
 rw [e] at e';cases e'
 rw [d] at d'
 injection d' with d1 _
 have:its=its':=by simpa using congrArg Array.toList d1
 subst this
 exact r.inj r'
theorem Inv.jD (I:Inv X pins σ H s) (h:cF X.K H a xs) (h':cF X.K H a ys):xs=ys:=by
 obtain⟨its,r,⟨o,e,_,n,d⟩,_⟩:=I.tuple h
 obtain⟨its',r',⟨o',e',_,n',d'⟩,_⟩:=I.tuple h'
 rw [e] at e';cases e'
 rw [d] at d'
 injection d' with d1 _
 have:its=its':=by simpa using congrArg Array.toList d1
 subst this
 exact r.inj r'
end
abbrev Cx.gm (X:Cx) (E:Value->Shared->Prop):Cx:={ X with xe:=E }
abbrev Cx.jq (X:Cx):Cx:=X.gm λ_ _=>False
theorem Cx.Ok.gm {X:Cx} (ok:X.Ok) (E:Value->Shared->Prop):(X.gm E).Ok :=
 ⟨ok.mod,ok.kind,ok.glob,ok.blt,ok.above,ok.inj,ok.has,ok.cab,ok.hd,ok.frames,ok.stk,ok.exf,ok.bs,ok.bsz,ok.noex,ok.exfs,ok.gg,ok.frf⟩
theorem Cx.Ok.cE {X:Cx} {E:Value->Shared->Prop} (ok:(X.gm E).Ok):X.Ok :=
 ⟨ok.mod,ok.kind,ok.glob,ok.blt,ok.above,ok.inj,ok.has,ok.cab,ok.hd,ok.frames,ok.stk,ok.exf,ok.bs,ok.bsz,ok.noex,ok.exfs,ok.gg,ok.frf⟩
section
variable {X:Cx} {pins:List (Addr × Obj)} {σ:St} {H:Hp} {s:Shared} {E:Value->Shared->Prop}
theorem Inv.gm (I:Inv X pins σ H s) (E:Value->Shared->Prop):Inv (X.gm E) pins σ H s:=⟨I.ok.gm E,I.os,I.bare,I.base,I.loc,I.cell,I.free,I.freeC,I.pin,I.hok,I.len⟩
theorem Inv.cE (I:Inv (X.gm E) pins σ H s):Inv X pins σ H s:=⟨I.ok.cE,I.os,I.bare,I.base,I.loc,I.cell,I.free,I.freeC,I.pin,I.hok,I.len⟩
theorem SP.cE {D:Ends} {f:Flow} {s':Shared} (h:SP (X.gm E) pins D f s'):SP X pins D f s':=by
 cases f with
 | next=>obtain⟨σ',H',I,q⟩:=h;exact⟨σ',H',I.cE,q⟩
 | brk=>obtain⟨σ',H',I,q⟩:=h;exact⟨σ',H',I.cE,q⟩
 | cont=>obtain⟨σ',H',I,q⟩:=h;exact⟨σ',H',I.cE,q⟩
 | ret u=>obtain⟨v,σ',H',I,r,q⟩:=h;exact⟨v,σ',H',I.cE,r,q⟩
theorem PE.jq {e:Expr} {t:TE} (h:PE X.jq e t):PE X e t:=λpins s σ H Q I hw =>
 wpAny_mono (h pins s σ H Q (I.gm _) hw) (λ_ _ ⟨v,H',I',r,q⟩=>⟨v,H',I'.cE,r,q⟩) λ_ _ z=>False.elim z
theorem PT.jq {e:Expr} {t:TT} (h:PT X.jq e t):PT X e t:=λpins s σ H Q I hw =>
 wpAny_mono (h pins s σ H Q (I.gm _) hw) (λ_ _ ⟨H',I',q⟩=>⟨H',I'.cE,q⟩) λ_ _ z=>False.elim z
theorem fZ.jq {st:List Stmt} {t:TS} (h:fZ X.jq st t):fZ X st t:=λpins s σ H D I hw =>
 wpAny_mono (h pins s σ H D (I.gm _) hw) (λ_ _ q=>q.cE) λ_ _ z=>False.elim z
end
section
variable {X:Cx} {st:Stmt} {rest:List Stmt} {t u:TS} {e:Expr} {te:TE} {pos:Pos}
def u6:TS:=λD σ H=>D.nx σ H
def bV (t u:TS):TS:=λD σ H=>t { D with nx:=u D } σ H
theorem aF:fZ X [] u6:=λ_ _ σ H _ I h=>wpAny_execs_nil ⟨σ,H,I,h⟩
theorem ae (h1:PS X st t) (h2:fZ X rest u):fZ X (st::rest) (bV t u):=by
 intro pins s σ H D I h
 refine wpAny_execs_cons (a5 (h1 pins s σ H { D with nx:=u D } I h) λf s1 q=>?_)
 cases f with
 | next =>
  obtain⟨σ',H',I',q⟩:=q
  exact h2 pins s1 σ' H' D I' q
 | ret v=>exact q
 | brk=>exact q
 | cont=>exact q
theorem aj (h1:PS X st t):fZ X [st] t:=by
 intro pins s σ H D I h
 refine wpAny_execs_cons (a5 (h1 pins s σ H D I h) λf s1 q=>?_)
 cases f with
 | next=>exact wpAny_execs_nil q
 | ret v=>exact q
 | brk=>exact q
 | cont=>exact q
theorem Inv.quiet {pins:List (Addr × Obj)} {σ:St} {H:Hp} {s:Shared} (I:Inv X pins σ H s):interactive X.env=false:=by simp [interactive,I.ok.kind]
def u5 (te:TE):TS:=λD σ H=>te σ H λ_ H1=>D.nx σ H1
theorem gM (he:PE X e te) (hs:swapsWith e none pos.line X.env=pure false:=by rfl):PS X (.Expr e pos) (u5 te):=by
 intro pins s σ H D I h
 exact wpAny_Expr_any (a5 (he pins s σ H _ I h) λv s1 ⟨x,H1,I1,r1,q1⟩=>⟨σ,H1,I1,q1⟩) I.quiet hs
def pJ (te:TE):TS:=λD σ H=>te σ H D.rt
theorem aB (he:PE X e te):PS X (.Return (some e) pos) (pJ te):=by
 intro pins s σ H D I h
 exact wpAny_Return_some (a5 (he pins s σ H _ I h) λv s1 ⟨x,H1,I1,r1,q1⟩=>⟨x,σ,H1,I1,r1,q1⟩)
def xV:TS:=λD _ H=>D.rt .non H
def xK (c:TT) (t u:TS):TS:=λD σ H=>c σ H λb H1=>if b=true then t D σ H1 else u D σ H1
theorem aZ {c:Expr} {a b:List Stmt} {tc:TT} (hc:PT X c tc) (ha:fZ X a t) (hb:fZ X b u):PS X (.If c a b pos) (xK tc t u):=by
 intro pins s σ H D I h
 refine wpAny_If (a5 (hc pins s σ H _ I h) λd s1 ⟨H1,I1,q1⟩=>?_)
 cases d with
 | true=>exact ha pins s1 σ H1 D I1 q1
 | false=>exact hb pins s1 σ H1 D I1 q1
end
abbrev TG:=V->St->Hp->(St->Hp->Prop)->Prop
abbrev uv:=List V->St->Hp->(St->Hp->Prop)->Prop
def PG (X:Cx) (target:Expr) (t:TG):Prop :=
 ∀(pins:List (Addr × Obj)) (s:Shared) (σ:St) (H:Hp) (v:V) (u:Value) (Q:St->Hp->Prop),Inv X pins σ H s->RelV v u->t v σ H Q ->
  wpAny (model X.prog X.w) X.A (assign target X.env u) (λ_ s'=>∃ σ' H',Inv X pins σ' H' s'/\Q σ' H') X.xe s
def wK (X:Cx) (ts:List Expr) (t:uv):Prop :=
 ∀(pins:List (Addr × Obj)) (s:Shared) (σ:St) (H:Hp) (vs:List V) (us:List Value) (Q:St->Hp->Prop),Inv X pins σ H s->Vals vs us->t vs σ H Q ->
  wpAny (model X.prog X.w) X.A (assignInOrder ((assignEach ts X.env).map (·.2)) us) (λ_ s'=>∃ σ' H',Inv X pins σ' H' s'/\Q σ' H') X.xe s
abbrev yi:=V->V->V->Hp->(Hp->Prop)->Prop
abbrev yh:=V->V->Hp->VK->Prop
def yO (X:Cx) (op:Operator) (t:yh):Prop :=
 ∀(pins:List (Addr × Obj)) (s:Shared) (σ:St) (H:Hp) (x y:V) (v u:Value) (Q:VK),Inv X pins σ H s->RelV x v->RelV y u->t x y H Q ->
  wpAny (model X.prog X.w) X.A (inplaceOp op v u) (EP X pins σ Q) X.xe s
section
variable {X:Cx} {pos:Pos}
def fC (i:Nat):TG:=λv σ H Q=>Q (σ.set i (some v)) H
theorem aC {i:Nat} {x:Str} (hN:X.N.Nodup) (hi:X.N[i]?=some x) (hx:Loc X.env.scope x) (hf:X.fn x=true∨X.env.scope.names.lookup x=some .local:=by first | exact .inl rfl | exact .inr rfl | assumption):PG X (.Name x pos) (fC i):=by
 intro pins s σ H v u Q I r h
 exact wpAny_assign_Name (br I hN hi hx r (λs' I'=>⟨_,H,I',h⟩) hf)
def wX:uv:=λvs σ H Q=>vs=[]/\Q σ H
def uA (t:TG) (u:uv):uv:=λvs σ H Q=>∃ v r,vs=v::r/\t v σ H λσ' H'=>u r σ' H' Q
theorem b6:wK X [] wX:=by
 intro pins s σ H vs us Q I r h
 obtain⟨e,h⟩:=h
 subst e
 cases r
 exact assignInOrder_nil ⟨σ,H,I,h⟩
theorem aI {e:Expr} {es:List Expr} {t:TG} {u:uv} (h1:PG X e t) (h2:wK X es u)
  (hs:(assignEach (e::es) X.env).map (·.2)=assign e X.env::(assignEach es X.env).map (·.2):=by rfl):wK X (e::es) (uA t u):=by
 intro pins s σ H vs us Q I r h
 obtain⟨v,vr,e1,h⟩:=h
 subst e1
 cases r with
 | cons r rr =>
  rw [hs]
  refine assignInOrder_cons (a5 (h1 pins s σ H _ _ _ I r h) λ_ s1 ⟨σ1,H1,I1,q1⟩=>?_)
  exact h2 pins s1 σ1 H1 _ _ Q I1 rr q1
def mf (K:PySem.W.Frag) (n:Nat) (t:uv):TG:=λv σ H Q=>∃ a xs,v=.ref a/\cF K H a xs/\xs.length=n/\t xs σ H Q
theorem iD {es:List Expr} {k:Nat} {t:uv} {n:Nat} (hc:X.calm=true) (h:wK X es t)
  (hn:(assignEach es X.env).length=n:=by rfl) (hst:(assignEach es X.env).findIdx? (·.1)=none:=by rfl):PG X (.Tuple es k pos) (mf X.K n t):=by
 intro pins s σ H v u Q I r hw
 obtain⟨a,xs,e1,hq,hl,hw⟩:=hw
 subst e1
 cases r
 obtain⟨its,rv,ht,hz⟩:=I.tuple hq
 refine assign_Tuple_tuple (I.ok.hd hc) ht (by simp [hn,<- hl,rv.length]) hst λh' hx=>?_
 have I1:Inv X pins σ H { s with heap:=h' }:=I.kept (t':=s.toks) λb o e=>hx b o (Nat.ne_of_lt (Heap.lt_size e)) e
 exact h pins _ σ H xs _ Q I1 (by simpa using rv) hw
def yo (to ti:TE) (t:yi):TG:=λv σ H Q=>to σ H λo H1=>ti σ H1 λi H2=>t o i v H2 λH3=>Q σ H3
def pI (te:TE) (g:TG):TS:=λD σ H=>te σ H λx H1=>g x σ H1 D.nx
theorem rA {tg e:Expr} {te:TE} {g:TG} (he:PE X e te) (hg:PG X tg g) (hs:swapsWithSole [tg] e pos.line X.env=pure false:=by rfl) (hw:swappedStores [tg] e X.env=pure none:=by rfl)
  (h1:(assignEach [tg] X.env).map (·.2)=[assign tg X.env]:=by rfl):PS X (.Assign [tg] e pos) (pI te g):=by
 intro pins s σ H D I h
 refine wpAny_Assign_stores (a5 (he pins s σ H _ I h) λv s1 ⟨x,H1,I1,r1,q1⟩=>?_) hs hw
 rw [h1]
 exact a5 (hg pins s1 σ H1 x v _ I1 r1 q1) λ_ s2 q=>q
theorem j7 {i:Nat} {x:Str} {e:Expr} {te:TE} {pos':Pos} (hN:X.N.Nodup) (hi:X.N[i]?=some x) (hx:Loc X.env.scope x) (he:PE X e te) (hs:swapsWith e (some (.Name x pos')) pos.line X.env=pure false:=by rfl) (hf:X.fn x=true∨X.env.scope.names.lookup x=some .local:=by first | exact .inl rfl | exact .inr rfl | assumption) :
  PS X (.Assign [.Name x pos'] e pos) (pI te (fC i)):=by
 intro pins s σ H D I h
 refine wpAny_Assign_Name (a5 (he pins s σ H _ I h) λv s1 ⟨y,H1,I1,r1,q1⟩=>?_) hs
 exact br I1 hN hi hx r1 (λs2 I2=>⟨_,H1,I2,q1⟩) hf
def xU (i j:Nat) (ta:TA):TS:=λD σ H=>ta σ H λvs H1=>∃ v w,vs=[v,w]/\D.nx ((σ.set i (some v)).set j (some w)) H1
theorem mO {i j:Nat} {x y:Str} {a b:Expr} {ta:TA} {px py pt:Pos} {kt k2 pt2} (hc:X.calm=true) (hN:X.N.Nodup) (hi:X.N[i]?=some x) (hj:X.N[j]?=some y) (hij:i≠j)
  (hx:X.env.scope.names.lookup x=some .local) (hy:X.env.scope.names.lookup y=some .local) (ha:PA X [a,b] ta)
  (hw:swappedStores [.Tuple [.Name x px,.Name y py] kt pt] (.Tuple [a,b] k2 pt2) X.env=pure (some [x,y]))
  (hs:swapsWithSole [.Tuple [.Name x px,.Name y py] kt pt] (.Tuple [a,b] k2 pt2) pos.line X.env=pure false:=by rfl) :
  PS X (.Assign [.Tuple [.Name x px,.Name y py] kt pt] (.Tuple [a,b] k2 pt2) pos) (xU i j ta):=by
 intro pins s σ H D I h
 rw [exec_Assign_arm]
 refine wpAny_bind (wpAny_standAt ?_)
 rw [hs]
 refine wpAny_bind (wpAny_pure ?_)
 rw [if_neg (by decide)]
 refine wpAny_bind (Tuple_ (a5 (ha _ pins s σ H _ I h) λus s1 ⟨vs,H1,I1,r1,q1⟩=>?_))
 obtain⟨v,w,e1,q1⟩:=q1
 subst e1
 obtain⟨u1,u2,rfl,rv,rw'⟩:∃ u1 u2,us=[u1,u2]/\RelV v u1/\RelV w u2:=by
  cases r1 with
  | cons p q =>
   cases q with
   | cons p' q' =>
    cases q'
    exact⟨_,_,rfl,p,p'⟩
 refine wpAny_newObj_type ?_ (by show 2<=sizeLine;decide)
 have I2:Inv X pins σ H1 { s1 with heap:=s1.heap.push { cls:=.type "tuple",data:=.seq [u1,u2].toArray } }:=I1.kept (t':=s1.toks) λb o e=>Heap.get?_push_of_some _ e
 rw [hw]
 refine wpAny_bind (wpAny_pure ?_)
 show wpAny (model X.prog X.w) X.A (do rule "assign.swapped-stores";let items <- unpackItems (.ref s1.heap.objs.size) 2 none;assignInOrder [λv=>bindName X.env y v,λv=>bindName X.env x v] items.reverse;pure Flow.next) _ _ _
 refine wpAny_bind (wpAny_rule (wpAny_bind (unpackItems_tuple (items:=#[u1,u2]) (I.ok.hd hc) (IsTup.new s1.heap _) λh' hx'=>?_)))
 have I3:=I2.kept (h':=h') (t':=s1.toks) λb o e=>hx' b o (Nat.ne_of_lt (Heap.lt_size e)) e
 show wpAny _ _ (assignInOrder [λv=>bindName X.env y v,λv=>bindName X.env x v] [u2,u1] >>= λ_=>pure Flow.next) _ _ _
 refine wpAny_bind (assignInOrder_cons (wpAny_bindName (br I3 hN hj (.inl hy) rw' (λs2 I4=>?_) (.inr hy))))
 refine assignInOrder_cons (wpAny_bindName (br I4 hN hi (.inl hx) rv (λs3 I5=>assignInOrder_nil (wpAny_pure ?_)) (.inr hx)))
 rw [List.set_comm _ _ (Ne.symm hij)] at I5
 exact⟨_,H1,I5,q1⟩
def xH (i:Nat) (te:TE) (ti:yh):TS:=λD σ H=>∃ x,σ[i]?=some (some x)/\te σ H λy H1=>ti x y H1 λz H2=>D.nx (σ.set i (some z)) H2
theorem iG {i:Nat} {x:Str} {e:Expr} {te:TE} {op:Operator} {ti:yh} {pos':Pos} (hN:X.N.Nodup) (hi:X.N[i]?=some x) (hx:Loc X.env.scope x) (he:PE X e te) (ho:yO X op ti) (hf:X.fn x=true∨X.env.scope.names.lookup x=some .local:=by first | exact .inl rfl | exact .inr rfl | assumption) :
  PS X (.AugAssign (.Name x pos') op e pos) (xH i te ti):=by
 intro pins s σ H D I h
 obtain⟨v,e1,h⟩:=h
 obtain⟨m,hn,hl⟩:=I.loc
 have vis:vn X.env.scope x:=by rcases hx with k | k;exact .inl k;exact .inr (.inl k)
 obtain⟨u,r,l⟩:=hl i x v hi e1 vis
 refine wpAny_AugAssign_Name ?_
 have go:wpAny (model X.prog X.w) X.A (eval e X.env) (λw s₂=>wpAny (model X.prog X.w) X.A (inplaceOp op u w) (λr s₃=>wpAny (model X.prog X.w) X.A (storeName X.env x r) (λ_=>SP X pins D .next) X.xe s₃) X.xe s₂) X.xe s:=by
  refine a5 (he pins s σ H _ I h) λw s1 ⟨y,H1,I1,r1,q1⟩=>?_
  refine a5 (ho pins s1 σ H1 v y u w _ I1 r r1 q1) λz s2 ⟨zv,H2,I2,r2,q2⟩=>?_
  exact br I2 hN hi hx r2 (λs3 I3=>⟨_,H2,I3,q2⟩) hf
 rcases l with⟨hk,hm⟩|⟨hk,c,hc,hcell⟩
 ·exact wpAny_loadName_local I.ok.kind hk hn hm go
 ·rcases hk with hk | hk
  ·exact wpAny_loadName_cell I.ok.kind hk hc hcell go
  ·rcases hx with k | k
   ·have:X.env.scope.names.lookup x=some .free:=hk
    rw [k] at this;cases this
   ·have:X.env.scope.names.lookup x=some .free:=hk
    rw [k] at this;cases this
end
section
variable {X:Cx} {pos:Pos}
def rV (c:TT) (tb:TS):TS:=λD σ H=>∃ W:Nat->St->Hp->Prop,(∃ m,W m σ H)/\∀ m σ H,W m σ H ->
 c σ H λb H1=>if b=true then ∃ N:St->Hp->Prop,(∀ σ' H',N σ' H'->∃ m',m'<m/\W m' σ' H')/\tb { D with nx:=N,ct:=N,bk:=D.nx } σ H1 else D.nx σ H1
theorem bh {c:Expr} {body:List Stmt} {tc:TT} {tb:TS} (hp:PassesOwn (model X.prog X.w) X.A X.env X.xe) (hc:PT X c tc) (hb:fZ X body tb):PS X (.While c body [] pos) (rV tc tb):=by
 intro pins s σ H D I h
 obtain⟨W,⟨m0,w0⟩,turn⟩:=h
 refine wpAny_While (codeAny_whileLoop (λn s'=>∃ σ' H',Inv X pins σ' H' s'/\W n σ' H') ?_ m0 ⟨σ,H,I,w0⟩)
 rintro n s1 ⟨σ1,H1,I1,w1⟩
 refine wpAny_passesOwn hp (a5 (hc pins s1 σ1 H1 _ I1 (turn n σ1 H1 w1)) λb s2 ⟨H2,I2,q2⟩=>?_)
 cases b with
 | true =>
  obtain⟨N,hN,q2⟩:=q2
  rw [if_pos rfl]
  refine wpAny_passesOwn hp (a5 (hb pins s2 σ1 H2 _ I2 q2) λf s3 q3=>?_)
  cases f with
  | next =>
   obtain⟨σ3,H3,I3,n3⟩:=q3
   obtain⟨m',hm,w3⟩:=hN σ3 H3 n3
   exact⟨m',hm,σ3,H3,I3,w3⟩
  | cont =>
   obtain⟨σ3,H3,I3,n3⟩:=q3
   obtain⟨m',hm,w3⟩:=hN σ3 H3 n3
   exact⟨m',hm,σ3,H3,I3,w3⟩
  | brk=>exact q3
  | ret v=>exact q3
 | false =>
  rw [if_neg Bool.false_ne_true]
  exact wpAny_execs_nil ⟨σ1,H2,I2,q2⟩
end
structure It where
 go:Nat->Hp->Prop
 yld:Nat->Hp->V->Hp->Prop
 stop:Nat->Hp->Prop
def iP (X:Cx) (pins:List (Addr × Obj)) (H:Hp) (b:Addr):Prop :=
 H b=none/\b≠X.env.locals/\b∉X.fs/\(b∈X.ex∨X.s₀.heap.objs.size<=b)/\(∀ x c,X.env.cells.lookup x=some c->c≠b)/\∀ p∈X.pn++pins,p.1≠b
theorem Inv.kW {X:Cx} {pins:List (Addr × Obj)} {σ:St} {H H':Hp} {s:Shared} {b:Addr} (I:Inv X pins σ H s) (hb:s.heap.objs.size<=b) (hn:H' b=none):iP X pins H' b:=by
 refine⟨hn,Nat.ne_of_gt (Nat.lt_of_lt_of_le I.lt hb),I.tN hb,.inr (Nat.le_trans I.sz hb),λx c e z=>?_,λp hp z=>?_⟩
 ·obtain⟨v,q⟩:=I.cell x c e
  exact absurd (Nat.lt_of_lt_of_le q.lt (by rw [z];exact hb)) (Nat.lt_irrefl _)
 ·exact absurd (Nat.lt_of_lt_of_le (Heap.lt_size (I.pin p hp).1) (by rw [z];exact hb)) (Nat.lt_irrefl _)
structure Turn (P:Program) (w:World) (K:PySem.W.Frag) (tg:Expr) (J:It) (fp:List Addr) (it:Addr) (tn:Nat->Heap->Prop):Prop where
 mem:it∈fp
 obj:∀ i h,tn i h->∀ b∈fp,∃ o,h.get? b=some o/\∀ v,o.data≠.cell v
 keep:∀ i h h',tn i h->(∀ b∈fp,∀ o,h.get? b=some o->h'.get? b=some o)->tn i h'
 item:∀(X:Cx),X.prog=P->X.w=w->X.K=K->X.calm=true->∀(i:Nat) (pins:List (Addr × Obj)) (s:Shared) (σ:St) (H:Hp) (E:Value->Shared->Prop),Inv X pins σ H s->(∀ b∈fp,iP X pins H b)->tn i s.heap->J.go i H ->
  wpAny (model P w) X.A (pyNext (.ref it)) (λr s1=>∃ u,r=some u /\
   wpAny (model P w) X.A (letOwnedTupleGo tg (.ref it) u) (λ_ s2=>∃ x H',Inv X pins σ H' s2/\RelV x u/\J.yld i H x H'/\tn (i+1) s2.heap/\∀ b∈fp,H' b=none) E s1) E s
 done:∀(X:Cx),X.prog=P->X.w=w->X.K=K->X.calm=true->∀(i:Nat) (pins:List (Addr × Obj)) (s:Shared) (σ:St) (H:Hp) (E:Value->Shared->Prop),Inv X pins σ H s->(∀ b∈fp,iP X pins H b)->tn i s.heap->J.stop i H ->
  wpAny (model P w) X.A (pyNext (.ref it)) (λr s1=>r=none/\Inv X pins σ H s1) E s
 self:∀(A:Around) (i:Nat) (s:Shared) (Q:Value->Shared->Prop) (E:Value->Shared->Prop),tn i s.heap->Q (.ref it) s->wpAny (model P w) A (pyIter (.ref it)) Q E s
abbrev TI:=St->Hp->(It->Hp->Prop)->Prop
def wL (X:Cx) (pins:List (Addr × Obj)) (σ:St) (tg:Expr) (R:It->Hp->Prop) (itv:Value) (s2:Shared):Prop :=
 ∃(it:Addr) (fp:List Addr) (tn:Nat->Heap->Prop) (J:It) (H':Hp),itv=.ref it/\Inv X pins σ H' s2/\Turn X.prog X.w X.K tg J fp it tn/\tn 0 s2.heap/\(∀ b∈fp,iP X pins H' b)/\R J H'
def PI (X:Cx) (tg iter:Expr) (wi:TI):Prop :=
 ∀(pins:List (Addr × Obj)) (s:Shared) (σ:St) (H:Hp) (R:It->Hp->Prop),Inv X pins σ H s->wi σ H R ->
  wpAny (model X.prog X.w) X.A (eval iter X.env) (λv s1=>wpAny (model X.prog X.w) X.A (pyIter v) (wL X pins σ tg R) X.xe s1) X.xe s
theorem qD {M:Model} {A:Around} {E:Value->Shared->Prop} {s:Shared} {tg:Expr} {it:Addr} {u:Value} {o:Obj} {n:String} {vs:Array Value} {Q:Unit->Shared->Prop} (ho:s.heap.get? it=some o) (hc:o.cls=.type n) (hd:o.data=.fields vs)
    (hn:["enumerate","zip","dict_itemiterator","dict_reverseitemiterator","odict_iterator","itertools.zip_longest","itertools.pairwise"].contains n=false) (hQ:Q () s):wpAny M A (letOwnedTupleGo tg (.ref it) u) Q E s:=by
  unfold letOwnedTupleGo
  cases tg<;>first
    | exact wpAny_pure hQ
    | (cases u<;>first
        | exact wpAny_pure hQ
        | (refine wpAny_bind (wpAny_load ho ?_)
           rw [hc,hd]
           show wpAny M A (if (["enumerate","zip","dict_itemiterator","dict_reverseitemiterator","odict_iterator","itertools.zip_longest","itertools.pairwise"].contains n && vs[0]?==some (rawInt _))=true then _ else _) Q E s
           rw [if_neg (by intro h;rw [hn,Bool.false_and] at h;cases h)]
           exact wpAny_pure hQ))
def vg (K:PySem.W.Frag) (a:Addr):It :=
 ⟨λi H=>∃ xs x,aW K H a xs/\xs[i]?=some x,λi H x H'=>H'=H/\∀ xs,aW K H a xs->xs[i]?=some x,λi H=>∃ xs,aW K H a xs/\xs.length<=i⟩
def vh (K:PySem.W.Frag) (a:Addr):It :=
 ⟨λi H=>∃ xs x,cF K H a xs/\xs[i]?=some x,λi H x H'=>H'=H/\∀ xs,cF K H a xs->xs[i]?=some x,λi H=>∃ xs,cF K H a xs/\xs.length<=i⟩
def sr (lo:Int) (n:Nat):It:=⟨λi _=>i<n,λi H x H'=>H'=H/\x=.int (lo+i),λi _=>n<=i⟩
theorem pM {P:Program} {w:World} {K:PySem.W.Frag} {tg:Expr} (a it:Addr):Turn P w K tg (vg K a) [it] it (λi h=>h.IsListIter it a i) where
 mem:=by simp
 obj:=λi h st b hb=>by
  have e:b=it:=by simpa using hb
  subst e
  obtain⟨o,e,c,d⟩:=st
  exact⟨o,e,λv z=>by rw [d] at z;cases z⟩
 keep:=λi h h' st k=>st.at λo e=>k it (by simp) o e
 item:=by
  intro X hP hw hK hc i pins s σ H E I hf st hg
  subst hP hw hK
  obtain⟨xs,x,hq,hx⟩:=hg
  obtain⟨its,rv,p,hz⟩:=I.list hq
  obtain⟨u,hu,ru⟩:=rv.get hx
  obtain⟨f0,f1,f2,f3,f4,f5⟩:=hf it (by simp)
  refine wpAny_pyNext_list_item st p.isList (x:=u) (by simpa using hu) λh' st' sb=>?_
  have I1:Inv X pins σ H { s with heap:=h' }:=I.turned (t':=s.toks) (λb o hb e=>(sb.2 b hb).trans e) f0 f1 f3 f4 f5
  obtain⟨o,e,c,d⟩:=id st'
  exact⟨u,rfl,qD (s:={ s with heap:=h' }) e c d (by decide) ⟨x,H,I1,ru,⟨rfl,λys hy=>by rw [I.hZ hy hq];exact hx⟩,st',λb hb=>(hf b hb).1⟩⟩
 done:=by
  intro X hP hw hK hc i pins s σ H E I hf st hg
  subst hP hw hK
  obtain⟨xs,hq,hx⟩:=hg
  obtain⟨its,rv,p,hz⟩:=I.list hq
  obtain⟨f0,f1,f2,f3,f4,f5⟩:=hf it (by simp)
  have hl:=rv.length
  exact wpAny_pyNext_list_end (I.ok.hd hc) st p.isList (by simp;omega) λh' eb=>⟨rfl,I.turned (t':=s.toks) (λb o hb e=>eb b o hb e) f0 f1 f3 f4 f5⟩
 self:=λ_ _ _ _ _ st h=>wpAny_pyIter_listiter st h
theorem mV {P:Program} {w:World} {K:PySem.W.Frag} {tg:Expr} (a it:Addr):Turn P w K tg (vh K a) [it] it (λi h=>h.IsTupleIter it a i) where
 mem:=by simp
 obj:=λi h st b hb=>by
  have e:b=it:=by simpa using hb
  subst e
  obtain⟨o,e,c,d⟩:=st
  exact⟨o,e,λv z=>by rw [d] at z;cases z⟩
 keep:=λi h h' st k=>st.at λo e=>k it (by simp) o e
 item:=by
  intro X hP hw hK hc i pins s σ H E I hf st hg
  subst hP hw hK
  obtain⟨xs,x,hq,hx⟩:=hg
  obtain⟨its,rv,p,hz⟩:=I.tuple hq
  obtain⟨u,hu,ru⟩:=rv.get hx
  obtain⟨f0,f1,f2,f3,f4,f5⟩:=hf it (by simp)
  refine wpAny_pyNext_tuple_item st (show s.heap.IsTuple a its.toArray from p) (x:=u) (by simpa using hu) λh' st' sb=>?_
  have I1:Inv X pins σ H { s with heap:=h' }:=I.turned (t':=s.toks) (λb o hb e=>(sb.2 b hb).trans e) f0 f1 f3 f4 f5
  obtain⟨o,e,c,d⟩:=id st'
  exact⟨u,rfl,qD (s:={ s with heap:=h' }) e c d (by decide) ⟨x,H,I1,ru,⟨rfl,λys hy=>by rw [I.jD hy hq];exact hx⟩,st',λb hb=>(hf b hb).1⟩⟩
 done:=by
  intro X hP hw hK hc i pins s σ H E I hf st hg
  subst hP hw hK
  obtain⟨xs,hq,hx⟩:=hg
  obtain⟨its,rv,p,hz⟩:=I.tuple hq
  obtain⟨f0,f1,f2,f3,f4,f5⟩:=hf it (by simp)
  have hl:=rv.length
  exact wpAny_pyNext_tuple_end (I.ok.hd hc) st (show s.heap.IsTuple a its.toArray from p) (by simp;omega) λh' eb=>⟨rfl,I.turned (t':=s.toks) (λb o hb e=>eb b o hb e) f0 f1 f3 f4 f5⟩
 self:=λ_ _ _ _ _ st h=>wpAny_pyIter_tupleiter st h
theorem mU {P:Program} {w:World} {K:PySem.W.Frag} {tg:Expr} (it:Addr) (lo:Int) (n:Nat):Turn P w K tg (sr lo n) [it] it (λi h=>IsRangeIter h it (lo+(i:Nat)*1) ((n:Int)-(i:Nat)) 1) where
 mem:=by simp
 obj:=λi h st b hb=>by
  have e:b=it:=by simpa using hb
  subst e
  exact⟨_,st,λv z=>by
   have z':Data.fields _=Data.cell v:=z
   cases z'⟩
 keep:=λi h h' st k=>k it (by simp) _ st
 item:=by
  intro X hP hw hK hc i pins s σ H E I hf st hg
  subst hP hw hK
  obtain⟨f0,f1,f2,f3,f4,f5⟩:=hf it (by simp)
  have W:=Walks.range (prog:=X.prog) (w:=X.w) (I.ok.hd hc) it lo 1 n
  refine W.item i s _ _ hg st λv h' tk hv st' kk=>?_
  obtain⟨t,rfl⟩:=hv
  have I1:Inv X pins σ H { s with heap:=h',toks:=tk }:=I.turned (λb o hb e=>kk b o (by simpa using hb) e) f0 f1 f3 f4 f5
  refine⟨_,rfl,qD (s:={ s with heap:=h',toks:=tk }) (n := "range_iterator") st' rfl rfl (by decide) ⟨.int (lo+i),H,I1,⟨t,?_⟩,⟨rfl,rfl⟩,st',λb hb=>(hf b hb).1⟩⟩
  rw [Int.mul_one]
 done:=by
  intro X hP hw hK hc i pins s σ H E I hf st hg
  subst hP hw hK
  obtain⟨f0,f1,f2,f3,f4,f5⟩:=hf it (by simp)
  exact wpAny_pyNext_range_end (I.ok.hd hc) st (by have:n<=i:=hg;omega) λh' eb=>⟨rfl,I.turned (t':=s.toks) (λb o hb e=>eb b o hb e) f0 f1 f3 f4 f5⟩
 self:=λ_ _ _ _ _ st h=>wpAny_pyIter_rangeiter st h
section
variable {X:Cx} {tg:Expr}
def uG (K:PySem.W.Frag) (tl:TE):TI:=λσ H R=>tl σ H λx H1=>∃ a,x=.ref a/\(∃ xs,aW K H1 a xs)/\R (vg K a) H1
def w5 (K:PySem.W.Frag) (tl:TE):TI:=λσ H R=>tl σ H λx H1=>∃ a,x=.ref a/\(∃ xs,cF K H1 a xs)/\R (vh K a) H1
theorem cn {l:Expr} {tl:TE} (hl:PE X l tl):PI X tg l (uG X.K tl):=by
 intro pins s σ H R I h
 refine a5 (hl pins s σ H _ I h) λv s1 ⟨x,H1,I1,r1,q1⟩=>?_
 obtain⟨a,e,⟨xs,hq⟩,q⟩:=q1
 subst e
 cases r1
 obtain⟨its,rv,p,hz⟩:=I1.list hq
 refine wpAny_pyIter_list p.isList ?_
 refine⟨s1.heap.objs.size,[s1.heap.objs.size],_,_,H1,rfl,I1.kept (t':=s1.toks) λb o e=>Heap.get?_push_of_some _ e,pM a _,⟨_,Heap.get?_push_size _ rfl,rfl,rfl⟩,λb hb=>?_,q⟩
 have e:b=s1.heap.objs.size:=by simpa using hb
 subst e
 exact I1.kW (Nat.le_refl _) (I1.hok.fresh (Nat.le_refl _))
theorem mK {l:Expr} {tl:TE} (hl:PE X l tl):PI X tg l (w5 X.K tl):=by
 intro pins s σ H R I h
 refine a5 (hl pins s σ H _ I h) λv s1 ⟨x,H1,I1,r1,q1⟩=>?_
 obtain⟨a,e,⟨xs,hq⟩,q⟩:=q1
 subst e
 cases r1
 obtain⟨its,rv,p,hz⟩:=I1.tuple hq
 refine wpAny_pyIter_tuple (show s1.heap.IsTuple a its.toArray from p) ?_
 refine⟨s1.heap.objs.size,[s1.heap.objs.size],_,_,H1,rfl,I1.kept (t':=s1.toks) λb o e=>Heap.get?_push_of_some _ e,mV a _,⟨_,Heap.get?_push_size _ rfl,rfl,rfl⟩,λb hb=>?_,q⟩
 have e:b=s1.heap.objs.size:=by simpa using hb
 subst e
 exact I1.kW (Nat.le_refl _) (I1.hok.fresh (Nat.le_refl _))
theorem rK {pins:List (Addr × Obj)} {σ:St} {H:Hp} {s:Shared} {R:It->Hp->Prop} {E:Value->Shared->Prop} {lo hi:Int} {t u v:Tok} {tk:Nat} (I:Inv X pins σ H s) (h1:-(2^62)<=lo) (h2:lo<2^62) (h3:-(2^62)<=hi) (h4:hi<2^62)
  (q:R (sr lo (hi-lo).toNat) H):wpAny (model X.prog X.w) X.A (pyIter (.ref s.heap.objs.size)) (wL X pins σ tg R) E { s with heap:=s.heap.push { cls:=.type "range",data:=.fields #[.int lo t,.int hi u,.int 1 v] },toks:=tk }:=by
 refine wpAny_pyIter_range (IsRange.new ..) (small_one h1 h2 h3 h4) ?_
 have I1:Inv X pins σ H { s with heap:=s.heap.push { cls:=.type "range",data:=.fields #[.int lo t,.int hi u,.int 1 v] },toks:=tk }:=I.kept λb o e=>Heap.get?_push_of_some _ e
 refine⟨(s.heap.push { cls:=.type "range",data:=.fields #[.int lo t,.int hi u,.int 1 v] }).objs.size,[(s.heap.push { cls:=.type "range",data:=.fields #[.int lo t,.int hi u,.int 1 v] }).objs.size],_,_,H,rfl,
  I1.kept (t':=tk) λb o e=>Heap.get?_push_of_some _ e,mU _ lo (hi-lo).toNat,?_,λb hb=>?_,q⟩
 ·have e1:lo+((0:Nat):Int)*1=lo:=by simp
  have e2:(((hi-lo).toNat:Nat):Int)-((0:Nat):Int)=Builtin.Range.rangeSize lo hi 1:=by rw [rangeSize_one];split<;>omega
  show IsRangeIter _ _ (lo+((0:Nat):Int)*1) ((((hi-lo).toNat:Nat):Int)-((0:Nat):Int)) 1
  rw [e1,e2]
  exact Heap.get?_push_size _ rfl
 ·have e:b=(s.heap.push { cls:=.type "range",data:=.fields #[.int lo t,.int hi u,.int 1 v] }).objs.size:=by simpa using hb
  subst e
  exact I1.kW (Nat.le_refl _) (I1.hok.fresh (Nat.le_refl _))
def uH (ta:TA):TI:=λσ H R=>ta σ H λvs H1=>∃ j:Int,vs=[.int j] /\ -(2^62)<=j/\j<2^62/\R (sr 0 j.toNat) H1
def wY (ta:TA):TI:=λσ H R=>ta σ H λvs H1=>∃ i j:Int,vs=[.int i,.int j]/\(-(2^62)<=i/\i<2^62 /\ -(2^62)<=j/\j<2^62)/\R (sr i (j-i).toNat) H1
theorem cu {a:Expr} {ta:TA} {p pos:Pos} (hg:Gl X "range") (hm:X.mg "range"=none) (ha:PA X [a] ta) (hs:starEach [a] X.env=[(false,eval a X.env)]:=by rfl):PI X tg (.Call (.Name "range" p) [a] [] pos) (uH ta):=by
 intro pins s σ H R I h
 refine Call_ (gh I hg hm boot_range (PyProof.Rows.callWith_type1 (a5 (ha pos pins s σ H _ I h) λus s1 ⟨vs,H1,I1,r1,q1⟩=>?_) hs rfl))
 obtain⟨j,e,q1,q2,q⟩:=q1
 subst e
 cases r1 with
 | cons r rr =>
  cases rr
  obtain⟨t,rfl⟩:=r
  exact call_range_1 (rK I1 (by omega) (by omega) q1 q2 (by simpa using q))
def xJ (wi:TI) (g:TG) (tb:TS):TS:=λD σ H=>wi σ H λJ H1=>∃ W:Nat->Nat->St->Hp->Prop,(∃ m,W 0 m σ H1)/\∀ i m σ H,W i m σ H ->
 (J.stop i H/\D.nx σ H)∨(J.go i H/\∃ N:St->Hp->Prop,(∀ σ' H',N σ' H'->∃ m',m'<m/\W (i+1) m' σ' H')/\∀ x H',J.yld i H x H'->g x σ H' λσ2 H2=>tb { D with nx:=N,ct:=N,bk:=D.nx } σ2 H2)
def fo (fp:List Addr) (h:Heap):List (Addr × Obj):=fp.filterMap λb=>(h.get? b).map λo=>(b,o)
theorem bZ {fp:List Addr} {h:Heap} {b:Addr} {o:Obj} (hb:b∈fp) (e:h.get? b=some o):(b,o)∈fo fp h:=List.mem_filterMap.mpr ⟨b,hb,by rw [e];rfl⟩
theorem jr {fp:List Addr} {h:Heap} {p:Addr × Obj} (hp:p∈fo fp h):p.1∈fp/\h.get? p.1=some p.2:=by
 obtain⟨b,hb,e⟩:=List.mem_filterMap.mp hp
 cases q:h.get? b with
 | none=>rw [q] at e;cases e
 | some o =>
  rw [q] at e
  have e':(b,o)=p:=Option.some.inj e
  subst e'
  exact⟨hb,q⟩
theorem Inv.pinned {pins:List (Addr × Obj)} {σ:St} {H:Hp} {s:Shared} {fp:List Addr} (I:Inv X pins σ H s) (hf:∀ b∈fp,iP X pins H b) (ho:∀ b∈fp,∃ o,s.heap.get? b=some o/\∀ v,o.data≠.cell v):Inv X (pins++fo fp s.heap) σ H s :=
 I.eh λp hp=>(List.mem_append.mp hp).elim (λz=>I.pin p (List.mem_append_right _ z)) λz=>by
  obtain⟨hb,e⟩:=jr z
  obtain⟨f0,f1,f2,_⟩:=hf p.1 hb
  obtain⟨o,e',d⟩:=ho p.1 hb
  rw [e] at e';cases e'
  exact⟨e,f0,f1,f2,d⟩
theorem Inv.dS {pins pl:List (Addr × Obj)} {σ:St} {H:Hp} {s:Shared} (I:Inv X (pins++pl) σ H s):Inv X pins σ H s:=I.eh λp hp=>I.pin p (List.mem_append_right _ (List.mem_append_left _ hp))
theorem cT {iter:Expr} {body:List Stmt} {wi:TI} {g:TG} {tb:TS} {pos:Pos} (hp:PassesOwn (model X.prog X.w) X.A X.env X.xe) (hc:X.calm=true) (hi:PI X tg iter wi) (hg:PG X tg g) (hb:fZ X body tb)
  (hs:∀ x,foldedSetIterable iter X.env x=pure x:=by intro _;rfl):PS X (.For tg iter body [] pos) (xJ wi g tb):=by
 intro pins s σ H D I h
 refine wpAny_For (a5 (hi pins s σ H _ I h) λv s1 h1=>a5 h1 λitv s2 h2=>?_) hs
 obtain⟨it,fp,tn,J,H2,e,I2,T,st2,f2,W,⟨m0,w0⟩,turn⟩:=h2
 subst e
 -- what stays true of the iterator's objects through the loop
 have stat:∀{H':Hp},(∀ b∈fp,H' b=none)->∀ b∈fp,iP X pins H' b:=λhn b hb=>⟨hn b hb,(f2 b hb).2⟩
 refine codeAny_forLoop_any (λn s'=>∃ i σ' H',Inv X pins σ' H' s'/\tn i s'.heap/\(∀ b∈fp,H' b=none)/\W i n σ' H') ?_ m0 ⟨0,σ,H2,I2,st2,λb hb=>(f2 b hb).1,w0⟩
 rintro n s3 ⟨i,σ3,H3,I3,st3,fr3,w3⟩
 rcases turn i n σ3 H3 w3 with⟨stop,qn⟩|⟨go,N,hN,step⟩
 ·refine wpAny_passesOwn hp (a5 (T.done X rfl rfl rfl hc i pins s3 σ3 H3 X.xe I3 (stat fr3) st3 stop) λr s4 ⟨hr,I4⟩=>?_)
  subst hr
  exact wpAny_execs_nil ⟨σ3,H3,I4,qn⟩
 ·refine wpAny_passesOwn hp (a5 (T.item X rfl rfl rfl hc i pins s3 σ3 H3 X.xe I3 (stat fr3) st3 go) λr s4 ⟨u,hr,h4⟩=>?_)
  subst hr
  refine wpAny_passesOwn hp (a5 h4 λ_ s5 ⟨x,H5,I5,r5,y5,st5,fr5⟩=>?_)
  have I5':=I5.pinned (stat fr5) (T.obj _ _ st5)
  refine wpAny_passesOwn hp (a5 (hg _ s5 σ3 H5 x u _ I5' r5 (step x H5 y5)) λ_ s6 ⟨σ6,H6,I6,q6⟩=>?_)
  refine wpAny_passesOwn hp (a5 (hb _ s6 σ6 H6 _ I6 q6) λf s7 q7=>?_)
  have again:∀{σ7:St} {H7:Hp},Inv X (pins++fo fp s5.heap) σ7 H7 s7->N σ7 H7->∃ m,m<n/\∃ i σ' H',Inv X pins σ' H' s7/\tn i s7.heap/\(∀ b∈fp,H' b=none)/\W i m σ' H':=λ{σ7 H7} I7 n7=>by
   obtain⟨m',hm,w7⟩:=hN σ7 H7 n7
   refine⟨m',hm,i+1,σ7,H7,I7.dS,T.keep _ _ _ st5 λb hb o e=>(I7.pin (b,o) (List.mem_append_right _ (List.mem_append_right _ (bZ hb e)))).1,λb hb=>?_,w7⟩
   obtain⟨o,e,d⟩:=T.obj _ _ st5 b hb
   exact (I7.pin (b,o) (List.mem_append_right _ (List.mem_append_right _ (bZ hb e)))).2.1
  cases f with
  | next=>obtain⟨σ7,H7,I7,n7⟩:=q7;exact again I7 n7
  | cont=>obtain⟨σ7,H7,I7,n7⟩:=q7;exact again I7 n7
  | brk=>obtain⟨σ7,H7,I7,q7⟩:=q7;exact⟨σ7,H7,I7.dS,q7⟩
  | ret v=>obtain⟨x7,σ7,H7,I7,r7,q7⟩:=q7;exact⟨x7,σ7,H7,I7.dS,r7,q7⟩
end
theorem qA {K:PySem.W.Frag} {a:Addr} {xs:List V} {g:TG} {tb:TS} {D:Ends} {σ:St} {H:Hp} (Pv:Nat->St->Hp->Prop) (h0:Pv 0 σ H) (hl:∀ i σ H,i<=xs.length->Pv i σ H->aW K H a xs)
  (hs:∀ i x σ H,xs[i]?=some x->Pv i σ H->g x σ H λσ2 H2=>tb { D with nx:=Pv (i+1),ct:=Pv (i+1),bk:=D.nx } σ2 H2) (hd:∀ σ H,Pv xs.length σ H->D.nx σ H) :
  ∃ W:Nat->Nat->St->Hp->Prop,(∃ m,W 0 m σ H)/\∀ i m σ H,W i m σ H ->
   ((vg K a).stop i H/\D.nx σ H)∨((vg K a).go i H/\∃ N:St->Hp->Prop,(∀ σ' H',N σ' H'->∃ m',m'<m/\W (i+1) m' σ' H')/\∀ x H',(vg K a).yld i H x H'->g x σ H' λσ2 H2=>tb { D with nx:=N,ct:=N,bk:=D.nx } σ2 H2):=by
 refine⟨λi m σ H=>m=xs.length-i/\i<=xs.length/\Pv i σ H,⟨xs.length,by simp,Nat.zero_le _,h0⟩,?_⟩
 rintro i m σ H ⟨rfl,hi,p⟩
 have q:=hl i σ H hi p
 by_cases hlt:i<xs.length
 ·refine .inr ⟨⟨xs,xs[i],q,by simp [hlt]⟩,Pv (i+1),λσ' H' p'=>⟨xs.length-(i+1),by omega,rfl,hlt,p'⟩,λx H' y=>?_⟩
  obtain⟨e,y⟩:=y
  subst e
  exact hs i x σ _ (y xs q) p
 ·have e:i=xs.length:=by omega
  subst e
  exact .inl ⟨⟨xs,q,Nat.le_refl _⟩,hd σ H p⟩
theorem sZ {K:PySem.W.Frag} {a:Addr} {xs:List V} {g:TG} {tb:TS} {D:Ends} {σ:St} {H:Hp} (Pv:Nat->St->Hp->Prop) (h0:Pv 0 σ H) (hl:∀ i σ H,i<=xs.length->Pv i σ H->cF K H a xs)
  (hs:∀ i x σ H,xs[i]?=some x->Pv i σ H->g x σ H λσ2 H2=>tb { D with nx:=Pv (i+1),ct:=Pv (i+1),bk:=D.nx } σ2 H2) (hd:∀ σ H,Pv xs.length σ H->D.nx σ H) :
  ∃ W:Nat->Nat->St->Hp->Prop,(∃ m,W 0 m σ H)/\∀ i m σ H,W i m σ H ->
   ((vh K a).stop i H/\D.nx σ H)∨((vh K a).go i H/\∃ N:St->Hp->Prop,(∀ σ' H',N σ' H'->∃ m',m'<m/\W (i+1) m' σ' H')/\∀ x H',(vh K a).yld i H x H'->g x σ H' λσ2 H2=>tb { D with nx:=N,ct:=N,bk:=D.nx } σ2 H2):=by
 refine⟨λi m σ H=>m=xs.length-i/\i<=xs.length/\Pv i σ H,⟨xs.length,by simp,Nat.zero_le _,h0⟩,?_⟩
 rintro i m σ H ⟨rfl,hi,p⟩
 have q:=hl i σ H hi p
 by_cases hlt:i<xs.length
 ·refine .inr ⟨⟨xs,xs[i],q,by simp [hlt]⟩,Pv (i+1),λσ' H' p'=>⟨xs.length-(i+1),by omega,rfl,hlt,p'⟩,λx H' y=>?_⟩
  obtain⟨e,y⟩:=y
  subst e
  exact hs i x σ _ (y xs q) p
 ·have e:i=xs.length:=by omega
  subst e
  exact .inl ⟨⟨xs,q,Nat.le_refl _⟩,hd σ H p⟩
theorem oI {lo:Int} {n:Nat} {g:TG} {tb:TS} {D:Ends} {σ:St} {H:Hp} (Pv:Nat->St->Hp->Prop) (h0:Pv 0 σ H)
  (hs:∀ i σ H,i<n->Pv i σ H->g (.int (lo+i)) σ H λσ2 H2=>tb { D with nx:=Pv (i+1),ct:=Pv (i+1),bk:=D.nx } σ2 H2) (hd:∀ σ H,Pv n σ H->D.nx σ H) :
  ∃ W:Nat->Nat->St->Hp->Prop,(∃ m,W 0 m σ H)/\∀ i m σ H,W i m σ H ->
   ((sr lo n).stop i H/\D.nx σ H)∨((sr lo n).go i H/\∃ N:St->Hp->Prop,(∀ σ' H',N σ' H'->∃ m',m'<m/\W (i+1) m' σ' H')/\∀ x H',(sr lo n).yld i H x H'->g x σ H' λσ2 H2=>tb { D with nx:=N,ct:=N,bk:=D.nx } σ2 H2):=by
 refine⟨λi m σ H=>m=n-i/\i<=n/\Pv i σ H,⟨n,by simp,Nat.zero_le _,h0⟩,?_⟩
 rintro i m σ H ⟨rfl,hi,p⟩
 by_cases hlt:i<n
 ·refine .inr ⟨hlt,Pv (i+1),λσ' H' p'=>⟨n-(i+1),by omega,rfl,hlt,p'⟩,λx H' y=>?_⟩
  obtain⟨e,y⟩:=y
  subst e y
  exact hs i σ _ hlt p
 ·have e:i=n:=by omega
  subst e
  exact .inl ⟨Nat.le_refl _,hd σ H p⟩
abbrev R2:=V->V->Hp->VK->Prop
def gu (X:Cx) (f:Value->Value->Sem Value) (r:R2):Prop :=
 ∀(pins:List (Addr × Obj)) (s:Shared) (σ:St) (H:Hp) (x y:V) (v u:Value) (Q:VK),Inv X pins σ H s->RelV x v->RelV y u->r x y H Q ->
  wpAny (model X.prog X.w) X.A (f v u) (EP X pins σ Q) X.xe s
def yk (X:Cx) (f:Value->Sem Value) (r:V->Hp->VK->Prop):Prop :=
 ∀(pins:List (Addr × Obj)) (s:Shared) (σ:St) (H:Hp) (x:V) (v:Value) (Q:VK),Inv X pins σ H s->RelV x v->r x H Q ->
  wpAny (model X.prog X.w) X.A (f v) (EP X pins σ Q) X.xe s
def b9 (X:Cx) (f:Value) (r:List V->Hp->VK->Prop):Prop :=
 ∀(pins:List (Addr × Obj)) (s:Shared) (σ:St) (H:Hp) (xs:List V) (us:List Value) (Q:VK),Inv X pins σ H s->Vals xs us->r xs H Q ->
  wpAny (model X.prog X.w) X.A (call f us) (EP X pins σ Q) X.xe s
def yj (X:Cx) (r:V->Hp->(Bool->Hp->Prop)->Prop):Prop :=
 ∀(pins:List (Addr × Obj)) (s:Shared) (σ:St) (H:Hp) (x:V) (v:Value) (Q:Bool->Hp->Prop),Inv X pins σ H s->RelV x v->r x H Q ->
  wpAny (model X.prog X.w) X.A (truthy v) (TP X pins σ Q) X.xe s
def xT (r:R2) (ta tb:TE):TE:=λσ H Q=>ta σ H λx H1=>tb σ H1 λy H2=>r x y H2 Q
def y7 (r:V->Hp->VK->Prop) (ta:TE):TE:=λσ H Q=>ta σ H λx H1=>r x H1 Q
def rI (C:Int->Int->Prop) (g:Int->Int->V):R2:=λx y H Q=>∃ i j,x=.int i/\y=.int j/\C i j/\Q (g i j) H
def t5 (g:Int->Int->V):R2:=λx y H Q=>∃ i j,x=.int i/\y=.int j/\Q (g i j) H
def rU (g:Int->V):V->Hp->VK->Prop:=λx H Q=>∃ i,x=.int i/\Q (g i) H
section
variable {X:Cx} {a b c:Expr} {ta tb tc:TE} {pos:Pos}
theorem vt (ha:PE X a ta) (hb:PE X b tb) {pins:List (Addr × Obj)} {s:Shared} {σ:St} {H:Hp} {R:V->V->Hp->Prop} (I:Inv X pins σ H s)
  (h:ta σ H λx H1=>tb σ H1 λy H2=>R x y H2) {Q:Value->Shared->Prop} {f:Value->Value->Sem Value}
  (hf:∀ v u s2 x y H2,Inv X pins σ H2 s2->RelV x v->RelV y u->R x y H2->wpAny (model X.prog X.w) X.A (f v u) Q X.xe s2) :
  wpAny (model X.prog X.w) X.A (eval a X.env) (λv s₁=>wpAny (model X.prog X.w) X.A (eval b X.env) (λu s₂=>wpAny (model X.prog X.w) X.A (f v u) Q X.xe s₂) X.xe s₁) X.xe s:=by
 refine a5 (ha pins s σ H _ I h) λv s1 ⟨x,H1,I1,r1,q1⟩=>?_
 refine a5 (hb pins s1 σ H1 _ I1 q1) λu s2 ⟨y,H2,I2,r2,q2⟩=>?_
 exact hf v u s2 x y H2 I2 r1 r2 q2
theorem ar {op:Operator} {r:R2} (ho:gu X (binaryOp op) r) (ha:PE X a ta) (hb:PE X b tb):PE X (.BinOp a op b pos) (xT r ta tb):=by
 intro pins s σ H Q I h
 exact wpAny_BinOp (vt ha hb I h λv u s2 x y H2 I2 rx ry q=>ho pins s2 σ H2 x y v u Q I2 rx ry q)
theorem ly {op:UnaryOp} {r:V->Hp->VK->Prop} (ho:yk X (unaryOp op) r) (ha:PE X a ta):PE X (.UnaryOp op a pos) (y7 r ta):=by
 intro pins s σ H Q I h
 exact UnaryOp_ (a5 (ha pins s σ H _ I h) λv s1 ⟨x,H1,I1,r1,q1⟩=>ho pins s1 σ H1 x v Q I1 r1 q1)
theorem wC {f:Value->Value->Sem Value} {C:Int->Int->Prop} {g:Int->Int->Int}
  (rule:∀(i j:Int) (t u:Tok) (s:Shared) (Q:Value->Shared->Prop) (E:Value->Shared->Prop),C i j->Q (.int (g i j) s.toks) { s with toks:=s.toks+1 }->wpAny (model X.prog X.w) X.A (f (.int i t) (.int j u)) Q E s) :
  gu X f (rI C λi j=>.int (g i j)):=by
 intro pins s σ H x y v u Q I rx ry h
 obtain⟨i,j,rfl,rfl,hc,q⟩:=h
 obtain⟨t,rfl⟩:=rx
 obtain⟨t',rfl⟩:=ry
 exact rule i j t t' s _ _ hc ⟨.int (g i j),H,I.tok _,⟨_,rfl⟩,q⟩
theorem vQ {f:Value->Value->Sem Value} {g:Int->Int->Int}
  (rule:∀(i j:Int) (t u:Tok) (s:Shared) (Q:Value->Shared->Prop) (E:Value->Shared->Prop),Q (.int (g i j) s.toks) { s with toks:=s.toks+1 }->wpAny (model X.prog X.w) X.A (f (.int i t) (.int j u)) Q E s) :
  gu X f (t5 λi j=>.int (g i j)):=by
 intro pins s σ H x y v u Q I rx ry h
 obtain⟨i,j,rfl,rfl,q⟩:=h
 obtain⟨t,rfl⟩:=rx
 obtain⟨t',rfl⟩:=ry
 exact rule i j t t' s _ _ ⟨.int (g i j),H,I.tok _,⟨_,rfl⟩,q⟩
theorem vP {f:Value->Value->Sem Value} {g:Int->Int->Bool}
  (rule:∀(i j:Int) (t u:Tok) (s:Shared) (Q:Value->Shared->Prop) (E:Value->Shared->Prop),Q (.bool (g i j)) s->wpAny (model X.prog X.w) X.A (f (.int i t) (.int j u)) Q E s) :
  gu X f (t5 λi j=>.bl (g i j)):=by
 intro pins s σ H x y v u Q I rx ry h
 obtain⟨i,j,rfl,rfl,q⟩:=h
 obtain⟨t,rfl⟩:=rx
 obtain⟨t',rfl⟩:=ry
 exact rule i j t t' s _ _ ⟨.bl (g i j),H,I,rfl,q⟩
def wG (i j:Int):Prop:=0<=j/\j<=1000000/\i.natAbs<2^64
def wF (i j:Int):Prop:=(-(2^64)<i/\i<2^64)∨(-(2^64)<j/\j<2^64)
theorem wF.ok {i j:Int} (h:wF i j):IntMulOk i j:=by
 rcases h with⟨h1,h2⟩|⟨h1,h2⟩
 ·exact .of_left (intBits_le_64 h1 h2)
 ·exact .of_right (intBits_le_64 h1 h2)
theorem b3:gu X (binaryOp .Add) (t5 λi j=>.int (i+j)):=vQ λ_ _ _ _ _ _ _ q=>add_int q
theorem cS:gu X (binaryOp .Sub) (t5 λi j=>.int (i-j)):=vQ λ_ _ _ _ _ _ _ q=>sub_int q
theorem aK:gu X (binaryOp .Mod) (rI (λ_ j=>0<j) λi j=>.int (i%j)):=wC λi j _ _ _ _ _ hc q=>by
 have h1:(0:Int)<j:=hc
 exact mod_int' (by omega) (by rw [Int.fmod_eq_emod_of_nonneg i (by omega)];exact q)
theorem iu:gu X (binaryOp .Pow) (rI wG λi j=>.int (i^j.toNat)):=wC λ_ _ _ _ _ _ _ hc q=>pow_int_small hc.1 hc.2.1 hc.2.2 q
theorem nt:gu X (inplaceOp .Add) (t5 λi j=>.int (i+j)):=vQ λ_ _ _ _ _ _ _ q=>iadd_int q
theorem zw {f:Value->Sem Value} {g:Int->Int}
  (rule:∀(i:Int) (t:Tok) (s:Shared) (Q:Value->Shared->Prop) (E:Value->Shared->Prop),Q (.int (g i) s.toks) { s with toks:=s.toks+1 }->wpAny (model X.prog X.w) X.A (f (.int i t)) Q E s) :
  yk X f (rU λi=>.int (g i)):=by
 intro pins s σ H x v Q I rx h
 obtain⟨i,rfl,q⟩:=h
 obtain⟨t,rfl⟩:=rx
 exact rule i t s _ _ ⟨.int (g i),H,I.tok _,⟨_,rfl⟩,q⟩
theorem iO:yk X (unaryOp .USub) (rU λi=>.int (-i)):=zw λ_ _ _ _ _ q=>neg_int q
end
def kh:V->V->Bool
 | .non,.non=>true | .non,.int _=>true | .int _,.non=>true | .non,.bl _=>true | .bl _,.non=>true | .non,.str _=>true | .str _,.non=>true
 | .int _,.int _=>true | .bl _,.bl _=>true | .str _,.str _=>true | .byt _,.byt _=>true
 | .int _,.str _=>true | .str _,.int _=>true | .bl _,.str _=>true | .str _,.bl _=>true
 | _,_=>false
def yS:R2:=λx y H Q=>kh x y=true/\Q (.bl (decide (x=y))) H
def yU:R2:=λx y H Q=>kh x y=true/\Q (.bl (!decide (x=y))) H
theorem nh {i j:Int}:decide (V.int i=V.int j)=(i==j):=by
 rw [Bool.eq_iff_iff]
 simp
theorem qf {i j:Bool}:decide (V.bl i=V.bl j)=(i==j):=by
 rw [Bool.eq_iff_iff]
 simp
theorem ni {i j:Str}:decide (V.str i=V.str j)=(i==j):=by
 rw [Bool.eq_iff_iff]
 simp
theorem m8 {i j:Array UInt8}:decide (V.byt i=V.byt j)=(i.toList==j.toList):=by
 rw [Bool.eq_iff_iff]
 cases i
 cases j
 simp
section
variable {X:Cx} {a b c:Expr} {ta tb tc:TE} {pos:Pos}
theorem aM {pins:List (Addr × Obj)} {σ:St} {H:Hp} {s:Shared} {Q:VK} {k k':Bool} (I:Inv X pins σ H s) (q:Q (.bl k) H) (e:k=k'):EP X pins σ Q (.bool k') s:=by
 subst e
 exact⟨.bl k,H,I,rfl,q⟩
theorem bK:gu X (compareOp .Eq) yS:=by
 intro pins s σ H x y v u Q I rx ry h
 obtain⟨hs,q⟩:=h
 cases x with
 | non =>
  cases rx
  cases y with
  | non=>cases ry;exact PySem.EqNone.eq_none_none (aM I q (by simp))
  | bl j=>cases ry;exact PySem.EqNone.eq_none_bool (aM I q (by simp))
  | int j=>obtain⟨t',rfl⟩:=ry;exact PySem.EqNone.eq_none_int (aM I q (by simp))
  | str j=>obtain⟨t',rfl⟩:=ry;exact PySem.EqNone.eq_none_str (aM I q (by simp))
  | _=>exact absurd (show false=true from hs) Bool.false_ne_true
 | bl i =>
  cases rx
  cases y with
  | non=>cases ry;exact PySem.EqNone.eq_bool_none (aM I q (by simp))
  | bl j=>cases ry;exact eq_bool (aM I q qf)
  | str j=>obtain⟨t',rfl⟩:=ry;exact PySem.EqMixed.eq_bool_str (aM I q (by simp))
  | _=>exact absurd (show false=true from hs) Bool.false_ne_true
 | int i =>
  obtain⟨t,rfl⟩:=rx
  cases y with
  | non=>cases ry;exact PySem.EqNone.eq_int_none (aM I q (by simp))
  | int j=>obtain⟨t',rfl⟩:=ry;exact eq_int (aM I q nh)
  | str j=>obtain⟨t',rfl⟩:=ry;exact PySem.EqMixed.eq_int_str (aM I q (by simp))
  | _=>exact absurd (show false=true from hs) Bool.false_ne_true
 | str i =>
  obtain⟨t,rfl⟩:=rx
  cases y with
  | non=>cases ry;exact PySem.EqNone.eq_str_none (aM I q (by simp))
  | bl j=>cases ry;exact PySem.EqMixed.eq_str_bool (aM I q (by simp))
  | int j=>obtain⟨t',rfl⟩:=ry;exact PySem.EqMixed.eq_str_int (aM I q (by simp))
  | str j=>obtain⟨t',rfl⟩:=ry;exact eq_str (aM I q ni)
  | _=>exact absurd (show false=true from hs) Bool.false_ne_true
 | byt i =>
  obtain⟨t,rfl⟩:=rx
  cases y with
  | byt j=>obtain⟨t',rfl⟩:=ry;exact PySem.W.eq_bytes (aM I q m8)
  | _=>exact absurd (show false=true from hs) Bool.false_ne_true
 | _=>cases y<;>exact absurd (show false=true from hs) Bool.false_ne_true
theorem nB:gu X (compareOp .NotEq) yU:=by
 intro pins s σ H x y v u Q I rx ry h
 obtain⟨hs,q⟩:=h
 cases x with
 | non =>
  cases rx
  cases y with
  | non=>cases ry;exact PySem.EqNone.ne_none_none (aM I q (by simp))
  | bl j=>cases ry;exact PySem.EqNone.ne_none_bool (aM I q (by simp))
  | int j=>obtain⟨t',rfl⟩:=ry;exact PySem.EqNone.ne_none_int (aM I q (by simp))
  | str j=>obtain⟨t',rfl⟩:=ry;exact PySem.EqNone.ne_none_str (aM I q (by simp))
  | _=>exact absurd (show false=true from hs) Bool.false_ne_true
 | bl i =>
  cases rx
  cases y with
  | non=>cases ry;exact PySem.EqNone.ne_bool_none (aM I q (by simp))
  | bl j=>cases ry;exact ne_bool (aM I q (congrArg not qf))
  | str j=>obtain⟨t',rfl⟩:=ry;exact PySem.EqMixed.ne_bool_str (aM I q (by simp))
  | _=>exact absurd (show false=true from hs) Bool.false_ne_true
 | int i =>
  obtain⟨t,rfl⟩:=rx
  cases y with
  | non=>cases ry;exact PySem.EqNone.ne_int_none (aM I q (by simp))
  | int j=>obtain⟨t',rfl⟩:=ry;exact ne_int (aM I q (congrArg not nh))
  | str j=>obtain⟨t',rfl⟩:=ry;exact PySem.EqMixed.ne_int_str (aM I q (by simp))
  | _=>exact absurd (show false=true from hs) Bool.false_ne_true
 | str i =>
  obtain⟨t,rfl⟩:=rx
  cases y with
  | non=>cases ry;exact PySem.EqNone.ne_str_none (aM I q (by simp))
  | bl j=>cases ry;exact PySem.EqMixed.ne_str_bool (aM I q (by simp))
  | int j=>obtain⟨t',rfl⟩:=ry;exact PySem.EqMixed.ne_str_int (aM I q (by simp))
  | str j=>obtain⟨t',rfl⟩:=ry;exact ne_str (aM I q (congrArg not ni))
  | _=>exact absurd (show false=true from hs) Bool.false_ne_true
 | byt i =>
  obtain⟨t,rfl⟩:=rx
  cases y with
  | byt j=>obtain⟨t',rfl⟩:=ry;exact PySem.W.ne_bytes (aM I q (congrArg not m8))
  | _=>exact absurd (show false=true from hs) Bool.false_ne_true
 | _=>cases y<;>exact absurd (show false=true from hs) Bool.false_ne_true
theorem gy:gu X (compareOp .Lt) (t5 λi j=>.bl (decide (i<j))):=vP λ_ _ _ _ _ _ _ q=>lt_int q
theorem xt:gu X (compareOp .LtE) (t5 λi j=>.bl (decide (i<=j))):=vP λ_ _ _ _ _ _ _ q=>le_int q
theorem cW:gu X (compareOp .Gt) (t5 λi j=>.bl (decide (j<i))):=vP λ_ _ _ _ _ _ _ q=>gt_int q
theorem aw (b:Expr) {op:CmpOp} (h:op≠.In:=by decide) (h2:op≠.NotIn:=by decide):behindInMarks op b=false:=by
 have e1:(op==CmpOp.In)=false:=by cases op<;>first | rfl | exact absurd rfl h
 have e2:(op==CmpOp.NotIn)=false:=by cases op<;>first | rfl | exact absurd rfl h2
 cases b<;>simp [behindInMarks,e1,e2]
theorem bN {op:CmpOp} {r:R2} (ho:gu X (compareOp op) r) (ha:PE X a ta) (hb:PE X b tb) (hm:behindInMarks op b=false):PE X (.Compare a [op] [b] pos) (xT r ta tb):=by
 intro pins s σ H Q I h
 exact wpAny_Compare1 (vt ha hb I h λv u s2 x y H2 I2 rx ry q=>ho pins s2 σ H2 x y v u Q I2 rx ry q) hm
def vb (t:TE):TT:=λσ H Q=>t σ H λx H'=>∃ k,x=.bl k/\Q k H'
theorem av {op:CmpOp} {r:R2} (ho:gu X (compareOp op) r) (ha:PE X a ta) (hb:PE X b tb) (hm:behindInMarks op b=false):PT X (.Compare a [op] [b] pos) (vb (xT r ta tb)):=by
 intro pins s σ H Q I h
 refine wpAny_isTrue_Compare1 (a5 (ha pins s σ H _ I h) λv s1 ⟨x,H1,I1,r1,q1⟩=>a5 (hb pins s1 σ H1 _ I1 q1) λu s2 ⟨y,H2,I2,r2,q2⟩ =>
  a5 (ho pins s2 σ H2 x y v u _ I2 r1 r2 q2) λc s3 ⟨z,H3,I3,r3,k,e,q3⟩=>?_) hm
 subst e
 cases r3
 exact wpAny_truthy_bool ⟨H3,I3,q3⟩
def pT (K:PySem.W.Frag) (x:V) (H:Hp) (k:Bool):Prop :=
 match x with
 | .non=>k=false
 | .bl b=>k=b
 | .int i=>k=(i != 0)
 | .str y=>y.length<=sizeLine/\k=((y.length:Int) != 0)
 | .byt y=>y.size<=sizeLine/\k=((y.size:Int) != 0)
 | .ref p=>(∃ xs,aW K H p xs/\k=!xs.isEmpty)∨(∃ xs,cF K H p xs/\k=!xs.isEmpty)∨∃ kvs,H p=some (.dK kvs)/\k=!kvs.isEmpty
 | _=>False
theorem mn {κ:Type} {kvs:List (κ × V)} {vs:List (κ × Value)} (r:KV kvs vs):(!vs.isEmpty)=!kvs.isEmpty:=by
 cases r<;>rfl
theorem hG {xs:List V} {its:List Value} (r:Vals xs its):(!its.toArray.isEmpty)=!xs.isEmpty:=by
 cases r<;>simp
theorem jW:(sizeLine:Nat)<2^63:=by rw [sizeLine_eq];decide
theorem wx:yj X (λx H Q=>∃ k,pT X.K x H k/\Q k H):=by
 intro pins s σ H x v Q I rx h
 obtain⟨k,e,q⟩:=h
 have hl:=jW
 have hs:sizeLine=16777216:=sizeLine_eq
 cases x with
 | non =>
  cases rx
  have e':k=false:=e
  subst e'
  exact truthy_none ⟨H,I,q⟩
 | bl b =>
  cases rx
  have e':k=b:=e
  subst e'
  exact wpAny_truthy_bool ⟨H,I,q⟩
 | int i =>
  obtain⟨t,rfl⟩:=rx
  have e':k=(i != 0):=e
  subst e'
  exact PySem.P.truthy_int ⟨H,I,q⟩
 | str y =>
  obtain⟨t,rfl⟩:=rx
  obtain⟨hy,e'⟩:y.length<=sizeLine/\k=((y.length:Int) != 0):=e
  subst e'
  exact PySem.P.truthy_str (by omega) ⟨H,I.tok _,q⟩
 | byt y =>
  obtain⟨t,rfl⟩:=rx
  obtain⟨hy,e'⟩:y.size<=sizeLine/\k=((y.size:Int) != 0):=e
  subst e'
  exact PySem.W.truthy_bytes (by omega) ⟨H,I.tok _,q⟩
 | ref p =>
  cases rx
  have e':(∃ xs,aW X.K H p xs/\k=!xs.isEmpty)∨(∃ xs,cF X.K H p xs/\k=!xs.isEmpty)∨∃ kvs,H p=some (.dK kvs)/\k=!kvs.isEmpty:=e
  rcases e' with⟨xs,hx,e'⟩|⟨xs,hx,e'⟩|⟨kvs,hx,e'⟩
  ·subst e'
   obtain⟨its,r,pl,hz⟩:=I.list hx
   have hlen:=r.length
   exact wpAny_truthy_list pl.isList (by simp only [List.size_toArray];omega) ⟨H,I.tok _,by rw [hG r];exact q⟩
  ·subst e'
   obtain⟨its,r,pl,hz⟩:=I.tuple hx
   have hlen:=r.length
   exact truthy_tuple pl (by simp only [List.size_toArray];omega) ⟨H,I.tok _,by rw [hG r];exact q⟩
  ·subst e'
   obtain⟨hz,hS,vs,r,m⟩:kvs.length<=sizeLine/\(p==sysModules)=false/\∃ vs,KV kvs vs/\s.heap.DictOf (aL X.prog X.w) p vs:=I.hok p _ hx
   have hlen:kvs.length=vs.length:=Paired.length r
   exact wpAny_truthy_dict hS m (by omega) ⟨H,I.tok _,by rw [mn r];exact q⟩
 | _=>exact (show False from e).elim
theorem a4 (ha:PE X a ta) (he:∀ whole,isTrue a X.env whole=(do let v <- whole;standAt a.pos;holding [v] (truthy v))) :
  PT X a (λσ H Q=>ta σ H λx H'=>∃ k,pT X.K x H' k/\Q k H'):=by
 intro pins s σ H Q I h
 exact isTrue_plain (a5 (ha pins s σ H _ I h) λv s1 ⟨x,H1,I1,r1,q1⟩=>wx pins s1 σ H1 x v Q I1 r1 q1) (he _)
theorem vals1 {x:V} {us:List Value} (r:Vals [x] us):∃ u,us=[u]/\RelV x u:=by
 cases r with
 | cons r1 r2=>cases r2;exact⟨_,rfl,r1⟩
theorem vals2 {x y:V} {us:List Value} (r:Vals [x,y] us):∃ u w',us=[u,w']/\RelV x u/\RelV y w':=by
 cases r with
 | cons r1 r2 =>
  cases r2 with
  | cons r3 r4=>cases r4;exact⟨_,_,rfl,r1,r3⟩
theorem gR:b9 X (.builtin "abs") (λxs H Q=>∃ i,xs=[.int i]/\Q (.int (if i<0 then -i else i)) H):=by
 intro pins s σ H xs us Q I r h
 obtain⟨i,rfl,q⟩:=h
 obtain⟨u,rfl,t,rfl⟩:=vals1 r
 exact call_abs_int λu tk=>⟨.int (if i<0 then -i else i),H,I.tok _,⟨_,rfl⟩,q⟩
theorem oq (hc:X.calm=true):b9 X (.builtin "min") (λxs H Q=>∃ i j,xs=[.int i,.int j]/\Q (.int (if j<i then j else i)) H):=by
 intro pins s σ H xs us Q I r h
 obtain⟨i,j,rfl,q⟩:=h
 obtain⟨u,w',rfl,⟨t,rfl⟩,⟨t',rfl⟩⟩:=vals2 r
 refine min_two_ints (I.ok.hd hc) λh' tk k=>⟨_,H,I.kept k,?_,q⟩
 by_cases hj:j<i
 ·rw [if_pos hj,if_pos hj];exact⟨_,rfl⟩
 ·rw [if_neg hj,if_neg hj];exact⟨_,rfl⟩
theorem oh:b9 X (.type "int") (λxs H Q=>(∃ i,xs=[.int i]/\Q (.int i) H)∨∃ k,xs=[.bl k]/\Q (.int (if k then 1 else 0)) H):=by
 intro pins s σ H xs us Q I r h
 rcases h with⟨i,rfl,q⟩|⟨k,rfl,q⟩
 ·obtain⟨u,rfl,t,rfl⟩:=vals1 r
  exact call_int_int ⟨.int i,H,I,⟨_,rfl⟩,q⟩
 ·obtain⟨u,rfl,r1⟩:=vals1 r
  cases r1
  exact call_int_bool ⟨.int (if k then 1 else 0),H,I.tok _,⟨_,rfl⟩,q⟩
end
structure vj (h:Heap) (x dx C:Addr) (mA:Str->Option Value):Prop where
 obj:h.get? x=some (PySem.W.instObj C dx)
 ns:h.Ns1 dx mA
 ne:dx≠x
theorem jj {h:Heap} {dx:Addr} {mA:Str->Option Value} (n:h.Ns1 dx mA):∃ od,h.get? dx=some od/\∀ name,PySem.W.lookIn name od=some (mA name):=by
 obtain⟨o,es,ep,ho,hd,hk,_,hm⟩:=n
 refine⟨o,ho,λname=>?_⟩
 have e:=hm name
 unfold nsFind findBy at e
 rw [<- Array.find?_toList] at e
 unfold PySem.W.lookIn
 rw [hd]
 dsimp only
 split
 ·rename_i y q
  rw [q] at e
  exact congrArg some e
 ·rename_i q
  rw [q] at e
  have a:es.toList.any (·.refKey)=false:=by
   rw [List.any_eq_false]
   intro y hy
   obtain⟨z,t,hkey⟩:=hk y (Array.mem_toList_iff.mp hy)
   simp [DictEntry.refKey,hkey]
  have a':¬es.toList.any (·.refKey)=true:=by rw [a];exact Bool.false_ne_true
  rw [if_neg a']
  exact congrArg some e
theorem vj.look {h:Heap} {x dx C:Addr} {mA:Str->Option Value} (I:vj h x dx C mA):∃ od,PySem.W.InstAt h x (PySem.W.instObj C dx) C (some od)/\∀ name,PySem.W.lookIn name od=some (mA name) :=
 let ⟨od,ho,hl⟩:=jj I.ns
 ⟨od,⟨I.obj,rfl,rfl,ho⟩,hl⟩
section
variable {prog:Program} {w:World} {A:Around} {E:Value->Shared->Prop} {s:Shared} {K:PySem.W.Frag} {x dx C f:Addr} {mA:Str->Option Value} {name:Str} {v:Value}
end
def v5 (f:Str) (v:V):List (Str × V)->List (Str × V)
 | []=>[(f,v)]
 | (g,x)::r=>if g=f then (g,v)::r else (g,x)::v5 f v r
theorem dD.some_of {v:V} {o:Option Value} (r:dD (some v) o):∃ u,o=some u/\RelV v u:=by
 cases o with
 | none=>exact (show False from r).elim
 | some u=>exact⟨u,rfl,r⟩
theorem oJ {v:V} {u:Value} (r:RelV v u):PySem.W.handedIn u=true:=by
 cases v with
 | non=>cases (show u=Value.none from r);rfl
 | bl b=>cases (show u=Value.bool b from r);rfl
 | int i=>obtain⟨t,e⟩:=(show ∃ t,u=Value.int i t from r);cases e;rfl
 | str x=>obtain⟨t,e⟩:=(show ∃ t,u=Value.str x t from r);cases e;rfl
 | byt b=>obtain⟨t,e⟩:=(show ∃ t,u=Value.bytes b t from r);cases e;rfl
 | flt b=>obtain⟨t,e⟩:=(show ∃ t,u=Value.float b t from r);cases e;rfl
 | ref a=>cases (show u=Value.ref a from r);rfl
 | ty n=>cases (show u=Value.type n from r);rfl
section
variable {P:Program} {w:World} {H H':Hp} {h h':Heap} {a C dx:Addr} {fs fs':List (Str × V)}
theorem tw (hok:dw P w H h) (e:H a=some (.ins C dx fs)):∃ mA,vj h a dx C mA/\(∀ f,dD (fs.lookup f) (mA f))/\PySem.Within mA (fs.map (·.1))/\fs.length<=1000/\H dx=some (.own a):=by
 obtain⟨d,z,ne,ob,mA,n,r,q⟩:=(show aN P w H h a (.ins C dx fs) from hok a _ e)
 exact⟨mA,⟨ob,n,ne⟩,r,q,z,d⟩
end
structure wA (K:PySem.W.Frag) (C:Addr):Prop where
 pg:PySem.W.plainGet K C Str.empty=true
 hd:PySem.W.hasDictIn K C=true
 po:PySem.W.plainOver K C=true
 sa:PySem.W.findIn K (.ref C) "__setattr__"=some (some (.builtin "object.__setattr__"))
theorem wA.get {K:PySem.W.Frag} {C:Addr} (c:wA K C) (f:Str):PySem.W.plainGet K C f=true:=c.pg
def lV (K:PySem.W.Frag) (C:Addr) (f:Str):Prop:=PySem.W.findIn K (.ref C) f=some none
structure Meth (K:PySem.W.Frag) (C:Addr) (m:Str) (f:Addr):Prop where
 at_:PySem.W.findIn K (.ref C) m=some (some (.ref f))
 fn:PySem.W.isFn K (.ref f)=true
 kp:PySem.W.keepIn K (.ref f)=true
section
variable {X:Cx} {pins:List (Addr × Obj)} {σ:St} {H:Hp} {s:Shared} {a C dx:Addr} {fs:List (Str × V)} {f:Str} {v:V} {A:Around} {E:Value->Shared->Prop}
theorem sM {prog:Program} {w:World} {env:Env} {e:Expr} {f:Str} {pos:Pos} {s:Shared} {Q:Value->Shared->Prop} (hb:attributeBase e f env (eval e env)=eval e env)
  (h:wpAny (model prog w) A (eval e env) (λo s₁=>wpAny (model prog w) A (getAttr o f true) Q E s₁) E s):wpAny (model prog w) A (eval (.Attribute e f pos) env) Q E s :=
 Attribute_any_ h (by rw [arm_eval_Attribute,hb])
end
def yD (K:PySem.W.Frag) (ta:TE) (f:Str):TE:=λσ H Q=>ta σ H λx H1=>∃ a C dx fs v,x=.ref a/\H1 a=some (.ins C dx fs)/\wA K C/\lV K C f/\fs.lookup f=some v/\Q v H1
def yz (K:PySem.W.Frag) (ta tv:TE) (f:Str):TS:=λD σ H=>tv σ H λy H1=>ta σ H1 λx H2=>∃ a C dx fs,x=.ref a/\H2 a=some (.ins C dx fs)/\wA K C/\lV K C f/\fs.length<1000 /\
 D.nx σ (upd H2 a (.ins C dx (v5 f y fs)))
def t7 (K:PySem.W.Frag) (ta tv:TE) (rd:V->V->Hp->VK->Prop) (f:Str):TS:=λD σ H=>ta σ H λx H1=>∃ a C dx fs v,x=.ref a/\H1 a=some (.ins C dx fs)/\wA K C/\lV K C f/\fs.lookup f=some v /\
 tv σ H1 λy H2=>rd v y H2 λz H3=>∃ dx' fs',H3 a=some (.ins C dx' fs')/\fs'.length<1000/\D.nx σ (upd H3 a (.ins C dx' (v5 f z fs')))
section
variable {X:Cx} {o e value:Expr} {f:Str} {pos pos' tpos:Pos} {ta tv:TE}
end
section
variable {X:Cx} {pins:List (Addr × Obj)} {σ:St} {H:Hp} {s:Shared} {A:Around} {E:Value->Shared->Prop} {Q:Value->Shared->Prop} {c:Value} {b:Bool}
inductive eF (K:PySem.W.Frag) (H:Hp):V->Value->Prop where
 | non:eF K H .non (.type "NoneType")
 | bl (x:Bool):eF K H (.bl x) (.type "bool")
 | int (i:Int):eF K H (.int i) (.type "int")
 | str (x:Str):eF K H (.str x) (.type "str")
 | flt (x:UInt64):eF K H (.flt x) (.type "float")
 | lst {a:Addr} {xs:List V} (e:H a=some (.lst xs)):eF K H (.ref a) (.type "list")
 | frz {a:Addr} {o:Obj} {xs:List V} (e:H a=some (.frz o (.lst xs))):eF K H (.ref a) (.type "list")
 | tup {a:Addr} {xs:List V} (e:H a=some (.tup xs)):eF K H (.ref a) (.type "tuple")
 | dK {a:Addr} {kvs:List (Key × V)} (e:H a=some (.dK kvs)):eF K H (.ref a) (.type "dict")
 | dT {a:Addr} {kvs:List (List Key × V)} (e:H a=some (.dT kvs)):eF K H (.ref a) (.type "dict")
 | ins {a C dx:Addr} {fs:List (Str × V)} (e:H a=some (.ins C dx fs)) (cl:wA K C) (ha:PySem.W.findIn K (.ref C) "__class__"=some (some (.builtin "object.__class__")))
   (hn:PySem.W.specialIn K (.builtin "object.__class__") "__get__"=some (some (.builtin "getset_descriptor.__get__"))) (htk:PySem.W.takesIn K (.builtin "object.__class__")=some true)
   (hm:PySem.W.mroIn K C (.type "object")=some true):eF K H (.ref a) (.ref C)
theorem dX {x:V} {u t:Value} (I:Inv X pins σ H s) (rx:RelV x u) (ty:eF X.K H x t) (e:PySem.W.kitOne X.K t c=some b) (h:∀ tk,Q (.bool b) { s with toks:=tk }) :
  wpAny (model X.prog X.w) A (call (.builtin "isinstance") [u,c]) Q E s:=by
 cases ty with
 | non=>cases (show u=Value.none from rx);exact PySem.W.kia_one PySem.W.kitx_none I.cH True.intro e (λz=>nomatch z) h
 | bl y=>cases (show u=Value.bool y from rx);exact PySem.W.kia_one PySem.W.kitx_bool I.cH True.intro e (λz=>nomatch z) h
 | int i=>obtain⟨t,q⟩:=(show ∃ t,u=Value.int i t from rx);cases q;exact PySem.W.kia_one PySem.W.kitx_int I.cH True.intro e (λz=>nomatch z) h
 | str y=>obtain⟨t,q⟩:=(show ∃ t,u=Value.str y t from rx);cases q;exact PySem.W.kia_one PySem.W.kitx_str I.cH True.intro e (λz=>nomatch z) h
 | flt y=>obtain⟨t,q⟩:=(show ∃ t,u=Value.float y t from rx);cases q;exact PySem.W.kia_one PySem.W.kitx_float I.cH True.intro e (λz=>nomatch z) h
 | @lst a xs ea =>
  cases (show u=Value.ref a from rx)
  obtain⟨_,_,n,_,h1⟩:=(show aN X.prog X.w H s.heap a (.lst xs) from I.hok a _ ea)
  exact PySem.W.kia_one PySem.W.kitx_list I.cH ⟨_,h1,rfl⟩ e (λz=>nomatch z) h
 | @frz a ob xs ea =>
  cases (show u=Value.ref a from rx)
  obtain⟨_,_,_,n,_,h1⟩:=(show aN X.prog X.w H s.heap a (.frz ob (.lst xs)) from I.hok a _ ea)
  exact PySem.W.kia_one PySem.W.kitx_list I.cH ⟨_,h1,rfl⟩ e (λz=>nomatch z) h
 | @tup a xs ea =>
  cases (show u=Value.ref a from rx)
  obtain⟨_,_,_,p⟩:=(show aN X.prog X.w H s.heap a (.tup xs) from I.hok a _ ea)
  obtain⟨o,h1,h2,_⟩:=p
  exact PySem.W.kia_one PySem.W.kitx_tuple I.cH ⟨o,h1,h2⟩ e (λz=>nomatch z) h
 | @dK a kvs ea =>
  cases (show u=Value.ref a from rx)
  obtain⟨_,_,vs,_,p⟩:=(show aN X.prog X.w H s.heap a (.dK kvs) from I.hok a _ ea)
  obtain⟨o,es,ep,h1,h2,_⟩:=p
  exact PySem.W.kia_one PySem.W.kitx_dict I.cH ⟨o,h1,h2.1⟩ e (λz=>nomatch z) h
 | @dT a kvs ea =>
  cases (show u=Value.ref a from rx)
  obtain⟨_,_,xs,_,o,es,ep,h1,h2,_⟩:=(show aN X.prog X.w H s.heap a (.dT kvs) from I.hok a _ ea)
  exact PySem.W.kia_one PySem.W.kitx_dict I.cH ⟨o,h1,h2.1⟩ e (λz=>nomatch z) h
 | @ins a C dx fs ea cl ha hn htk hm =>
  cases (show u=Value.ref a from rx)
  obtain⟨mA,O,_⟩:=tw I.hok ea
  obtain⟨od,J,_⟩:=O.look
  exact PySem.W.kia_one (PySem.W.kitx_own (cl.get _) cl.hd ha hn htk hm) I.cH J e (λz=>nomatch z) h
end
structure bF (k:Nat) (A:Around):Prop where
 hd:A.handled=none
 dp:A.depth+3*k+5<recursionLimit
 un:A.units+16*k+200<cLine
 gs:A.guards=some []
theorem bF.mono {j k:Nat} {A:Around} (r:bF k A) (h:j<=k):bF j A:=⟨r.hd,by have:=r.dp;omega,by have:=r.un;omega,r.gs⟩
theorem bF.deeper {k:Nat} {A:Around} (r:bF (k+1) A) (env:Env):bF k (A.deeper env) :=
 ⟨r.hd,by have:=r.dp;show A.depth+1+3*k+5<_;omega,by have:=r.un;show A.units+3+16*k+200<_;omega,r.gs⟩
theorem mw {A:Around} {C:Addr} {us:List Value} {kw:List (Str × Value)}:(A.under (.builtin "type.__call__" ⟨.ref C::us,kw⟩)).depth=A.depth+1:=by
 first | rfl | simp [Around.under,Code.weight,Code.isCreation,Code.isGuard,Code.isCaller,Code.frames,Code.isFrame,guardIds]
theorem mx {A:Around} {C:Addr} {us:List Value} {kw:List (Str × Value)}:(A.under (.builtin "type.__call__" ⟨.ref C::us,kw⟩)).units=A.units+1:=by
 first | rfl | simp [Around.under,Code.cUnits,Code.frames,Code.isFrame]
theorem la {A:Around} {C:Addr} {us:List Value} {kw:List (Str × Value)}:(A.under (.builtin "type.__call__" ⟨.ref C::us,kw⟩)).guards=A.guards:=by
 first | rfl | simp [Around.under,Code.weight,Code.isCreation,Code.isGuard,Code.isCaller,Code.frames,Code.isFrame,guardIds]
theorem bF.make {k:Nat} {A:Around} (r:bF (k+1) A) (C:Addr) (us:List Value) (kw:List (Str × Value)):bF k (A.under (.builtin "type.__call__" ⟨.ref C::us,kw⟩)) :=
 ⟨r.hd,by have:=r.dp;rw [mw];omega,by have:=r.un;rw [mx];omega,by rw [la];exact r.gs⟩
theorem bF.depth {k:Nat} {A:Around} (r:bF k A):A.depth<recursionLimit:=by have:=r.dp;omega
theorem bF.units {k:Nat} {A:Around} (r:bF k A):A.units+64<cLine:=by have:=r.un;omega
def xQ:TA:=λ_ H Q=>Q [] H
def uX (ta:TE) (tr:TA):TA:=λσ H Q=>ta σ H λx H1=>tr σ H1 λxs H2=>Q (x::xs) H2
section
variable {X:Cx} {e:Expr} {es:List Expr} {te:TE} {t:TA} {pos:Pos}
theorem ah:PA X [] xQ:=λ_ _ _ _ H Q I h=>Calls.spliced_nil ⟨[],H,I,.nil,h⟩
theorem aa (ha:PE X e te) (hr:PA X es t) (hs:starEach (e::es) X.env=(false,eval e X.env)::starEach es X.env:=by rfl):PA X (e::es) (uX te t):=by
 intro pos pins s σ H Q I h
 rw [hs]
 show wpAny _ _ (spliced ((false,eval e X.env)::backTo pos (starEach es X.env))) _ _ s
 refine Calls.spliced_cons (a5 (ha pins s σ H _ I h) λu s1 ⟨x,H1,I1,r1,q1⟩=>?_)
 exact a5 (hr pos pins s1 σ H1 _ I1 q1) λus s2 ⟨xs,H2,I2,r2,q2⟩=>⟨x::xs,H2,I2,.cons r1 r2,q2⟩
def xW (t:TA):TE:=λσ H Q=>t σ H λxs H1=>xs.length<=sizeLine/\∀ p,H1 p=none->Q (.ref p) (upd H1 p (.tup xs))
def xM (t:TA):TE:=λσ H Q=>t σ H λxs H1=>xs.length<=sizeLine/\∀ p,H1 p=none->Q (.ref p) (upd H1 p (.lst xs))
theorem cD {x1} (h:PA X es t):PE X (.Tuple es x1 pos) (xW t):=by
 intro pins s σ H Q I hq
 refine wpAny_Tuple_spliced (a5 (h pos pins s σ H _ I hq) λus s1 ⟨xs,H1,I1,r,z,q⟩=>⟨by rw [<- r.length];exact z,?_⟩)
 have hf:H1 s1.heap.objs.size=none:=I1.hok.fresh (Nat.le_refl _)
 refine⟨.ref s1.heap.objs.size,upd H1 s1.heap.objs.size (.tup xs),I1.laid (t':=s1.toks) (λb u e=>Heap.get?_push_of_some _ e) (Nat.le_refl _) ?_,rfl,q _ hf⟩
 exact⟨z,us,r,⟨_,Heap.get?_push_size _ rfl,rfl,_,rfl⟩⟩
theorem bo (h:PA X es t):PE X (.List es pos) (xM t):=by
 intro pins s σ H Q I hq
 refine wpAny_List_spliced (a5 (h pos pins s σ H _ I hq) λus s1 ⟨xs,H1,I1,r,z,q⟩=>⟨by rw [<- r.length];exact z,?_⟩)
 have hf:H1 s1.heap.objs.size=none:=I1.hok.fresh (Nat.le_refl _)
 refine⟨.ref s1.heap.objs.size,upd H1 s1.heap.objs.size (.lst xs),I1.laid (t':=s1.toks) (λb u e=>Heap.get?_push_of_some _ e) (Nat.le_refl _) ?_,rfl,q _ hf⟩
 exact⟨z,us,0,r,Heap.get?_push_size _ rfl⟩
end
abbrev Sp:=List V->Hp->VK->XK->Prop
abbrev gQ:=List Env->Hp->Shared->XK->Value->Shared->Prop
structure lU (P:Program) (w:World) (K:PySem.W.Frag) (mg:Str->Option Value) (base:Heap) (A:Around) (outer:List Env) (s:Shared) (H:Hp):Prop where
 frames:A.frames=some outer
 mod:Mod K mg base
 bs:∀ b o,base.get? b=some o->s.heap.get? b=some o/\H b=none
 bsz:base.objs.size<=s.heap.objs.size
 gg:s.heap.FunFrames base outer
 frf:∀ b∈dB outer,H b=none
 hok:dw P w H s.heap
 bare:AllBare s.gens
def CE (outer:List Env) (P:Program) (w:World) (H:Hp) (s:Shared) (Q:VK) (u:Value) (s':Shared):Prop :=
 ∃ v H',s'.os=s.os/\AllBare s'.gens/\Un (dB outer) [] H H' s.heap s'.heap/\dw P w H' s'.heap/\RelV v u/\Q v H'
def CR (CX:gQ) (outer:List Env) (P:Program) (w:World) (H:Hp) (s:Shared) (Q:VK) (E:XK) (r:Result) (s':Shared):Prop :=
 match r with
 | .ok (.ret u)=>CE outer P w H s Q u s'
 | .ok _=>False
 | .error e=>CX outer H s E e s'
structure bR (P:Program) (w:World) (K:PySem.W.Frag) (mg:Str->Option Value) (base:Heap) (CX:gQ) (k:Nat) (f:Addr) (fd:FuncData) (ps:List Str) (sp:Sp):Prop where
 len:∀ vs H Q E,sp vs H Q E->vs.length=ps.length
 run:∀(A:Around) (outer:List Env) (s:Shared) (H:Hp) (args:Args) (us:List Value) (vs:List V) (Q:VK) (E:XK),bF k A->lU P w K mg base A outer s H->BindsTo s fd args (ps.zip us)->Vals vs us->sp vs H Q E ->
  codeAny (model P w) A (.call (.ref f) args) (CR CX outer P w H s Q E) s
theorem bR.mono {P:Program} {w:World} {K:PySem.W.Frag} {mg:Str->Option Value} {base:Heap} {CX:gQ} {j k:Nat} {f:Addr} {fd:FuncData} {ps:List Str} {sp:Sp} (F:bR P w K mg base CX j f fd ps sp) (h:j<=k) :
  bR P w K mg base CX k f fd ps sp:=⟨F.len,λA outer s H args us vs Q E hr=>F.run A outer s H args us vs Q E (hr.mono h)⟩
theorem bR.imp {P:Program} {w:World} {K:PySem.W.Frag} {mg:Str->Option Value} {base:Heap} {CX:gQ} {k:Nat} {f:Addr} {fd:FuncData} {ps:List Str} {sp sp':Sp} (F:bR P w K mg base CX k f fd ps sp)
  (h:∀ vs H Q E,sp' vs H Q E->sp vs H Q E):bR P w K mg base CX k f fd ps sp' :=
 ⟨λvs H Q E q=>F.len vs H Q E (h _ _ _ _ q),λA outer s H args us vs Q E hr he hb hv hs=>F.run A outer s H args us vs Q E hr he hb hv (h _ _ _ _ hs)⟩
theorem lU.make {P:Program} {w:World} {K:PySem.W.Frag} {mg:Str->Option Value} {base:Heap} {A:Around} {outer:List Env} {s:Shared} {H:Hp} (e:lU P w K mg base A outer s H) (C:Addr) (us:List Value) (kw:List (Str × Value)) :
  lU P w K mg base (A.under (.builtin "type.__call__" ⟨.ref C::us,kw⟩)) outer s H:=⟨by first | exact e.frames | (simpa [Around.under,Code.envs,Code.isFrame,pushEnvs] using e.frames),e.mod,e.bs,e.bsz,e.gg,e.frf,e.hok,e.bare⟩
section
variable {X:Cx} {pins:List (Addr × Obj)} {σ:St} {H:Hp} {s s':Shared}
theorem Inv.sT (I:Inv X pins σ H s):lU X.prog X.w X.K X.mg X.base X.A X.stack s H :=
 ⟨I.ok.frames,I.ok.mod,I.bs,Nat.le_trans I.ok.bsz I.sz,I.stack,I.cQ,I.hok,I.bare⟩
theorem Inv.after {Q:VK} {u:Value} (I:Inv X pins σ H s) (h:CE X.stack X.prog X.w H s Q u s'):EP X pins σ Q u s':=by
 obtain⟨v,H',os,bare,un,hok,r,q⟩:=h
 obtain⟨hh,g,d,t,os'⟩:=s'
 obtain rfl:os'=s.os:=os
 exact⟨v,H',I.call (h':=hh) (g':=g) (d':=d) (t':=t) (ch:=[]) un hok bare (λb z=>absurd z (by simp)),r,q⟩
end
def nX (sp:Sp) (aX:List V) (E:XK) (t:TA):TE:=λσ H Q=>t σ H λvs H1=>sp (vs++aX) H1 Q E
def xP (C:Addr) (m:Str) (sp:Sp) (aX:List V) (E:XK) (ta:TE) (t:TA):TE:=λσ H Q=>ta σ H λx H1=>∃ a dx fs,x=.ref a/\H1 a=some (.ins C dx fs)/\fs.lookup m=none /\
 t σ H1 λvs H2=>sp (x::(vs++aX)) H2 Q E
def xO (C:Addr) (sp:Sp) (aX:List V) (E:XK) (t:TA):TE:=λσ H Q=>t σ H λvs H1=>∀ x dx,H1 x=none->H1 dx=none->dx≠x ->
 sp (.ref x::(vs++aX)) (upd (upd H1 dx (.own x)) x (.ins C dx [])) (λv H2=>v=.non/\Q (.ref x) H2) E
def Binds (K:PySem.W.Frag) (fd:FuncData) (ps:List Str) (ds:List Value):Prop :=
 ∀(s:Shared) (us:List Value),K.In s.heap->(us++ds).length=ps.length->BindsTo s fd ⟨us,[]⟩ (ps.zip (us++ds))
theorem Binds.all {K:PySem.W.Frag} {fd:FuncData} {ps:List Str} (h:∀ us:List Value,us.length=ps.length->bindArgs fd ⟨us,[]⟩=pure (ps.zip us)):Binds K fd ps []:=λs us _ hl=>by
 rw [List.append_nil] at hl ⊢
 exact .of_eq (h us hl)
def Passes (CX:gQ) (X:Cx) (E:XK):Prop:=∀(pins:List (Addr × Obj)) (σ:St) (H:Hp) (s:Shared) (e:Value) (s':Shared),Inv X pins σ H s->CX X.stack H s E e s'->X.xe e s'
section
variable {X:Cx} {CX:gQ} {k:Nat} {f C:Addr} {fd:FuncData} {ps:List Str} {sp:Sp} {aX:List V} {ds:List Value} {E:XK} {x m:Str} {p pos apos:Pos} {e o:Expr} {es:List Expr} {ta:TE} {t:TA}
theorem wc {pins:List (Addr × Obj)} {σ:St} {H:Hp} {s:Shared} {Q:VK} {us:List Value} {vs:List V} (F:bR X.prog X.w X.K X.mg X.base CX k f fd ps sp) (hr:bF k X.A) (hb:Binds X.K fd ps ds) (hd:Vals aX ds) (hx:Passes CX X E)
  (I:Inv X pins σ H s) (r:Vals vs us) (h:sp (vs++aX) H Q E):wpAny (model X.prog X.w) X.A (call (.ref f) us) (EP X pins σ Q) X.xe s:=by
 have r2:Vals (vs++aX) (us++ds):=r.append hd
 have hl:(us++ds).length=ps.length:=by rw [<- r2.length];exact F.len _ _ _ _ h
 refine wpAny_call (codeAny_mono (F.run X.A X.stack s H ⟨us,[]⟩ (us++ds) (vs++aX) Q E hr I.sT (hb s us I.cH hl) r2 h) λr s' hq=>?_)
 cases r with
 | error e=>exact hx pins σ H s e s' I hq
 | ok fl =>
  cases fl with
  | ret u=>exact I.after hq
  | next=>exact False.elim hq
  | brk=>exact False.elim hq
  | cont=>exact False.elim hq
theorem tW (F:bR X.prog X.w X.K X.mg X.base CX k f fd ps sp) (hr:bF k X.A) (hg:Gl X x) (hm:X.mg x=some (.ref f)) (hk:PySem.W.keepIn X.K (.ref f)=true) (hb:Binds X.K fd ps ds) (hd:Vals aX ds) (hx:Passes CX X E)
  (ha:PA X (e::es) t) (hdb:(x==("__debug__":Str))=false:=by decide) (he:starEach (e::es) X.env=(false,eval e X.env)::starEach es X.env:=by rfl) (hpl:(backTo pos (starEach es X.env)).any (·.1)=false:=by rfl) :
  PE X (.Call (.Name x p) (e::es) [] pos) (nX sp aX E t):=by
 intro pins s σ H Q I h
 refine wpAny_Call_Name_kw (cI I hg hm ?_ hdb)
 refine PySem.W.callWith_K (h₀:=X.base) I.ok.mod.kin hk (a5 (ha pos pins s σ H _ I h) λus s1 ⟨vs,H1,I1,r,q⟩=>⟨I1.cH,?_⟩) he hpl
 exact wc F hr hb hd hx I1 r q
end
section
variable {X:Cx} {CX:gQ} {k:Nat} {f C:Addr} {fd:FuncData} {ps ks:List Str} {sp:Sp} {E:XK} {x m:Str} {p pos apos kpos:Pos} {e o:Expr} {es:List Expr} {kws:List Keyword} {te ta:TE} {t tk:TA} {nm:Option Str}
variable {g:List Value->List Value->List Value} {gV:List V->List V->List V}
end
structure az (N P:List Str) (sc:Scope):Prop where
 kind:sc.kind=.function
 co:sc.isCoroutine=false
 gen:sc.isGenerator=false
 nd:N.Nodup
 pre:N.take P.length=P
 par:∀ x∈P,sc.names.lookup x=some .local∨sc.names.lookup x=some .cell
 nofree:∀ y∈sc.names,y.2≠.free
theorem i5 {kindOf:Str->Option NameKind} {x:Str}:∀{binds:List (Str × Value)} {m:Str->Option Value},(∀ v,(x,v)∉binds)->bindL kindOf binds m x=m x
 | [],_,_=>rfl
 | (n,v)::r,m,h=>by
  unfold bindL
  rw [i5 λw hw=>h w (List.mem_cons_of_mem _ hw)]
  split
  ·have:x≠n:=by rintro rfl;exact h v List.mem_cons_self
   simp [this]
  ·rfl
theorem i3 {kindOf:Str->Option NameKind} {x:Str}:∀{binds:List (Str × Value)} {m:Str->Option Value},(∀ v,(x,v)∉binds)->bindC kindOf binds m x=m x
 | [],_,_=>rfl
 | (n,v)::r,m,h=>by
  unfold bindC
  rw [i3 λw hw=>h w (List.mem_cons_of_mem _ hw)]
  split
  ·rfl
  ·have:x≠n:=by rintro rfl;exact h v List.mem_cons_self
   simp [this]
theorem i4 {kindOf:Str->Option NameKind} {x:Str} {v:Value}:∀{P:List Str} {vs:List Value} {i:Nat} {m:Str->Option Value},P.Nodup->P[i]?=some x->vs[i]?=some v->kindOf x=some .local ->
  bindL kindOf (P.zip vs) m x=some v
 | [],_,_,_,_,h,_,_=>by simp at h
 | _::_,[],_,_,_,_,h,_=>by simp at h
 | p::P,w::vs,0,m,nd,h1,h2,hk=>by
  simp at h1 h2;subst h1;subst h2
  show bindL kindOf ((p,w)::P.zip vs) m p=_
  unfold bindL
  rw [i5 λv hv=>(List.nodup_cons.mp nd).1 (List.of_mem_zip hv).1,if_pos hk]
  simp
 | p::P,w::vs,i+1,m,nd,h1,h2,hk=>by
  show bindL kindOf ((p,w)::P.zip vs) m x=_
  unfold bindL
  exact i4 (i:=i) (List.nodup_cons.mp nd).2 (by simpa using h1) (by simpa using h2) hk
theorem iZ {kindOf:Str->Option NameKind} {x:Str} {v:Value}:∀{P:List Str} {vs:List Value} {i:Nat} {m:Str->Option Value},P.Nodup->P[i]?=some x->vs[i]?=some v->kindOf x≠some .local ->
  bindC kindOf (P.zip vs) m x=some v
 | [],_,_,_,_,h,_,_=>by simp at h
 | _::_,[],_,_,_,_,h,_=>by simp at h
 | p::P,w::vs,0,m,nd,h1,h2,hk=>by
  simp at h1 h2;subst h1;subst h2
  show bindC kindOf ((p,w)::P.zip vs) m p=_
  unfold bindC
  rw [i3 λv hv=>(List.nodup_cons.mp nd).1 (List.of_mem_zip hv).1,if_neg hk]
  simp
 | p::P,w::vs,i+1,m,nd,h1,h2,hk=>by
  show bindC kindOf ((p,w)::P.zip vs) m x=_
  unfold bindC
  exact iZ (i:=i) (List.nodup_cons.mp nd).2 (by simpa using h1) (by simpa using h2) hk
def start (N:List Str) (vs:List V):St:=vs.map some++List.replicate (N.length-vs.length) none
def dh (CX:gQ) (P:Program) (w:World) (K:PySem.W.Frag) (mg:Str->Option Value) (base:Heap) (N:List Str) (qual:Str) (scope:Scope) (f:Addr) (cd:Value) (A:Around) (outer:List Env) (s:Shared) (H:Hp) (E:XK):Cx where
 prog:=P
 w:=w
 K:=K
 mg:=mg
 base:=base
 A:=A.deeper (envOfC qual scope s.heap.objs.size f cd)
 N:=N
 s₀:=s
 H₀:=H
 env:=envOfC qual scope s.heap.objs.size f cd
 outer:=outer
 stack:=envOfC qual scope s.heap.objs.size f cd::outer
 ex:=[]
 calm:=true
 fn:=λ_=>true
 pn:=[]
 xe:=λe s'=>wpAny (model P w) (A.deeper (envOfC qual scope s.heap.objs.size f cd)) (leaving (envOfC qual scope s.heap.objs.size f cd) e) (λ_ s''=>CX outer H s E e s'') (λe' s''=>CX outer H s E e' s'') s'
theorem kH {sc:Scope} {n:Nat} {x:Str} (h:sc.names.lookup x=some .cell):∃ c,(cellsFrom n sc.names []).lookup x=some c:=by
 have q:=PySem.W.cellsFrom_some sc.names n [] (.inl h)
 exact Option.isSome_iff_exists.mp q
theorem oQ {CX:gQ} {P:Program} {w:World} {K:PySem.W.Frag} {mg:Str->Option Value} {base:Heap} {N ps:List Str} {qual:Str} {scope:Scope} {f:Addr} {cd:Value} {A:Around} {outer:List Env} {s s1:Shared} {H:Hp} {E:XK} {us:List Value} {vs:List V}
  (S:az N ps scope) (hd:A.handled=none) (e0:lU P w K mg base A outer s H) (hl:vs.length=ps.length) (r:Vals vs us)
  (x:InCallC s s.heap.objs.size (bindL (envOfC qual scope s.heap.objs.size f cd).kindOf (ps.zip us) λ_=>none) (cellsFrom (s.heap.objs.size+1) scope.names []) (bindC (envOfC qual scope s.heap.objs.size f cd).kindOf (ps.zip us) λ_=>none) s1) :
  Inv (dh CX P w K mg base N qual scope f cd A outer s H E) [] (start N vs) H s1:=by
 have hpl:ps.length<=N.length:=by have:=congrArg List.length S.pre;rw [List.length_take] at this;omega
 obtain⟨h1,tk,rfl,hk⟩:=x.done
 have noA:∀ b:Addr,b∉(dh CX P w K mg base N qual scope f cd A outer s H E).ex:=λb z=>absurd (show b∈([]:List Addr) from z) (by simp)
 refine⟨⟨e0.mod,S.kind,rfl,rfl,Nat.le_refl _,λy z c h1 h2=>?_,λy hy=>?_,λy c _ h=>?_,λ_=>hd,Around.frames_deeper e0.frames,.inr ⟨rfl,rfl⟩,λb z=>absurd z (noA b),e0.bs,e0.bsz,λb _ _=>noA b,λb z=>absurd z (noA b),e0.gg,e0.frf⟩,
  rfl,e0.bare,Un.kept hk,⟨_,x.toInCall.ns,λi y v h1 h2 h3=>?_⟩,λy c h=>⟨_,x.cell y c h⟩,e0.hok.fresh (Nat.le_refl _),λy c h=>?_,λp hp=>absurd (show p∈([]:List (Addr × Obj)) from hp) (by simp),e0.hok.kept hk,?_⟩
 ·exact name_of_addr x.apart (PySem.mem_of_lookup h1) (PySem.mem_of_lookup h2)
 ·have hy:scope.names.lookup y=some .cell∨scope.names.lookup y=some .free:=hy
  rcases hy with hy | hy
  ·exact kH hy
  ·exact absurd rfl (S.nofree _ (PySem.mem_of_lookup hy))
 ·exact Nat.le_of_lt (x.above y c (PySem.mem_of_lookup h))
 ·have hi:i<vs.length:=by
   unfold start at h2
   by_cases hi:i<vs.length
   ·exact hi
   ·rw [List.getElem?_append_right (by simpa using hi)] at h2
    rw [List.getElem?_replicate] at h2
    split at h2<;>cases h2
  have ha:vs[i]?=some v:=by
   unfold start at h2
   rw [List.getElem?_append_left (by simpa using hi),List.getElem?_map] at h2
   cases e:vs[i]? with
   | none=>rw [e] at h2;cases h2
   | some a=>rw [e] at h2;cases h2;rfl
  obtain⟨u,hu,rv⟩:=r.get ha
  have hp:ps[i]?=some y:=by
   rw [<- S.pre,List.getElem?_take_of_lt (by omega)];exact h1
  have ndP:ps.Nodup:=by rw [<- S.pre];exact S.nd.sublist (List.take_sublist _ _)
  refine⟨u,rv,?_⟩
  rcases S.par y (List.mem_of_getElem? hp) with k | k
  ·exact .inl ⟨k,i4 ndP hp hu k⟩
  ·obtain⟨c,e⟩:=kH (n:=s.heap.objs.size+1) k
   refine .inr ⟨.inl k,c,e,?_⟩
   have q:=x.cell y c e
   rw [iZ ndP hp hu (by show scope.names.lookup y≠_;rw [k];decide)] at q
   exact q
 ·exact e0.hok.fresh (Nat.le_of_lt (x.above y c (PySem.mem_of_lookup h)))
 ·unfold start
  show _=N.length
  rw [List.length_append,List.length_map,List.length_replicate]
  omega
theorem uz {CX:gQ} {P:Program} {w:World} {K:PySem.W.Frag} {mg:Str->Option Value} {base:Heap} {k:Nat} {f:Addr} {name qual:Str} {params:Arguments} {body:List Stmt} {scope:Scope} {dV kV doc pm cdv ct oc:Value} {an od:Option Addr}
  {osl:Array (Option Value)} {N ps:List Str} {sp:Sp} (lk:K.lookup f=some ⟨oc,od,.func (PySem.W.fnOf name qual params body scope dV kV doc pm an cdv ct),osl⟩) (hcd:PySem.W.codeIn K cdv qual=true) (S:az N ps scope)
  (len:∀ vs H Q E,sp vs H Q E->vs.length=ps.length)
  (hbody:∀(A:Around) (outer:List Env) (s:Shared) (H:Hp) (vs:List V) (Q:VK) (E:XK),bF k (A.deeper (envOfC qual scope s.heap.objs.size f cdv))->sp vs H Q E ->
   ∃ t,fZ (dh CX P w K mg base N qual scope f cdv A outer s H E) body t/\t { nx:=λ_ H'=>Q .non H',rt:=Q } (start N vs) H) :
  bR P w K mg base CX (k+1) f (PySem.W.fnOf name qual params body scope dV kV doc pm an cdv ct) ps sp:=by
 refine⟨len,λA outer s H args us vs Q E hr e0 hb r hsp=>?_⟩
 have hl:=len _ _ _ _ hsp
 have KX:K.In s.heap:=e0.mod.kin.keeps λb o e=>(e0.bs b o e).1
 have lim:s.heap.NoLimit:=e0.mod.nolimit.keeps λb o e=>(e0.bs b o e).1
 have hkind:∀ y∈ps.zip us,scope.names.lookup y.1=some .local∨(scope.names.lookup y.1=some .cell/\((cellsFrom (s.heap.objs.size+1) scope.names []).lookup y.1).isSome=true):=fun⟨n,v⟩ hy=>by
  rcases S.par n (List.of_mem_zip hy).1 with q | q
  ·exact .inl q
  ·exact .inr ⟨q,PySem.W.cellsFrom_some _ _ _ (.inl q)⟩
 refine codeAny_call_function hr.depth (KX _ _ lk) rfl S.co S.gen rfl (PySem.W.codeRec_of KX hcd) (hb _ _ _ _ ?_)
 refine wpAny_newFunctionEnv_cells S.kind hkind λenv he s1 x=>?_
 subst he
 refine⟨lim.keeps x.toInCall.keep,codeAny_func ?_⟩
 obtain⟨t,ht,hq⟩:=hbody A outer s H vs Q E (hr.deeper _) hsp
 have I:Inv (dh CX P w K mg base N qual scope f cdv A outer s H E) [] (start N vs) H s1:=oQ S hr.hd e0 hl r x
 refine wpAny_mono (ht [] s1 (start N vs) H _ I hq) (λfl s' hs=>?_) λe s' hs=>hs
 have fin:∀{σ':St} {H':Hp} {v:V} {u:Value},Inv (dh CX P w K mg base N qual scope f cdv A outer s H E) [] σ' H' s'->RelV v u->Q v H'->CE outer P w H s Q u s' :=
  λ{σ' H' v u} J rv q=>⟨v,H',J.os,J.bare,J.base,J.hok,rv,q⟩
 cases fl with
 | ret u =>
  obtain⟨v,σ',H',J,rv,q⟩:=hs
  exact fin J rv q
 | next =>
  obtain⟨σ',H',J,q⟩:=hs
  exact fin (v:=V.non) (u:=Value.none) J rfl q
 | brk =>
  obtain⟨_,_,_,q⟩:=hs
  exact False.elim q
 | cont =>
  obtain⟨_,_,_,q⟩:=hs
  exact False.elim q
section
variable {X:Cx} {x:Str} {p pos:Pos} {e:Expr} {es:List Expr} {t:TA} {id T:String} {r:List V->Hp->VK->Prop}
def yA (r:List V->Hp->VK->Prop) (t:TA):TE:=λσ H Q=>t σ H λvs H1=>r vs H1 Q
theorem aE (hc:b9 X (.builtin id) r) (hg:Gl X x) (hm:X.mg x=none) (hv:bootBuiltins x=some (.builtin id)) (ha:PA X (e::es) t) (hn:x ≠ "__name__":=by decide) (hdb:(x==("__debug__":Str))=false:=by decide)
  (he:starEach (e::es) X.env=(false,eval e X.env)::starEach es X.env:=by rfl) (hpl:(backTo pos (starEach es X.env)).any (·.1)=false:=by rfl):PE X (.Call (.Name x p) (e::es) [] pos) (yA r t):=by
 intro pins s σ H Q I h
 refine wpAny_Call_Name_kw (gh I hg hm hv ?_ hn hdb)
 exact PyProof.Rows.callWith_builtin1 (a5 (ha pos pins s σ H _ I h) λus s1 ⟨vs,H1,I1,r1,q1⟩=>hc pins s1 σ H1 vs us Q I1 r1 q1) he hpl
theorem cq (hc:b9 X (.type T) r) (hg:Gl X x) (hm:X.mg x=none) (hv:bootBuiltins x=some (.type T)) (ha:PA X (e::es) t) (hn:x ≠ "__name__":=by decide) (hdb:(x==("__debug__":Str))=false:=by decide)
  (he:starEach (e::es) X.env=(false,eval e X.env)::starEach es X.env:=by rfl) (hpl:(backTo pos (starEach es X.env)).any (·.1)=false:=by rfl):PE X (.Call (.Name x p) (e::es) [] pos) (yA r t):=by
 intro pins s σ H Q I h
 refine wpAny_Call_Name_kw (gh I hg hm hv ?_ hn hdb)
 exact PyProof.Rows.callWith_type1 (a5 (ha pos pins s σ H _ I h) λus s1 ⟨vs,H1,I1,r1,q1⟩=>hc pins s1 σ H1 vs us Q I1 r1 q1) he hpl
end
end L2
namespace HT
open PySem PyProof.Rows
section
open PySem.SeqAt
open PySem.AutoSeq1 (wpAny_loadPart')
open PySem.MeetsSeq PySem.MeetsSeq2 PySem.MeetsSeq3
end
section
variable {prog:Program} {w:World} {A:Around} {E:Value->Shared->Prop} {s:Shared}
def iV (n d:Nat):Option Int->Nat
 | none=>d
 | some v=>if v<0 then (v+(n:Int)).toNat else min v.toNat n
end
end HT
namespace L2
open PySem PySem.Spec PyProof.Rows
abbrev TO:=St->Hp->(Option Int->Hp->Prop)->Prop
def PO (X:Cx) (e:Option Expr) (t:TO):Prop :=
 ∀(pins:List (Addr × Obj)) (s:Shared) (σ:St) (H:Hp) (Q:Option Int->Hp->Prop),Inv X pins σ H s->t σ H Q ->
  wpAny (model X.prog X.w) X.A (evalPart e X.env) (λu s'=>∃ o H',Inv X pins σ H' s'/\IsPart u o/\Q o H') X.xe s
def nY:TO:=λ_ H Q=>Q none H
def va (t:TE):TO:=λσ H Q=>t σ H λx H1=>∃ i,x=.int i/\Q (some i) H1
section
variable {X:Cx} {e:Expr} {te:TE} {lo hi:Option Expr} {tl th:TO} {pos p2:Pos}
theorem nG:PO X none nY:=by
 intro pins s σ H Q I h
 rw [evalPart_none]
 exact wpAny_pure ⟨none,H,I,.none,h⟩
theorem gL (h:PE X e te):PO X (some e) (va te):=by
 intro pins s σ H Q I hw
 rw [evalPart_some]
 refine a5 (h pins s σ H _ I hw) λu s1 ⟨x,H1,I1,r1,q1⟩=>?_
 obtain⟨i,rfl,q⟩:=q1
 obtain⟨t,rfl⟩:=r1
 exact⟨some i,H1,I1,.int i t,q⟩
def yP (X:Cx) (r:V->Option Int->Option Int->Hp->VK->Prop):Prop :=
 ∀(pins:List (Addr × Obj)) (s:Shared) (σ:St) (H:Hp) (x:V) (v vl vu:Value) (lo hi:Option Int) (sl:Addr) (Q:VK),Inv X pins σ H s->RelV x v->s.heap.IsSliceOf sl vl vu .none->IsPart vl lo->IsPart vu hi->r x lo hi H Q ->
  ∃ T id,typeLookup (.type T) "__getitem__"=pure (some (.builtin id))/\s.TypeIs v T/\wpAny (model X.prog X.w) X.A (getItem v (.ref sl)) (EP X pins σ Q) X.xe s
def y4 (r:V->Option Int->Option Int->Hp->VK->Prop) (te:TE) (tl th:TO):TE:=λσ H Q=>te σ H λx H1=>tl σ H1 λl H2=>th σ H2 λu H3=>r x l u H3 Q
theorem iB {r:V->Option Int->Option Int->Hp->VK->Prop} (hr:yP X r) (he:PE X e te) (hl:PO X lo tl) (hu:PO X hi th):PE X (.Subscript e (.Slice lo hi none p2) pos) (y4 r te tl th):=by
 intro pins s σ H Q I h
 refine Subscript_ (a5 (he pins s σ H _ I h) λv s1 ⟨x,H1,I1,r1,q1⟩=>?_)
 refine wpAny_Slice (a5 (hl pins s1 σ H1 _ I1 q1) λvl s2 ⟨l,H2,I2,pl,q2⟩=>a5 (hu pins s2 σ H2 _ I2 q2) λvu s3 ⟨u,H3,I3,pu,q3⟩=>?_)
 rw [evalPart_none]
 refine wpAny_pure ?_
 have I4:Inv X pins σ H3 { s3 with heap:=s3.heap.push { cls:=.type "slice",data:=.fields #[vl,vu,.none] } }:=I3.kept (t':=s3.toks) λb ob q=>Heap.get?_push_of_some _ q
 obtain⟨T,id,hT,ht,hg⟩:=hr pins { s3 with heap:=s3.heap.push { cls:=.type "slice",data:=.fields #[vl,vu,.none] } } σ H3 x v vl vu l u s3.heap.objs.size Q I4 r1 (Heap.IsSliceOf.new ..) pl pu q3
 show wpAny (model X.prog X.w) X.A (subscriptTail e (.Slice lo hi none p2) v (.ref s3.heap.objs.size)) (EP X pins σ Q) X.xe { s3 with heap:=s3.heap.push { cls:=.type "slice",data:=.fields #[vl,vu,.none] } }
 exact tail_any (ops:=[.ref s3.heap.objs.size,v]) ht hT hg (by with_unfolding_all rfl)
def dF (xs:List V) (lo hi:Option Int):List V:=(xs.drop (HT.iV xs.length 0 lo)).take (HT.iV xs.length xs.length hi-HT.iV xs.length 0 lo)
theorem kK (xs:List V) (lo hi:Option Int):(dF xs lo hi).length<=xs.length:=by
 unfold dF
 rw [List.length_take,List.length_drop]
 omega
end
def qJ (n:Nat) (i:Int):Option Nat:=if 0<=i then (if i<n then some i.toNat else none) else if -(n:Int)<=i then some (i+n).toNat else none
def kF {α:Type} (xs:List α) (i:Int):Option α:=(qJ xs.length i).bind λj=>xs[j]?
theorem tF {n:Nat} {i:Int} {j:Nat} (h:qJ n i=some j):seqIndex? i n=some j/\j<n /\ -(n:Int)<=i/\i<n:=by
 unfold qJ at h
 by_cases h0:0<=i
 ·rw [if_pos h0] at h
  by_cases h1:i<n
  ·rw [if_pos h1] at h
   have e:i.toNat=j:=Option.some.inj h
   exact⟨by rw [seqIndex_of h0 h1,e],by omega,by omega,h1⟩
  ·rw [if_neg h1] at h;cases h
 ·rw [if_neg h0] at h
  by_cases h1:-(n:Int)<=i
  ·rw [if_pos h1] at h
   have e:(i+n).toNat=j:=Option.some.inj h
   exact⟨by rw [seqIndex_neg (by omega) h1,e],by omega,h1,by omega⟩
  ·rw [if_neg h1] at h;cases h
theorem mZ {α:Type} {xs:List α} {i:Int} {v:α} (h:kF xs i=some v):∃ j,seqIndex? i xs.length=some j/\xs[j]?=some v/\j<xs.length /\ -(xs.length:Int)<=i/\i<xs.length:=by
 unfold kF at h
 cases e:qJ xs.length i with
 | none=>rw [e] at h;cases h
 | some j =>
  rw [e] at h
  obtain⟨h1,h2,h3,h4⟩:=tF e
  exact⟨j,h1,h,h2,h3,h4⟩
theorem sL {α:Type} {xs:List α} {j:Nat} {v:α} (h:xs[j]?=some v):kF xs (j:Int)=some v:=by
 have hj:j<xs.length:=(List.getElem?_eq_some_iff.mp h).1
 have e:qJ xs.length (j:Int)=some j:=by
  unfold qJ
  rw [if_pos (by omega),if_pos (by omega)];simp
 unfold kF;rw [e];exact h
theorem pV {α:Type} (xs:List α) (v:α):kF (xs++[v]) (-1)=some v:=by
 have hl:(xs++[v]).length=xs.length+1:=by simp
 have e:qJ (xs++[v]).length (-1)=some xs.length:=by
  unfold qJ
  rw [hl,if_neg (by decide),if_pos (by omega)]
  congr 1
  omega
 unfold kF
 rw [e]
 show (xs++[v])[xs.length]?=some v
 simp
def sC (b:Expr):Prop:=∀ o i,subscripted b false o i=operate [o,i] (getItem o i)
def x4 (X:Cx) (r:R2):Prop :=
 ∀(value slice:Expr) (pins:List (Addr × Obj)) (s:Shared) (σ:St) (H:Hp) (x y:V) (v u:Value) (Q:VK),Inv X pins σ H s->RelV x v->RelV y u->r x y H Q ->
  subscripted slice false v u=operate [v,u] (getItem v u)->wpAny (model X.prog X.w) X.A (subscriptTail value slice v u) (EP X pins σ Q) X.xe s
def x5 (X:Cx) (id:String) (r:V->List V->Hp->VK->Prop):Prop :=
 ∀(pins:List (Addr × Obj)) (s:Shared) (σ:St) (H:Hp) (x:V) (xs:List V) (v:Value) (us:List Value) (Q:VK),Inv X pins σ H s->RelV x v->Vals xs us->r x xs H Q ->
  wpAny (model X.prog X.w) X.A (call (.builtin id) (v::us)) (EP X pins σ Q) X.xe s
section
variable {X:Cx} {a b:Expr} {ta tb:TE} {pos:Pos}
theorem aG {r:R2} (hr:x4 X r) (ha:PE X a ta) (hb:PE X b tb) (hs:sC b):PE X (.Subscript a b pos) (xT r ta tb):=by
 intro pins s σ H Q I h
 exact Subscript_ (vt ha hb I h λv u s2 x y H2 I2 rx ry q=>hr a b pins s2 σ H2 x y v u Q I2 rx ry q (hs _ _))
def v7 (K:PySem.W.Frag):R2:=λx y H Q=>∃ p xs i v,x=.ref p/\y=.int i/\aW K H p xs/\kF xs i=some v/\Q v H
def v8 (K:PySem.W.Frag):R2:=λx y H Q=>∃ p xs i v,x=.ref p/\y=.int i/\cF K H p xs/\kF xs i=some v/\Q v H
theorem aO:x4 X (v7 X.K):=by
 intro value slice pins s σ H x y v u Q I rx ry h hs
 obtain⟨p,xs,i,z,rfl,rfl,hq,he,q⟩:=h
 cases rx
 obtain⟨t,rfl⟩:=ry
 obtain⟨its,r,pl,hz⟩:=I.list hq
 obtain⟨j,h1,h2,h3,h4,h5⟩:=mZ he
 obtain⟨w,ew,rw'⟩:=r.get h2
 have hl:=r.length
 have hn:=jW
 have fin:EP X pins σ Q w s:=⟨z,H,I,rw',q⟩
 by_cases h0:0<=i
 ·have hj:i.toNat=j:=by
   rw [seqIndex_of h0 h5] at h1
   exact Option.some.inj h1
  exact item_listR pl.isList h0 (by omega) (by rw [hj];simpa using ew) fin hs
 ·have hj:(i+(its.toArray.size:Int)).toNat=j:=by
   rw [seqIndex_neg (by omega) h4] at h1
   rw [List.size_toArray,<- hl]
   exact Option.some.inj h1
  exact subscriptTail_builtinR (x:=w) pl.isList.typeIs slot_list_getitem.lookup
   (wpAny_getItem_list_neg (Q:=λr s'=>r=w/\EP X pins σ Q r s') pl.isList (by omega) (by rw [List.size_toArray]<;>omega) (by omega) (by rw [hj];simpa using ew) ⟨rfl,fin⟩) hs
theorem aU:x4 X (v8 X.K):=by
 intro value slice pins s σ H x y v u Q I rx ry h hs
 obtain⟨p,xs,i,z,rfl,rfl,hq,he,q⟩:=h
 cases rx
 obtain⟨t,rfl⟩:=ry
 obtain⟨its,r,pl,hz⟩:=I.tuple hq
 obtain⟨j,h1,h2,h3,h4,h5⟩:=mZ he
 obtain⟨w,ew,rw'⟩:=r.get h2
 have hl:=r.length
 have hn:=jW
 have fin:EP X pins σ Q w s:=⟨z,H,I,rw',q⟩
 exact subscriptTail_builtinR (x:=w) pl.typeIs slot_tuple_getitem.lookup
  (getItem_tuple (j:=j) (Q:=λr s'=>r=w/\EP X pins σ Q r s') pl (by omega) (by omega) (by rw [List.size_toArray,<- hl];exact h1) (by simpa using ew) ⟨rfl,fin⟩) hs
theorem Inv.lst {pins:List (Addr × Obj)} {σ:St} {H:Hp} {s:Shared} {p:Addr} {xs:List V} (I:Inv X pins σ H s) (h:H p=some (.lst xs)) :
  ∃(its:List Value) (n:Nat),Vals xs its/\s.heap.get? p=some { cls:=.type "list",data:=.seq its.toArray n }/\xs.length<=sizeLine:=by
 obtain⟨z,its,n,r,e⟩:=I.hok p _ h
 exact⟨its,n,r,e,z⟩
theorem kj (lo hi:Option Int) (n:Nat):(sliceBounds lo hi none n).1=((HT.iV n 0 lo:Nat):Int)/\(sliceBounds lo hi none n).2.1=((HT.iV n n hi:Nat):Int)/\(sliceBounds lo hi none n).2.2=1:=by
 refine⟨?_,?_,rfl⟩
 ·cases lo with
  | none=>simp [sliceBounds,HT.iV]
  | some i =>
   simp only [sliceBounds,HT.iV,Option.getD_none,show (1:Int) > 0 by decide,if_true]
   by_cases h:i<0
   ·simp only [h,if_true]<;>omega
   ·simp only [h,if_false]<;>omega
 ·cases hi with
  | none=>simp [sliceBounds,HT.iV]
  | some i =>
   simp only [sliceBounds,HT.iV,Option.getD_none,show (1:Int) > 0 by decide,if_true]
   by_cases h:i<0
   ·simp only [h,if_true]<;>omega
   ·simp only [h,if_false]<;>omega
theorem iW (its:List Value) (lo hi:Option Int):slicePick its.toArray lo hi none=((its.drop (HT.iV its.length 0 lo)).take (HT.iV its.length its.length hi-HT.iV its.length 0 lo)).toArray:=by
 obtain⟨h1,h2,h3⟩:=kj lo hi its.toArray.size
 unfold slicePick
 rw [h1,h2,h3]
 simp only [sliceRange_one,pick_run,List.size_toArray]<;>rfl
def yy (K:PySem.W.Frag):V->Option Int->Option Int->Hp->VK->Prop:=λx lo hi H Q=>∃ a xs,x=.ref a/\aW K H a xs/\∀ p,H p=none->Q (.ref p) (upd H p (.lst (dF xs lo hi)))
theorem ki:yP X (yy X.K):=by
 intro pins s σ H x v vl vu lo hi sl Q I rx hs pl pu h
 obtain⟨a,xs,rfl,hx,q⟩:=h
 cases rx
 obtain⟨its,r,ht,hz⟩:=I.list hx
 have hlen:=r.length
 refine⟨"list",_,slot_list_getitem.lookup,ht.isList.typeIs,?_⟩
 refine wpAny_getItem_list_slice ht.isList hs pl pu .none (by simp) ?_ (by rw [List.size_toArray]<;>omega)
 rw [iW,<- hlen]
 refine⟨.ref s.heap.objs.size,_,I.laid (t':=s.toks) (o:=.lst (dF xs lo hi)) (λb ob q=>Heap.get?_push_of_some _ q) (Nat.le_refl _) ?_,rfl,q _ (I.hok.fresh (Nat.le_refl _))⟩
 exact⟨Nat.le_trans (kK xs lo hi) hz,_,0,(r.drop (HT.iV xs.length 0 lo)).take (HT.iV xs.length xs.length hi-HT.iV xs.length 0 lo),Heap.get?_push_size _ rfl⟩
def dG:V->Bool
 | .non=>true
 | .bl _=>true
 | .int _=>true
 | .str _=>true
 | _=>false
def qw:V->V->Bool
 | .non,.non=>true
 | .bl a,.bl b=>a==b
 | .bl a,.int b=>(if a then 1 else 0)==b
 | .int a,.bl b=>a==(if b then 1 else 0)
 | .int a,.int b=>a==b
 | .str a,.str b=>a==b
 | _,_=>false
theorem vD {A:Around} {s:Shared} {y x:V} {u v:Value} (ry:RelV y u) (rx:RelV x v) (fy:dG y=true) (fx:dG x=true):SeqAt.EqAt A s u v (qw y x):=by
 cases y with
 | non =>
  cases ry
  cases x with
  | non=>cases rx;exact SeqAt.EqAt.same _
  | bl b=>cases rx;exact SeqAt.EqAt.none_bool b
  | int b=>obtain⟨t,rfl⟩:=rx;exact SeqAt.EqAt.none_int b t
  | str b=>obtain⟨t,rfl⟩:=rx;exact SeqAt.EqAt.none_str b t
  | _=>exact absurd (show false=true from fx) Bool.false_ne_true
 | bl a =>
  cases ry
  cases x with
  | non=>cases rx;exact SeqAt.EqAt.bool_none a
  | bl b=>cases rx;exact SeqAt.EqAt.bool_bool a b
  | int b=>obtain⟨t,rfl⟩:=rx;exact SeqAt.EqAt.bool_int a b t
  | str b=>obtain⟨t,rfl⟩:=rx;exact SeqAt.EqAt.bool_str a b t
  | _=>exact absurd (show false=true from fx) Bool.false_ne_true
 | int a =>
  obtain⟨t',rfl⟩:=ry
  cases x with
  | non=>cases rx;exact SeqAt.EqAt.int_none a t'
  | bl b=>cases rx;exact SeqAt.EqAt.int_bool a t' b
  | int b=>obtain⟨t,rfl⟩:=rx;exact SeqAt.EqAt.int_int a t' b t
  | str b=>obtain⟨t,rfl⟩:=rx;exact SeqAt.EqAt.int_str a t' b t
  | _=>exact absurd (show false=true from fx) Bool.false_ne_true
 | str a =>
  obtain⟨t',rfl⟩:=ry
  cases x with
  | non=>cases rx;exact SeqAt.EqAt.str_none a t'
  | bl b=>cases rx;exact SeqAt.EqAt.str_bool a t' b
  | int b=>obtain⟨t,rfl⟩:=rx;exact SeqAt.EqAt.str_int a t' b t
  | str b=>obtain⟨t,rfl⟩:=rx;exact SeqAt.EqAt.str_str a t' b t
  | _=>exact absurd (show false=true from fx) Bool.false_ne_true
 | _=>exact absurd (show false=true from fy) Bool.false_ne_true
def sU (x:V) (u:Value):Bool:=match u with
 | .none=>qw .non x
 | .bool b=>qw (.bl b) x
 | .int i _=>qw (.int i) x
 | .str z _=>qw (.str z) x
 | _=>false
theorem qv {x y:V} {u:Value} (r:RelV y u) (f:dG y=true):sU x u=qw y x:=by
 cases y with
 | non=>cases r;rfl
 | bl b=>cases r;rfl
 | int i=>obtain⟨t,rfl⟩:=r;rfl
 | str z=>obtain⟨t,rfl⟩:=r;rfl
 | _=>exact absurd (show false=true from f) Bool.false_ne_true
theorem jI {x:V}:∀{xs:List V} {us:List Value},Vals xs us->xs.all dG=true->us.any (sU x)=xs.any λy=>qw y x
 | _,_,.nil,_=>rfl
 | y::xs,u::us,.cons r t,f=>by
  rw [List.all_cons,Bool.and_eq_true] at f
  rw [List.any_cons,List.any_cons,qv r f.1,jI t f.2]
theorem ic {A:Around} {s:Shared} {x:V} {v:Value} (rx:RelV x v) (fx:dG x=true):∀{xs:List V} {us:List Value},Vals xs us->xs.all dG=true->∀ u∈us,SeqAt.EqAt A s u v (sU x u)
 | _,_,.nil,_=>λu hu=>by cases hu
 | y::xs,u::us,.cons r t,f=>λu' hu=>by
  rw [List.all_cons,Bool.and_eq_true] at f
  rcases List.mem_cons.mp hu with rfl | hu
  ·rw [qv r f.1];exact vD r rx f.1 fx
  ·exact ic rx fx t f.2 u' hu
def x8 (x:V) (xs:List V):Bool:=xs.any λy=>qw y x
def yT (K:PySem.W.Frag) (neg:Bool):R2:=λx y H Q=>∃ p xs,y=.ref p/\(aW K H p xs∨cF K H p xs)/\dG x=true/\xs.all dG=true/\Q (.bl (if neg then !x8 x xs else x8 x xs)) H
theorem jt:gu X (compareOp .In) (yT X.K false):=by
 intro pins s σ H x y v u Q I rx ry h
 obtain⟨p,xs,rfl,hq,fx,fs,q⟩:=h
 cases ry
 rcases hq with hq | hq
 ·obtain⟨its,r,pl,hz⟩:=I.list hq
  refine SeqAt.in_listAt (sU x) pl.isList (λw hw=>ic rx fx r fs w (by simpa using hw)) ⟨.bl _,H,I,rfl,?_⟩
  rw [show its.toArray.any (sU x)=its.any (sU x) by simp,jI r fs]
  exact q
 ·obtain⟨its,r,pl,hz⟩:=I.tuple hq
  refine SeqAt.in_tupleAt (sU x) pl (λw hw=>ic rx fx r fs w (by simpa using hw)) ⟨.bl _,H,I,rfl,?_⟩
  rw [show its.toArray.any (sU x)=its.any (sU x) by simp,jI r fs]
  exact q
theorem jK:b9 X (.builtin "len") (λxs H Q=>∃ p ys,xs=[.ref p]/\(aW X.K H p ys∨cF X.K H p ys)/\Q (.int ys.length) H):=by
 intro pins s σ H xs us Q I r h
 obtain⟨p,ys,rfl,hq,q⟩:=h
 obtain⟨u,rfl,rx⟩:=vals1 r
 cases rx
 have hn:=jW
 rcases hq with hq | hq
 ·obtain⟨its,r',pl,hz⟩:=I.list hq
  have hlen:=r'.length
  exact Calls.call_len_list pl.isList (by simp only [List.size_toArray]<;>omega) ⟨.int ys.length,H,I.tok _,⟨s.toks+1,by rw [List.size_toArray,hlen]⟩,q⟩
 ·obtain⟨its,r',pl,hz⟩:=I.tuple hq
  have hlen:=r'.length
  exact len_tuple pl (by simp only [List.size_toArray]<;>omega) ⟨.int ys.length,H,I.tok _,⟨s.toks+1,by rw [List.size_toArray,hlen]⟩,q⟩
theorem eJ:b9 X (.type "tuple") (λxs H Q=>∃ p ys,xs=[.ref p]/\((aW X.K H p ys/\∀ l,H l=none->Q (.ref l) (upd H l (.tup ys)))∨(cF X.K H p ys/\Q (.ref p) H))):=by
 intro pins s σ H xs us Q I r h
 obtain⟨p,ys,rfl,h⟩:=h
 obtain⟨u,rfl,rx⟩:=vals1 r
 cases rx
 rcases h with⟨hq,q⟩|⟨hq,q⟩
 ·obtain⟨its,r',pl,hz⟩:=I.list hq
  have hlen:=r'.length
  refine call_tuple_list pl.isList (λh' kp=>?_) (by simp only [List.size_toArray]<;>omega)
  have I1:Inv X pins σ H { s with heap:=h' }:=I.kept (t':=s.toks) kp
  have I2:Inv X pins σ (upd H h'.objs.size (.tup ys)) { s with heap:=h'.push { cls:=.type "tuple",data:=.seq its.toArray } } :=
   I1.laid (t':=s.toks) (λb o e=>Heap.get?_push_of_some _ e) (Nat.le_refl _) (show aN X.prog X.w _ _ _ (.tup ys) from ⟨hz,its,r',IsTup.new _ _⟩)
  exact⟨.ref h'.objs.size,_,I2,rfl,q _ (I1.hok.fresh (Nat.le_refl _))⟩
 ·obtain⟨its,r',pl,hz⟩:=I.tuple hq
  exact call_tuple_same pl ⟨.ref p,H,I,rfl,q⟩
def yI (K:PySem.W.Frag) (T:String) (x:V) (H:Hp):Prop:=match x with
 | .str _=>T = "str"
 | .int _=>T = "int"
 | .ref p=>(T = "list"/\∃ xs,aW K H p xs)∨(T = "tuple"/\∃ o,K.lookup p=some o/\o.cls=.type "tuple"/\o.dict=none) ∨
   (T = "dict"/\((∃ kvs,H p=some (.dK kvs))∨∃ kvs,H p=some (.dT kvs)))∨(T = "set"/\∃ S n,H p=some (.set S n))
 | _=>False
theorem rZ {pins:List (Addr × Obj)} {σ:St} {H:Hp} {s:Shared} {T:String} {x:V} {v:Value} (I:Inv X pins σ H s) (r:RelV x v) (ty:yI X.K T x H) :
  s.TypeIs v T/\∀ a,v=.ref a->∃ ob,s.heap.get? a=some ob/\ob.dict=none:=by
 cases x with
 | str z =>
  obtain⟨t,rfl⟩:=r
  cases (show T = "str" from ty)
  exact⟨typeIs_str s z t,λ_ e=>nomatch e⟩
 | int i =>
  obtain⟨t,rfl⟩:=r
  cases (show T = "int" from ty)
  exact⟨typeIs_int s i t,λ_ e=>nomatch e⟩
 | ref p =>
  cases r
  rcases ty with⟨rfl,xs,hq⟩|⟨rfl,o,hk,hc,hd⟩|⟨rfl,hk⟩|⟨rfl,S,n,hk⟩
  ·obtain⟨its,_,pl,_⟩:=I.list hq
   refine⟨pl.isList.typeIs,λa e=>?_⟩
   cases e
   obtain⟨o,n,e,c,hd,_⟩:=pl
   exact⟨o,e,hd⟩
  ·refine⟨⟨o,I.cH p o hk,hc⟩,λa e=>?_⟩
   cases e
   exact⟨o,I.cH _ o hk,hd⟩
  ·have z:∃ o,s.heap.get? p=some o/\o.ExactDict:=by
    rcases hk with⟨kvs,hk⟩|⟨kvs,hk⟩
    ·obtain⟨_,_,_,_,o,_,_,e,ex,_⟩:=I.hok p _ hk
     exact⟨o,e,ex⟩
    ·obtain⟨_,_,_,_,o,_,_,e,ex,_⟩:=I.hok p _ hk
     exact⟨o,e,ex⟩
   obtain⟨o,e,ex⟩:=z
   refine⟨⟨o,e,ex.1⟩,λa e2=>?_⟩
   cases e2
   exact⟨o,e,ex.2.1⟩
  ·obtain⟨o,_,_,_,e,ex,_⟩:=I.hok p _ hk
   refine⟨⟨o,e,ex.1⟩,λa e2=>?_⟩
   cases e2
   exact⟨o,e,ex.2.1⟩
 | _=>exact False.elim ty
def xI (K:PySem.W.Frag) (T:String) (r:V->List V->Hp->VK->Prop) (to:TE):TE:=λσ H Q=>to σ H λx H1=>yI K T x H1/\r x [] H1 Q
def yW (K:PySem.W.Frag) (T:String) (r:V->List V->Hp->VK->Prop) (to:TE) (t:TA):TE:=λσ H Q=>to σ H λx H1=>yI K T x H1/\t σ H1 λxs H2=>r x xs H2 Q
variable {o e:Expr} {es:List Expr} {to:TE} {t:TA} {name:Str} {apos cpos:Pos} {T id:String} {r:V->List V->Hp->VK->Prop}
theorem vU (pa:PlainAttrs T) (slot:Slot T name id) (hty:typeOf (.builtin id)=pure (.type "method_descriptor")) (hm:x5 X id r) (ho:PE X o to)
  (hbase:attributeBase o name X.env (eval o X.env)=eval o X.env:=by rfl) (hline:(apos.endLine==cpos.line)=true:=by rfl):PE X (.Call (.Attribute o name apos) [] [] cpos) (xI X.K T r to):=by
 intro pins s σ H Q I h
 refine wpAny_Call_method0_late hbase hline (a5 (ho pins s σ H _ I h) λv s1 ⟨x,H1,I1,r1,ty,q1⟩=>?_)
 obtain⟨h1,h2⟩:=rZ I1 r1 ty
 exact⟨T,id,pa,slot,hty,h1,h2,Calls.callWith_builtin rfl (PySem.evalArgs_none (hm pins s1 σ H1 x [] v [] Q I1 r1 .nil q1))⟩
theorem nE (pa:PlainAttrs T) (slot:Slot T name id) (hty:typeOf (.builtin id)=pure (.type "method_descriptor")) (hm:x5 X id r) (ho:PE X o to) (ha:PA X (e::es) t)
  (hbase:attributeBase o name X.env (eval o X.env)=eval o X.env:=by rfl)
  (hfew:((backTo cpos (starEach (e::es) X.env)).all (λx=>!x.1) && (backToKw cpos (keywordEach [] X.env)).all (λx=>x.1.isSome)
   && decide ((e::es).length+([]:List Keyword).length+(if ([]:List Keyword).isEmpty then 0 else 1)<30))=true:=by rfl)
  (hline:(apos.endLine==cpos.line)=true:=by rfl) (hs:starEach (e::es) X.env=(false,eval e X.env)::starEach es X.env:=by rfl) (hplain:(backTo cpos (starEach es X.env)).any (·.1)=false:=by rfl) :
  PE X (.Call (.Attribute o name apos) (e::es) [] cpos) (yW X.K T r to t):=by
 intro pins s σ H Q I h
 refine wpAny_Call_method_late hbase hfew hline rfl (a5 (ho pins s σ H _ I h) λv s1 ⟨x,H1,I1,r1,ty,q1⟩=>?_)
 obtain⟨h1,h2⟩:=rZ I1 r1 ty
 refine⟨T,id,pa,slot,hty,h1,h2,?_⟩
 have hA:=ha cpos pins s1 σ H1 _ I1 q1
 rw [hs] at hA ⊢
 refine Calls.callWith_builtin (by show (false || (backTo cpos (starEach es X.env)).any (·.1))=false;rw [hplain]<;>rfl) (Calls.evalArgs_plain ?_)
 exact a5 hA λus s2 ⟨vs,H2,I2,r2,q2⟩=>hm pins s2 σ H2 x vs v us Q I2 r1 r2 q2
/- xs.append(e),list.index on a module's tuple .. are x5 facts of 06m -/
end
def zj (X:Cx) (id:String) (r:V->List V->Hp->VK->Prop):Prop :=
 ∀(pins:List (Addr × Obj)) (s:Shared) (σ:St) (H:Hp) (x:V) (xs:List V) (v:Value) (us:List Value) (Q:VK),Inv X pins σ H s->RelV x v->Vals xs us->r x xs H Q ->
  wpAny (model X.prog X.w) X.A (call (.builtin id) (v::us)) (EP X pins σ Q) X.xe s
theorem Vals.one:∀{x:V} {us:List Value},Vals [x] us->∃ u,us=[u]/\RelV x u
 | _,_,.cons r .nil=>⟨_,rfl,r⟩
theorem Vals.two:∀{x y:V} {us:List Value},Vals [x,y] us->∃ u v,us=[u,v]/\RelV x u/\RelV y v
 | _,_,_,.cons r (.cons q .nil)=>⟨_,_,rfl,r,q⟩
theorem Vals.zero:∀{us:List Value},Vals [] us->us=[]
 | _,.nil=>rfl
theorem Vals.reverse {xs:List V} {us:List Value} (h:Vals xs us):Vals xs.reverse us.reverse:=by
 induction h with
 | nil=>exact .nil
 | cons r t ih=>rw [List.reverse_cons,List.reverse_cons];exact Vals.append ih (.cons r .nil)
theorem Vals.rep {xs:List V} {us:List Value} (h:Vals xs us):∀ k:Nat,Vals (List.replicate k xs).flatten (List.replicate k us).flatten
 | 0=>.nil
 | k+1=>by
  rw [List.replicate_succ,List.replicate_succ,List.flatten_cons,List.flatten_cons]
  exact Vals.append h (Vals.rep h k)
theorem foldl_rep (its:List Value):∀(k:Nat) (acc:List Value),
  List.foldl (λx1 x2=>x1++x2) acc.toArray (List.replicate k its.toArray)=(acc++(List.replicate k its).flatten).toArray
 | 0,acc=>by simp
 | k+1,acc=>by
  have e:acc.toArray++its.toArray=(acc++its).toArray:=by simp
  have e2:(acc++its)++(List.replicate k its).flatten=acc++(List.replicate (k+1) its).flatten:=by
   rw [List.replicate_succ,List.flatten_cons,List.append_assoc]
  rw [<- e2,<- foldl_rep its k (acc++its),<- e,List.replicate_succ,List.foldl_cons]
section
variable {X:Cx} {pins:List (Addr × Obj)} {σ:St} {H:Hp} {s:Shared} {l b:Addr} {xs ys zs:List V}
theorem Inv.yt {its its':List Value} {n:Nat} {f:Array Value->Array Value} {t':Nat} (I:Inv X pins σ H s) (hH:H l=some (.lst xs))
  (e:s.heap.get? l=some { cls:=.type "list",data:=.seq its.toArray n }) (hf:f its.toArray=its'.toArray) (hv:Vals ys its') (hz:ys.length<=sizeLine) :
  Inv X pins σ (upd H l (.lst ys)) { s with heap:=s.heap.update l (Obj.mapSeq f),toks:=t' }:=by
 have q:=PySem.IsL.update e f
 rw [hf] at q
 refine I.write (x:=l) (e:=l) (by rw [hH];exact trivial) (.inl rfl) (λb' u hb hu=>(Heap.get?_update_other s.heap (Obj.mapSeq f) (Ne.symm hb)).trans hu) ⟨_,q⟩ ?_
 exact⟨hz,its',_,hv,q⟩
theorem Inv.xk {its:List Value} {t':Nat} (I:Inv X pins σ H s) (hv:Vals ys its) (hz:ys.length<=sizeLine) :
  Inv X pins σ (upd H s.heap.objs.size (.lst ys)) { s with heap:=s.heap.push { cls:=.type "list",data:=.seq its.toArray },toks:=t' } :=
 I.laid (λ_ _ q=>Heap.get?_push_of_some _ q) (Nat.le_refl _) ⟨hz,its,0,hv,Heap.get?_push_size _ rfl⟩
theorem Inv.fresh (I:Inv X pins σ H s):H s.heap.objs.size=none:=I.hok.fresh (Nat.le_refl _)
theorem Inv.tK (I:Inv X pins σ H s) (hH:H l=some (.lst xs)):xs.length<=sizeLine/\∃(its:List Value) (n:Nat),Vals xs its/\xs.length=its.length/\s.heap.get? l=some { cls:=.type "list",data:=.seq its.toArray n }:=by
 obtain⟨z,its,n,r,e⟩:=I.hok l _ hH
 exact⟨z,its,n,r,r.length,e⟩
theorem qP {n:Nat} (h:n<=sizeLine):Builtin.List.listTooLong n=false:=by
 unfold Builtin.List.listTooLong
 exact decide_eq_false (by omega)
end
section
variable {X:Cx}
def tZ:V->List V->Hp->VK->Prop:=λx vs H Q=>∃ l xs y,x=.ref l/\vs=[y]/\H l=some (.lst xs)/\xs.length<sizeLine/\Q .non (upd H l (.lst (xs++[y])))
theorem dY:zj X "list.append" tZ:=by
 intro pins s σ H x vs v us Q I rx rv h
 obtain⟨l,xs,y,rfl,rfl,hH,hz,q⟩:=h
 cases rx
 obtain⟨u,rfl,ru⟩:=rv.one
 obtain⟨z,its,n,r,hl,e⟩:=I.tK hH
 refine call_meets F.slot_list_append ⟨_,e,rfl⟩ F.entry_list_append (F.args_list_append_2 _ _) (PySem.list_append l its.toArray n u (by rw [List.size_toArray];omega)) ⟨e,?_⟩
 refine⟨.non,_,I.yt (its':=its++[u]) hH e (by simp) (r.append (.cons ru .nil)) ?_,rfl,q⟩
 rw [List.length_append,List.length_singleton]
 omega
def yw:R2:=λx y H Q=>∃ l b xs zs,x=.ref l/\y=.ref b/\H l=some (.lst xs)/\H b=some (.lst zs)/\xs.length+zs.length<=sizeLine/\∀ p,H p=none->Q (.ref p) (upd H p (.lst (xs++zs)))
theorem ir:gu X (binaryOp .Add) yw:=by
 intro pins s σ H x y v u Q I rx ry h
 obtain⟨l,b,xs,zs,rfl,rfl,hH,hB,hz,q⟩:=h
 cases rx
 cases ry
 obtain⟨z,its,n,r,hl,e⟩:=I.tK hH
 obtain⟨z2,its2,n2,r2,hl2,e2⟩:=I.tK hB
 refine PySem.P.add_list e e2 ?_ (by rw [List.size_toArray,List.size_toArray];omega)
 have ea:its.toArray++its2.toArray=(its++its2).toArray:=by simp
 rw [ea]
 exact⟨.ref _,_,I.xk (t':=s.toks) (r.append r2) (by rw [List.length_append];omega),rfl,q _ I.fresh⟩
def yx:R2:=λx y H Q=>∃ l k xs,x=.ref l/\y=.int k/\H l=some (.lst xs) /\ -(2^63)<=k/\k<2^63/\xs.length*k.toNat<=sizeLine /\
 ∀ p,H p=none->Q (.ref p) (upd H p (.lst (List.replicate k.toNat xs).flatten))
theorem len_rep {α:Type} (xs:List α) (k:Nat):(List.replicate k xs).flatten.length=k*xs.length:=by
 induction k with
 | zero=>simp
 | succ k ih=>rw [List.replicate_succ,List.flatten_cons,List.length_append,ih,Nat.succ_mul,Nat.add_comm]
theorem vR:gu X (binaryOp .Mult) yx:=by
 intro pins s σ H x y v u Q I rx ry h
 obtain⟨l,k,xs,rfl,rfl,hH,h1,h2,hz,q⟩:=h
 cases rx
 obtain⟨t,rfl⟩:=ry
 obtain⟨z,its,n,r,hl,e⟩:=I.tK hH
 have hlen:its.toArray.size*k.toNat<=sizeLine:=by rw [List.size_toArray,<- hl];exact hz
 have hcap:¬its.toArray.size*k.toNat > (2^63-1)/8:=by
  have:(sizeLine:Nat)<=(2^63-1)/8:=by decide
  omega
 have hfit:¬(!Builtin.List.listFitsIndex k)=true:=by
  rw [fitsIndex_both h1 h2]
  exact Bool.false_ne_true
 have hlong:¬Builtin.List.listTooLong (its.toArray.size*k.toNat)=true:=by
  rw [qP hlen]
  exact Bool.false_ne_true
 have hnew:List.foldl (λx1 x2=>x1++x2) #[] (List.replicate (if its.toArray.isEmpty=true then 0 else k.toNat) its.toArray)=(List.replicate k.toNat its).flatten.toArray:=by
  have f0:∀ m:Nat,List.foldl (λx1 x2=>x1++x2) #[] (List.replicate m its.toArray)=(List.replicate m its).flatten.toArray:=λm=>by
   have:=foldl_rep its m []
   rw [List.nil_append] at this
   exact this
  rw [f0]
  cases its with
  | nil=>simp
  | cons a r'=>rw [if_neg (by simp)]
 refine wpAny_binaryOp_repeat_ref (T := "list") (U := "int") (by decide) ⟨_,e,rfl⟩ (λs'=>typeIs_int s' k t) noFill_list_mul F.fills_int_mul F.slot_int_rmul repeat_list F.slot_int_index.lookup
  (call_meets F.slot_int_rmul (typeIs_int s k t) F.entry_int_rmul (F.args_int_rmul_2 _ _) (int___rmul___int_list k t l its.toArray n)
   ⟨e,rfl,⟨_,e,rfl⟩,call_meets F.slot_list_mul ⟨_,e,rfl⟩ F.entry_list_mul (F.args_list_mul_2 _ _) (AutoListH.list___mul___list_int_3 l its.toArray n k t hfit hcap hlong) ⟨e,?_⟩⟩)
 rw [hnew]
 exact⟨.ref _,_,I.xk (t':=s.toks) (r.rep k.toNat) (by rw [len_rep,Nat.mul_comm];exact hz),rfl,q _ I.fresh⟩
end
section
variable {prog:Program} {w:World} {A:Around} {E:Value->Shared->Prop} {s:Shared}
end
section
variable {X:Cx}
end
end L2
namespace Att
open PySem PySem.W PySem.Calls PyProof.Rows
theorem gE {P:Params} {h:Heap}:∀(ns:List Int) (vs:List Value),WellAll P h vs (ns.map WData.int)->IntsAre vs ns:=by
 intro ns
 induction ns with
 | nil =>
  intro vs w
  rw [List.map_nil] at w
  cases w
  exact .nil
 | cons n ns ih =>
  intro vs w
  rw [List.map_cons] at w
  cases w with
  | cons a b =>
   cases a
   exact .cons _ _ (ih _ b)
theorem pF {l:OpenLaw} {n:Nat} (hn:l.most=some n) {P:Params} {h:Heap} {args:List WData} {vals:List Value}
  (hpre:l.row.toRowW.claim.pre args=true) (hwl:WellAll P h vals args) :
  ∃ a vs ns,vals=[Value.ref a]/\args=[WData.list (ns.map WData.int)]/\h.get? a=some { cls:=.type "list",data:=.seq vs.toArray }/\IntsAre vs ns/\ns.length<=n:=by
 have hsh:WShape.hasAll [] args [.list .int]=true:=(pre_splitW hpre).1
 have hc:l.pre.holds [] { args:=args }=true:=(pre_splitW hpre).2
 obtain⟨d,r,rfl,h1,h2⟩:=hasAllW_cons hsh
 obtain rfl:=hasAllW_nil h2
 obtain⟨xs,rfl,h3⟩:=hasW_list h1
 obtain⟨ns,rfl⟩:=items_int h3
 have hlen:ns.length<=n:=by
  unfold OpenLaw.pre at hc
  have h4:(WTm.not (.lt (.lit (.int (n:Int))) (.len (.arg 0)))).holds [] { args:=[.list (ns.map .int)] }=true:=by
   have h4:=(holds_andW hc).1
   rw [hn] at h4
   exact h4
  have h5:=condW_of h4 (w_not (w_lt w_lit (w_len_list (w_arg rfl))))
  rw [List.length_map] at h5
  refine Nat.le_of_not_lt λq=>?_
  have q':(n:Int)<((ns.length:Nat):Int):=by omega
  first
   | (rw [decide_eq_true q'] at h5;exact absurd h5 (by decide))
   | (simp at h5;omega)
 cases hwl with
 | cons w1 w2 =>
  cases w2
  cases w1 with
  | list ho hall=>exact⟨_,_,ns,rfl,rfl,ho,gE ns _ hall,hlen⟩
theorem pA (l:OpenLaw) (args:List WData):l.row.toRowW.claim.post args (.bool true) args=true :=
 postW_of (r:=l.row.toRowW) (X:=(true==true))
  (show WShape.has [] (.bool true) .bool=true by first | rfl | decide | simp [WShape.has,WShape.arms,WShape.armsAll])
  (show (WTm.eq .res (.lit (.bool true))).value [] { args:=args,res:=some (.bool true),after:=args }=some (.bool (true==true)) from w_eq_bool (w_res rfl) w_lit) rfl
theorem kG {l:OpenLaw} {n:Nat} {q:Program} {loose:List Str} {XP:(Str->Option Value)->Heap->Prop} {YP:World->Heap->Prop} {d:DefRec}
  (hn:l.most=some n) (hdf:d.params.defaults=[])
  (call:∀(w:World) (s₀ s₁:Shared) (mg mb:Str->Option Value) (fa:Addr) (o:Obj) (pm cd doc:Value) (a:Addr) (vs:List Value) (ns:List Int),
   Ground q loose [] XP w s₀ mg mb s₁.heap->YP w s₁.heap ->
   s₁.heap.get? fa=some o->o.data=.func (docDef d.name d.params d.body d.scope pm cd doc)->s₁.heap.CodeRec cd d.name->mg d.name=some (.ref fa) ->
   s₁.heap.get? a=some { cls:=.type "list",data:=.seq vs.toArray }->IntsAre vs ns->ns.length<=n->s₁.gens=#[] ->
   codeAny (model l.prog w) callerA (.call (.ref fa) ⟨[.ref a],[]⟩) (λr s'=>r=.ok (.ret (.bool true))/\OldK s₁.heap s'.heap/\s'.os=s₁.os/\AllBare s'.gens) s₁) :
  WalkO q loose XP YP l.row.toRowW d [] (λf vs=>PySem.call f vs):=by
 intro w s₀ s₁ mg mb G Y fa o pm cd doc dV kV ho hd hcd hD hmg hg args vals as hpre hlay hrd hwl hlo
 obtain rfl:dV=.none:=Dflts.none hD hdf
 obtain rfl:kV=.none:=Dflts.noKw hD
 obtain⟨a,vs,ns,rfl,rfl,hobj,hints,hlen⟩:=pF hn hpre hwl
 refine enter_call (codeAny_mono (call w s₀ s₁ mg mb fa o pm cd doc a vs ns G Y ho (fd_plain hd) hcd hmg hobj hints hlen hg) λr s' hq=>?_)
 obtain⟨rfl,h2,h3,h4⟩:=hq
 exact⟨.inl ⟨.bool true,.bool true,[],rfl,λ_=>rfl,.bool true,pA l _,λ_=>⟨List.Pairwise.nil,λ_ hm=>(nomatch hm)⟩⟩,h2,h3,h4⟩
section
variable {prog:Program} {w:World} {A:Around} {E:Value->Shared->Prop} {s:Shared} {K:Frag}
end
end Att
namespace L2
open PySem PySem.Spec PyProof.Rows
theorem jF:∀{vs:List Value} {ns:List Int},IntsAre vs ns->Vals (ns.map V.int) vs
 | _,_,.nil=>.nil
 | _,_,.cons n t h=>.cons ⟨t,rfl⟩ (jF h)
def su (H:Hp):Prop:=∀ b,H b=none∨∃ o xs,H b=some (.frz o (.lst xs))
theorem qL {P:Program} {w:World} {K:PySem.W.Frag} {mg mb:Str->Option Value} {CX:gQ} {k:Nat} {fa a:Addr} {fd:FuncData} {x:Str} {sp:Sp} {s₁:Shared} {vs:List Value} {ns:List Int}
  (KX:K.In s₁.heap) (hns:s₁.heap.Ns mainGlobals mg) (hb:s₁.heap.Ns builtinsNs mb) (hbb:∀ x:Str,x ≠ "__name__"->mb x=bootBuiltins x) (hlim:s₁.heap.NoLimit) (hg:s₁.gens=#[])
  (ha:s₁.heap.get? a=some { cls:=.type "list",data:=.seq vs.toArray }) (hi:IntsAre vs ns) (hl:ns.length<=sizeLine) (hr:bF k callerA)
  (F:∀ base:Heap,K.In base->base.Ns mainGlobals mg->bR P w K mg base CX k fa fd [x] sp) (hbind:∀(s:Shared) (u:Value),BindsTo s fd ⟨[u],[]⟩ [(x,u)])
  (hsp:∀ H:Hp,su H->aW K H a (ns.map V.int)->sp [.ref a] H (λv _=>v=.bl true) λ_ _ _=>False)
  (hCX:∀ H e s',CX [] H s₁ (λ_ _ _=>False) e s'->False) :
  codeAny (model P w) callerA (.call (.ref fa) ⟨[.ref a],[]⟩) (λr s'=>r=.ok (.ret (.bool true))/\OldK s₁.heap s'.heap/\s'.os=s₁.os/\AllBare s'.gens) s₁:=by
 have rv:=jF hi
 have lenV:=hi.length
 -- from an abstract heap in which nothing but the script may be tracked
 have core:∀ H:Hp,su H->aW K H a (ns.map V.int)->dw P w H s₁.heap->(∀ b,H b≠none->b=a)->(H a≠none->K.lookup a=none) ->
   codeAny (model P w) callerA (.call (.ref fa) ⟨[.ref a],[]⟩) (λr s'=>r=.ok (.ret (.bool true))/\OldK s₁.heap s'.heap/\s'.os=s₁.os/\AllBare s'.gens) s₁:=by
  intro H hO hS hok hA hK
  have base_of:∀{b:Addr} {o:Obj},s₁.heap.get? b=some o->H b=none->(jT s₁.heap H).get? b=some o:=λe n=>qF e n
  have noA:∀{b:Addr} {o:Obj} {es:Array DictEntry} {ep:Nat},s₁.heap.get? b=some o->o.data=.dict es ep->H b=none:=λ{b o es ep} e d=>by
   cases q:H b with
   | none=>rfl
   | some u =>
    have e':b=a:=hA b (by rw [q];simp)
    subst e'
    rw [ha] at e;cases e
    have d':Data.seq vs.toArray _=Data.dict es ep:=d
    cases d'
  have nsK:∀{b:Addr} {m:Str->Option Value},s₁.heap.Ns b m->(jT s₁.heap H).Ns b m:=λ{b m} ⟨o,es,ep,e,d,r⟩=>⟨o,es,ep,base_of e (noA e d),d,r⟩
  have hKb:K.In (jT s₁.heap H):=λb o e=>base_of (KX b o e) (by
   cases q:H b with
   | none=>rfl
   | some u =>
    have e':b=a:=hA b (by rw [q];simp)
    subst e'
    rw [hK (by rw [q];simp)] at e;cases e)
  have hM:Mod K mg (jT s₁.heap H):=⟨hKb,nsK hns,⟨mb,nsK hb,hbb⟩,let ⟨mc,h1,h2⟩:=hlim;⟨mc,nsK h1,h2⟩⟩
  have e0:lU P w K mg (jT s₁.heap H) callerA [] s₁ H:=⟨rfl,hM,λb o e=>tO e,Nat.le_of_eq (oK _ _),trivial,λb hb=>absurd (show b∈([]:List Addr) from hb) (by simp),hok,.of_eq hg⟩
  refine codeAny_mono ((F _ hKb (nsK hns)).run callerA [] s₁ H ⟨[.ref a],[]⟩ [.ref a] [.ref a] _ _ hr e0 (hbind s₁ (.ref a)) (.cons rfl .nil) (hsp H hO hS)) λr s' h=>?_
  cases r with
  | error e=>exact (hCX H e s' h).elim
  | ok fl =>
   cases fl with
   | next=>exact False.elim h
   | brk=>exact False.elim h
   | cont=>exact False.elim h
   | ret u =>
    obtain⟨v,H',os,bare,un,hok',r',q⟩:=h
    have q':v=.bl true:=q
    subst q'
    obtain rfl:u=Value.bool true:=r'
    refine⟨rfl,OldK.of_keep λb o e=>?_,os,bare⟩
    cases q:H b with
    | none=>exact un.keep b o e q (by intro z;exact absurd (show b∈([]:List Addr) from z) (by simp)) (by simp)
    | some u =>
     rcases hO b with z | ⟨ob,xs,z⟩
     ·rw [q] at z;cases z
     ·have z2:=un.frzs b ob _ z
      obtain⟨e1,_⟩:=hok b _ z
      obtain⟨e2,_⟩:=hok' b _ z2
      rw [e] at e1;cases e1
      exact e2
 cases hk:K.lookup a with
 | some o =>
  -- the script is one of the module's own objects
  have e:=KX a o hk
  rw [ha] at e
  cases e
  refine core (λ_=>none) (λ_=>.inl rfl) (.inr ⟨_,vs.toArray,_,hk,rfl,rfl,rfl,by rw [List.size_toArray,lenV];exact hl,by simpa using rv⟩) (λb u z=>by have z':(none:Option HO)=some u:=z;cases z') (λb z=>absurd rfl z) λz=>absurd rfl z
 | none =>
  refine core (λb=>if b=a then some (.frz { cls:=.type "list",data:=.seq vs.toArray } (.lst (ns.map V.int))) else none) (λb=>?_) (.inl (.inr ⟨{ cls:=.type "list",data:=.seq vs.toArray },if_pos rfl⟩)) (λb u z=>?_) (λb z=>?_) λ_=>hk
  ·by_cases hb:b=a
   ·exact .inr ⟨_,_,if_pos hb⟩
   ·exact .inl (if_neg hb)
  ·by_cases hb:b=a
   ·have z':=(if_pos hb).symm.trans z
    cases z'
    subst hb
    exact⟨ha,by rw [List.length_map];exact hl,vs,_,rv,ha⟩
   ·have z':=(if_neg hb).symm.trans z
    cases z'
  ·by_cases hb:b=a
   ·exact hb
   ·exact absurd (if_neg hb) z
abbrev eG {K:PySem.W.Frag} {h:Heap} (_:K.In h):PySem.W.Frag:=K
theorem nZ {l:PySem.W.OpenLaw} {n k:Nat} {q:Program} {loose:List Str} {XP:(Str->Option Value)->Heap->Prop} {YP:World->Heap->Prop} {d:DefRec} {K:Params->PySem.W.Frag} {CX:World->gQ} {sp:World->Sp} {x:Str}
  (hn:l.most=some n) (hn2:n<=sizeLine) (hdf:d.params.defaults=[]) (hr:bF k callerA)
  (hY:∀(w:World) (h:Heap),YP w h->(K w.params).In h)
  (F:∀(w:World) (mg:Str->Option Value) (fa:Addr) (h:Heap),(K w.params).In h->h.Ns mainGlobals mg->mg d.name=some (.ref fa) ->
   ∃ fd:FuncData,(∀(s:Shared) (u:Value),BindsTo s fd ⟨[u],[]⟩ [(x,u)]) /\
    ∀ base:Heap,(K w.params).In base->base.Ns mainGlobals mg->bR l.prog w (K w.params) mg base (CX w) k fa fd [x] (sp w))
  (hsp:∀(w:World) (H:Hp) (a:Addr) (ns:List Int),ns.length<=n->su H->aW (K w.params) H a (ns.map V.int)->sp w [.ref a] H (λv _=>v=.bl true) λ_ _ _=>False)
  (hCX:∀(w:World) (H:Hp) (s:Shared) (e:Value) (s':Shared),CX w [] H s (λ_ _ _=>False) e s'->False) :
  PySem.W.WalkO q loose XP YP l.row.toRowW d [] (λf vs=>PySem.call f vs):=by
 refine Att.kG hn hdf λw s₀ s₁ mg mb fa o pm cd doc a vs ns G Y ho hd hcd hmg hobj hints hlen hg=>?_
 have KX:=hY w _ Y
 obtain⟨fd,hb,hF⟩:=F w mg fa _ KX G.T.g hmg
 exact qL KX G.T.g G.T.b G.T.builtins G.T.nolimit hg hobj hints (Nat.le_trans hlen hn2) hr hF hb (λH hO hS=>hsp w H a ns hlen hO hS) λH e s'=>hCX w H s₁ e s'
theorem sh {l:PySem.W.OpenLaw} {n k:Nat} {q:Program} {loose:List Str} {XP:(Str->Option Value)->Heap->Prop} {YP:World->Heap->Prop} {d:DefRec} {K:Params->PySem.W.Frag} {CX:gQ} {sp:PySem.W.Frag->Sp} {x:Str}
  (hn:l.most=some n) (hn2:n<=sizeLine) (hdf:d.params.defaults=[]) (hr:bF k callerA)
  (hY:∀(w:World) (h:Heap),YP w h->(K w.params).In h)
  (F:∀(w:World) (mg:Str->Option Value) (fa:Addr) (h:Heap),(K w.params).In h->h.Ns mainGlobals mg->mg d.name=some (.ref fa) ->
   ∃ fd:FuncData,(∀(s:Shared) (u:Value),BindsTo s fd ⟨[u],[]⟩ [(x,u)]) /\
    ∀ base:Heap,(K w.params).In base->base.Ns mainGlobals mg->bR l.prog w (K w.params) mg base CX k fa fd [x] (sp (K w.params)))
  (hsp:∀(K:PySem.W.Frag) (H:Hp) (a:Addr) (ns:List Int),ns.length<=n->su H->aW K H a (ns.map V.int)->sp K [.ref a] H (λv _=>v=.bl true) λ_ _ _=>False)
  (hCX:∀(H:Hp) (s:Shared) (e:Value) (s':Shared),CX [] H s (λ_ _ _=>False) e s'->False) :
  PySem.W.WalkO q loose XP YP l.row.toRowW d [] (λf vs=>PySem.call f vs) :=
 nZ (K:=K) (CX:=λ_=>CX) (sp:=λw=>sp (K w.params)) hn hn2 hdf hr hY F (λw H a ns h1 h2 h3=>hsp (K w.params) H a ns h1 h2 h3) λ_ H s e s'=>hCX H s e s'
end L2
/- THE LAST THEOREM (shape;LID,My.* are yours):
   My.Adr: a structure of the addresses that your layer names (classes,functions);My.Txt K t: a structure (Prop) of the equations over K;
   My.txt_mk:{K} {implicit addresses ..} (e1:nsIn K mainGlobals "law"=some (some (.ref f))) (e2:K.lookup f=some ⟨oc,od,.func (fnOf "law" "law" params body scope dV kV doc pm an cdv ct),sl⟩) (e3:codeIn K cdv "law"=true) ..:∃ t,My.Txt K t
set_option maxRecDepth 100000 in
set_option maxHeartbeats 0 in
theorem PySem.Challenge.cw_LID_holds : PySem.Challenge.rw_LID.Holds := by
 w_on;o_law;k_head;(case hw=>w_witness2)
 k_fill
 refine L2.nZ (l:=PySem.Challenge.rw_LID) (n:=63) (k:=40) (x := "script") (CX:=λw=>..) (sp:=λ_=>My.sp_law) rfl (by decide) rfl ⟨rfl,by decide,by decide⟩ (λw h Y=>PySem.W.kIn_of Y) ?F ?S ?C
 case F =>
  intro w mg fa h KX G hmg
  have T:∃ t,My.Txt (L2.eG KX) t:=by
   dsimp only [L2.eG]                          -- K must stand as «<heap const> w.params» for k_is
   refine' My.txt_mk ?e1 ?e2 ?e3 ..
   (case e1=>PySem.W.k_is)                    -- in the order: a name -> its address -> its object -> its parts
   (case e2=>PySem.W.k_is)
   ..
  obtain⟨t,T⟩:=T
  have e0:=hmg.symm.trans (PySem.W.mg_of KX G T.law)
  cases e0                                       -- fa is the law's own address
  exact⟨_,λs u=>.of_eq rfl,λbase kb nb=>My.law_fn T kb nb⟩     -- if «.of_eq rfl» comes too early: refine' ⟨_,?b,λbase kb nb=>My.law_fn T kb nb⟩;exact λs u=>.of_eq rfl
 case S=>exact λw H a ns hl hO hS=>..
 case C=>exact ..
(the tactic k_is has no namespace: write k_is) -/
namespace L2
open PySem PySem.Spec PyProof.Rows
def inClass (s:Stmt) (j:Nat):Stmt:=match s with
 | .ClassDef _ _ _ body _ _ _ _ _ _ _=>body.getD j (.Pass ⟨0,0,0,0⟩)
 | _=>.Pass ⟨0,0,0,0⟩
def a9 (s:Stmt):Arguments:=match s with
 | .FunctionDef _ a _ _ _ _ _ _ _ _=>a
 | _=>{ posonlyargs:=[],args:=[],vararg:=none,kwonlyargs:=[],kw_defaults:=[],kwarg:=none,defaults:=[] }
def aJ (s:Stmt):List Stmt:=match s with
 | .FunctionDef _ _ b _ _ _ _ _ _ _=>b
 | _=>[]
def ai (s:Stmt):Scope:=match s with
 | .FunctionDef _ _ _ _ _ _ sc _ _ _=>sc
 | _=>{ kind:=.function,names:=[],isGenerator:=false,isCoroutine:=false }
abbrev a8:gQ:=λ_ _ _ _ _ _=>False
abbrev E0:XK:=λ_ _ _=>False
theorem aH {X:Cx}:Passes a8 X E0:=λ_ _ _ _ _ _ _ h=>h.elim
structure pR (K:PySem.W.Frag) (x qual:Str) (st:Stmt) (f:Addr) (fd:FuncData):Prop where
 ex:∃(oc:Value) (od:Option Addr) (kV doc pm:Value) (an:Option Addr) (cdv ct:Value) (osl:Array (Option Value)),
  fd=PySem.W.fnOf x qual (a9 st) (aJ st) (ai st) .none kV doc pm an cdv ct/\K.lookup f=some ⟨oc,od,.func fd,osl⟩/\PySem.W.codeIn K cdv qual=true
 kp:PySem.W.keepIn K (.ref f)=true
section
variable {P:Program} {w:World} {K:PySem.W.Frag} {mg:Str->Option Value} {base:Heap}
theorem pR.ok {x qual:Str} {st:Stmt} {f:Addr} {fd:FuncData} {N ps:List Str} {k:Nat} {sp:Sp} (F:pR K x qual st f fd) (S:az N ps (ai st)) (len:∀ vs H Q E,sp vs H Q E->vs.length=ps.length)
  (hbody:∀(cdv:Value) (A:Around) (outer:List Env) (s:Shared) (H:Hp) (vs:List V) (Q:VK) (E:XK),bF k (A.deeper (envOfC qual (ai st) s.heap.objs.size f cdv))->sp vs H Q E ->
   ∃ t,fZ (dh a8 P w K mg base N qual (ai st) f cdv A outer s H E).jq (aJ st) t/\t { nx:=λ_ H'=>Q .non H',rt:=Q } (start N vs) H):bR P w K mg base a8 (k+1) f fd ps sp:=by
 obtain⟨oc,od,kV,doc,pm,an,cdv,ct,osl,rfl,lk,hcd⟩:=F.ex
 refine uz lk hcd S len λA outer s H vs Q E hr hsp=>?_
 obtain⟨t,h,q⟩:=hbody cdv A outer s H vs Q E hr hsp
 exact⟨t,h.jq,q⟩
theorem pR.binds {x qual:Str} {st:Stmt} {f:Addr} {fd:FuncData} {ps:List Str} (F:pR K x qual st f fd)
  (h:∀(kV doc pm:Value) (an:Option Addr) (cdv ct:Value) (us:List Value),us.length=ps.length->bindArgs (PySem.W.fnOf x qual (a9 st) (aJ st) (ai st) .none kV doc pm an cdv ct) ⟨us,[]⟩=pure (ps.zip us)):Binds K fd ps []:=by
 obtain⟨oc,od,kV,doc,pm,an,cdv,ct,osl,rfl,lk,hcd⟩:=F.ex
 exact .all (h kV doc pm an cdv ct)
theorem me {x qual:Str} {st:Stmt} {f:Addr} {oc:Value} {od an:Option Addr} {osl:Array (Option Value)} {kV doc pm cdv ct:Value} (l:K.lookup f=some ⟨oc,od,.func (PySem.W.fnOf x qual (a9 st) (aJ st) (ai st) .none kV doc pm an cdv ct),osl⟩)
  (c:PySem.W.codeIn K cdv qual=true) (k:PySem.W.keepIn K (.ref f)=true):pR K x qual st f (PySem.W.fnOf x qual (a9 st) (aJ st) (ai st) .none kV doc pm an cdv ct):=⟨⟨oc,od,kV,doc,pm,an,cdv,ct,osl,rfl,l,c⟩,k⟩
end
theorem fF {A:Around} {k:Nat} (hr:bF k A):A.units+1<cLine:=Nat.lt_of_le_of_lt (Nat.add_le_add_left (by decide:1<=64) _) hr.units
section
variable {X:Cx}
theorem pv (i:Nat) {x:Str} {pos:Pos} (hN:X.N[i]?=some x:=by rfl) (hv:vn X.env.scope x:=by first | exact Or.inl rfl | exact Or.inr (Or.inl rfl) | exact Or.inr (Or.inr rfl)) (hd:(x==("__debug__":Str))=false:=by decide)
  (hcd:(x==("__classdict__":Str))=false:=by decide):PE X (.Name x pos) (rT i):=fk hN hv hd hcd
end
theorem bp {c A B:Prop} [Decidable c] (h1:c->A) (h2:¬c->B):if c then A else B:=by
 by_cases h:c
 ·rw [if_pos h]
  exact h1 h
 ·rw [if_neg h]
  exact h2 h
def ay (H H':Hp):Prop:=∀ b o,H b=some o->H' b=some o
theorem ay.refl (H:Hp):ay H H:=λ_ _ h=>h
theorem ay.trans {H H1 H2:Hp} (a:ay H H1) (b:ay H1 H2):ay H H2:=λc o h=>b c o (a c o h)
theorem ay.free {H H':Hp} (e:ay H H') {l:Addr} (h:H' l=Option.none):H l=Option.none:=by
 cases q:H l with
 | none=>rfl
 | some o =>
  rw [e l o q] at h
  cases h
theorem ay.seq {K:PySem.W.Frag} {H H':Hp} {a:Addr} {xs:List V} (e:ay H H') (h:aW K H a xs):aW K H' a xs:=by
 rcases h with (h | ⟨o,h⟩) | h
 ·exact .inl (.inl (e _ _ h))
 ·exact .inl (.inr ⟨o,e _ _ h⟩)
 ·exact .inr h
end L2
set_option maxHeartbeats 1000000
namespace L2
open PySem PySem.Spec PyProof.Rows
theorem jN {Ex:Value->Shared->Prop} {prog:Program} {w:World} {A:Around} {R:Result->Shared->Prop} {s:Shared} {elt target:Expr} {gens:List Comprehension} {scope:Scope} {pos ps:Pos} {ifs:List Expr} {d:Nat} {B:Sem Unit} {it acc:Value} {env:Env} (I:Nat->Shared->Prop)
  (ht:compTurn (.ListComp elt gens scope pos) d it acc env=(do
   standAt ps
   match <- pyNext it with
   | none=>pure (.done .next)
   | some v =>
    letOwnedTupleGo target it v
    assign target env v
    let mut ok:=true
    for c in ifs do
     if ok then ok <- isTrue c env (eval c env)
    if ok then B
    again (.compLoop (.ListComp elt gens scope pos) d it acc env)))
  (turn:∀ n s,I n s->wpAny (model prog w) A (pyNext it) (λr s₁=>match r with
   | none=>R (.ok .next) s₁
   | some v=>wpAny (model prog w) A (letOwnedTupleGo target it v) (λ_ s₁'=>wpAny (model prog w) A (assign target env v) (λ_ s₂ =>
     wpAny (model prog w) A (forIn ifs true λc r=>if r=true then do let ok <- isTrue c env (eval c env);pure (ForInStep.yield ok) else pure (ForInStep.yield r)) (λok s₃ =>
      if ok=true then wpAny (model prog w) A B (λ_ s₅=>∃ m,m<n/\I m s₅) Ex s₃
      else ∃ m,m<n/\I m s₃) Ex s₂) Ex s₁') Ex s₁) Ex s)
  (n:Nat) (h:I n s) (hE:∀ e s',Ex e s'->notedBy (model prog w) A env (λe s''=>R (.error e) s'') e s') :
  codeAny (model prog w) A (.compLoop (.ListComp elt gens scope pos) d it acc env) R s:=by
 refine codeAny_loop rfl I (λn s hI=>?_) n h
 show wpAny _ A ((compTurn (.ListComp elt gens scope pos) d it acc env).onRaise (λx=>do noteFrame x env;theTreesLotGoes x)) _ _ s
 refine wpAny_noted ?_
 rw [ht]
 refine wpAny_bind (wpAny_standAt (wpAny_bind (wpAny_mono (turn n s hI) (λr s₁ h₁=>?_) λ_ _ h'=>hE _ _ h')))
 cases r with
 | none=>exact wpAny_pure h₁
 | some v =>
  refine wpAny_bind (wpAny_mono h₁ (λ_ s₁' h₁'=>?_) λ_ _ h'=>hE _ _ h')
  refine wpAny_bind (wpAny_mono h₁' (λ_ s₂ h₂=>wpAny_bind (wpAny_mono h₂ (λok s₃ h₃=>?_) λ_ _ h'=>hE _ _ h')) λ_ _ h'=>hE _ _ h')
  cases ok with
  | false=>exact wpAny_pure ⟨rfl,h₃⟩
  | true=>exact wpAny_bind (wpAny_mono h₃ (λ_ s₅ h₅=>wpAny_pure ⟨rfl,h₅⟩) λ_ _ h'=>hE _ _ h')
def m6 (elt:Expr) (acc:Value) (env:Env):Sem Unit:=do let _ <- call (.builtin "list.append") [acc,<- eval elt env]
theorem rX (elt target iter:Expr) (ifs:List Expr) (scope:Scope) (pos:Pos) (it acc:Value) (env:Env) :
  compTurn (.ListComp elt [⟨target,iter,ifs,0⟩] scope pos) 0 it acc env=(do
   standAt iter.pos
   match <- pyNext it with
   | none=>pure (.done .next)
   | some v =>
    letOwnedTupleGo target it v
    assign target env v
    let mut ok:=true
    for c in ifs do
     if ok then ok <- isTrue c env (eval c env)
    if ok then m6 elt acc env
    again (.compLoop (.ListComp elt [⟨target,iter,ifs,0⟩] scope pos) 0 it acc env)):=by rfl
def bz (X:Cx) (Ex:Value->Shared->Prop) (N':List Str) (scope:Scope) (cl:List (Str × Addr)) (C:Addr) (s₂:Shared) (H₂:Hp) (fp:List Addr):Cx :=
 { X with N:=N',s₀:=s₂,H₀:=H₂,env:=compEnvC scope (cellsFrom (C+1) scope.names cl) C X.env,outer:=X.stack,stack:=X.stack,ex:=fp,fn:=λx=>scope.names.lookup x==some .cell,pn:=[],xe:=Ex }
abbrev bB (X:Cx):=bz X λ_ _=>False
def AllIn (env:Env):List (Str × Addr)->Prop
 | []=>True
 | p::r=>env.cells.lookup p.1=some p.2/\AllIn env r
theorem AllIn.get {env:Env}:∀{l:List (Str × Addr)},AllIn env l->∀ y c,l.lookup y=some c->env.cells.lookup y=some c
 | [],_,_,_,h=>by simp at h
 | (z,d)::r,a,y,c,h=>by
  rw [List.lookup_cons] at h
  cases e:y==z with
  | true =>
   rw [e] at h
   have q:y=z:=by simpa using e
   subst q
   cases h
   exact a.1
  | false =>
   rw [e] at h
   exact AllIn.get a.2 y c h
def bc (js:List (Option Nat)) (σ:St):St:=js.map λo=>match o with | none=>none | some j=>(σ[j]?).join
structure dg (X:Cx) (N':List Str) (js:List (Option Nat)) (scope:Scope) (cl:List (Str × Addr)):Prop where
 clos:closureFor scope X.env=pure cl
 kind:scope.kind=.function
 nocell:∀ y∈scope.names,y.2=.cell->scope.names.lookup y.1=some .cell/\∀ p∈js.zip N',p.1.isSome=true->p.2≠y.1
 names:∀ y∈scope.names,y.2=.local->scope.names.lookup y.1=some .local
 sub:AllIn X.env cl
 has:∀ y∈scope.names,y.2=.free->(cl.lookup y.1).isSome=true
 jlen:js.length=N'.length
 jok:∀(i j:Nat) x,js[i]?=some (some j)->N'[i]?=some x->X.N[j]?=some x/\(cl.lookup x).isSome=true/\vn X.env.scope x/\X.env.kindOf x≠some .local/\((relabel scope X.env).names.lookup x=some .cell∨(relabel scope X.env).names.lookup x=some .free)
theorem cK {scope:Scope} {env:Env} {x:Str} {k:NameKind} (h:(relabel scope env).names.lookup x=some k) (hk:k=.cell∨k=.free):∃ y∈scope.names,y.1=x/\(y.2=.free∨y.2=.cell):=by
 have hm:=PySem.mem_of_lookup h
 obtain⟨⟨n,q⟩,hm',e⟩:=List.mem_map.mp hm
 dsimp only at e
 split at e
 ·rename_i hc
  have e1:n=x:=congrArg Prod.fst e
  refine⟨(n,q),hm',e1,.inl ?_⟩
  have:(q==NameKind.free)=true:=by
   simp only [Bool.and_eq_true] at hc
   exact hc.1.1
  simpa using this
 ·have e1:n=x:=congrArg Prod.fst e
  have e2:q=k:=congrArg Prod.snd e
  refine⟨(n,q),hm',e1,?_⟩
  rcases hk with hk | hk
  ·exact .inr (e2.trans hk)
  ·exact .inl (e2.trans hk)
theorem dE {x:Str} {c:Addr}:∀(ns:List (Str × NameKind)) (n:Nat) (acc:List (Str × Addr)),(cellsFrom n ns acc).lookup x=some c->acc.lookup x=some c∨n<=c
 | [],_,_,h=>.inl h
 | (y,k)::r,n,acc,h=>by
  unfold cellsFrom at h
  split at h
  ·rcases dE r _ _ h with z | z
   ·rw [List.lookup_cons] at z
    split at z
    ·cases z;exact .inr (Nat.le_refl _)
    ·exact .inl z
   ·exact .inr (Nat.le_of_succ_le z)
  ·exact dE r _ _ h
theorem jM {x:Str} {c:Addr}:∀(ns:List (Str × NameKind)) (n:Nat) (acc:List (Str × Addr)),ns.lookup x=some .cell->(cellsFrom n ns acc).lookup x=some c->n<=c
 | [],_,_,h,_=>by cases h
 | (y,k)::r,n,acc,h,e=>by
  rw [List.lookup_cons] at h
  unfold cellsFrom at e
  split at h
  ·rename_i hy
   cases h
   rcases dE r _ _ e with z | z
   ·rw [List.lookup_cons,hy] at z
    cases z;exact Nat.le_refl _
   ·exact Nat.le_of_succ_le z
  ·split at e
   ·exact Nat.le_of_succ_le (jM r _ _ h e)
   ·exact jM r _ _ h e
theorem gI {x:Str}:∀(ns:List (Str × NameKind)) (n:Nat) (acc:List (Str × Addr)),(∀ y∈ns,y.2=.cell->x≠y.1)->(cellsFrom n ns acc).lookup x=acc.lookup x
 | [],_,_,_=>rfl
 | (y,k)::r,n,acc,h=>by
  unfold cellsFrom
  split
  ·rename_i hk
   rw [gI r _ _ λz hz=>h z (List.mem_cons_of_mem _ hz),List.lookup_cons]
   have:(x==y)=false:=by simpa using h (y,k) List.mem_cons_self (by simpa using hk)
   rw [this]
  ·exact gI r _ _ λz hz=>h z (List.mem_cons_of_mem _ hz)
theorem jL:∀(ns:List (Str × NameKind)) (n:Nat) (acc:List (Str × Addr)),(∀ x c,acc.lookup x=some c->c<n)->(∀ x y c,acc.lookup x=some c->acc.lookup y=some c->x=y) ->
  ∀ x y c,(cellsFrom n ns acc).lookup x=some c->(cellsFrom n ns acc).lookup y=some c->x=y
 | [],_,_,_,h=>h
 | (z,k)::r,n,acc,hl,hi=>by
  unfold cellsFrom
  split
  ·refine jL r _ _ (λx c e=>?_) λx y c e1 e2=>?_
   ·rw [List.lookup_cons] at e
    split at e
    ·cases e;exact Nat.lt_succ_self _
    ·exact Nat.lt_succ_of_lt (hl x c e)
   ·rw [List.lookup_cons] at e1 e2
    split at e1<;>split at e2
    ·rename_i a _ b
     rw [eq_of_beq a,eq_of_beq b]
    ·cases e1;exact absurd (hl y _ e2) (Nat.lt_irrefl _)
    ·cases e2;exact absurd (hl x _ e1) (Nat.lt_irrefl _)
    ·exact hi x y c e1 e2
  ·exact jL r _ _ hl hi
theorem gH:∀(ns:List (Str × NameKind)) (h:Heap) (acc:List (Str × Addr)),(∀ x c,acc.lookup x=some c->∃ v,h.IsCell c v)->∀ x c,(cellsFrom h.objs.size ns acc).lookup x=some c->∃ v,(pushCells h ns).IsCell c v
 | [],_,_,h=>h
 | (z,k)::r,h,acc,hl=>by
  unfold cellsFrom pushCells
  split
  ·have:=gH r (h.push { cls:=.type "cell",data:=.cell none }) ((z,h.objs.size)::acc) λx c e=>by
    rw [List.lookup_cons] at e
    split at e
    ·cases e;exact⟨none,_,Heap.get?_push_size _ rfl,rfl⟩
    ·obtain⟨v,q⟩:=hl x c e
     exact⟨v,q.keeps λb o e=>Heap.get?_push_of_some _ e⟩
   rwa [Heap.size_push] at this
  ·exact gH r h acc hl
theorem eY {M:Model} {A:Around} {E:Value->Shared->Prop} {s:Shared} {scope:Scope} {g:Addr} {cl:List (Str × Addr)} {qual:Str} {env:Env} {Q:Env->Shared->Prop}
  (h:Q (newEnv scope s.heap.objs.size g (cellsFrom (s.heap.objs.size+1) scope.names cl) qual none .none (some env) builtinsNs) { s with heap:=pushCells (s.heap.push { cls:=.type "dict",data:=.dict #[] }) scope.names }) :
  wpAny M A (newFunctionEnv scope g cl [] qual none .none (some env)) Q E s:=by
 simp only [newFunctionEnv,Option.isSome_some,if_true]
 refine wpAny_bind (wpAny_alloc ?_)
 refine wpAny_bind (wpAny_layCells _ (λname kind cells=>by cases hkc:kind==NameKind.cell<;>simp [hkc]) _ _ _ _ ?_)
 rw [show ({ s with heap:=s.heap.push { cls:=.type "dict",data:=.dict #[] } }:Shared).heap.objs.size=s.heap.objs.size+1 from Heap.size_push ..]
 exact wpAny_bind (wpAny_pure (wpAny_pure h))
def lobj (ys:List Value):Obj:={ cls:=.type "list",data:=.seq ys.toArray ys.length }
def jH (X:Cx) (ifs:List Expr) (t:TT):Prop :=
 ∀(pins:List (Addr × Obj)) (s:Shared) (σ:St) (H:Hp) (Q:Bool->Hp->Prop),Inv X pins σ H s->t σ H Q ->
  wpAny (model X.prog X.w) X.A (forIn ifs true λc r=>if r=true then do let ok <- isTrue c X.env (eval c X.env);pure (ForInStep.yield ok) else pure (ForInStep.yield r)) (TP X pins σ Q) X.xe s
def u7:TT:=λ_ H Q=>Q true H
theorem cj {X:Cx}:jH X [] u7:=λpins s σ H Q I h=>wpAny_tests_nil ⟨H,I,h⟩
theorem lz {X:Cx} {c:Expr} {t:TT} (h:PT X c t):jH X [c] t:=λpins s σ H Q I q=>wpAny_tests_one (h pins s σ H Q I q)
def a6:List (Option V)->List (Option V)->Prop
 | [],[]=>True
 | none::r,_::r'=>a6 r r'
 | some v::r,some u::r'=>u=v/\a6 r r'
 | _,_=>False
theorem a6.len:∀{a b:List (Option V)},a6 a b->a.length=b.length
 | [],[],_=>rfl
 | none::r,_::r',h=>by simp [a6.len (a:=r) (b:=r') h]
 | some v::r,some u::r',h=>by simp [a6.len (a:=r) (b:=r') h.2]
 | some v::r,none::r',h=>h.elim
 | some v::r,[],h=>h.elim
 | none::r,[],h=>h.elim
 | [],_::_,h=>h.elim
theorem a6.get:∀{a b:List (Option V)},a6 a b->∀(i:Nat) v,a[i]?=some (some v)->b[i]?=some (some v)
 | [],[],_,i,v,h=>by simp at h
 | none::r,_::r',h,0,v,e=>by simp at e
 | none::r,_::r',h,i+1,v,e=>by
  have:=a6.get (a:=r) (b:=r') h i v (by simpa using e)
  simpa using this
 | some v::r,some u::r',h,0,v',e=>by
  have q:v=v':=by simpa using e
  have:=h.1
  simp [this,q]
 | some v::r,some u::r',h,i+1,v',e=>by
  have:=a6.get (a:=r) (b:=r') h.2 i v' (by simpa using e)
  simpa using this
 | some v::r,none::r',h,_,_,_=>h.elim
 | some v::r,[],h,_,_,_=>h.elim
 | none::r,[],h,_,_,_=>h.elim
 | [],_::_,h,_,_,_=>h.elim
def x9 (js:List (Option Nat)) (wi:TI) (g:TG) (tt:TT) (te:TE):TE:=λσ H Q=>wi σ H λJ H1=>∃ W:Nat->Nat->List V->Hp->Prop,(∃ m,W 0 m [] H1)/\∀ i m ys H,W i m ys H ->
 (J.stop i H/\ys.length<=sizeLine/\∀ p,H p=none->Q (.ref p) (upd H p (.lst ys))) ∨
 (J.go i H/\ys.length<sizeLine/\∃ N:List V->Hp->Prop,(∀ ys' H',N ys' H'->∃ m',m'<m/\W (i+1) m' ys' H') /\
  ∀ x H',J.yld i H x H'->g x (bc js σ) H' λσ2 H2=>a6 (bc js σ) σ2/\tt σ2 H2 λb H3=>if b=true then te σ2 H3 λv H4=>N (ys++[v]) H4 else N ys H3)
structure iQ (X:Cx) (C:Addr) (s₂:Shared) (H₂:Hp) (fp:List Addr):Prop where
 inv:∃ pins σ,Inv X pins σ H₂ s₂
 new:∀ b∈fp,X.s₀.heap.objs.size<=b∨b∈X.ex
 nof:∀ b∈dB X.stack,b∉fp
 le:s₂.heap.objs.size<=C
def vi (X:Cx) (elt target:Expr) (gens:List Comprehension) (ifs:List Expr) (scope:Scope) (pos:Pos) (Bd:(Value->Shared->Prop)->Value->Env->(Shared->Prop)->Shared->Prop):Prop :=
 ∀(Ex:Value->Shared->Prop) (R:Result->Shared->Prop) (s:Shared) (it acc:Value) (env:Env) (I:Nat->Shared->Prop),
  (∀ n s,I n s->wpAny (model X.prog X.w) X.A (pyNext it) (λr s₁=>match r with
   | none=>R (.ok .next) s₁
   | some v=>wpAny (model X.prog X.w) X.A (letOwnedTupleGo target it v) (λ_ s₁'=>wpAny (model X.prog X.w) X.A (assign target env v) (λ_ s₂ =>
     wpAny (model X.prog X.w) X.A (forIn ifs true λc r=>if r=true then do let ok <- isTrue c env (eval c env);pure (ForInStep.yield ok) else pure (ForInStep.yield r)) (λok s₃ =>
      if ok=true then Bd Ex acc env (λs₅=>∃ m,m<n/\I m s₅) s₃ else ∃ m,m<n/\I m s₃) Ex s₂) Ex s₁') Ex s₁) Ex s) ->
  ∀ n,I n s->(∀ e s',Ex e s'->notedBy (model X.prog X.w) X.A env (λe s''=>R (.error e) s'') e s')->codeAny (model X.prog X.w) X.A (.compLoop (.ListComp elt gens scope pos) 0 it acc env) R s
structure mW (Y:Cx) (D:Addr) (P:List (Addr × Obj)):Prop where
 ne:∀ p∈P,p.1≠D
 new:Y.s₀.heap.objs.size<=D
 cell:∀ x c,Y.env.cells.lookup x=some c->c≠D
theorem vL {X:Cx} {Ex:Addr->Shared->Hp->List Addr->Value->Shared->Prop} {elt target iter:Expr} {rest:List Comprehension} {ifs:List Expr} {scope:Scope} {pos:Pos} {N':List Str} {js:List (Option Nat)} {cl:List (Str × Addr)} {g:TG} {tt:TT} {Cc:List V->Prop} {tb:List V->St->Hp->(List V->Hp->Prop)->Prop} {Bd:(Value->Shared->Prop)->Value->Env->(Shared->Prop)->Shared->Prop} (hcalm:X.calm=true) (hloop:vi X elt target (⟨target,iter,ifs,0⟩::rest) ifs scope pos Bd)
  (K:dg X N' js scope cl)
  (hg:∀ C s₂ H₂ fp,iQ X C s₂ H₂ fp->PG (bz X (Ex C s₂ H₂ fp) N' scope cl C s₂ H₂ fp) target g) (ht:∀ C s₂ H₂ fp,iQ X C s₂ H₂ fp->jH (bz X (Ex C s₂ H₂ fp) N' scope cl C s₂ H₂ fp) ifs tt) (hB:∀ C s₂ H₂ fp,iQ X C s₂ H₂ fp->∀(D:Addr) ys vys P σ H s N Ps,Inv (bz X (Ex C s₂ H₂ fp) N' scope cl C s₂ H₂ fp) ([(D,lobj ys)]++P) σ H s->Vals vys ys->mW (bz X (Ex C s₂ H₂ fp) N' scope cl C s₂ H₂ fp) D P->Cc vys->tb vys σ H N ->
   (∀ ys' vys' H' s',Inv (bz X (Ex C s₂ H₂ fp) N' scope cl C s₂ H₂ fp) ([(D,lobj ys')]++P) σ H' s'->Vals vys' ys'->N vys' H'->Ps s')->Bd (Ex C s₂ H₂ fp) (.ref D) (bz X (Ex C s₂ H₂ fp) N' scope cl C s₂ H₂ fp).env Ps s)
  (herr:∀ C s₂ H₂ fp use Q' acc e s',Ex C s₂ H₂ fp e s'->notedBy (model X.prog X.w) X.A (compEnvC scope (cellsFrom (C+1) scope.names cl) C X.env) (λe s''=>compPost (model X.prog X.w) X.A X.xe use Q' acc C (.error e) s'') e s')
  {pins:List (Addr × Obj)} {σ:St} {Q:VK} {use:Option (Value->Sem Unit)} {Q':Value->Shared->Prop} {itv:Value} {s2:Shared}
  (h2:wL X pins σ target (λJ H1=>∃ W:Nat->Nat->List V->Hp->Prop,(∃ m,W 0 m [] H1)/\∀ i m ys H,W i m ys H ->
 (J.stop i H/\ys.length<=sizeLine/\∀ p,H p=none->Q (.ref p) (upd H p (.lst ys))) ∨
 (J.go i H/\Cc ys/\∃ N:List V->Hp->Prop,(∀ ys' H',N ys' H'->∃ m',m'<m/\W (i+1) m' ys' H') /\
  ∀ x H',J.yld i H x H'->g x (bc js σ) H' λσ2 H2=>a6 (bc js σ) σ2/\tt σ2 H2 λb H3=>if b=true then tb ys σ2 H3 N else N ys H3)) itv s2)
  (hok:∀ C D vys H4 s5,(∃ m,s5.heap.Ns C m)->s2.heap.objs.size<=D->D<=C->D≠C->H4 D=none->H4 C=none->(∀ h',Heap.SameBut C s5.heap h'->Inv X pins σ (upd H4 D (.lst vys)) { s5 with heap:=h' })->Q (.ref D) (upd H4 D (.lst vys))->compPost (model X.prog X.w) X.A X.xe use Q' (.ref D) C (.ok .next) s5) :
  wpAny (model X.prog X.w) X.A (newList []) (λacc s₃=>wpAny (model X.prog X.w) X.A (newFunctionEnv scope X.env.globals cl [] X.env.qual none .none (some X.env)) (λcenv s₄ =>
   codeAny (model X.prog X.w) X.A (.compStart (.ListComp elt (⟨target,iter,ifs,0⟩::rest) scope pos) 0 itv acc { cenv with scope:=relabel scope X.env }) (compPost (model X.prog X.w) X.A X.xe use Q' acc cenv.locals) s₄) X.xe s₃) X.xe s2:=by
 obtain⟨it,fp,tn,J,H2,e,I2,T,st2,f2,W,⟨m0,w0⟩,turn⟩:=h2
 subst e
 refine wpAny_newObj_type (eY ?_)
 dsimp only
 generalize hP2:s2.heap.push { cls:=.type "list",dict:=none,data:=.seq ([]:List Value).toArray }=P2
 generalize hh₁:pushCells (P2.push { cls:=.type "dict",data:=.dict #[] }) scope.names=h₁
 have hns₁:h₁.Ns P2.objs.size λ_=>none:=hh₁▸(Heap.Ns.new P2 (.type "dict")).keeps (pushCells_keeps _ _)
 have upP:∀ b o,P2.get? b=some o->h₁.get? b=some o:=λb o e=>hh₁▸pushCells_keeps _ _ b o (Heap.get?_push_of_some _ e)
 have hcel:∀ x c,(cellsFrom (P2.objs.size+1) scope.names cl).lookup x=some c->∃ v,h₁.IsCell c v:=by
  have:=gH scope.names (P2.push { cls:=.type "dict",data:=.dict #[] }) cl λx c e=>by
   obtain⟨v,q⟩:=I2.cell x c (K.sub.get x c e)
   exact⟨v,q.keeps λb o e=>Heap.get?_push_of_some _ (hP2▸Heap.get?_push_of_some _ e)⟩
  rw [Heap.size_push,hh₁] at this
  exact this
 have hC:P2.objs.size=s2.heap.objs.size+1:=by rw [<- hP2,Heap.size_push]
 have hDC:s2.heap.objs.size≠P2.objs.size:=by rw [hC];exact Nat.ne_of_lt (Nat.lt_succ_self _)
 have below:∀ b,b<s2.heap.objs.size->b≠P2.objs.size/\b≠s2.heap.objs.size:=λb hb=>⟨by rw [hC];exact Nat.ne_of_lt (Nat.lt_succ_of_lt hb),Nat.ne_of_lt hb⟩
 have old:∀ b o,s2.heap.get? b=some o->h₁.get? b=some o:=λb o e=>upP b o (hP2▸Heap.get?_push_of_some _ e)
 have hacc:h₁.get? s2.heap.objs.size=some (lobj []):=upP _ _ (hP2▸Heap.get?_push_size _ rfl)
 generalize hCe:P2.objs.size=C at *
 generalize hDe:s2.heap.objs.size=D at *
 let Y:Cx:=bz X (Ex C s2 H2 fp) N' scope cl C s2 H2 fp
 have clLt:∀ y c,cl.lookup y=some c->c<D:=λy c e=>by
  obtain⟨v,q⟩:=I2.cell y c (K.sub.get y c e)
  rw [<- hDe]
  exact q.lt
 have cellsX:∀ y c,Y.env.cells.lookup y=some c->cl.lookup y=some c∨C+1<=c:=λy c e=>dE _ _ _ e
 have cellNe:∀ y c,Y.env.cells.lookup y=some c->c≠D:=λy c e=>by
  rcases cellsX y c e with z | z
  ·exact Nat.ne_of_lt (clLt y c z)
  ·exact Nat.ne_of_gt (by omega)
 have freshH:∀ a,D<=a->H2 a=none:=λa ha=>I2.hok.fresh (by rw [hDe];exact ha)
 have hDleC:D<=C:=by rw [hC];exact Nat.le_succ _
 have lc:iQ X C s2 H2 fp:=⟨⟨pins,σ,I2⟩,λb hb=>((f2 b hb).2.2.2.1).symm,λb hf hb=>by
   rcases List.mem_cons.mp (I2.du b hf) with z | z
   ·exact (f2 b hb).2.1 z
   ·exact (f2 b hb).2.2.1 z,by rw [hDe];exact hDleC⟩
 have hbelowfp:∀ b∈fp,b<D:=λb hb=>by
  obtain⟨o,e,_⟩:=T.obj _ _ st2 b hb
  rw [<- hDe]
  exact Heap.lt_size e
 have okY:Y.Ok:=by
  refine⟨I2.ok.mod,K.kind,I2.ok.glob,I2.ok.blt,?_,jL _ _ _ (λx c e=>Nat.lt_succ_of_lt (Nat.lt_of_lt_of_le (clLt x c e) hDleC)) (λx y c e1 e2=>I2.ok.inj x y c (K.sub.get x c e1) (K.sub.get y c e2)),λx hx=>?_,λx c hf hc=>?_,I2.ok.hd,I2.ok.frames,.inl rfl,λb hb=>?_,I2.bs,Nat.le_trans I2.ok.bsz I2.sz,λb o e hb=>?_,λb hb hf=>?_,I2.stack,I2.cQ⟩
  ·show s2.heap.objs.size<=C
   rw [hDe];exact hDleC
  ·have hx':(relabel scope X.env).names.lookup x=some .cell∨(relabel scope X.env).names.lookup x=some .free:=hx
   have:∃ y∈scope.names,y.1=x/\(y.2=.free∨y.2=.cell):=by
    rcases hx' with q | q
    ·exact cK q (.inl rfl)
    ·exact cK q (.inr rfl)
   obtain⟨y,hm,e1,e2⟩:=this
   refine Option.isSome_iff_exists.mp (PySem.W.cellsFrom_some _ _ _ ?_)
   rcases e2 with e2 | e2
   ·have q:=K.has y hm e2
    rw [e1] at q
    exact .inr q
   ·exact .inl (e1▸(K.nocell y hm e2).1)
  ·have hf':scope.names.lookup x=some .cell:=by simpa using (show (scope.names.lookup x==some .cell)=true from hf)
   have:=jM _ _ _ hf' hc
   show s2.heap.objs.size<=c
   rw [hDe];exact Nat.le_trans hDleC (Nat.le_of_succ_le this)
  ·refine⟨Nat.ne_of_lt (Nat.lt_of_lt_of_le (hbelowfp b hb) hDleC),λx c e=>?_⟩
   rcases cellsX x c e with z | z
   ·exact (f2 b hb).2.2.2.2.1 x c (K.sub.get x c z)
   ·exact Nat.ne_of_gt (Nat.lt_of_lt_of_le (Nat.lt_of_lt_of_le (hbelowfp b hb) hDleC) (Nat.le_of_succ_le z))
  ·rcases (f2 b hb).2.2.2.1 with z | z
   ·exact I2.ok.noex b o e z
   ·exact absurd (Nat.lt_of_lt_of_le (Heap.lt_size e) (Nat.le_trans I2.ok.bsz z)) (Nat.lt_irrefl _)
  ·rcases List.mem_cons.mp (I2.du b hf) with z | z
   ·exact (f2 b hb).2.1 z
   ·exact (f2 b hb).2.2.1 z
 -- the block's names
 have locY:∀{s':Shared} {H':Hp} {σ':St},True:=λ{_ _ _}=>trivial
 have invY0:Inv Y [(D,lobj [])] (bc js σ) H2 { s2 with heap:=h₁ }:=by
  refine⟨okY,rfl,I2.bare,Un.kept old,⟨_,hns₁,λi x v e1 e2 vis=>?_⟩,hcel,freshH C hDleC,λy c e=>?_,λp hp=>?_,I2.hok.kept old,?_⟩
  ·-- a name of the block that has a value stands outside in a cell
   have e2':(bc js σ)[i]?=some (some v):=e2
   unfold bc at e2'
   rw [List.getElem?_map] at e2'
   cases ej:js[i]? with
   | none=>rw [ej] at e2';cases e2'
   | some o =>
    rw [ej] at e2'
    cases o with
    | none=>cases e2'
    | some j =>
     obtain⟨n1,n2,n3,n4,n5⟩:=K.jok i j x ej e1
     have e3:(σ[j]?).join=some v:=by simpa using e2'
     have e4:σ[j]?=some (some v):=by
      cases q:σ[j]? with
      | none=>rw [q] at e3;cases e3
      | some z=>rw [q] at e3;simpa using e3
     obtain⟨m,hn,hl⟩:=I2.loc
     obtain⟨u,r,l⟩:=hl j x v n1 e4 n3
     refine⟨u,r,.inr ⟨n5,?_⟩⟩
     rcases l with⟨k,_⟩|⟨k,c,ec,z⟩
     ·exact absurd k n4
     ·obtain⟨c',ec'⟩:=Option.isSome_iff_exists.mp n2
      have ee:=K.sub.get x c' ec'
      rw [ec] at ee
      cases ee
      refine⟨c,(gI _ _ _ λy hy hk=>(K.nocell y hy hk).2 (some j,x) ?_ rfl).trans ec',?_⟩
      ·exact List.mem_of_getElem? (i:=i) (by rw [List.getElem?_zip_eq_some];exact⟨ej,e1⟩)
      obtain⟨o,ho,hd⟩:=z
      exact⟨o,old c o ho,hd⟩
  ·rcases cellsX y c e with z | z
   ·exact I2.freeC y c (K.sub.get y c z)
   ·exact freshH c (by omega)
  ·have hp':p∈[(D,lobj [])]:=hp
   have e:p=(D,lobj []):=by simpa using hp'
   subst e
   refine⟨hacc,freshH D (Nat.le_refl _),hDC,λz=>?_,λv z=>by cases z⟩
   rcases List.mem_cons.mp (I2.du D z) with q | q
   ·exact absurd (q▸I2.lt) (by rw [hDe];exact Nat.lt_irrefl _)
   ·exact I2.tN (by rw [hDe];exact Nat.le_refl _) q
  ·show (bc js σ).length=N'.length
   unfold bc
   rw [List.length_map]
   exact K.jlen
 have hDfs:D∉Y.fs:=λz=>by
  rcases List.mem_cons.mp (I2.du D z) with q | q
  ·exact absurd (q▸I2.lt) (by rw [hDe];exact Nat.lt_irrefl _)
  ·exact I2.tN (by rw [hDe];exact Nat.le_refl _) q
 have stat:∀{H':Hp} {ys:List Value},(∀ b∈fp,H' b=none)->∀ b∈fp,iP Y [(D,lobj ys)] H' b:=λ{H' ys} hn b hb=>by
  refine⟨hn b hb,Nat.ne_of_lt (Nat.lt_of_lt_of_le (hbelowfp b hb) hDleC),okY.exfs b hb,.inl hb,okY.exf b hb |>.2,λp hp=>?_⟩
  have hp':p∈[(D,lobj ys)]:=hp
  have e:p=(D,lobj ys):=by simpa using hp'
  subst e
  exact Nat.ne_of_gt (hbelowfp b hb)
 have loop:∀ s3:Shared,s3={ s2 with heap:=h₁ } ->
   codeAny (model X.prog X.w) X.A (.compLoop (.ListComp elt (⟨target,iter,ifs,0⟩::rest) scope pos) 0 (.ref it) (.ref D) (compEnvC scope (cellsFrom (C+1) scope.names cl) C X.env)) (compPost (model X.prog X.w) X.A X.xe use Q' (.ref D) C) s3:=by
  rintro s3 rfl
  refine hloop _ _ _ _ _ _ (λn s'=>∃ i ys vys H',Inv Y [(D,lobj ys)] (bc js σ) H' s'/\tn i s'.heap/\(∀ b∈fp,H' b=none)/\Vals vys ys/\W i n vys H') ?_ m0
   ⟨0,[],[],H2,invY0,T.keep _ _ _ st2 λb _ o e=>old b o e,λb hb=>(f2 b hb).1,.nil,w0⟩ λe s' z=>herr C s2 H2 fp use Q' (.ref D) e s' z
  rintro n s4 ⟨i,ys,vys,H4,I4,st4,fr4,rv,w4⟩
  rcases turn i n vys H4 w4 with⟨stop,hz,qn⟩|⟨go,hz,Nn,hN,step⟩
  ·refine a5 (T.done Y rfl rfl rfl hcalm i _ s4 _ H4 (Ex C s2 H2 fp) I4 (stat fr4) st4 stop) λr s5 ⟨hr,I5⟩=>?_
   subst hr
   obtain⟨m5,hn5,_⟩:=I5.loc
   obtain⟨pD,nD,_,_,_⟩:=I5.pin (D,lobj ys) (by show _∈[(D,lobj ys)];simp)
   have nC:H4 C=none:=I5.free
   refine hok C D vys H4 s5 ⟨m5,hn5⟩ (Nat.le_refl _) hDleC hDC nD nC (λh' hsb=>?_) (qn D nD)
   have pD':h'.get? D=some (lobj ys):=hsb.extBut _ _ hDC pD
   refine I2.pZ (s':={ s5 with heap:=h' }) (ch:=fp) I5.os ?_ ?_ I5.bare (λb hb=>?_)
   ·-- kept
    have u:=I5.base
    have neC:∀ b o,s2.heap.get? b=some o->b≠C/\b≠D:=λb o e=>by
     have:=Heap.lt_size e
     rw [hDe] at this
     exact⟨Nat.ne_of_lt (Nat.lt_of_lt_of_le this hDleC),Nat.ne_of_lt this⟩
    refine⟨λb o e nn hb hx=>hsb.extBut b o (neC b o e).1 (u.keep b o e nn hb hx),λb o e nn hb hx=>?_,λb o e nn hx=>?_,λb o e hx=>?_,λb xs e=>?_,λb o xs e=>?_,λb ps e=>?_⟩
    ·obtain⟨sl,q⟩:=u.slot b o e nn hb hx
     exact⟨sl,hsb.extBut b _ (neC b o e).1 q⟩
    ·rw [ak (neC b o e).2]
     exact u.free b o e nn hx
    ·obtain⟨o',q⟩:=u.there b o e hx
     exact⟨o',hsb.extBut b _ (neC b o e).1 q⟩
    ·rw [ak (aT (u.tups b xs e) nD)]
     exact u.tups b xs e
    ·rw [ak (aT (u.frzs b o xs e) nD)]
     exact u.frzs b o xs e
    ·obtain⟨more,q⟩:=u.tbls b ps e
     exact⟨more,by rw [ak (aT q nD)];exact q⟩
   ·intro b o e
    by_cases hb:b=D
    ·subst hb
     rw [ag] at e
     cases e
     exact⟨hz,ys,_,rv,pD'⟩
    ·rw [ak hb] at e
     refine (I5.hok b o e).fW (λc w' hc q=>hsb.extBut c w' ?_ q) (λc q=>by rw [ak (aT q nD)];exact q) λc xs q=>by rw [ak (aT q nD)];exact q
     rintro rfl
     rcases hc with rfl | hc
     ·rw [nC] at e;cases e
     ·rw [nC] at hc;cases hc
   ·exact⟨(f2 b hb).2.2.2.1,(f2 b hb).2.1,(f2 b hb).2.2.2.2.1,(f2 b hb).2.2.2.2.2⟩
  ·refine a5 (T.item Y rfl rfl rfl hcalm i _ s4 _ H4 (Ex C s2 H2 fp) I4 (stat fr4) st4 go) λr s5 ⟨u,hr,h5⟩=>?_
   subst hr
   refine a5 h5 λ_ s6 ⟨x,H6,I6,r6,y6,st6,fr6⟩=>?_
   have I6':=I6.pinned (stat fr6) (T.obj _ _ st6)
   refine a5 (hg C s2 H2 fp lc _ s6 _ H6 x u _ I6' r6 (step x H6 y6)) λ_ s7 ⟨σ7,H7,I7,k7,q7⟩=>?_
   refine a5 (ht C s2 H2 fp lc _ s7 σ7 H7 _ I7 q7) λb s8 ⟨H8,I8,q8⟩=>?_
   -- behind the tests and the element: the state goes back to what the next turn wants
   have again:∀{ys':List Value} {s9:Shared} {H9:Hp},Inv Y ([(D,lobj ys')]++fo fp s6.heap) σ7 H9 s9->Inv Y [(D,lobj ys')] (bc js σ) H9 s9/\tn (i+1) s9.heap/\∀ b∈fp,H9 b=none:=λ{ys' s9 H9} I9=>by
    refine⟨(I9.dS).weak k7.len k7.get,T.keep _ _ _ st6 λb hb o e=>(I9.pin (b,o) (List.mem_append_right _ (List.mem_append_right _ (bZ hb e)))).1,λb hb=>?_⟩
    obtain⟨o,e,d⟩:=T.obj _ _ st6 b hb
    exact (I9.pin (b,o) (List.mem_append_right _ (List.mem_append_right _ (bZ hb e)))).2.1
   cases b with
   | false =>
    rw [if_neg Bool.false_ne_true] at q8 ⊢
    obtain⟨m',hm,w8⟩:=hN _ _ q8
    obtain⟨J8,t8,f8⟩:=again I8
    exact⟨m',hm,i+1,ys,vys,H8,J8,t8,f8,rv,w8⟩
   | true =>
    rw [if_pos rfl] at q8 ⊢
    have aok:mW Y D (fo fp s6.heap):=⟨λp hp z=>absurd (hbelowfp p.1 (jr hp).1) (by rw [z];exact Nat.lt_irrefl _),by show s2.heap.objs.size<=D;rw [hDe];exact Nat.le_refl _,λx c e=>cellNe x c e⟩
    refine hB C s2 H2 fp lc D ys vys _ σ7 H8 s8 Nn _ I8 rv aok hz q8 λys' vys' H9 s9 I9 rv' q9=>?_
    obtain⟨J9,t9,f9⟩:=again I9
    obtain⟨m',hm,w9⟩:=hN _ _ q9
    exact⟨m',hm,i+1,ys',vys',H9,J9,t9,f9,rv',w9⟩
 exact codeAny_compStart_list (loop _ rfl) (T.self _ 0 _ _ _ (T.keep _ _ _ st2 λb _ o e=>old b o e) (loop _ rfl))
theorem sJ {Y:Cx} {D:Addr} {ys:List Value} {P:List (Addr × Obj)} {σ:St} {H:Hp} {s:Shared} {y:Value} {Q:Value->Shared->Prop} {E:Value->Shared->Prop} (hpn:Y.pn=[]) (I:Inv Y ([(D,lobj ys)]++P) σ H s) (ok:mW Y D P) (z:ys.length<sizeLine)
  (q:∀ s',Inv Y ([(D,lobj (ys++[y]))]++P) σ H s'->Q .none s'):wpAny (model Y.prog Y.w) Y.A (call (.builtin "list.append") [.ref D,y]) Q E s:=by
 obtain⟨pD,nD,neD,nfD,_⟩:=I.pin (D,lobj ys) (by rw [hpn];simp)
 refine append_at (hsz:=by show ys.toArray.size<=sizeLine;rw [List.size_toArray];exact Nat.le_of_lt z) (show s.heap.get? D=some { cls:=.type "list",data:=.seq ys.toArray ys.length } from pD) λh' hsb hD'=>q _ ?_
 have eD:h'.get? D=some (lobj (ys++[y])):=by
  rw [hD']
  unfold lobj
  rw [List.length_append,List.length_singleton,List.push_toArray]
 have J1:Inv Y P σ H s:=I.eh λp hp=>I.pin p (List.mem_append_right _ (List.mem_append_right _ hp))
 have J2:Inv Y P σ H { s with heap:=h' }:=J1.turned (t':=s.toks) (it:=D) (λb o hb e=>hsb.extBut b o hb e) nD neD (.inr ok.new) ok.cell λp hp=>ok.ne p (by rw [hpn] at hp;simpa using hp)
 refine J2.eh λp hp=>?_
 rcases List.mem_append.mp hp with hp | hp
 ·have e:p=(D,lobj (ys++[y])):=by simpa using hp
  subst e
  exact⟨eD,nD,neD,nfD,λv z=>by cases z⟩
 ·exact J2.pin p (List.mem_append_right _ hp)
theorem pY {Y:Cx} {D:Addr} {ys:List Value} {vys:List V} {P:List (Addr × Obj)} {σ:St} {H:Hp} {s:Shared} {elt:Expr} {te:TE} {N:List V->Hp->Prop} {Ps:Shared->Prop} (hpn:Y.pn=[]) (he:PE Y elt te) (I:Inv Y ([(D,lobj ys)]++P) σ H s) (rv:Vals vys ys) (ok:mW Y D P) (z:vys.length<sizeLine) (q:te σ H λv H4=>N (vys++[v]) H4)
  (k:∀ ys' vys' H' s',Inv Y ([(D,lobj ys')]++P) σ H' s'->Vals vys' ys'->N vys' H'->Ps s'):wpAny (model Y.prog Y.w) Y.A (m6 elt (.ref D) Y.env) (λ_ s'=>Ps s') Y.xe s:=by
 unfold m6
 refine wpAny_bind (a5 (he _ s σ H _ I q) λy s9 ⟨vy,H9,I9,r9,q9⟩=>?_)
 exact wpAny_bind (sJ hpn I9 ok (by rw [<- rv.length];exact z) λs' I'=>wpAny_pure (k _ _ _ _ I' (rv.append (.cons r9 .nil)) q9))
theorem ny {X:Cx} {Ex:Addr->Shared->Hp->List Addr->Value->Shared->Prop} {elt target iter:Expr} {ifs:List Expr} {scope:Scope} {pos:Pos} {N':List Str} {js:List (Option Nat)} {cl:List (Str × Addr)} {g:TG} {tt:TT} {te:TE} (hcalm:X.calm=true)
  (K:dg X N' js scope cl)
  (hg:∀ C s₂ H₂ fp,iQ X C s₂ H₂ fp->PG (bz X (Ex C s₂ H₂ fp) N' scope cl C s₂ H₂ fp) target g) (ht:∀ C s₂ H₂ fp,iQ X C s₂ H₂ fp->jH (bz X (Ex C s₂ H₂ fp) N' scope cl C s₂ H₂ fp) ifs tt) (he:∀ C s₂ H₂ fp,iQ X C s₂ H₂ fp->PE (bz X (Ex C s₂ H₂ fp) N' scope cl C s₂ H₂ fp) elt te)
  (herr:∀ C s₂ H₂ fp use Q' acc e s',Ex C s₂ H₂ fp e s'->notedBy (model X.prog X.w) X.A (compEnvC scope (cellsFrom (C+1) scope.names cl) C X.env) (λe s''=>compPost (model X.prog X.w) X.A X.xe use Q' acc C (.error e) s'') e s')
  {pins:List (Addr × Obj)} {σ:St} {Q:VK} {use:Option (Value->Sem Unit)} {Q':Value->Shared->Prop} {itv:Value} {s2:Shared}
  (h2:wL X pins σ target (λJ H1=>∃ W:Nat->Nat->List V->Hp->Prop,(∃ m,W 0 m [] H1)/\∀ i m ys H,W i m ys H ->
 (J.stop i H/\ys.length<=sizeLine/\∀ p,H p=none->Q (.ref p) (upd H p (.lst ys))) ∨
 (J.go i H/\ys.length<sizeLine/\∃ N:List V->Hp->Prop,(∀ ys' H',N ys' H'->∃ m',m'<m/\W (i+1) m' ys' H') /\
  ∀ x H',J.yld i H x H'->g x (bc js σ) H' λσ2 H2=>a6 (bc js σ) σ2/\tt σ2 H2 λb H3=>if b=true then te σ2 H3 λv H4=>N (ys++[v]) H4 else N ys H3)) itv s2)
  (hok:∀ C D vys H4 s5,(∃ m,s5.heap.Ns C m)->s2.heap.objs.size<=D->D<=C->D≠C->H4 D=none->H4 C=none->(∀ h',Heap.SameBut C s5.heap h'->Inv X pins σ (upd H4 D (.lst vys)) { s5 with heap:=h' })->Q (.ref D) (upd H4 D (.lst vys))->compPost (model X.prog X.w) X.A X.xe use Q' (.ref D) C (.ok .next) s5) :
  wpAny (model X.prog X.w) X.A (newList []) (λacc s₃=>wpAny (model X.prog X.w) X.A (newFunctionEnv scope X.env.globals cl [] X.env.qual none .none (some X.env)) (λcenv s₄ =>
   codeAny (model X.prog X.w) X.A (.compStart (.ListComp elt [⟨target,iter,ifs,0⟩] scope pos) 0 itv acc { cenv with scope:=relabel scope X.env }) (compPost (model X.prog X.w) X.A X.xe use Q' acc cenv.locals) s₄) X.xe s₃) X.xe s2 :=
 vL (Bd:=λEx acc env Ps s=>wpAny (model X.prog X.w) X.A (m6 elt acc env) (λ_ s'=>Ps s') Ex s) (Cc:=λys=>ys.length<sizeLine) (tb:=λys σ2 H3 N=>te σ2 H3 λv H4=>N (ys++[v]) H4) hcalm
  (λ_ _ _ it acc env I turn n h hE=>jN I (rX elt target iter ifs scope pos it acc env) turn n h hE) K hg ht
  (λC s₂ H₂ fp lc D ys vys P σ H s N Ps I rv ok z q k=>pY rfl (he C s₂ H₂ fp lc) I rv ok z q k) herr h2 hok
theorem iz {X:Cx} {elt target iter:Expr} {ifs:List Expr} {scope:Scope} {pos:Pos} {N':List Str} {js:List (Option Nat)} {cl:List (Str × Addr)} {wi:TI} {g:TG} {tt:TT} {te:TE} (hcalm:X.calm=true)
  (K:dg X N' js scope cl) (hi:PI X target iter wi)
  (hg:∀ C s₂ H₂ fp,PG (bB X N' scope cl C s₂ H₂ fp) target g) (ht:∀ C s₂ H₂ fp,jH (bB X N' scope cl C s₂ H₂ fp) ifs tt) (he:∀ C s₂ H₂ fp,PE (bB X N' scope cl C s₂ H₂ fp) elt te)
  (hs:∀ x,foldedSetIterable iter X.env x=pure x:=by intro _;rfl):PE X (.ListComp elt [⟨target,iter,ifs,0⟩] scope pos) (x9 js wi g tt te):=by
 intro pins s σ H Q I h
 rw [eval_ListComp]
 refine wpAny_comprehension_free (use:=none) rfl hs K.clos K.kind K.names (a5 (hi pins s σ H _ I h) λv s1 h1=>a5 h1 λitv s2 h2=>?_)
 exact ny (Ex:=λ_ _ _ _ _ _=>False) hcalm K (λC s H f _=>hg C s H f) (λC s H f _=>ht C s H f) (λC s H f _=>he C s H f) (λ_ _ _ _ _ _ _ _ _ z=>z.elim) h2 λC D vys H4 s5 ⟨m,hn⟩ _ _ _ _ _ hI q=>⟨m,hn,λh' hsb=>⟨.ref D,_,hI h' hsb,rfl,q⟩⟩
def Bd (i:Int):Prop:=i.natAbs<2^4000
theorem pX:(10:Nat)^250<=2^4000:=by decide +kernel
theorem Bd.of {i:Int} (h1:-(10^250)<i) (h2:i<10^250):Bd i:=by
 refine Nat.lt_of_lt_of_le ?_ pX
 have:((10:Nat)^250:Nat)=((10:Int)^250).toNat:=by decide +kernel
 rw [this]
 omega
theorem Bd.mono {i j:Int} (h:Bd j) (h':i.natAbs<=j.natAbs):Bd i:=Nat.lt_of_le_of_lt h' h
theorem Bd.bits {i:Int} (h:Bd i):Builtin.Int.intBits i<=2^20 :=
 Nat.le_trans (intBits_le h) (by decide)
theorem Bd.yR {i j:Int} (h:Bd j):Builtin.divisionGoesByPylong i j=false:=by
 refine PyProof.noPylong_of_log2 ?_
 by_cases z:j.natAbs=0
 ·rw [z];decide
 ·exact Nat.lt_of_lt_of_le ((Nat.log2_lt z).mpr h) (by decide)
section
variable {X:Cx}
theorem aV:gu X (binaryOp .Mult) (rI (λi j=>Bd i/\Bd j) λi j=>.int (i*j)):=wC λ_ _ _ _ _ _ _ hc q=>mul_int q (IntMulOk.of_bits hc.1.bits hc.2.bits)
theorem bG:gu X (binaryOp .FloorDiv) (rI (λ_ j=>0<j/\Bd j) λi j=>.int (i/j)):=wC λi j _ _ _ _ _ hc q=>by
 have h1:(0:Int)<j:=hc.1
 exact floordiv_int (by omega) (by rw [Int.fdiv_eq_ediv_of_nonneg i (by omega)];exact q) (.inl hc.2.yR)
theorem qH:gu X (inplaceOp .FloorDiv) (rI (λ_ j=>0<j/\Bd j) λi j=>.int (i/j)):=wC λi j _ _ _ _ _ hc q=>by
 have h1:(0:Int)<j:=hc.1
 exact ifloordiv_int (by omega) (by rw [Int.fdiv_eq_ediv_of_nonneg i (by omega)];exact q) (.inl hc.2.yR)
theorem kZ:gu X (inplaceOp .Mult) (rI (λi j=>Bd i/\Bd j) λi j=>.int (i*j)):=wC λ_ _ _ _ _ _ _ hc q=>imul_int q (IntMulOk.of_bits hc.1.bits hc.2.bits)
theorem k4 {op:Operator} {r:R2} (ho:gu X (inplaceOp op) r):yO X op r:=λpins s σ H x y v u Q I r1 r2 h=>ho pins s σ H x y v u Q I r1 r2 h
def u9 (i j k:Nat) (ta:TA):TS:=λD σ H=>ta σ H λvs H1=>∃ v w u,vs=[v,w,u]/\D.nx (((σ.set i (some v)).set j (some w)).set k (some u)) H1
theorem nJ {i j k:Nat} {x y z:Str} {a b c:Expr} {ta:TA} {px py pz pt pos:Pos} {kt k2 pt2} (hc:X.calm=true) (hN:X.N.Nodup) (hi:X.N[i]?=some x) (hj:X.N[j]?=some y) (hk:X.N[k]?=some z) (hij:i≠j) (hik:i≠k) (hjk:j≠k)
  (hx:X.env.scope.names.lookup x=some .local) (hy:X.env.scope.names.lookup y=some .local) (hz:X.env.scope.names.lookup z=some .local) (ha:PA X [a,b,c] ta)
  (hw:swappedStores [.Tuple [.Name x px,.Name y py,.Name z pz] kt pt] (.Tuple [a,b,c] k2 pt2) X.env=pure (some [x,y,z]))
  (hs:swapsWithSole [.Tuple [.Name x px,.Name y py,.Name z pz] kt pt] (.Tuple [a,b,c] k2 pt2) pos.line X.env=pure false:=by rfl) :
  PS X (.Assign [.Tuple [.Name x px,.Name y py,.Name z pz] kt pt] (.Tuple [a,b,c] k2 pt2) pos) (u9 i j k ta):=by
 intro pins s σ H D I h
 rw [exec_Assign_arm]
 refine wpAny_bind (wpAny_standAt ?_)
 rw [hs]
 refine wpAny_bind (wpAny_pure ?_)
 rw [if_neg (by decide)]
 refine wpAny_bind (Tuple_ (a5 (ha _ pins s σ H _ I h) λus s1 ⟨vs,H1,I1,r1,q1⟩=>?_))
 obtain⟨v,w,u,e1,q1⟩:=q1
 subst e1
 obtain⟨u1,u2,u3,rfl,rv,rw',ru⟩:∃ u1 u2 u3,us=[u1,u2,u3]/\RelV v u1/\RelV w u2/\RelV u u3:=by
  cases r1 with
  | cons p q =>
   cases q with
   | cons p' q' =>
    cases q' with
    | cons p'' q'' =>
     cases q''
     exact⟨_,_,_,rfl,p,p',p''⟩
 refine wpAny_newObj_type ?_ (by show 3<=sizeLine;decide)
 have I2:Inv X pins σ H1 { s1 with heap:=s1.heap.push { cls:=.type "tuple",data:=.seq [u1,u2,u3].toArray } }:=I1.kept (t':=s1.toks) λb o e=>Heap.get?_push_of_some _ e
 rw [hw]
 refine wpAny_bind (wpAny_pure ?_)
 show wpAny (model X.prog X.w) X.A (do rule "assign.swapped-stores";let items <- unpackItems (.ref s1.heap.objs.size) 3 none;assignInOrder [λv=>bindName X.env z v,λv=>bindName X.env y v,λv=>bindName X.env x v] items.reverse;pure Flow.next) _ _ _
 refine wpAny_bind (wpAny_rule (wpAny_bind (unpackItems_tuple (items:=#[u1,u2,u3]) (I.ok.hd hc) (IsTup.new s1.heap _) λh' hx'=>?_)))
 have I3:=I2.kept (h':=h') (t':=s1.toks) λb o e=>hx' b o (Nat.ne_of_lt (Heap.lt_size e)) e
 show wpAny _ _ (assignInOrder [λv=>bindName X.env z v,λv=>bindName X.env y v,λv=>bindName X.env x v] [u3,u2,u1] >>= λ_=>pure Flow.next) _ _ _
 refine wpAny_bind (assignInOrder_cons (wpAny_bindName (br I3 hN hk (.inl hz) ru (λs2 I4=>?_) (.inr hz))))
 refine assignInOrder_cons (wpAny_bindName (br I4 hN hj (.inl hy) rw' (λs3 I5=>?_) (.inr hy)))
 refine assignInOrder_cons (wpAny_bindName (br I5 hN hi (.inl hx) rv (λs4 I6=>assignInOrder_nil (wpAny_pure ?_)) (.inr hx)))
 have e:((σ.set k (some u)).set j (some w)).set i (some v)=((σ.set i (some v)).set j (some w)).set k (some u):=by
  rw [List.set_comm _ _ (Ne.symm hij),List.set_comm _ _ (Ne.symm hik),List.set_comm _ _ (Ne.symm hjk)]
 rw [e] at I6
 exact⟨_,H1,I6,q1⟩
def wN:V->Option Value
 | .ty n=>some (.type n)
 | .ref a=>some (.ref a)
 | _=>none
end
def aA (K:PySem.W.Frag) (mg:Str->Option Value) (x:Str) (st:Stmt):Prop:=∃ f fd,pR K x x st f fd/\mg x=some (.ref f)
structure Callee (P:Program) (w:World) (K:PySem.W.Frag) (mg:Str->Option Value) (base:Heap) (CX:gQ) (k:Nat) (x:Str) (ps:List Str) (sp:Sp):Prop where
 ex:∃ f fd,bR P w K mg base CX k f fd ps sp/\mg x=some (.ref f)/\PySem.W.keepIn K (.ref f)=true/\Binds K fd ps []
section
variable {P:Program} {w:World} {K:PySem.W.Frag} {mg:Str->Option Value} {base:Heap} {CX:gQ} {k:Nat} {x:Str} {ps:List Str} {sp:Sp}
theorem Callee.imp {sp':Sp} (C:Callee P w K mg base CX k x ps sp) (h:∀ vs H Q E,sp' vs H Q E->sp vs H Q E):Callee P w K mg base CX k x ps sp':=by
 obtain⟨f,fd,F,a,b,c⟩:=C.ex
 exact⟨f,fd,F.imp h,a,b,c⟩
theorem Callee.mono {j:Nat} (C:Callee P w K mg base CX k x ps sp) (h:k<=j):Callee P w K mg base CX j x ps sp:=by
 obtain⟨f,fd,F,a,b,c⟩:=C.ex
 exact⟨f,fd,F.mono h,a,b,c⟩
theorem bS {X:Cx} {E:XK} {e:Expr} {es:List Expr} {t:TA} {p pos:Pos} (C:Callee X.prog X.w X.K X.mg X.base CX k x ps sp) (hr:bF k X.A) (hg:Gl X x) (hx:Passes CX X E)
  (ha:PA X (e::es) t) (hdb:(x==("__debug__":Str))=false:=by decide) (he:starEach (e::es) X.env=(false,eval e X.env)::starEach es X.env:=by rfl) (hpl:(backTo pos (starEach es X.env)).any (·.1)=false:=by rfl) :
  PE X (.Call (.Name x p) (e::es) [] pos) (nX sp [] E t):=by
 obtain⟨f,fd,F,hm,hk,hb⟩:=C.ex
 exact tW F hr hg hm hk hb .nil hx ha hdb he hpl
theorem ot {st:Stmt} {N:List Str} (D:aA K mg x st)
  (hb:∀(kV doc pm:Value) (an:Option Addr) (cdv ct:Value) (us:List Value),us.length=ps.length->bindArgs (PySem.W.fnOf x x (a9 st) (aJ st) (ai st) .none kV doc pm an cdv ct) ⟨us,[]⟩=pure (ps.zip us))
  (S:az N ps (ai st)) (len:∀ vs H Q E,sp vs H Q E->vs.length=ps.length)
  (hbody:∀(f:Addr) (cdv:Value) (A:Around) (outer:List Env) (s:Shared) (H:Hp) (vs:List V) (Q:VK) (E:XK),bF k (A.deeper (envOfC x (ai st) s.heap.objs.size f cdv))->sp vs H Q E ->
   ∃ t,fZ (dh a8 P w K mg base N x (ai st) f cdv A outer s H E).jq (aJ st) t/\t { nx:=λ_ H'=>Q .non H',rt:=Q } (start N vs) H):Callee P w K mg base a8 (k+1) x ps sp:=by
 obtain⟨f,fd,F,hm⟩:=D
 exact⟨f,fd,F.ok S len λcdv A outer s H vs Q E hr h=>hbody f cdv A outer s H vs Q E hr h,hm,F.kp,F.binds hb⟩
theorem qg {h:Heap} {f:Addr} {st:Stmt} {oc:Value} {od an:Option Addr} {osl:Array (Option Value)} {kV doc pm cdv ct:Value} (X:K.In h) (G:h.Ns mainGlobals mg)
  (a:PySem.W.nsIn K mainGlobals x=some (some (.ref f))) (l:K.lookup f=some ⟨oc,od,.func (PySem.W.fnOf x x (a9 st) (aJ st) (ai st) .none kV doc pm an cdv ct),osl⟩)
  (c:PySem.W.codeIn K cdv x=true) (kk:PySem.W.keepIn K (.ref f)=true):aA K mg x st:=⟨f,_,me l c kk,PySem.W.mg_of X G a⟩
end
def f7 (cl:List (Str × Addr)):List (Str × NameKind)->Prop
 | []=>True
 | y::r=>(match y.2 with | .free=>(cl.lookup y.1).isSome=true | _=>True)/\f7 cl r
theorem f7.get {cl:List (Str × Addr)}:∀{l:List (Str × NameKind)},f7 cl l->∀ y∈l,y.2=.free->(cl.lookup y.1).isSome=true
 | [],_,_,h,_=>nomatch h
 | z::r,a,y,h,e=>by
  rcases List.mem_cons.mp h with q | q
  ·subst q
   have:=a.1
   rw [e] at this
   exact this
  ·exact f7.get a.2 y q e
def fv (X:Cx) (scope:Scope) (cl:List (Str × Addr)):List (Option Nat)->List Str->Prop
 | none::r,_::n=>fv X scope cl r n
 | some j::r,x::n=>(X.N[j]?=some x/\(cl.lookup x).isSome=true/\(X.env.scope.names.lookup x=some .cell∨X.env.scope.names.lookup x=some .free)/\((relabel scope X.env).names.lookup x=some .cell∨(relabel scope X.env).names.lookup x=some .free))/\fv X scope cl r n
 | [],[]=>True
 | _,_=>False
theorem fv.len {X:Cx} {scope:Scope} {cl:List (Str × Addr)}:∀{js:List (Option Nat)} {N:List Str},fv X scope cl js N->js.length=N.length
 | [],[],_=>rfl
 | none::r,_::n,h=>by
  have h':fv X scope cl r n:=h
  simp [fv.len h']
 | some j::r,x::n,h=>by
  have h':fv X scope cl r n:=h.2
  simp [fv.len h']
 | [],_::_,h=>h.elim
 | none::_,[],h=>h.elim
 | some _::_,[],h=>h.elim
theorem fv.get {X:Cx} {scope:Scope} {cl:List (Str × Addr)}:∀{js:List (Option Nat)} {N:List Str},fv X scope cl js N->∀(i j:Nat) x,js[i]?=some (some j)->N[i]?=some x ->
  X.N[j]?=some x/\(cl.lookup x).isSome=true/\vn X.env.scope x/\X.env.kindOf x≠some .local/\((relabel scope X.env).names.lookup x=some .cell∨(relabel scope X.env).names.lookup x=some .free)
 | [],[],_,i,j,x,e,_=>by simp at e
 | none::r,y::n,h,0,j,x,e,_=>by simp at e
 | none::r,y::n,h,i+1,j,x,e,e2=>fv.get (js:=r) (N:=n) h i j x (by simpa using e) (by simpa using e2)
 | some k::r,y::n,h,0,j,x,e,e2=>by
  have q:k=j:=by simpa using e
  have q2:y=x:=by simpa using e2
  subst q;subst q2
  obtain⟨a,b,c,d⟩:=h.1
  refine⟨a,b,?_,?_,d⟩
  ·rcases c with c | c
   ·exact .inr (.inl c)
   ·exact .inr (.inr c)
  ·intro z
   have z':X.env.scope.names.lookup y=some .local:=z
   rcases c with c | c
   ·rw [c] at z';cases z'
   ·rw [c] at z';cases z'
 | some k::r,y::n,h,i+1,j,x,e,e2=>fv.get (js:=r) (N:=n) h.2 i j x (by simpa using e) (by simpa using e2)
 | [],_::_,h,_,_,_,_,_=>h.elim
 | none::_,[],h,_,_,_,_,_=>h.elim
 | some _::_,[],h,_,_,_,_,_=>h.elim
theorem vz {X:Cx} {N':List Str} {js:List (Option Nat)} {scope:Scope} {cl:List (Str × Addr)} (clos:closureFor scope X.env=pure cl) (kind:scope.kind=.function) (nocell:∀ y∈scope.names,y.2=.cell->scope.names.lookup y.1=some .cell/\∀ p∈js.zip N',p.1.isSome=true->p.2≠y.1)
  (names:∀ y∈scope.names,y.2=.local->scope.names.lookup y.1=some .local) (sub:AllIn X.env cl) (has:f7 cl scope.names) (j:fv X scope cl js N'):dg X N' js scope cl :=
 ⟨clos,kind,nocell,names,sub,has.get,j.len,j.get⟩
theorem boot_int:bootBuiltins "int"=some (.type "int"):=by decide +kernel
theorem boot_bool:bootBuiltins "bool"=some (.type "bool"):=by decide +kernel
theorem boot_tuple:bootBuiltins "tuple"=some (.type "tuple"):=by decide +kernel
theorem boot_list:bootBuiltins "list"=some (.type "list"):=by decide +kernel
theorem boot_abs:bootBuiltins "abs"=some (.builtin "abs"):=by decide +kernel
theorem boot_min:bootBuiltins "min"=some (.builtin "min"):=by decide +kernel
theorem ao {H:Hp} {p:Addr} {o:HO} (h:H p=none):ay H (upd H p o):=λb u q=>by rw [ak (aT q h)];exact q
theorem bj {α:Type} {c:TT} {tb:TS} {D:Ends} {σ:St} {H:Hp} (S:α->St) (Pv:α->Hp->Prop) (μ:α->Nat) (x₀:α) (hσ:σ=S x₀) (h0:Pv x₀ H)
  (hs:∀ x H,Pv x H->c (S x) H λb H1=>if b=true then (∃ N:St->Hp->Prop,(∀ σ' H',N σ' H'->∃ y,σ'=S y/\Pv y H'/\μ y<μ x)/\tb { D with nx:=N,ct:=N,bk:=D.nx } (S x) H1) else D.nx (S x) H1):rV c tb D σ H:=by
 subst hσ
 refine⟨λm σ H=>∃ x,σ=S x/\Pv x H/\m=μ x,⟨_,x₀,rfl,h0,rfl⟩,?_⟩
 rintro m σ H ⟨x,rfl,p,rfl⟩
 have q:=hs x H p
 have e:(λb H1=>if b=true then (∃ N:St->Hp->Prop,(∀ σ' H',N σ' H'->∃ y,σ'=S y/\Pv y H'/\μ y<μ x)/\tb { D with nx:=N,ct:=N,bk:=D.nx } (S x) H1) else D.nx (S x) H1) =
   (λb H1=>if b=true then (∃ N:St->Hp->Prop,(∀ σ' H',N σ' H'->∃ m',m'<μ x/\∃ y,σ'=S y/\Pv y H'/\m'=μ y)/\tb { D with nx:=N,ct:=N,bk:=D.nx } (S x) H1) else D.nx (S x) H1):=by
  funext b H1
  cases b with
  | false=>rfl
  | true =>
   simp only [if_true]
   refine propext ⟨fun⟨N,hN,z⟩=>⟨N,λσ' H' n=>?_,z⟩,fun⟨N,hN,z⟩=>⟨N,λσ' H' n=>?_,z⟩⟩
   ·obtain⟨y,e1,e2,e3⟩:=hN σ' H' n
    exact⟨_,e3,y,e1,e2,rfl⟩
   ·obtain⟨m',l,y,e1,e2,e3⟩:=hN σ' H' n
    exact⟨y,e1,e2,e3▸l⟩
 rw [e] at q
 exact q
end L2
namespace Gcd
structure J (A B g u v ng nu nv:Int):Prop where
 g0:0<=g
 n0:0<=ng
 e1:u*A+v*B=g
 e2:nu*A+nv*B=ng
 ex:∃ s U NU V NV:Int,(s=1∨s = -1)/\0<=U/\0<=NU/\0<=V/\0<=NV/\u=s*U/\nu = -s*NU/\v = -s*V/\nv=s*NV/\g*NU+ng*U=B/\g*NV+ng*V=A /\
  (U<=1∨U<=B)/\(NU<=1∨NU<=B)/\(V<=1∨V<=A)/\(NV<=1∨NV<=A)
theorem J.start {A B:Int} (ha:0<=A) (hb:0<=B):J A B A 1 0 B 0 1 :=
 ⟨ha,hb,by grind,by grind,1,1,0,0,1,.inl rfl,by decide,by decide,by decide,by decide,by grind,by grind,by grind,by grind,by grind,by grind,.inl (by decide),.inl (by decide),.inl (by decide),.inl (by decide)⟩
theorem ji {n x B:Int} (hn:0<n) (hx:0<=x) (h:n*x<=B):x<=B:=by
 have:1*x<=n*x:=Int.mul_le_mul_of_nonneg_right hn hx
 omega
theorem J.turn {A B g u v ng nu nv:Int} (j:J A B g u v ng nu nv) (hn:0<ng) :
  J A B ng nu nv (g-g/ng*ng) (u-g/ng*nu) (v-g/ng*nv)/\(g-g/ng*ng)<ng/\0<=g/ng/\g/ng<=g:=by
 have q0:0<=g/ng:=Int.ediv_nonneg j.g0 j.n0
 have r:=Int.emod_def g ng
 have r0:=Int.emod_nonneg g (show ng≠0 by omega)
 have r1:=Int.emod_lt_of_pos g hn
 have ql:g/ng<=g:=Int.ediv_le_self ng j.g0
 have e1:=j.e1
 have e2:=j.e2
 have hc:g/ng*ng=ng*(g/ng):=Int.mul_comm _ _
 generalize g/ng=q at *
 obtain⟨s,U,NU,V,NV,hs,hU,hNU,hV,hNV,eu,enu,ev,env,b1,b2,l1,l2,l3,l4⟩:=j.ex
 have hqNU:0<=q*NU:=Int.mul_nonneg q0 hNU
 have hqNV:0<=q*NV:=Int.mul_nonneg q0 hNV
 have rr:0<=g-q*ng:=by omega
 have i1:ng*(U+q*NU)+(g-q*ng)*NU=B:=by grind
 have i2:ng*(V+q*NV)+(g-q*ng)*NV=A:=by grind
 have n1:0<=(g-q*ng)*NU:=Int.mul_nonneg rr hNU
 have n2:0<=(g-q*ng)*NV:=Int.mul_nonneg rr hNV
 refine⟨⟨j.n0,rr,e2,by grind,-s,NU,U+q*NU,NV,V+q*NV,by omega,hNU,by omega,hNV,by omega,by grind,by grind,by grind,by grind,i1,i2,l2,.inr (ji hn (by omega) (by omega)),l4,.inr (ji hn (by omega) (by omega))⟩,by omega,q0,ql⟩
structure xY (a b g u v:Int):Prop where
 g0:0<=g
 lin:u*a+v*b=g
 da:g∣a
 db:g∣b
 bu:u.natAbs<=max 1 b.natAbs
 bv:v.natAbs<=max 1 a.natAbs
theorem J.done {a b g u v nu nv:Int} (j:J (if a<0 then -a else a) (if b<0 then -b else b) g u v 0 nu nv):xY a b g (if a<0 then -u else u) (if b<0 then -v else v):=by
 have e1:=j.e1
 obtain⟨s,U,NU,V,NV,hs,hU,hNU,hV,hNV,eu,enu,ev,env,b1,b2,l1,l2,l3,l4⟩:=j.ex
 have hu:u.natAbs=U.toNat:=by
  rcases hs with rfl | rfl
  ·omega
  ·omega
 have hv:v.natAbs=V.toNat:=by
  rcases hs with rfl | rfl
  ·omega
  ·omega
 refine⟨j.g0,?_,?_,?_,?_,?_⟩
 ·split<;>split<;>rename_i h1 h2<;>simp only [h1,h2,if_true,if_false] at e1<;>grind
 ·have:g∣(if a<0 then -a else a):=⟨NV,by omega⟩
  by_cases h:a<0
  ·rw [if_pos h] at this
   exact Int.dvd_neg.mp this
  ·rw [if_neg h] at this
   exact this
 ·have:g∣(if b<0 then -b else b):=⟨NU,by omega⟩
  by_cases h:b<0
  ·rw [if_pos h] at this
   exact Int.dvd_neg.mp this
  ·rw [if_neg h] at this
   exact this
 ·have:(if a<0 then -u else u).natAbs=u.natAbs:=by split<;>omega
  rw [this,hu]
  split at l1<;>omega
 ·have:(if b<0 then -v else v).natAbs=v.natAbs:=by split<;>omega
  rw [this,hv]
  split at l3<;>omega
theorem J.small {A B g u v ng nu nv M:Int} (j:J A B g u v ng nu nv) (hA:0<=A) (hB:0<=B) (hAM:A<=M) (hBM:B<=M) (hM:1<=M):(-M<=u/\u<=M)/\(-M<=v/\v<=M)/\(-M<=nu/\nu<=M)/\(-M<=nv/\nv<=M):=by
 obtain⟨s,U,NU,V,NV,hs,hU,hNU,hV,hNV,eu,enu,ev,env,b1,b2,l1,l2,l3,l4⟩:=j.ex
 rcases hs with rfl | rfl
 ·refine⟨⟨?_,?_⟩,⟨?_,?_⟩,⟨?_,?_⟩,⟨?_,?_⟩⟩<;>omega
 ·refine⟨⟨?_,?_⟩,⟨?_,?_⟩,⟨?_,?_⟩,⟨?_,?_⟩⟩<;>omega
end Gcd
namespace L2
open PySem PySem.Spec PyProof.Rows
theorem ay.upd {H H1:Hp} {p:Addr} {o:HO} (h:ay H H1) (hp:H p=none):ay H (upd H1 p o):=λb u q=>by rw [ak (aT q hp)];exact h b u q
theorem vq {α:Type} {xs:List α} {k:Int} (h0:0<=k) (h1:k<xs.length):∃ v,kF xs k=some v/\xs[k.toNat]?=some v:=by
 have hk:k.toNat<xs.length:=by omega
 refine⟨xs[k.toNat],?_,List.getElem?_eq_getElem hk⟩
 have:=sL (xs:=xs) (j:=k.toNat) (List.getElem?_eq_getElem hk)
 rwa [Int.toNat_of_nonneg h0] at this
theorem fG {K:PySem.W.Frag} {H:Hp} {p:Addr} {xs:List V} {k:Int} {Q:VK} (h:aW K H p xs) (h0:0<=k) (h1:k<xs.length) (q:∀ v∈xs,Q v H):v7 K (.ref p) (.int k) H Q:=by
 obtain⟨v,e,e2⟩:=vq h0 h1
 exact⟨p,xs,k,v,rfl,rfl,h,e,q v (List.mem_of_getElem? e2)⟩
def Loop (J:It) (g:TG) (tb:TS) (D:Ends) (σ:St) (H:Hp):Prop:=∃ W:Nat->Nat->St->Hp->Prop,(∃ m,W 0 m σ H)/\∀ i m σ H,W i m σ H ->
 (J.stop i H/\D.nx σ H)∨(J.go i H/\∃ N:St->Hp->Prop,(∀ σ' H',N σ' H'->∃ m',m'<m/\W (i+1) m' σ' H')/\∀ x H',J.yld i H x H'->g x σ H' λσ2 H2=>tb { D with nx:=N,ct:=N,bk:=D.nx } σ2 H2)
theorem uj {wi:TI} {g:TG} {tb:TS} {D:Ends} {σ:St} {H:Hp}:xJ wi g tb D σ H=wi σ H λJ H1=>Loop J g tb D σ H1:=rfl
theorem cz {lo:Int} {n:Nat} {g:TG} {tb:TS} {D:Ends} {σ:St} {H:Hp} (Pv:Nat->St->Hp->Prop) (h0:Pv 0 σ H)
  (hs:∀ i σ H,i<n->Pv i σ H->g (.int (lo+i)) σ H λσ2 H2=>tb { D with nx:=Pv (i+1),ct:=Pv (i+1),bk:=D.nx } σ2 H2) (hd:∀ σ H,Pv n σ H->D.nx σ H):Loop (sr lo n) g tb D σ H:=oI Pv h0 hs hd
theorem gi {K:PySem.W.Frag} {a:Addr} {xs:List V} {g:TG} {tb:TS} {D:Ends} {σ:St} {H:Hp} (Pv:Nat->St->Hp->Prop) (h0:Pv 0 σ H) (hl:∀ i σ H,i<=xs.length->Pv i σ H->aW K H a xs)
  (hs:∀ i x σ H,xs[i]?=some x->Pv i σ H->g x σ H λσ2 H2=>tb { D with nx:=Pv (i+1),ct:=Pv (i+1),bk:=D.nx } σ2 H2) (hd:∀ σ H,Pv xs.length σ H->D.nx σ H):Loop (vg K a) g tb D σ H:=qA Pv h0 hl hs hd
theorem k9 {K:PySem.W.Frag} {a:Addr} {xs:List V} {g:TG} {tb:TS} {D:Ends} {σ:St} {H:Hp} (Pv:Nat->St->Hp->Prop) (h0:Pv 0 σ H) (hl:∀ i σ H,i<=xs.length->Pv i σ H->cF K H a xs)
  (hs:∀ i x σ H,xs[i]?=some x->Pv i σ H->g x σ H λσ2 H2=>tb { D with nx:=Pv (i+1),ct:=Pv (i+1),bk:=D.nx } σ2 H2) (hd:∀ σ H,Pv xs.length σ H->D.nx σ H):Loop (vh K a) g tb D σ H:=sZ Pv h0 hl hs hd
def kz (J:It) (js:List (Option Nat)) (g:TG) (tt:TT) (te:TE) (σ:St) (Q:VK) (H1:Hp):Prop:=∃ W:Nat->Nat->List V->Hp->Prop,(∃ m,W 0 m [] H1)/\∀ i m ys H,W i m ys H ->
 (J.stop i H/\ys.length<=sizeLine/\∀ p,H p=none->Q (.ref p) (upd H p (.lst ys))) ∨
 (J.go i H/\ys.length<sizeLine/\∃ N:List V->Hp->Prop,(∀ ys' H',N ys' H'->∃ m',m'<m/\W (i+1) m' ys' H') /\
  ∀ x H',J.yld i H x H'->g x (bc js σ) H' λσ2 H2=>a6 (bc js σ) σ2/\tt σ2 H2 λb H3=>if b=true then te σ2 H3 λv H4=>N (ys++[v]) H4 else N ys H3)
theorem wq {js:List (Option Nat)} {wi:TI} {g:TG} {tt:TT} {te:TE} {σ:St} {H:Hp} {Q:VK}:x9 js wi g tt te σ H Q=wi σ H λJ H1=>kz J js g tt te σ Q H1:=rfl
theorem bX {K:PySem.W.Frag} {a:Addr} {xs:List V} {js:List (Option Nat)} {g:TG} {tt:TT} {te:TE} {σ:St} {Q:VK} {H1:Hp} (Pv:Nat->List V->Hp->Prop) (h0:Pv 0 [] H1) (hx:xs.length<=sizeLine) (hl:∀ i ys H,i<=xs.length->Pv i ys H->aW K H a xs/\ys.length<=i)
  (hs:∀ i x ys H,xs[i]?=some x->Pv i ys H->g x (bc js σ) H λσ2 H2=>a6 (bc js σ) σ2/\tt σ2 H2 λb H3=>if b=true then te σ2 H3 λv H4=>Pv (i+1) (ys++[v]) H4 else Pv (i+1) ys H3)
  (hd:∀ ys H p,Pv xs.length ys H->H p=none->Q (.ref p) (upd H p (.lst ys))):kz (vg K a) js g tt te σ Q H1:=by
 refine⟨λi m ys H=>m=xs.length-i/\i<=xs.length/\Pv i ys H,⟨xs.length,by simp,Nat.zero_le _,h0⟩,?_⟩
 rintro i m ys H ⟨rfl,hi,p⟩
 obtain⟨q,hy⟩:=hl i ys H hi p
 by_cases hlt:i<xs.length
 ·refine .inr ⟨⟨xs,xs[i],q,by simp [hlt]⟩,by omega,Pv (i+1),λys' H' p'=>⟨xs.length-(i+1),by omega,rfl,hlt,p'⟩,λx H' y=>?_⟩
  obtain⟨e,y⟩:=y
  subst e
  exact hs i x ys _ (y xs q) p
 ·have e:i=xs.length:=by omega
  subst e
  exact .inl ⟨⟨xs,q,Nat.le_refl _⟩,by omega,λp' hp'=>hd ys H p' p hp'⟩
theorem ou {K:PySem.W.Frag} {a:Addr} {xs:List V} {js:List (Option Nat)} {g:TG} {tt:TT} {te:TE} {σ:St} {Q:VK} {H1:Hp} (Pv:Nat->List V->Hp->Prop) (h0:Pv 0 [] H1) (hx:xs.length<=sizeLine) (hl:∀ i ys H,i<=xs.length->Pv i ys H->cF K H a xs/\ys.length<=i)
  (hs:∀ i x ys H,xs[i]?=some x->Pv i ys H->g x (bc js σ) H λσ2 H2=>a6 (bc js σ) σ2/\tt σ2 H2 λb H3=>if b=true then te σ2 H3 λv H4=>Pv (i+1) (ys++[v]) H4 else Pv (i+1) ys H3)
  (hd:∀ ys H p,Pv xs.length ys H->H p=none->Q (.ref p) (upd H p (.lst ys))):kz (vh K a) js g tt te σ Q H1:=by
 refine⟨λi m ys H=>m=xs.length-i/\i<=xs.length/\Pv i ys H,⟨xs.length,by simp,Nat.zero_le _,h0⟩,?_⟩
 rintro i m ys H ⟨rfl,hi,p⟩
 obtain⟨q,hy⟩:=hl i ys H hi p
 by_cases hlt:i<xs.length
 ·refine .inr ⟨⟨xs,xs[i],q,by simp [hlt]⟩,by omega,Pv (i+1),λys' H' p'=>⟨xs.length-(i+1),by omega,rfl,hlt,p'⟩,λx H' y=>?_⟩
  obtain⟨e,y⟩:=y
  subst e
  exact hs i x ys _ (y xs q) p
 ·have e:i=xs.length:=by omega
  subst e
  exact .inl ⟨⟨xs,q,Nat.le_refl _⟩,by omega,λp' hp'=>hd ys H p' p hp'⟩
theorem zm {CX:gQ} {P:Program} {w:World} {K:PySem.W.Frag} {mg:Str->Option Value} {base:Heap} {N:List Str} {qual:Str} {scope:Scope} {f:Addr} {cd:Value} {A:Around} {outer:List Env} {s:Shared} {H:Hp} {E:XK} :
  (dh CX P w K mg base N qual scope f cd A outer s H E).K=K:=rfl
theorem wO {X:Cx} {N':List Str} {scope:Scope} {cl:List (Str × Addr)} {C:Addr} {s₂:Shared} {H₂:Hp} {fp:List Addr}:(bB X N' scope cl C s₂ H₂ fp).K=X.K:=rfl
theorem ba {K:PySem.W.Frag} {b k:Bool} {H:Hp}:pT K (.bl b) H k=(k=b):=rfl
theorem rW {K:PySem.W.Frag} {i:Int} {k:Bool} {H:Hp}:pT K (.int i) H k=(k=(i != 0)):=rfl
def xA (K:PySem.W.Frag):List V->Hp->VK->Prop:=λxs H Q=>∃ p ys,xs=[.ref p]/\(aW K H p ys∨cF K H p ys)/\Q (.int ys.length) H
theorem bW {X:Cx}:b9 X (.builtin "len") (xA X.K):=jK
theorem di {K:PySem.W.Frag} {H:Hp} {p:Addr} {xs:List V} {Q:VK} (h:aW K H p xs) (q:Q (.int xs.length) H):xA K [.ref p] H Q:=⟨p,xs,rfl,.inl h,q⟩
theorem uc {a b:Int}:kh (.int a) (.int b)=true:=rfl
theorem ua {a b:Bool}:kh (.bl a) (.bl b)=true:=rfl
theorem ud {a:Int}:kh (.int a) .non=true:=rfl
theorem ue {a:Int}:kh .non (.int a)=true:=rfl
theorem uf:kh .non .non=true:=rfl
theorem ub {a:Bool}:kh (.bl a) .non=true:=rfl
theorem ug {a b:Str}:kh (.str a) (.str b)=true:=rfl
def yB (t:TS):TS:=λD σ H=>∃ R:St->Hp->Prop,t { D with nx:=R } σ H/\∀ σ' H',R σ' H'->D.nx σ' H'
theorem dj {X:Cx} {st:Stmt} {t:TS} (h:PS X st t):PS X st (yB t):=by
 intro pins s σ H D I ⟨R,hw,hR⟩
 refine a5 (h pins s σ H _ I hw) λf s' q=>?_
 cases f with
 | next=>obtain⟨σ',H',I',r⟩:=q;exact⟨σ',H',I',hR _ _ r⟩
 | brk=>exact q
 | cont=>exact q
 | ret u=>exact q
theorem sY {P:Program} {w:World} {K:PySem.W.Frag} {mg:Str->Option Value} {base:Heap} {k:Nat} {x:Str} {ps:List Str} {sp:Sp} {st:Stmt} {N:List Str} {f:Addr} {fd:FuncData} (F:pR K x x st f fd)
  (S:az N ps (ai st)) (len:∀ vs H Q E,sp vs H Q E->vs.length=ps.length)
  (hbody:∀(cdv:Value) (A:Around) (outer:List Env) (s:Shared) (H:Hp) (vs:List V) (Q:VK) (E:XK),bF k (A.deeper (envOfC x (ai st) s.heap.objs.size f cdv))->sp vs H Q E ->
   ∃ t,fZ (dh a8 P w K mg base N x (ai st) f cdv A outer s H E).jq (aJ st) t/\t { nx:=λ_ H'=>Q .non H',rt:=Q } (start N vs) H):bR P w K mg base a8 (k+1) f fd ps sp :=
 F.ok S len λcdv A outer s H vs Q E hr h=>hbody cdv A outer s H vs Q E hr h
theorem tH {P:Program} {w:World} {K:PySem.W.Frag} {mg:Str->Option Value} {k:Nat} {x y:Str} {sp:Sp} {st:Stmt} {fa:Addr} (hfa:mg x=some (.ref fa)) (D:aA K mg x st)
  (hb:∀(kV doc pm:Value) (an:Option Addr) (cdv ct:Value) (u:Value),bindArgs (PySem.W.fnOf x x (a9 st) (aJ st) (ai st) .none kV doc pm an cdv ct) ⟨[u],[]⟩=pure [(y,u)])
  (ok:∀(base:Heap) (f:Addr) (fd:FuncData),K.In base->pR K x x st f fd->bR P w K mg base a8 k f fd [y] sp) :
  ∃ fd:FuncData,(∀(s:Shared) (u:Value),BindsTo s fd ⟨[u],[]⟩ [(y,u)])/\∀ base:Heap,K.In base->base.Ns mainGlobals mg->bR P w K mg base a8 k fa fd [y] sp:=by
 obtain⟨f,fd,F,hm⟩:=D
 have e:=hfa.symm.trans hm
 cases e
 refine⟨fd,λs u=>?_,λbase kb _=>ok base _ _ kb F⟩
 obtain⟨oc,od,kV,doc,pm,an,cdv,ct,osl,rfl,lk,hcd⟩:=F.ex
 exact .of_eq (hb kV doc pm an cdv ct u)
end L2
namespace L2
open PySem PySem.Spec PyProof.Rows PySem.W
def bM:List Value:=[.type "ValueError",.type "Exception",.type "BaseException",.type "object"]
def bb:List Value->Bool
 | .ref _::r=>bb r
 | l=>l==bM
theorem lJ (self:Value):refuseLoop self "__setattr__" bM=pure ():=by kernel_rfl
theorem fq (self:Value):∀{l:List Value},bb l=true->refuseLoop self "__setattr__" l=pure ()
 | .ref c::r,e=>by rw [refuseLoop_ref];exact fq self (l:=r) e
 | [],e=>by cases e
 | .type n::r,e=>by
  have:Value.type n::r=bM:=by simpa [bb] using e
  rw [this];exact lJ self
 | .none::r,e=>by simp [bb,bM] at e
 | .bool _::r,e=>by simp [bb,bM] at e
 | .int _ _::r,e=>by simp [bb,bM] at e
 | .str _ _::r,e=>by simp [bb,bM] at e
 | .bytes _ _::r,e=>by simp [bb,bM] at e
 | .float _ _::r,e=>by simp [bb,bM] at e
 | .builtin _::r,e=>by simp [bb,bM] at e
theorem dW {l:List Value}:bb l=true->l.contains (.type "object")=true/\l.contains (.type "BaseException")=true/\l.isEmpty=false:=by
 intro h
 induction l with
 | nil=>cases h
 | cons a r ih =>
  cases a with
  | ref c =>
   obtain⟨h1,h2,_⟩:=ih h
   exact⟨by rw [List.contains_cons,h1,Bool.or_true],by rw [List.contains_cons,h2,Bool.or_true],rfl⟩
  | type n =>
   have e:Value.type n::r=bM:=by simpa [bb] using h
   rw [e]
   exact⟨by decide,by decide,rfl⟩
  | _=>simp [bb,bM] at h
section
variable {prog:Program} {w:World} {A:Around} {E:Value->Shared->Prop} {s:Shared} {K:PySem.W.Frag} {x C:Addr} {name:Str} {v:Value} {cd:ClassData}
theorem sX {vs:Array Value} {sl:Array (Option Value)} {Q:Unit->Shared->Prop} (X:K.In s.heap) (hx:s.heap.get? x=some ⟨.ref C,none,.fields vs,sl⟩) (hc:clsIn K C=some cd) (hm:bb cd.mro=true) (hh:cd.hasDict=true)
  (hs:findIn K (.ref C) "__setattr__"=some (some (.builtin "object.__setattr__"))) (hn:findIn K (.ref C) name=some none)
  (h:∀ h',h'.get? x=some ⟨.ref C,some s.heap.objs.size,.fields vs,sl⟩->h'.Ns1 s.heap.objs.size (λy=>if y=name then some v else none)->(∀ b ob,b≠x->s.heap.get? b=some ob->h'.get? b=some ob)->Q () { s with heap:=h',toks:=s.toks+2 }) :
  wpAny (model prog w) A (setAttr (.ref x) name v) Q E s:=by
 have I:PySem.W.InstAt s.heap x ⟨.ref C,none,.fields vs,sl⟩ C none:=⟨hx,rfl,rfl,True.intro⟩
 obtain⟨m1,m2,m3⟩:=dW hm
 refine PySem.W.set_plain X I hs ?_
 have SF:=PySem.F.store_object
 have sub:Looks (model prog w) s.heap (isInstance (.ref x) (.type "object")) true:=I.type.andThen (looks_mroIn X (by unfold mroIn;rw [hc,Option.bind_some,if_neg (by rw [m3];decide),m1]))
 refine codeAny_call_builtin SF.slot.plain SF.entry (@check_slot (model prog w) _ _ { s with toks:=s.toks+1 } "object.__setattr__" "object" "__setattr__" (.ref x) [.str name s.toks,v] [] _ SF.kind SF.split sub (SF.args (.ref x) (.str name s.toks) v) ?_)
 have L1:Looks (model prog w) s.heap (mroOf (.ref C)) cd.mro:=(looks_clsIn X hc).andThen .now
 rw [osa_eq,refuse_eq]
 refine wpAny_bind (wpAny_bind (Looks.here (s:={ s with toks:=s.toks+1 }) I.type (wpAny_bind (Looks.here (s:={ s with toks:=s.toks+1 }) L1 ?_))))
 rw [fq _ hm]
 refine wpAny_pure (wpAny_bind (Looks.here (s:={ s with toks:=s.toks+1 }) I.type (wpAny_bind (Looks.here (s:={ s with toks:=s.toks+1 }) (looks_findIn X hn) (wpAny_bind (wpAny_pure ?_))))))
 show wpAny _ _ (Builtin.ObjectAttr.storeInOwnDict (.ref x) (.ref C) (.str name s.toks) name v false) _ _ _
 refine wpAny_bind (wpAny_pure (wpAny_bind (wpAny_bind (wpAny_loadPart hx (wpAny_bind (Looks.here (s:={ s with toks:=s.toks+1 }) (looks_clsIn X hc) ?_))))))
 rw [hh]
 refine wpAny_bind (wpAny_alloc ?_)
 have hlt:x≠s.heap.objs.size:=Nat.ne_of_lt (Heap.lt_size hx)
 have hp:(s.heap.push { cls:=.type "dict",data:=.dict #[] }).get? x=some ⟨.ref C,none,.fields vs,sl⟩:=Heap.get?_push_of_some _ hx
 refine wpAny_bind (wpAny_update (s:={ s with toks:=s.toks+1,heap:=s.heap.push { cls:=.type "dict",data:=.dict #[] } }) hp ?_)
 refine wpAny_pure ?_
 show wpAny _ _ (Builtin.ObjectAttr.storeInDict s.heap.objs.size (.str name s.toks) name v) _ _ _
 generalize hu:(s.heap.push { cls:=.type "dict",data:=.dict #[] }).update x (λo=>{ o with dict:=some s.heap.objs.size })=h1
 have g1:h1.get? x=some ⟨.ref C,some s.heap.objs.size,.fields vs,sl⟩:=by rw [<- hu];exact Heap.get?_update_self _ hp rfl
 have g2:∀ b,b≠x->h1.get? b=(s.heap.push { cls:=.type "dict",data:=.dict #[] }).get? b:=λb hb=>by rw [<- hu];exact Heap.get?_update_other _ _ (Ne.symm hb)
 have g3:h1.Ns1 s.heap.objs.size (λ_=>none):=by
  have e1:h1.get? s.heap.objs.size=some { cls:=.type "dict",data:=.dict #[] }:=by rw [g2 _ (Ne.symm hlt)];exact Heap.get?_push_size _ rfl
  have e3:h1.Ns s.heap.objs.size (λ_=>none):=⟨_,#[],_,e1,rfl,(λe he=>absurd he (by simp)),λ_=>rfl⟩
  exact Heap.Ns1.of_empty e3
 refine wpAny_bind (wpAny_pure (wpAny_bind ?_))
 refine wpAny_nsSet1 (s:={ s with toks:=s.toks+1,heap:=h1 }) g3 λh' hn2 hs2=>?_
 obtain⟨oD,esD,epD,hoD,hdD,hcD⟩:=hn2.count (ns:=[name]) (PySem.Within.cons name v (ns:=[]) (λy hy=>absurd rfl hy))
 refine wpAny_bind (wpAny_lookBehind hoD (by rw [hdD];exact pastItsLine_dict (Nat.le_trans hcD (by show 1<=sizeLine+1;decide))) ?_)
 refine wpAny_pure (h h' ((hs2.2 _ hlt).trans g1) hn2 λb ob hb e=>?_)
 have hb2:b≠s.heap.objs.size:=Nat.ne_of_lt (Heap.lt_size e)
 exact (hs2.2 b hb2).trans ((g2 b hb).trans (Heap.get?_push_of_some _ e))
theorem qy {ox:Obj} {od:Option Obj} {tk:Tok} {fill expr:Bool} {Q:Value->Shared->Prop} (X:K.In s.heap) (I:PySem.W.InstAt s.heap x ox C od) (hc:clsIn K C=some cd) (hm:bb cd.mro=true)
  (hga:findIn K (.ref C) "__getattribute__"=some (some (.builtin "BaseException.__getattribute__"))) (hk:findIn K (.ref C) "__getattr__"=some none)
  (h:wpAny (model prog w) A.in1 (Builtin.«object.__getattribute__» ⟨[.ref x,.str name tk],[]⟩)
   (λfin s'=>match fin with | .done (.ret v)=>handedIn v=true/\Q v s' | _=>False) (λ_ _=>False) s) :
  wpAny (model prog w) A (getAttrBy (.ref x) (.str name tk) fill expr) Q E s:=by
 obtain⟨hh',g,d,t,os⟩:=s
 obtain⟨m1,m2,m3⟩:=dW hm
 have L0:=I.type (M:=model prog w)
 have L1:=looks_findIn (M:=model prog w) X hga
 have L2:=looks_findIn (M:=model prog w) X hk
 have FX:=F.excAttr_ValueError
 have e0:(expr && onTheHeap (Value.builtin "BaseException.__getattribute__"))=false:=by cases expr<;>rfl
 unfold getAttrBy
 refine wpAny_holding (wpAny_bind (L0.at (wpAny_bind (L1.at ?_))))
 show wpAny _ _ (getAttrByItsOwn (.ref x) (.str name tk) (.ref C) (.builtin "BaseException.__getattribute__") fill expr) _ _ _
 unfold getAttrByItsOwn
 refine wpAny_bind (L2.at (wpAny_bind (wpAny_attempt (wpAny_holding ?_))))
 unfold callGetattribute
 rw [e0,if_neg Bool.false_ne_true]
 unfold boundAndCalled
 rw [FX.ga.bind]
 refine wpAny_bind (wpAny_pure (wpAny_call ?_))
 show codeAny _ _ (.call (.builtin "BaseException.__getattribute__") ⟨[.ref x,.str name tk],[]⟩) _ _
 have sub:Looks (model prog w) hh' (isInstance (.ref x) (.type "BaseException")) true:=L0.andThen (looks_mroIn X (by unfold mroIn;rw [hc,Option.bind_some,if_neg (by rw [m3];decide),m2]))
 have hk1:builtinKind "BaseException.__getattribute__"=some .slot:=by decide +kernel
 have hsplit:splitId "BaseException.__getattribute__"=some ("BaseException","__getattribute__"):=by decide +kernel
 refine codeAny_call_builtin FX.ga.plain F.entry_bexc_ga (@check_slot (model prog w) _ _ ⟨hh',g,d,t,os⟩ "BaseException.__getattribute__" "BaseException" "__getattribute__" (.ref x) [.str name tk] [] _ hk1 hsplit sub (F.args_bexc_ga (.ref x) (.str name tk)) ?_)
 refine wpAny_mono h (λfin s' z=>?_) λ_ _ z=>z.elim
 rcases fin with (_ | _ | _ | v) | _
 ·exact z.elim
 ·exact z.elim
 ·exact z.elim
 ·show wpAny _ _ (handedOut v) Q E s'
  rw [handedOut_of z.1]
  exact wpAny_pure z.2
 ·exact z.elim
theorem sV {ox:Obj} {od:Option Obj} {expr:Bool} {Q:Value->Shared->Prop} (X:K.In s.heap) (I:PySem.W.InstAt s.heap x ox C od) (hc:clsIn K C=some cd) (hm:bb cd.mro=true)
  (hga:findIn K (.ref C) "__getattribute__"=some (some (.builtin "BaseException.__getattribute__"))) (hk:findIn K (.ref C) "__getattr__"=some none)
  (hf:findObj K C od name=some (.value v)) (hv:handedIn v=true) (h:Q v { s with toks:=s.toks+1 }):wpAny (model prog w) A (getAttr (.ref x) name expr) Q E s:=by
 obtain⟨hh',g,d,t,os⟩:=s
 unfold getAttr
 refine wpAny_bind (wpAny_mkText (qy (s:=⟨hh',g,d,t+1,os⟩) X I hc hm hga hk ?_))
 have L0:=I.type (M:=model prog w)
 have L1:=looks_find (M:=model prog w) X I hf
 refine wpAny_bind (wpAny_pure (wpAny_bind (wpAny_pure (wpAny_bind (L0.at (wpAny_bind (L1.at ?_)))))))
 exact wpAny_pure ⟨hv,h⟩
structure aS (K:PySem.W.Frag) (C:Addr):Prop where
 cls:∃ cd,clsIn K C=some cd/\bb cd.mro=true/\cd.hasDict=true
 at_:∃ od cd sl,K.lookup C=some ⟨.type "type",od,.cls cd,sl⟩
 sa:findIn K (.ref C) "__setattr__"=some (some (.builtin "object.__setattr__"))
 ga:findIn K (.ref C) "__getattribute__"=some (some (.builtin "BaseException.__getattribute__"))
 gx:findIn K (.ref C) "__getattr__"=some none
 ca:findIn K (.ref C) "__class__"=some (some (.builtin "object.__class__"))
 gs:specialIn K (.builtin "object.__class__") "__get__"=some (some (.builtin "getset_descriptor.__get__"))
 tk:takesIn K (.builtin "object.__class__")=some true
theorem aS.obj (c:aS K C):mroIn K C (.type "object")=some true:=by
 obtain⟨cd,hc,hm,_⟩:=c.cls
 obtain⟨m1,m2,m3⟩:=dW hm
 unfold mroIn
 rw [hc,Option.bind_some,if_neg (by rw [m3];decide),m1]
theorem aS.there (c:aS K C) {h:Heap} (X:K.In h):∃ oc od cd sl,h.get? C=some ⟨oc,od,.cls cd,sl⟩:=by
 obtain⟨cd,hc,_⟩:=c.cls
 unfold clsIn at hc
 split at hc
 ·rename_i c' d' cd' sl' ho
  exact⟨_,_,_,_,X _ _ ho⟩
 ·cases hc
theorem nj {ox:Obj} {od:Option Obj} (c:aS K C):KitX K (.ref x) (.ref C) (λh=>PySem.W.InstAt h x ox C od) where
 ty:=λ_ _ _ I=>I.type
 it:=λ_ h X _=>by
  obtain⟨oc,od,cd,sl,ho⟩:=c.there X
  intro A' Q' E' s' k q
  unfold isType loadHead
  exact wpAny_bind (wpAny_loadPart (k _ _ ho) (wpAny_pure q))
 ne:=λh tp dd its n sl X htp=>by
  obtain⟨oc,od,cd,sl',ho⟩:=c.there X
  refine Bool.eq_false_iff.mpr λq=>?_
  have e:C=tp:=Value.ref.inj (beq_iff_eq.mp q)
  subst e
  rw [ho] at htp
  cases htp
 ca:=λ{prog w A E Q s} X I k=>by
  obtain⟨cd,hc,hm,_⟩:=c.cls
  have hf:findObj K C od "__class__"=some (.bind (.builtin "getset_descriptor.__get__") (.builtin "object.__class__")):=by
   unfold findObj
   rw [hc,Option.bind_some,c.ca,Option.bind_some]
   simp [c.gs,c.tk]
  obtain⟨hh',g,d,t,os⟩:=s
  unfold getAttr? getAttrBy?
  refine wpAny_bind (wpAny_mkText (wpAny_bind (wpAny_attempt (qy (s:=⟨hh',g,d,t+1,os⟩) X I hc hm c.ga c.gx ?_))))
  have L0:=I.type (M:=model prog w)
  have L1:=looks_find (M:=model prog w) X I hf
  refine wpAny_bind (wpAny_pure (wpAny_bind (wpAny_pure (wpAny_bind (L0.at (wpAny_bind (L1.at ?_)))))))
  show wpAny _ _ (holding [.builtin "object.__class__"] (call (.builtin "getset_descriptor.__get__") [.builtin "object.__class__",.ref x,.ref C]) >>= ret) _ _ _
  refine wpAny_bind (wpAny_holding (wpAny_call (class_get (s:=⟨hh',g,d,t+1,os⟩) (ox:=ox) (od:=od) X I c.obj ?_)))
  exact wpAny_pure ⟨rfl,wpAny_pure k⟩
end
section
variable {prog:Program} {w:World} {A:Around} {E:Value->Shared->Prop} {h:Heap} {g:Array GenState} {d:Drawn} {t:Nat} {os:OsState}
variable {nm q:Str} {C N:Addr} {bs bm:List Value} {hdct:Bool} {sn:List Str} {sub:List Value} {ab:Bool} {col:Option Bool} {dd:Option Addr} {k0 k1 k2 k3 k5:Option Value}
abbrev iX:String := "ValueError.__new__"
abbrev newExc (C a:Addr):Obj:={ cls:=.ref C,data:=.fields #[.ref a,.none,.none,.none,.bool false,.none] }
theorem sW (hB:bm.contains (.type "ValueError")=true) (hA:bm.contains (.type "AttributeError")=false) (hN:bm.contains (.type "NameError")=false) {rest:List Value} {R:Result->Shared->Prop}
  (hC:h.get? C=some (excClassObj nm q C N bs bm hdct sn sub ab col dd k0 k1 k2 k3 k5 iX)) (hrest:rest.length<=sizeLine)
  (hq:R (.ok (.ret (.ref (h.objs.size+1)))) ⟨(h.push { cls:=.type "tuple",data:=.seq rest.toArray }).push (newExc C h.objs.size),g,d,t,os⟩) :
  codeAny (model prog w) A (.builtin iX ⟨.ref C::rest,[]⟩) R ⟨h,g,d,t,os⟩:=by
 have Fn:=PySem.F.excBase_ValueError
 have hends:=Fn.ends
 have cB:(Value.ref C::bm).contains (.type "ValueError")=true:=by rw [List.contains_cons,hB,Bool.or_true]
 have cA:(Value.ref C::bm).contains (.type "AttributeError")=false:=by rw [List.contains_cons,hA];rfl
 have cN:(Value.ref C::bm).contains (.type "NameError")=false:=by rw [List.contains_cons,hN];rfl
 refine codeAny_builtinAt Fn.entry ?_
 unfold Builtin.«BaseException.__new__»
 refine PySem.wpAt_bind ?_
 show PySem.wpAt _ _ _ (stack >>= _) _ _ _
 refine PySem.wpAt_bind (PySem.wpAt_stack λp below=>PySem.wpAt_of_wpAny ?_)
 wp_walk
 refine PySem.wpAt_of_wpAny ?_
 rw [Fn.owner]
 repeat (first | with_reducible refine wpAny_madeHere_exc Fn.canon hC ?_ | with_reducible refine wpAny_loadPart_at hC ?_ | (with_reducible refine wpAny_isSubtype_exc hC ?_;first | rw [cB] | rw [cA] | rw [cN]) | wp_step)
 show R _ _
 rw [Heap.size_push]
 exact hq
theorem iR (hB:bm.contains (.type "ValueError")=true) {rest:List Value} {M:Model} {Q:Unit->Shared->Prop} (hC:h.get? C=some (excClassObj nm q C N bs bm hdct sn sub ab col dd k0 k1 k2 k3 k5 iX))
  (hq:Q () ⟨h,g,d,t,os⟩):wpAny M A (checkBuiltinCall iX ⟨.ref C::rest,[]⟩) Q E ⟨h,g,d,t,os⟩:=by
 have Fn:=PySem.F.excBase_ValueError
 have cB:(Value.ref C::bm).contains (.type "ValueError")=true:=by rw [List.contains_cons,hB,Bool.or_true]
 have hstar:=Fn.noStar
 simp only [checkBuiltinCall,Fn.newKind,Fn.newSplit,Fn.newRow]
 repeat (first | refine wpAny_loadPart_at hC ?_ | (refine wpAny_isSubtype_exc hC ?_;rw [cB]) | refine wpAny_staticBase_exc hC ?_ | refine wpAny_madeBy_exc hC ?_ | simp only [bne_self_eq_false,Bool.false_eq_true,if_false] | wp_step)
 exact hq
theorem jP {K:PySem.W.Frag} {i:Value} {rest:List Value} {Q:Fin->Shared->Prop} (X:K.In h) (hB:bm.contains (.type "ValueError")=true) (hA:bm.contains (.type "AttributeError")=false) (hN:bm.contains (.type "NameError")=false)
  (hC:h.get? C=some (excClassObj nm q C N bs bm hdct sn sub ab col dd k0 k1 k2 k3 k5 iX)) (hrest:rest.length<=sizeLine) (hi:findIn K (.ref C) "__init__"=some (some i)) {j:Value}
  (hb:Looks (model prog w) h (bindSpecial i (.ref (h.objs.size+1))) (j,[.ref (h.objs.size+1)]))
  (hq:codeAny (model prog w) A (.call j ⟨.ref (h.objs.size+1)::rest,[]⟩) (λr s'=>match r with | .ok (.ret v)=>v=.none/\Q (.done (.ret (.ref (h.objs.size+1)))) s' | .ok _=>False | .error e=>E e s')
   ⟨(h.push { cls:=.type "tuple",data:=.seq rest.toArray }).push (newExc C h.objs.size),g,d,t,os⟩) :
  wpAny (model prog w) A (Builtin.«type.__call__» ⟨.ref C::rest,[]⟩) Q E ⟨h,g,d,t,os⟩:=by
 have Fn:=PySem.F.excBase_ValueError
 repeat (first | with_reducible refine wpAny_loadPart_at hC ?_ | with_reducible refine wpAny_madeBy_exc hC ?_ | wp_step)
 refine codeAny_call_builtin_code (Code.quiet_builtin _ Fn.quiet) (iR hB hC ?_)
 refine sW hB hA hN hC hrest ?_
 show wpAny _ _ _ _ _ _
 have kp:∀ b o,h.get? b=some o->((h.push { cls:=.type "tuple",data:=.seq rest.toArray }).push (newExc C h.objs.size)).get? b=some o:=λb o e=>Heap.get?_push_of_some _ (Heap.get?_push_of_some _ e)
 have hget:((h.push { cls:=.type "tuple",data:=.seq rest.toArray }).push (newExc C h.objs.size)).get? (h.objs.size+1)=some (newExc C h.objs.size):=by
  have:=Heap.get?_push_size (h.push { cls:=.type "tuple",data:=.seq rest.toArray }) (o:=newExc C h.objs.size) rfl
  rwa [Heap.size_push] at this
 have cC:(Value.ref C::bm).contains (.ref C)=true:=by simp
 have hC₁:=kp _ _ hC
 have L1:=(looks_findIn (M:=model prog w) X hi).keeps kp
 have L2:=hb.keeps kp
 unfold isInstance
 repeat (first | with_reducible refine wpAny_loadPart_at hget ?_ | (with_reducible refine wpAny_isSubtype_exc hC₁ ?_;rw [cC]) | wp_step)
 show wpAny _ _ (typeLookup (.ref C) _) _ _ _
 refine L1.at (wpAny_holding (wpAny_bind (L2.at (wpAny_bind (wpAny_call (codeAny_mono hq λr s' z=>?_))))))
 rcases r with e | (_ | _ | _ | v)
 ·exact z
 ·exact z.elim
 ·exact z.elim
 ·exact z.elim
 ·obtain⟨rfl,z⟩:=z
  exact wpAny_pure (wpAny_pure z)
theorem gX {K:PySem.W.Frag} {i:Value} {rest:List Value} {Q:Value->Shared->Prop} (X:K.In h) (hB:bm.contains (.type "ValueError")=true) (hA:bm.contains (.type "AttributeError")=false) (hN:bm.contains (.type "NameError")=false)
  (hC:h.get? C=some (excClassObj nm q C N bs bm hdct sn sub ab col dd k0 k1 k2 k3 k5 iX)) (hrest:rest.length<=sizeLine) (hi:findIn K (.ref C) "__init__"=some (some i)) {j:Value}
  (hb:Looks (model prog w) h (bindSpecial i (.ref (h.objs.size+1))) (j,[.ref (h.objs.size+1)]))
  (hq:codeAny (model prog w) (A.under (.builtin "type.__call__" ⟨.ref C::rest,[]⟩)) (.call j ⟨.ref (h.objs.size+1)::rest,[]⟩) (λr s'=>match r with | .ok (.ret v)=>v=.none/\Q (.ref (h.objs.size+1)) s' | .ok _=>False | .error e=>E e s')
   ⟨(h.push { cls:=.type "tuple",data:=.seq rest.toArray }).push (newExc C h.objs.size),g,d,t,os⟩) :
  wpAny (model prog w) A (call (.ref C) rest) Q E ⟨h,g,d,t,os⟩:=by
 have f1:=tc_lookup
 have f2:=tc_bind (.ref C)
 have hT:(⟨h,g,d,t,os⟩:Shared).TypeIs (.ref C) "type":=⟨_,hC,rfl⟩
 refine wpAny_call (codeAny_of_tree ?_)
 show wpAny _ _ (callAny (.ref C) _) _ _ _
 repeat (any_goals (first | assumption | with_reducible refine wpAny_loadPart_at hC ?_ | wp_step))
 refine⟨rfl,?_⟩
 refine codeAny_call_builtin_at (Code.quiet_builtin _ (by decide +kernel)) entry_typeCall (wpAny_check_type_call_sub hC ?_)
 exact jP X hB hA hN hC hrest hi hb hq
end
def Tr (h:Heap) (e:Addr) (C:Value) (dd:Option Addr) (T:Addr) (fl:Value):Prop :=
 ∃ vs sl oT ts,h.get? e=some ⟨C,dd,.fields vs,sl⟩/\vs[1]?=some (.ref T)/\T≠e/\h.get? T=some oT/\oT.data=.fields ts/\ts[3]?=some fl
structure Kp (fs ch:List Addr) (h h':Heap):Prop where
 keep:∀ b o,b∉ch->b∉fs->h.get? b=some o->h'.get? b=some o
 slot:∀ b o,b∉ch->h.get? b=some o->∃ sl,h'.get? b=some { o with slots:=sl }
theorem Kp.trans {fs ch:List Addr} {h h' h'':Heap} (a:Kp fs ch h h') (b:Kp fs ch h' h''):Kp fs ch h h'' :=
 ⟨λc o hc hf e=>b.keep c o hc hf (a.keep c o hc hf e),λc o hc e=>by
  obtain⟨sl,e1⟩:=a.slot c o hc e
  obtain⟨sl',e2⟩:=b.slot c _ hc e1
  exact⟨sl',e2⟩⟩
theorem Kp.mono {fs ch ch':List Addr} {h h':Heap} (a:Kp fs ch h h') (hs:∀ b∈ch,b∈ch'):Kp fs ch' h h' :=
 ⟨λc o hc hf e=>a.keep c o (λz=>hc (hs c z)) hf e,λc o hc e=>a.slot c o (λz=>hc (hs c z)) e⟩
section
variable {M:Model} {A:Around} {E:Value->Shared->Prop} {s:Shared} {base:Heap} {env:Env} {outer:List Env} {L e T:Addr} {C:Value} {dd:Option Addr} {fl:Value}
theorem kU {vs:Array Value} {sl:Array (Option Value)} {head:Value} {hadNext:Bool} {Q:Unit->Shared->Prop} (hfr:A.frames=some (env::outer)) (hl:s.heap.FunFrames base (env::outer)) (hf:env.frame=some L)
  (he:s.heap.get? e=some ⟨C,dd,.fields vs,sl⟩) (hsz:1<vs.size)
  (h:∀ h' T,Tr h' e C dd T (rawInt L)->s.heap.objs.size<=T->Kp (dB (env::outer)) [e] s.heap h'->Q () { s with heap:=h' }) :
  wpAny M A (do let a <- frameOf env;let pl <- entryPlaceOf L hadNext;let b <- EntryCells.newEntry head a .none (rawInt L) .none pl;setField (.ref e) 1 b) Q E s:=by
 have hne:e∉dB (env::outer):=λhm=>by
  obtain⟨_,o,ho,hnf⟩:=hl.mem hm
  rw [he] at ho
  cases ho
  exact hnf vs rfl
 refine wpAny_bind (wpAny_frameOf_fun hfr hl hf λh1 so=>?_)
 refine wpAny_bind (wpAny_entryPlaceOf λpl hpl=>?_)
 unfold EntryCells.newEntry newFields
 refine wpAny_bind (wpAny_newObj_type ?_ (hpl.sizeOk5 _ _ _ _ _))
 have e1:h1.get? e=some ⟨C,dd,.fields vs,sl⟩:=(so.2.1 e hne).trans he
 generalize hO:({ cls:=.type "traceback",dict:=none,data:=.fields ([head,.ref L,.none,rawInt L,.none]++(if pl.isEmpty then List.replicate 6 Value.none else pl)).toArray }:Obj)=oT
 have hTd:oT.data=.fields ([head,.ref L,.none,rawInt L,.none]++(if pl.isEmpty then List.replicate 6 Value.none else pl)).toArray:=by rw [<- hO]
 have hTf:oT.isFreed=false:=by rw [<- hO];rfl
 have e2:(h1.push oT).get? e=some ⟨C,dd,.fields vs,sl⟩:=Heap.get?_push_of_some oT e1
 refine wpAny_setField e2 rfl hsz (h _ h1.objs.size ?_ ?_ ?_)
 ·have ne:h1.objs.size≠e:=Nat.ne_of_gt (Heap.lt_size e1)
  refine⟨vs.setIfInBounds 1 (.ref h1.objs.size),sl,oT,_,Heap.get?_update_self _ e2 rfl,by simp [hsz],ne,?_,hTd,by simp⟩
  rw [Heap.get?_update_other _ _ (Ne.symm ne)]
  exact Heap.get?_push_size h1 hTf
 ·exact Nat.le_of_eq (Eq.symm so.1)
 ·refine⟨λb o hb hf' q=>?_,λb o hb q=>?_⟩
  ·have hb':b≠e:=λz=>hb (by simp [z])
   rw [Heap.get?_update_other _ _ (Ne.symm hb')]
   exact Heap.get?_push_of_some oT ((so.2.1 b hf').trans q)
  ·have hb':b≠e:=λz=>hb (by simp [z])
   obtain⟨sl',q'⟩:=so.2.2 b o q
   refine⟨sl',?_⟩
   rw [Heap.get?_update_other _ _ (Ne.symm hb')]
   exact Heap.get?_push_of_some oT q'
theorem mz {vs:Array Value} {sl:Array (Option Value)} {Q:Unit->Shared->Prop} (hfr:A.frames=some (env::outer)) (hl:s.heap.FunFrames base (env::outer)) (hf:env.frame=some L)
  (he:s.heap.get? e=some ⟨C,dd,.fields vs,sl⟩) (h1:vs[1]?=some .none)
  (h:∀ h' T,Tr h' e C dd T (rawInt L)->s.heap.objs.size<=T->Kp (dB (env::outer)) [e] s.heap h'->Q () { s with heap:=h' }):wpAny M A (noteFrame (.ref e) env) Q E s:=by
 unfold noteFrame
 simp only [hf]
 refine wpAny_bind (wpAny_field he rfl h1 ?_)
 rw [if_neg (by decide)]
 exact kU hfr hl hf he (Array.getElem?_eq_some_iff.mp h1).1 h
theorem jo {Q:Unit->Shared->Prop} (hfr:A.frames=some (env::outer)) (hl:s.heap.FunFrames base (env::outer)) (hf:env.frame=some L) (ht:Tr s.heap e C dd T .none)
  (h:∀ h' T',Tr h' e C dd T' (rawInt L)->s.heap.objs.size<=T'->Kp (dB (env::outer)) [e,T] s.heap h'->Q () { s with heap:=h' }):wpAny M A (noteFrame (.ref e) env) Q E s:=by
 obtain⟨vs,sl,oT,ts,he,h1,hTe,hT,hdT,h3⟩:=ht
 unfold noteFrame
 simp only [hf]
 refine wpAny_bind (wpAny_field he rfl h1 ?_)
 rw [if_pos (show (Value.ref T != Value.none)=true from by simp)]
 refine wpAny_bind (wpAny_field hT hdT h3 ?_)
 rw [if_neg (show ¬((Value.none==rawInt L)=true) from by simp [rawInt])]
 refine wpAny_bind (wpAny_setField hT hdT (Array.getElem?_eq_some_iff.mp h3).1 ?_)
 generalize hu:s.heap.update T (Obj.mapFields (·.setIfInBounds 3 Value.none))=h1'
 have oth:∀ b,b≠T->h1'.get? b=s.heap.get? b:=λb hb=>by rw [<- hu];exact Heap.get?_update_other _ _ (Ne.symm hb)
 have hT1:∃ o,h1'.get? T=some o:=⟨_,by rw [<- hu];exact Heap.get?_update_self _ hT (Obj.isFreed_of_fields (Obj.data_mapFields hdT _))⟩
 have hl1:h1'.FunFrames base (env::outer):=hl.of_keeps λb o hb hnf=>⟨o,(oth b λq=>by rw [q,hT] at hb;cases hb;exact hnf ts hdT).trans hb,rfl⟩
 refine kU (s:={ s with heap:=h1' }) hfr hl1 hf ((oth e (Ne.symm hTe)).trans he) (Array.getElem?_eq_some_iff.mp h1).1 λh' T' t' n' k'=>h h' T' t' ?_ ?_
 ·have z:h1'.objs.size=s.heap.objs.size:=by rw [<- hu];exact Heap.size_update ..
  rw [<- z];exact n'
 ·refine⟨λb o hb hf' q=>k'.keep b o (λz=>hb (by simp at z;simp [z])) hf' ((oth b λz=>hb (by simp [z])).trans q),λb o hb q=>k'.slot b o (λz=>hb (by simp at z;simp [z])) ((oth b λz=>hb (by simp [z])).trans q)⟩
theorem land {Q:Unit->Shared->Prop} {fs:List Addr} (ht:Tr s.heap e C dd T fl) (h:∀ h',Tr h' e C dd T .none->Kp fs [T] s.heap h'->Q () { s with heap:=h' }):wpAny M A (setFlight (.ref e) none) Q E s:=by
 obtain⟨vs,sl,oT,ts,he,h1,hTe,hT,hdT,h3⟩:=ht
 unfold setFlight
 refine wpAny_bind (wpAny_field he rfl h1 ?_)
 rw [if_pos (show (Value.ref T != Value.none)=true from by simp)]
 have hsz:=(Array.getElem?_eq_some_iff.mp h3).1
 refine wpAny_setField hT hdT hsz (h _ ?_ ?_)
 ·refine⟨vs,sl,_,_,(Heap.get?_update_other _ _ hTe).trans he,h1,hTe,Heap.get?_update_self _ hT (Obj.isFreed_of_fields (Obj.data_mapFields hdT _)),Obj.data_mapFields hdT _,by simp [hsz]⟩
 ·refine⟨λb o hb _ q=>(Heap.get?_update_other _ _ λz=>hb (by simp [z])).trans q,λb o hb q=>⟨o.slots,(Heap.get?_update_other _ _ λz=>hb (by simp [z])).trans q⟩⟩
theorem k8 {vs:Array Value} {sl:Array (Option Value)} {Q:Unit->Shared->Prop} (hfr:A.frames=some (env::outer)) (hl:s.heap.FunFrames base (env::outer)) (hf:env.frame=some L)
  (he:s.heap.get? e=some ⟨C,dd,.fields vs,sl⟩) (h1:vs[1]?=some .none)
  (h:∀ h' T,Tr h' e C dd T .none->s.heap.objs.size<=T->Kp (dB (env::outer)) [e] s.heap h'->Q () { s with heap:=h' }):wpAny M A (leaving env (.ref e)) Q E s:=by
 unfold leaving
 refine wpAny_bind (mz hfr hl hf he h1 λh1' T t1 n1 k1=>?_)
 refine land (fs:=dB (env::outer)) t1 λh2 t2 k2=>h h2 T t2 n1 ⟨λb o hb hf' q=>?_,λb o hb q=>?_⟩
 ·exact k2.keep b o (λz=>by simp at z;rw [z] at q;exact absurd (Heap.lt_size q) (Nat.not_lt.mpr n1)) hf' (k1.keep b o hb hf' q)
 ·obtain⟨s1,q1⟩:=k1.slot b o hb q
  obtain⟨s2,q2⟩:=k2.slot b _ (λz=>by simp at z;rw [z] at q;exact absurd (Heap.lt_size q) (Nat.not_lt.mpr n1)) q1
  exact⟨s2,q2⟩
theorem mv {Q:Unit->Shared->Prop} (hfr:A.frames=some (env::outer)) (hl:s.heap.FunFrames base (env::outer)) (hf:env.frame=some L) (ht:Tr s.heap e C dd T .none)
  (h:∀ h' T',Tr h' e C dd T' .none->s.heap.objs.size<=T'->Kp (dB (env::outer)) [e,T] s.heap h'->Q () { s with heap:=h' }):wpAny M A (leaving env (.ref e)) Q E s:=by
 unfold leaving
 refine wpAny_bind (jo hfr hl hf ht λh1' T' t1 n1 k1=>?_)
 refine land (fs:=dB (env::outer)) t1 λh2 t2 k2=>h h2 T' t2 n1 ⟨λb o hb hf' q=>?_,λb o hb q=>?_⟩
 ·exact k2.keep b o (λz=>by simp at z;rw [z] at q;exact absurd (Heap.lt_size q) (Nat.not_lt.mpr n1)) hf' (k1.keep b o hb hf' q)
 ·obtain⟨s1,q1⟩:=k1.slot b o hb q
  obtain⟨s2,q2⟩:=k2.slot b _ (λz=>by simp at z;rw [z] at q;exact absurd (Heap.lt_size q) (Nat.not_lt.mpr n1)) q1
  exact⟨s2,q2⟩
end
def XO (x C:Addr) (dd:Option Addr):HO:=.ext λh=>∃ vs sl,h.get? x=some ⟨.ref C,dd,.fields vs,sl⟩
def XN (x C:Addr) (dd:Option Addr):HO:=.ext λh=>∃ t sl,h.get? x=some ⟨.ref C,dd,.fields #[.ref t,.none,.none,.none,.bool false,.none],sl⟩
section
variable {P:Program} {w:World} {H H':Hp} {h h':Heap} {x C:Addr} {dd:Option Addr}
theorem XO.ok {vs:Array Value} {sl:Array (Option Value)} (e:h.get? x=some ⟨.ref C,dd,.fields vs,sl⟩):aN P w H h x (XO x C dd) :=
 ⟨⟨vs,sl,e⟩,⟨_,e⟩,λ_ _ ⟨vs,sl,q⟩ k=>⟨vs,sl,k _ q⟩⟩
theorem XN.ok {t:Addr} {sl:Array (Option Value)} (e:h.get? x=some ⟨.ref C,dd,.fields #[.ref t,.none,.none,.none,.bool false,.none],sl⟩):aN P w H h x (XN x C dd) :=
 ⟨⟨t,sl,e⟩,⟨_,e⟩,λ_ _ ⟨vs,sl,q⟩ k=>⟨vs,sl,k _ q⟩⟩
theorem XN.get (hok:dw P w H h) (e:H x=some (XN x C dd)):∃ t sl,h.get? x=some ⟨.ref C,dd,.fields #[.ref t,.none,.none,.none,.bool false,.none],sl⟩:=by
 obtain⟨q,_⟩:=(show aN P w H h x (XN x C dd) from hok x _ e)
 exact q
theorem XO.get (hok:dw P w H h) (e:H x=some (XO x C dd)):∃ vs sl,h.get? x=some ⟨.ref C,dd,.fields vs,sl⟩:=by
 obtain⟨q,_⟩:=(show aN P w H h x (XO x C dd) from hok x _ e)
 exact q
end
def ft (P:Program) (w:World):gQ:=λouter H s E e s'=>∃(x C T:Addr) (dd:Option Addr) (H':Hp),e=.ref x/\s'.os=s.os/\AllBare s'.gens/\Un (dB outer) [] H H' s.heap s'.heap/\dw P w H' s'.heap /\
 Tr s'.heap x (.ref C) dd T .none/\s.heap.get? x=none/\s.heap.get? T=none/\H' T=none/\H' x=some (XO x C dd)/\E (.ref C) (some x) H'
theorem jR {base h h':Heap} {H H':Hp} {ex:List Addr}:∀{l:List Env} {fs:List Addr},h.FunFrames base l->Un fs ex H H' h h'->(∀ b∈dB l,H b=none)->(∀ b∈dB l,b∉ex)->h'.FunFrames base l
 | [],_,_,_,_,_=>trivial
 | env::r,fs,hl,u,hn,hx=>by
  obtain⟨hk,⟨L,o,hf,hb,ho,hd⟩,hr⟩:=hl
  have hL:L∈dB (env::r):=by unfold dB;rw [List.filterMap_cons,hf];exact List.mem_cons_self
  have sub:∀ b∈dB r,b∈dB (env::r):=λb hb'=>by unfold dB;rw [List.filterMap_cons,hf];exact List.mem_cons_of_mem _ hb'
  obtain⟨sl,e⟩:=u.any ho (hn L hL) (hx L hL)
  exact⟨hk,⟨L,_,hf,hb,e,hd⟩,jR hr u (λb hb'=>hn b (sub b hb')) λb hb'=>hx b (sub b hb')⟩
theorem jQ {P:Program} {w:World} {H':Hp} {h h':Heap} {x C:Addr} {dd:Option Addr} {fs ch:List Addr} (hok:dw P w H' h) (k:Kp fs ch h h') (hch:∀ b∈ch,b=x∨H' b=none) (hfs:∀ b∈fs,H' b=none)
  (hx:H' x=some (XO x C dd)) {vs:Array Value} {sl:Array (Option Value)} (e:h'.get? x=some ⟨.ref C,dd,.fields vs,sl⟩):dw P w H' h':=by
 intro b o q
 by_cases hb:b=x
 ·subst hb
  rw [hx] at q
  cases q
  exact XO.ok e
 ·refine (hok b o q).fW (λc u hc r=>k.keep c u (λz=>?_) (λz=>?_) r) (λ_ r=>r) λ_ _ r=>r
  ·rcases hch c z with q1 | q1
   ·rcases hc with q2 | q2
    ·exact hb (q2.symm.trans q1)
    ·rw [q1,hx] at q2;cases q2
   ·rcases hc with q2 | q2
    ·rw [q2,q] at q1;cases q1
    ·rw [q2] at q1;cases q1
  ·have q1:=hfs c z
   rcases hc with q2 | q2
   ·rw [q2,q] at q1;cases q1
   ·rw [q2] at q1;cases q1
theorem iy {P:Program} {w:World} {K:PySem.W.Frag} {mg:Str->Option Value} {base:Heap} {N:List Str} {qual:Str} {scope:Scope} {f:Addr} {cd:Value} {A:Around} {outer:List Env} {s:Shared} {H:Hp} {E:XK} :
  Passes (ft P w) (dh (ft P w) P w K mg base N qual scope f cd A outer s H E) E:=by
 intro pins σ H1 s1 e s' I hq
 obtain⟨x,C,T,dd,H',rfl,os,bare,un,hok,tr,nx,nT,hT,hx,hE⟩:=hq
 have hl:=jR I.stack un I.cQ (λb _=>by simp)
 have frN:∀ b∈dB (envOfC qual scope s.heap.objs.size f cd::outer),H' b=none:=λb hb=>by
  obtain⟨_,o,ho,_⟩:=I.stack.mem hb
  exact un.free b o ho (I.cQ b hb) (by simp)
 show wpAny (model P w) (A.deeper (envOfC qual scope s.heap.objs.size f cd)) (leaving (envOfC qual scope s.heap.objs.size f cd) (.ref x)) _ _ s'
 refine mv (L:=s.heap.objs.size) I.ok.frames hl rfl tr λh'' T' t' n' k'=>?_
 have old:∀ b o,s.heap.get? b=some o->b∉[x,T]:=λb o q hb=>by
  obtain⟨o1,q1⟩:=I.base.there b o q (by intro z;exact absurd (show b∈([]:List Addr) from z) (by simp))
  rcases List.mem_cons.mp hb with z | z
  ·rw [z,nx] at q1;cases q1
  ·rw [List.mem_singleton.mp z,nT] at q1;cases q1
 have nex:∀ b:Addr,b∉(dh (ft P w) P w K mg base N qual scope f cd A outer s H E).ex:=λb z=>absurd (show b∈([]:List Addr) from z) (by simp)
 have nfr:∀ b o,s.heap.get? b=some o->b∉dB outer->b∉dB (envOfC qual scope s.heap.objs.size f cd::outer):=λb o q hb hm=>by
  rcases List.mem_cons.mp (I.du b hm) with z | z
  ·exact absurd (Heap.lt_size q) (by rw [z];exact Nat.lt_irrefl _)
  ·exact hb z
 obtain⟨vs,sl,oT,ts,he,r'⟩:=t'
 have tr':Tr h'' x (.ref C) dd T' .none:=⟨vs,sl,oT,ts,he,r'⟩
 refine⟨x,C,T',dd,H',rfl,os.trans I.os,bare,?_,?_,tr',?_,?_,hok.fresh n',hx,hE⟩
 ·refine⟨λb o q nn hb _=>?_,λb o q nn hb _=>?_,λb o q nn _=>?_,λb o q _=>?_,λb xs q=>un.tups b xs (I.base.tups b xs q),λb o xs q=>un.frzs b o xs (I.base.frzs b o xs q),λb ps q=>?_⟩
  ·have q1:=I.base.keep b o q nn hb (nex b)
   have q2:=un.keep b o q1 (I.base.free b o q nn (nex b)) (nfr b o q hb) (by simp)
   exact k'.keep b o (old b o q) (nfr b o q hb) q2
  ·obtain⟨s1',q1⟩:=I.base.slot b o q nn hb (nex b)
   obtain⟨s2',q2⟩:=un.any q1 (I.base.free b o q nn (nex b)) (by simp)
   obtain⟨s3',q3⟩:=k'.slot b _ (old b o q) q2
   exact⟨s3',q3⟩
  ·obtain⟨o1,q1⟩:=I.base.there b o q (nex b)
   exact un.free b o1 q1 (I.base.free b o q nn (nex b)) (by simp)
  ·obtain⟨o1,q1⟩:=I.base.there b o q (nex b)
   obtain⟨o2,q2⟩:=un.there b o1 q1 (by simp)
   obtain⟨s3',q3⟩:=k'.slot b _ (old b o q) q2
   exact⟨_,q3⟩
  ·obtain⟨m1,e1⟩:=I.base.tbls b ps q
   obtain⟨m2,e2⟩:=un.tbls b _ e1
   exact⟨m1++m2,by rw [e2,Array.append_assoc]⟩
 ·exact jQ hok k' (λb hb=>by
   rcases List.mem_cons.mp hb with z | z
   ·exact .inl z
   ·exact .inr (by rw [List.mem_singleton.mp z];exact hT)) frN hx he
 ·cases q:s.heap.get? x with
  | none=>rfl
  | some o=>exact absurd (List.mem_cons_self) (old x o q)
 ·cases q:s.heap.get? T' with
  | none=>rfl
  | some o =>
   obtain⟨o1,q1⟩:=I.base.there T' o q (nex T')
   obtain⟨o2,q2⟩:=un.there T' o1 q1 (by simp)
   exact absurd (Heap.lt_size q2) (Nat.not_lt.mpr n')
section
variable {prog:Program} {w:World} {A:Around} {E:Value->Shared->Prop} {s:Shared} {K:PySem.W.Frag} {env:Env}
theorem iS {x:Sem Value} {Q:Flow->Shared->Prop} (hh:A.handled=none)
  (h:wpAny (model prog w) A x (λv s₁=>∃ e C t dd sl,v=.ref e/\K.In s₁.heap/\aS K C/\s₁.heap.get? e=some ⟨.ref C,dd,.fields #[.ref t,.none,.none,.none,.bool false,.none],sl⟩/\E (.ref e) s₁) E s) :
  wpAny (model prog w) A (raiseStmt env (some x) none) Q E s:=by
 unfold raiseStmt
 refine wpAny_bind (wpAny_mono h (λv s₁ h₁=>?_) λ_ _ z=>z)
 obtain⟨e,C,t,dd,sl,rfl,X,c,he,hE⟩:=h₁
 obtain⟨hp,g,d,tk,os⟩:=s₁
 have L1:Looks (model prog w) hp (isSubtype (.ref C) (.type "BaseException")) true:=by
  obtain⟨cd,hc,hm,_⟩:=c.cls
  obtain⟨m1,m2,m3⟩:=dW hm
  exact looks_mroIn X (by unfold mroIn;rw [hc,Option.bind_some,if_neg (by rw [m3];decide),m2])
 obtain⟨od,cd,sc,hk⟩:=c.at_
 have hC:=X _ _ hk
 repeat (first | with_reducible refine wpAny_loadPart_at he ?_ | with_reducible refine wpAny_loadPart_at hC ?_ | with_reducible refine Looks.at L1 ?_ | wp_step)
 exact wpAny_raiseNew_none hh hE
end
def rS (K:PySem.W.Frag) (H₀:Hp) (E:XK) (te:TE):TS:=λ_ σ H=>te σ H λv H1=>∃ x C dd,v=.ref x/\H1 x=some (XN x C dd)/\aS K C/\H₀ x=none/\E (.ref C) (some x) (upd H1 x (XO x C dd))
section
variable {P:Program} {w:World} {K:PySem.W.Frag} {mg:Str->Option Value} {base:Heap} {N:List Str} {qual:Str} {scope:Scope} {f:Addr} {cd:Value} {A:Around} {outer:List Env} {s:Shared} {H:Hp} {E:XK}
theorem pE {pins:List (Addr × Obj)} {σ:St} {H2:Hp} {s2:Shared} {x C:Addr} {dd:Option Addr} (I:Inv (dh (ft P w) P w K mg base N qual scope f cd A outer s H E) pins σ H2 s2) (hx:H2 x=some (XN x C dd)) (hn:H x=none)
  (hE:E (.ref C) (some x) (upd H2 x (XO x C dd))):(dh (ft P w) P w K mg base N qual scope f cd A outer s H E).xe (.ref x) s2:=by
 obtain⟨t,sl,he⟩:=XN.get I.hok hx
 have nex:∀ b:Addr,b∉(dh (ft P w) P w K mg base N qual scope f cd A outer s H E).ex:=λb z=>absurd (show b∈([]:List Addr) from z) (by simp)
 have nx:s.heap.get? x=none:=by
  cases q:s.heap.get? x with
  | none=>rfl
  | some o =>
   have:=I.base.free x o q hn (nex x)
   rw [hx] at this
   cases this
 have old:∀ b o,s.heap.get? b=some o->b≠x:=λb o q z=>by rw [z,nx] at q;cases q
 have nfr:∀ b o,s.heap.get? b=some o->b∉dB outer->b∉dB (envOfC qual scope s.heap.objs.size f cd::outer):=λb o q hb hm=>by
  rcases List.mem_cons.mp (I.du b hm) with z | z
  ·exact absurd (Heap.lt_size q) (by rw [z];exact Nat.lt_irrefl _)
  ·exact hb z
 have hok':dw P w (upd H2 x (XO x C dd)) s2.heap:=λb o q=>by
  by_cases hb:b=x
  ·subst hb
   rw [ag] at q
   cases q
   exact XO.ok he
  ·rw [ak hb] at q
   refine (I.hok b o q).fW (λ_ _ _ r=>r) (λc r=>?_) λc xs r=>?_
   ·rw [ak (λz=>by rw [z,hx] at r;cases r)];exact r
   ·rw [ak (λz=>by rw [z,hx] at r;cases r)];exact r
 show wpAny (model P w) (A.deeper (envOfC qual scope s.heap.objs.size f cd)) (leaving (envOfC qual scope s.heap.objs.size f cd) (.ref x)) _ _ s2
 refine k8 (L:=s.heap.objs.size) I.ok.frames I.stack rfl he rfl λh'' T t' n' k'=>?_
 obtain⟨vs,sl',oT,ts,he',r'⟩:=t'
 have tr':Tr h'' x (.ref C) dd T .none:=⟨vs,sl',oT,ts,he',r'⟩
 have nT:T≠x:=r'.2.1
 refine⟨x,C,T,dd,upd H2 x (XO x C dd),rfl,I.os,I.bare,?_,?_,tr',nx,?_,?_,ag,hE⟩
 ·refine⟨λb o q nn hb _=>?_,λb o q nn hb _=>?_,λb o q nn _=>?_,λb o q _=>?_,λb xs q=>?_,λb o xs q=>?_,λb ps q=>?_⟩
  ·exact k'.keep b o (by simp [old b o q]) (nfr b o q hb) (I.base.keep b o q nn hb (nex b))
  ·obtain⟨s1',q1⟩:=I.base.slot b o q nn hb (nex b)
   obtain⟨s3',q3⟩:=k'.slot b _ (by simp [old b o q]) q1
   exact⟨s3',q3⟩
  ·rw [ak (old b o q)]
   exact I.base.free b o q nn (nex b)
  ·obtain⟨o1,q1⟩:=I.base.there b o q (nex b)
   obtain⟨s3',q3⟩:=k'.slot b _ (by simp [old b o q]) q1
   exact⟨_,q3⟩
  ·have:=I.base.tups b xs q
   rw [ak (λz=>by rw [z,hx] at this;cases this)];exact this
  ·have:=I.base.frzs b o xs q
   rw [ak (λz=>by rw [z,hx] at this;cases this)];exact this
  ·obtain⟨m1,e1⟩:=I.base.tbls b ps q
   exact⟨m1,by rw [ak (λz=>by rw [z,hx] at e1;cases e1)];exact e1⟩
 ·exact jQ hok' k' (λb hb=>.inl (by simpa using hb)) (λb hb=>by
   have z:=I.cQ b hb
   rw [ak (λy=>by rw [y,hx] at z;cases z)];exact z) ag he'
 ·cases q:s.heap.get? T with
  | none=>rfl
  | some o =>
   obtain⟨o1,q1⟩:=I.base.there T o q (nex T)
   exact absurd (Heap.lt_size q1) (Nat.not_lt.mpr n')
 ·rw [ak nT]
  exact I.hok.fresh n'
theorem iH {e:Expr} {te:TE} {pos:Pos} (he:PE (dh (ft P w) P w K mg base N qual scope f cd A outer s H E) e te):PS (dh (ft P w) P w K mg base N qual scope f cd A outer s H E) (.Raise (some e) none pos) (rS K H E te):=by
 intro pins s1 σ H1 D I h
 rw [arm_exec_Raise]
 refine wpAny_bind (wpAny_standAt (iS (K:=K) (I.ok.hd rfl) (wpAny_bind (a5 (he pins s1 σ H1 _ I h) λv s2 ⟨y,H2,I2,r,x,C,dd,ey,hx,c,hn,hE⟩=>?_))))
 subst ey
 obtain rfl:v=Value.ref x:=r
 obtain⟨t,sl,hg⟩:=XN.get I2.hok hx
 exact wpAny_bind (wpAny_standAt (wpAny_pure ⟨x,C,t,dd,sl,rfl,I2.cH,c,hg,pE I2 hx hn hE⟩))
end
section
variable {prog:Program} {w:World} {A:Around} {E:Value->Shared->Prop} {h:Heap} {g:Array GenState} {d:Drawn} {t:Nat} {os:OsState}
variable {nm q:Str} {C N:Addr} {bs bm:List Value} {hdct:Bool} {sn:List Str} {sub:List Value} {ab:Bool} {col:Option Bool} {dd:Option Addr} {k0 k1 k2 k3 k5:Option Value}
theorem oH {R:Result->Shared->Prop} {e a:Addr} (hB:bm.contains (.type "ValueError")=true) (hC:h.get? C=some (excClassObj nm q C N bs bm hdct sn sub ab col dd k0 k1 k2 k3 k5 iX)) (he:h.get? e=some (newExc C a))
  (hq:∀ h',h'.get? e=some (newExc C h.objs.size)->(∀ b o,b≠e->h.get? b=some o->h'.get? b=some o)->R (.ok (.ret .none)) ⟨h',g,d,t,os⟩) :
  codeAny (model prog w) A (.call (.builtin "ValueError.__init__") ⟨[.ref e],[]⟩) R ⟨h,g,d,t,os⟩:=by
 have Fn:=PySem.F.excBase_ValueError
 have cB:(Value.ref C::bm).contains (.type "ValueError")=true:=by rw [List.contains_cons,hB,Bool.or_true]
 have hshort:=Fn.noStar
 refine codeAny_call_builtin Fn.init.plain Fn.initEntry ?_
 have chk:∀{Q:Unit->Shared->Prop} {E:Value->Shared->Prop} {A:Around},Q () ⟨h,g,d,t,os⟩->wpAny (model prog w) A (checkBuiltinCall "ValueError.__init__" ⟨[.ref e],[]⟩) Q E ⟨h,g,d,t,os⟩:=by
  intro Q E A hq
  simp only [checkBuiltinCall,Fn.initKind,Fn.initSplit,Fn.initRow]
  repeat (first | with_reducible refine wpAny_loadPart_at he ?_ | with_reducible refine wpAny_loadPart_at hC ?_ | (with_reducible refine wpAny_isSubtype_exc hC ?_;rw [cB]) | wp_step)
  exact hq
 refine chk ?_
 wp_walk
 have hp:=Heap.get?_push_of_some (h:=h) { cls:=.type "tuple",data:=.seq ([]:List Value).toArray } he
 refine hq _ ?_ λb o hb z=>?_
 ·exact Heap.get?_update_self _ hp rfl
 ·rw [Heap.get?_update_other _ _ (Ne.symm hb)]
  exact Heap.get?_push_of_some _ z
end
theorem bR.any {P:Program} {w:World} {K:PySem.W.Frag} {mg:Str->Option Value} {base:Heap} {CX:gQ} {k:Nat} {f:Addr} {fd:FuncData} {ps:List Str} {sp:Sp} (F:bR P w K mg base a8 k f fd ps sp):bR P w K mg base CX k f fd ps sp :=
 ⟨F.len,λA outer s H args us vs Q E hr he hb hv hs=>codeAny_mono (F.run A outer s H args us vs Q E hr he hb hv hs) λr s' q=>by
  cases r with
  | error e=>exact False.elim q
  | ok fl =>
   cases fl with
   | ret u=>exact q
   | next=>exact q
   | brk=>exact q
   | cont=>exact q⟩
def xD (K:PySem.W.Frag) (ta tv:TE) (f:Str):TS:=λD σ H=>tv σ H λy H1=>ta σ H1 λxv H2=>∃ x C,xv=.ref x/\H2 x=some (XN x C none)/\aS K C/\findIn K (.ref C) f=some none /\
 ∀ dx,H2 dx=none->dx≠x->D.nx σ (upd (upd H2 dx (.xd [(f,y)])) x (XN x C (some dx)))
section
variable {X:Cx} {o value:Expr} {f:Str} {pos pos':Pos} {ta tv:TE}
theorem nL (ha:PE X o ta) (hv:PE X value tv) (hs:swapsWith value (some (.Attribute o f pos')) pos.line X.env=pure false:=by rfl):PS X (.Assign [.Attribute o f pos'] value pos) (xD X.K ta tv f):=by
 intro pins s σ H D I h
 refine plainObj_wpAny_Assign_Attribute (a5 (hv pins s σ H _ I h) λu s1 ⟨y,H1,I1,ry,q⟩=>a5 (ha pins s1 σ H1 _ I1 q) λov s2 ⟨xv,H2,I2,rx,x,C,ex,hx,c,hf,q2⟩=>?_) hs
 subst ex
 obtain rfl:ov=Value.ref x:=rx
 obtain⟨t,sl,hg⟩:=XN.get I2.hok hx
 obtain⟨cd,hc,hm,hh⟩:=c.cls
 refine sX I2.cH hg hc hm hh c.sa hf λh' g1 g2 g3=>?_
 have hd0:H2 s2.heap.objs.size=none:=I2.hok.fresh (Nat.le_refl _)
 have hne:s2.heap.objs.size≠x:=λz=>by rw [z,hx] at hd0;cases hd0
 have bx:∀ b,H2 b=none->b≠x:=λb z y=>by rw [y,hx] at z;cases z
 have bd:∀ b o,s2.heap.get? b=some o->b≠s2.heap.objs.size:=λb o q=>Nat.ne_of_lt (Heap.lt_size q)
 have tb:∀ b u,H2 b=some u->b≠s2.heap.objs.size:=λb u q z=>by rw [z,hd0] at q;cases q
 refine⟨σ,upd (upd H2 s2.heap.objs.size (.xd [(f,y)])) x (XN x C (some s2.heap.objs.size)),I2.un ⟨λb o q n _ _=>g3 b o (bx b n) q,λb o q n _ _=>⟨o.slots,g3 b o (bx b n) q⟩,λb o q n _=>?_,λb o q _=>?_,λb xs q=>?_,λb o xs q=>?_,λb ps q=>?_⟩ ?_,q2 _ hd0 hne⟩
 ·rw [ak (bx b n),ak (bd b o q)];exact n
 ·by_cases z:b=x
  ·exact⟨_,by rw [z];exact g1⟩
  ·exact⟨o,g3 b o z q⟩
 ·rw [ak (λz=>by rw [z,hx] at q;cases q),ak (tb b _ q)];exact q
 ·rw [ak (λz=>by rw [z,hx] at q;cases q),ak (tb b _ q)];exact q
 ·exact⟨#[],by rw [ak (λz=>by rw [z,hx] at q;cases q),ak (tb b _ q),q];simp⟩
 ·intro b o q
  by_cases z:b=x
  ·subst z
   rw [ag] at q
   cases q
   exact XN.ok g1
  ·rw [ak z] at q
   by_cases z2:b=s2.heap.objs.size
   ·subst z2
    rw [ag] at q
    cases q
    refine⟨_,g2,λk=>?_⟩
    show dD (List.lookup k [(f,y)]) (if k=f then some u else none)
    by_cases e:k=f
    ·subst e
     rw [if_pos rfl,List.lookup_cons,beq_self_eq_true]
     exact ry
    ·have e':(k==f)=false:=by simpa using e
     rw [if_neg e,List.lookup_cons,e']
     exact True.intro
   ·rw [ak z2] at q
    refine (I2.hok b o q).fW (λc' u' hc' r=>g3 c' u' (λz3=>?_) r) (λc' r=>?_) λc' xs r=>?_
    ·rcases hc' with e | e
     ·exact z (e.symm.trans z3)
     ·rw [z3,hx] at e;cases e
    ·rw [ak (λz3=>by rw [z3,hx] at r;cases r),ak (tb c' _ r)];exact r
    ·rw [ak (λz3=>by rw [z3,hx] at r;cases r),ak (tb c' _ r)];exact r
end
structure lX (K:PySem.W.Frag) (C:Addr):Prop where
 obj:∃ nm q N bs bm hdct sn sub ab col dd k0 k1 k2 k3 k5,K.lookup C=some (excClassObj nm q C N bs bm hdct sn sub ab col dd k0 k1 k2 k3 k5 iX)/\bm.contains (.type "ValueError")=true/\bm.contains (.type "AttributeError")=false/\bm.contains (.type "NameError")=false
 kp:keepIn K (.ref C)=true
def kn (K:PySem.W.Frag) (f:Str):Sp:=λvs H Q _=>∃ x C v,vs=[.ref x,v]/\H x=some (XN x C none)/\aS K C/\findIn K (.ref C) f=some none /\
 ∀ dx,H dx=none->dx≠x->Q .non (upd (upd H dx (.xd [(f,v)])) x (XN x C (some dx)))
def wu (C:Addr) (f:Str) (t:TA):TE:=λσ H Q=>t σ H λvs H1=>∃ v,vs=[v]/\∀ x dx,H1 x=none->H1 dx=none->dx≠x->Q (.ref x) (upd (upd (upd H1 x (XN x C none)) dx (.xd [(f,v)])) x (XN x C (some dx)))
def wt (C:Addr):TE:=λ_ H Q=>∀ x,H x=none->Q (.ref x) (upd H x (XN x C none))
section
variable {X:Cx} {C fi:Addr} {fd:FuncData} {p f x:Str} {k:Nat} {pos np:Pos} {e:Expr} {t:TA}
theorem Inv.newExc {pins:List (Addr × Obj)} {σ:St} {H:Hp} {s:Shared} (I:Inv X pins σ H s) (us:List Value):Inv X pins σ (upd H (s.heap.objs.size+1) (XN (s.heap.objs.size+1) C none))
  { s with heap:=(s.heap.push { cls:=.type "tuple",data:=.seq us.toArray }).push (L2.newExc C s.heap.objs.size) }:=by
 have I1:Inv X pins σ H { s with heap:=s.heap.push { cls:=.type "tuple",data:=.seq us.toArray } }:=I.kept (t':=s.toks) λb u q=>Heap.get?_push_of_some _ q
 refine I1.laid (a:=s.heap.objs.size+1) (t':=s.toks) (λb u q=>Heap.get?_push_of_some _ q) (Nat.le_of_eq (Heap.size_push _ _)) ?_
 refine XN.ok (t:=s.heap.objs.size) (sl:=#[]) ?_
 have:=Heap.get?_push_size (s.heap.push { cls:=.type "tuple",data:=.seq us.toArray }) (o:=L2.newExc C s.heap.objs.size) rfl
 rwa [Heap.size_push] at this
theorem pk (M:lX X.K C) (c:aS X.K C) (hi:findIn X.K (.ref C) "__init__"=some (some (.ref fi))) (fn:isFn X.K (.ref fi)=true) (hf:findIn X.K (.ref C) f=some none) (F:bR X.prog X.w X.K X.mg X.base a8 k fi fd ["self",p] (kn X.K f)) (hr:bF (k+1) X.A) (hg:Gl X x)
  (hm:X.mg x=some (.ref C)) (hb:Binds X.K fd ["self",p] []) (ha:PA X [e] t) (hdb:(x==("__debug__":Str))=false:=by decide) (he:starEach [e] X.env=(false,eval e X.env)::starEach [] X.env:=by rfl) (hpl:(backTo pos (starEach [] X.env)).any (·.1)=false:=by rfl) :
  PE X (.Call (.Name x np) [e] [] pos) (wu C f t):=by
 intro pins s σ H Q I h
 refine wpAny_Call_Name_kw (cI I hg hm ?_ hdb)
 refine PySem.W.callWith_K (h₀:=X.base) I.ok.mod.kin M.kp (a5 (ha pos pins s σ H _ I h) λus s1 ⟨vs,H1,I1,r,q⟩=>⟨I1.cH,?_⟩) he hpl
 obtain⟨v,rfl,q⟩:=q
 obtain⟨u,rfl,ru⟩:=vals1 r
 obtain⟨nm,qn,Nn,bs,bm,hdct,sn,sub,ab,col,dd,k0,k1,k2,k3,k5,hk,hB,hA,hN⟩:=M.obj
 have I2:=Inv.newExc (C:=C) I1 [u]
 have n1:H1 (s1.heap.objs.size+1)=none:=I1.hok.fresh (Nat.le_succ _)
 have r2:Vals [V.ref (s1.heap.objs.size+1),v] [Value.ref (s1.heap.objs.size+1),u]:=.cons rfl (.cons ru .nil)
 have hq:kn X.K f [V.ref (s1.heap.objs.size+1),v] (upd H1 (s1.heap.objs.size+1) (XN (s1.heap.objs.size+1) C none)) (λz H3=>z=.non/\Q (.ref (s1.heap.objs.size+1)) H3) E0 :=
  ⟨_,C,v,rfl,ag,c,hf,λdx hd hne=>⟨rfl,q _ dx n1 (by rw [ak hne] at hd;exact hd) hne⟩⟩
 obtain⟨hh,g,d,tk,os⟩:=s1
 refine gX (K:=X.K) I1.cH hB hA hN (I1.cH _ _ hk) (by show 1<=sizeLine;decide) hi (bind_fn I1.cH _ (beq_iff_eq.mp fn)) ?_
 refine codeAny_mono (F.run _ X.stack _ _ ⟨[Value.ref (hh.objs.size+1),u],[]⟩ [Value.ref (hh.objs.size+1),u] _ _ E0 (hr.make C [u] []) (I2.sT.make C [u] []) (by have:=hb _ [Value.ref (hh.objs.size+1),u] I2.cH rfl;rwa [List.append_nil] at this) r2 hq) λr s' hq'=>?_
 cases r with
 | error e=>exact False.elim hq'
 | ok fl =>
  cases fl with
  | ret u' =>
   obtain⟨v',H',I3,rv,ev,q3⟩:=I2.after hq'
   subst ev
   exact⟨rv,⟨V.ref (hh.objs.size+1),H',I3,rfl,q3⟩⟩
  | next=>exact False.elim hq'
  | brk=>exact False.elim hq'
  | cont=>exact False.elim hq'
theorem ph (M:lX X.K C) (hi:findIn X.K (.ref C) "__init__"=some (some (.builtin "ValueError.__init__"))) (hg:Gl X x) (hm:X.mg x=some (.ref C)) (hdb:(x==("__debug__":Str))=false:=by decide) :
  PE X (.Call (.Name x np) [] [] pos) (wt C):=by
 intro pins s σ H Q I h
 refine wpAny_Call_Name_kw (cI I hg hm ?_ hdb)
 refine PySem.W.callWith_K0 I.cH M.kp ?_
 obtain⟨nm,qn,Nn,bs,bm,hdct,sn,sub,ab,col,dd,k0,k1,k2,k3,k5,hk,hB,hA,hN⟩:=M.obj
 have I2:=Inv.newExc (C:=C) I []
 have n1:H (s.heap.objs.size+1)=none:=I.hok.fresh (Nat.le_succ _)
 have Fn:=PySem.F.excBase_ValueError
 obtain⟨hh,g,d,tk,os⟩:=s
 have hC:=I.cH _ _ hk
 refine gX (K:=X.K) I.cH hB hA hN hC (by show 0<=sizeLine;decide) hi (j:=.builtin "ValueError.__init__") (Looks.of_pure (Fn.init.bind _)) ?_
 have hC2:((hh.push { cls:=.type "tuple",data:=.seq ([]:List Value).toArray }).push (L2.newExc C hh.objs.size)).get? C=some _:=Heap.get?_push_of_some _ (Heap.get?_push_of_some _ hC)
 have he2:((hh.push { cls:=.type "tuple",data:=.seq ([]:List Value).toArray }).push (L2.newExc C hh.objs.size)).get? (hh.objs.size+1)=some (L2.newExc C hh.objs.size):=by
  have:=Heap.get?_push_size (hh.push { cls:=.type "tuple",data:=.seq ([]:List Value).toArray }) (o:=L2.newExc C hh.objs.size) rfl
  rwa [Heap.size_push] at this
 refine oH hB hC2 he2 λh' g1 g3=>⟨rfl,.ref (hh.objs.size+1),_,?_,rfl,h _ n1⟩
 have e:upd (upd H (hh.objs.size+1) (XN (hh.objs.size+1) C none)) (hh.objs.size+1) (XN (hh.objs.size+1) C none)=upd H (hh.objs.size+1) (XN (hh.objs.size+1) C none):=by
  funext b
  by_cases z:b=hh.objs.size+1
  ·rw [z,ag,ag]
  ·rw [ak z]
 have W:=I2.write (x:=hh.objs.size+1) (e:=hh.objs.size+1) (o:=XN (hh.objs.size+1) C none) (h':=h') (t':=tk) (by rw [ag];exact True.intro) (.inl rfl) (λb u hb q=>g3 b u hb q) ⟨_,g1⟩ (XN.ok g1)
 rw [e] at W
 exact W
end
def gc (H:Hp) (x C:Addr) (dd:Option Addr):Prop:=H x=some (XO x C dd)∨H x=some (XN x C dd)
theorem gc.get {P:Program} {w:World} {H:Hp} {h:Heap} {x C:Addr} {dd:Option Addr} (a:gc H x C dd) (hok:dw P w H h):∃ vs sl,h.get? x=some ⟨.ref C,dd,.fields vs,sl⟩:=by
 rcases a with a | a
 ·exact XO.get hok a
 ·obtain⟨t,sl,e⟩:=XN.get hok a
  exact⟨_,sl,e⟩
def yH (K:PySem.W.Frag) (ta:TE) (f:Str):TE:=λσ H Q=>ta σ H λxv H1=>∃ x C dx fs v,xv=.ref x/\gc H1 x C (some dx)/\aS K C/\findIn K (.ref C) f=some none/\H1 dx=some (.xd fs)/\fs.lookup f=some v/\Q v H1
def rJ (K:PySem.W.Frag):List V->Hp->VK->Prop:=λxs H Q=>∃ x C dd c cv b,xs=[.ref x,c]/\wN c=some cv/\gc H x C dd/\(∀ dx,dd=some dx->∃ fs,H dx=some (.xd fs))/\aS K C/\kitOne K (.ref C) cv=some b/\Q (.bl b) H
section
variable {X:Cx} {e:Expr} {f:Str} {pos:Pos} {ta:TE}
theorem n8 {P:Program} {w:World} {H:Hp} {h:Heap} {dx:Addr} {fs:List (Str × V)} (hok:dw P w H h) (hd:H dx=some (.xd fs)):∃(mA:Str->Option Value) (od:Obj),h.get? dx=some od/\(∀ name,lookIn name od=some (mA name))/\∀ g,dD (fs.lookup g) (mA g):=by
 obtain⟨mA,n,r⟩:=(show aN P w H h dx (.xd fs) from hok dx _ hd)
 obtain⟨od,ho,hl⟩:=jj n
 exact⟨mA,od,ho,hl,r⟩
theorem tX (he:PE X e ta) (hb:attributeBase e f X.env (eval e X.env)=eval e X.env:=by rfl):PE X (.Attribute e f pos) (yH X.K ta f):=by
 intro pins s σ H Q I h
 refine sM hb (a5 (he pins s σ H _ I h) λu s1 ⟨xv,H1,I1,rx,x,C,dx,fs,v,ex,ax,c,hf,hd,hl,q⟩=>?_)
 subst ex
 obtain rfl:u=Value.ref x:=rx
 obtain⟨vs,sl,hg⟩:=ax.get I1.hok
 obtain⟨mA,od,ho,lk,r⟩:=n8 I1.hok hd
 obtain⟨cd,hc,hm,hh⟩:=c.cls
 obtain⟨u,hu,ru⟩:=dD.some_of (v:=v) (o:=mA f) (by rw [<- hl];exact r f)
 have J:PySem.W.InstAt s1.heap x ⟨.ref C,some dx,.fields vs,sl⟩ C (some od):=⟨hg,rfl,rfl,ho⟩
 refine sV I1.cH J hc hm c.ga c.gx (findObj_own (by unfold hasDictIn;rw [hc];exact hh) hf rfl (by rw [lk,hu])) (oJ ru) ⟨v,H1,I1.tok _,ru,q⟩
theorem oi:b9 X (.builtin "isinstance") (rJ X.K):=by
 intro pins s σ H xs us Q I r h
 obtain⟨x,C,dd,c,cv,b,rfl,ec,ax,hdd,cl,ek,q⟩:=h
 obtain⟨u,w',rfl,rx,rc⟩:=vals2 r
 obtain rfl:u=Value.ref x:=rx
 have e:w'=cv:=by
  cases c with
  | ty n=>cases ec;exact rc
  | ref a=>cases ec;exact rc
  | _=>cases ec
 subst e
 obtain⟨vs,sl,hg⟩:=ax.get I.hok
 have fin:∀ tk,EP X pins σ Q (.bool b) { s with toks:=tk }:=λtk=>⟨.bl b,H,I.tok _,rfl,q⟩
 cases dd with
 | none=>exact kia_one (nj (ox:=⟨.ref C,none,.fields vs,sl⟩) (od:=none) cl) I.cH ⟨hg,rfl,rfl,True.intro⟩ ek (λz=>nomatch z) fin
 | some dx =>
  obtain⟨fs,hd⟩:=hdd dx rfl
  obtain⟨mA,od,ho,lk,r⟩:=n8 I.hok hd
  exact kia_one (nj (ox:=⟨.ref C,some dx,.fields vs,sl⟩) (od:=some od) cl) I.cH ⟨hg,rfl,rfl,ho⟩ ek (λz=>nomatch z) fin
end
section
variable {prog:Program} {w:World} {A:Around} {E:Value->Shared->Prop} {K:PySem.W.Frag} {h:Heap} {g:Array GenState} {d:Drawn} {t:Nat} {os:OsState} {x C B:Addr}
theorem aS.base (c:aS K C):mroIn K C (.type "BaseException")=some true:=by
 obtain⟨cd,hc,hm,_⟩:=c.cls
 obtain⟨m1,m2,m3⟩:=dW hm
 unfold mroIn
 rw [hc,Option.bind_some,if_neg (by rw [m3];decide),m2]
theorem i9 {dd:Option Addr} {vs:Array Value} {sl:Array (Option Value)} {Q:Bool->Shared->Prop} (X:K.In h) (c:aS K C) (b:aS K B) (he:h.get? x=some ⟨.ref C,dd,.fields vs,sl⟩) (hs:mroIn K C (.ref B)=some true)
  (hq:Q true ⟨h,g,d,t,os⟩):wpAny (model prog w) A (excMatches (.ref x) (.ref B)) Q E ⟨h,g,d,t,os⟩:=by
 have f:=tc_notTuple
 have L1:=looks_mroIn (M:=model prog w) X hs
 have L2:=looks_mroIn (M:=model prog w) X b.base
 have L3:=looks_mroIn (M:=model prog w) X c.base
 obtain⟨od,cd,sc,hk⟩:=b.at_
 have hB:=X _ _ hk
 unfold excMatches
 repeat (first | with_reducible refine wpAny_loadPart_at he ?_ | with_reducible refine wpAny_loadPart_at hB ?_ | with_reducible refine Looks.at L1 ?_ | with_reducible refine Looks.at L2 ?_ | with_reducible refine Looks.at L3 ?_ | wp_step)
 exact hq
end
theorem find_erase {α:Type} (p:α->Bool):∀(l:List α) (i:Nat),(∀ e,l[i]?=some e->p e=false)->(l.eraseIdx i).find? p=l.find? p
 | [],_,_=>by simp
 | a::r,0,h=>by
  have:=h a rfl
  rw [List.eraseIdx_cons_zero,List.find?_cons_of_neg (by rw [this];decide)]
 | a::r,i+1,h=>by
  have ih:=find_erase p r i (λe q=>h e (by simpa using q))
  rw [List.eraseIdx_cons_succ]
  cases q:p a with
  | true=>rw [List.find?_cons_of_pos q,List.find?_cons_of_pos q]
  | false=>rw [List.find?_cons_of_neg (by rw [q];decide),List.find?_cons_of_neg (by rw [q];decide),ih]
theorem qQ {es:Array DictEntry} {i:Nat} {name y:Str} (hk:∀ e,es[i]?=some e->e.key.isStr name=true) (hy:y≠name):nsFind (es.eraseIdxIfInBounds i) y=nsFind es y:=by
 unfold nsFind findBy
 congr 1
 rw [<- Array.find?_toList,<- Array.find?_toList]
 have e:(es.eraseIdxIfInBounds i).toList=es.toList.eraseIdx i:=by
  unfold Array.eraseIdxIfInBounds
  split
  ·rw [Array.toList_eraseIdx]
  ·rename_i h
   rw [List.eraseIdx_of_length_le (by simpa using h)]
 rw [e]
 refine find_erase _ _ _ λd q=>?_
 have z:=hk d (by simpa using q)
 cases c:d.key.isStr y with
 | false=>exact c
 | true =>
  cases hkey:d.key with
  | str n t =>
   rw [hkey] at z c
   have z1:n=name:=by simpa [Value.isStr] using z
   have c1:n=y:=by simpa [Value.isStr] using c
   exact absurd (c1.symm.trans z1) hy
  | _=>rw [hkey] at z;simp [Value.isStr] at z
section
variable {M:Model} {A:Around} {E:Value->Shared->Prop} {s:Shared}
theorem mB {a:Addr} {m:Str->Option Value} {name:Str} {Q:Bool->Shared->Prop} (hn:s.heap.Ns a m)
  (hQ:∀ h' m',h'.Ns a m'->(∀ y,y≠name->m' y=m y)->Heap.SameBut a s.heap h'->Q (m name).isSome { s with heap:=h' }):wpAny M A (nsDel a name) Q E s:=by
 obtain⟨o,es,ep,ho,hd,hk,hm⟩:=id hn
 have noRef:es.any (·.refKey)=false:=by
  rw [Array.any_eq_false']
  intro e he
  obtain⟨n,t,z⟩:=hk e he
  simp [DictEntry.refKey,z]
 have there:(m name).isSome=es.any (·.key.isStr name):=by
  rw [<- hm name]
  unfold nsFind findBy
  rw [Option.isSome_map,<- Array.find?_toList,<- Array.any_toList,Bool.eq_iff_iff,List.find?_isSome,List.any_eq_true]
 have has:nsHas name o=pure (es.any (·.key.isStr name)):=by
  rw [nsHas_eq]
  unfold nsHasByArray
  rw [hd]
  show (if (es.any λx=>x.key.isStr name)=true then _ else _)=_
  generalize (es.any λx=>x.key.isStr name)=b
  cases b<;>simp [noRef]
 unfold nsDel
 refine wpAny_bind (wpAny_loadPart ho ?_)
 rw [has]
 refine wpAny_bind (wpAny_pure ?_)
 rw [<- there]
 cases c:(m name).isSome with
 | false =>
  have:=hQ s.heap m hn (λ_ _=>rfl) (.refl ..)
  rw [c] at this
  exact wpAny_pure this
 | true =>
  refine wpAny_bind (wpAny_updatePart ho (wpAny_pure ?_))
  obtain⟨cl,dd,dt,sl⟩:=o
  subst hd
  have fin:∃ m',(s.heap.update a (Obj.dropName name)).Ns a m'/\∀ y,y≠name->m' y=m y:=by
   cases q:es.findIdx? (·.key.isStr name) with
   | none=>exact⟨m,⟨_,es,ep,Heap.get?_update_self _ ho (by simp only [Obj.dropName_eq,Obj.dropNameByArray,q]<;>rfl),(by simp only [Obj.dropName_eq,Obj.dropNameByArray,q]<;>rfl),hk,hm⟩,λ_ _=>rfl⟩
   | some i =>
    refine⟨nsFind (es.eraseIdxIfInBounds i),⟨_,es.eraseIdxIfInBounds i,ep+1,Heap.get?_update_self _ ho (by simp only [Obj.dropName_eq,Obj.dropNameByArray,q]<;>rfl),(by simp only [Obj.dropName_eq,Obj.dropNameByArray,q]<;>rfl),hk.erase i,λ_=>rfl⟩,λy hy=>?_⟩
    rw [qQ (name:=name) (λe z=>?_) hy,hm y]
    obtain⟨hi,hp⟩:=Array.findIdx?_eq_some_iff_getElem.mp q
    rw [Array.getElem?_eq_getElem hi] at z
    cases z
    exact hp.1
  obtain⟨m',n',k'⟩:=fin
  have:=hQ _ m' n' k' (Heap.SameBut.update ..)
  rw [c] at this
  exact this
end
section
variable {X:Cx} {pins:List (Addr × Obj)} {σ:St} {H:Hp} {s:Shared} {M:Model} {A:Around} {E:Value->Shared->Prop}
theorem Inv.uk {i:Nat} {n:Str} {h':Heap} {m m':Str->Option Value} {tk:Nat} (I:Inv X pins σ H s) (hN:X.N.Nodup) (hi:X.N[i]?=some n) (hm:s.heap.Ns X.env.locals m) (hl:∀(j:Nat) (x:Str) (v:V),X.N[j]?=some x->σ[j]?=some (some v)->vn X.env.scope x->∃ u,RelV v u/\Look X.env s.heap m x u)
  (hn:h'.Ns X.env.locals m') (hk:∀ y,y≠n->m' y=m y) (hs:Heap.SameBut X.env.locals s.heap h'):Inv X pins (σ.set i none) H { s with heap:=h',toks:=tk }:=by
 have qc:=I.qc
 obtain⟨oL,_,_,hoL,_⟩:=id hm
 have lt:∀ b o,X.s₀.heap.get? b=some o->b≠X.env.locals:=λb o e=>Nat.ne_of_lt (Nat.lt_of_lt_of_le (Heap.lt_size e) I.ok.above)
 refine⟨I.ok,I.os,I.bare,⟨λb o e n hb hx=>?_,λb o e n hb hx=>?_,I.base.free,λb o e hx=>?_,I.base.tups,I.base.frzs,I.base.tbls⟩,⟨_,hn,λj y v' e1 e2 e3=>?_⟩,λy c e=>?_,I.free,I.freeC,λp hp=>?_,?_,by simpa using I.len⟩
 ·exact (hs.2 b (lt b o e)).trans (I.base.keep b o e n hb hx)
 ·obtain⟨sl,e1⟩:=I.base.slot b o e n hb hx
  exact⟨sl,(hs.2 b (lt b o e)).trans e1⟩
 ·obtain⟨o',e1⟩:=I.base.there b o e hx
  exact⟨o',(hs.2 b (lt b o e)).trans e1⟩
 ·by_cases hj:j=i
  ·subst hj
   have hlt:j<σ.length:=by rw [I.len];exact (List.getElem?_eq_some_iff.mp hi).1
   rw [List.getElem?_set_self hlt] at e2
   cases e2
  ·rw [List.getElem?_set_ne (Ne.symm hj)] at e2
   obtain⟨u',r',q⟩:=hl j y v' e1 e2 e3
   refine⟨u',r',?_⟩
   rcases q with⟨k,e⟩|⟨k,c,e,z⟩
   ·have:y≠n:=λe=>hj (ip hN e1 (e▸hi))
    exact .inl ⟨k,by rw [hk y this];exact e⟩
   ·exact .inr ⟨k,c,e,z.sameBut hs (qc y c e)⟩
 ·obtain⟨w',z⟩:=I.cell y c e
  exact⟨w',z.sameBut hs (qc y c e)⟩
 ·obtain⟨e,n,ne,nf,d⟩:=I.pin p hp
  exact⟨(hs.2 p.1 ne).trans e,n,ne,nf,d⟩
 ·intro b ob e
  refine (I.hok b ob e).fW (λc w' hc q=>(hs.2 c ?_).trans q) (λ_ q=>q) λ_ _ q=>q
  rintro rfl
  have hf:=I.free
  rcases hc with rfl | hc
  ·rw [hf] at e;cases e
  ·rw [hf] at hc;cases hc
theorem name_goes {i:Nat} {n:Str} {pos:Pos} {Q:Unit->Shared->Prop} (I:Inv X pins σ H s) (hN:X.N.Nodup) (hi:X.N[i]?=some n) (hl:X.env.scope.names.lookup n=some .local)
  (h:∀ s',Inv X pins (σ.set i none) H s'->Q () s'):wpAny M A (do bindName X.env n .none;unbindBehindTheSuite X.env n pos) Q E s:=by
 have hp:(X.env.scope.kind==.class || (X.env.scope.kind==.module && X.env.locals != X.env.globals))=false:=by rw [I.ok.kind];rfl
 have hk:X.env.kindOf n=some .local:=hl
 refine wpAny_bind (wpAny_bindName (br (v:=.non) (u:=.none) I hN hi (.inl hl) rfl (λs1 I1=>?_) (.inr hl)))
 have hlt:i<σ.length:=by rw [I.len];exact (List.getElem?_eq_some_iff.mp hi).1
 obtain⟨m,hm,hlook⟩:=id I1.loc
 have some_n:(m n).isSome=true:=by
  obtain⟨u,_,q⟩:=hlook i n .non hi (List.getElem?_set_self hlt) (.inl hl)
  rcases q with⟨_,e⟩|⟨k,_⟩
  ·rw [e];rfl
  ·rw [hk] at k
   rcases k with k | k<;>cases k
 unfold unbindBehindTheSuite
 refine wpAny_onRaise ?_
 unfold unbindName
 refine wpAny_bind (wpAny_point (wpAny_bind ?_))
 unfold deleteName
 simp only [hk,hp]
 rw [if_neg (by decide)]
 refine wpAny_bind (mB hm λh' m' n' k' s'=>?_)
 rw [some_n]
 simp only [Bool.not_true,Bool.false_eq_true,if_false]
 refine wpAny_pure (wpAny_point (h _ ?_))
 have J:=Inv.uk (tk:=s1.toks) I1 hN hi hm hlook n' k' s'
 rw [List.set_set] at J
 exact J
end
def pP (X:Cx) (x:Addr):Cx:={ X with A:=X.A.mark (some (.ref x)),calm:=false,xe:=λ_ _=>False }
section
variable {X:Cx} {pins:List (Addr × Obj)} {σ:St} {H:Hp} {s:Shared} {x:Addr}
theorem Inv.yp (I:Inv X pins σ H s) (x:Addr):Inv (pP X x) pins σ H s :=
 ⟨⟨I.ok.mod,I.ok.kind,I.ok.glob,I.ok.blt,I.ok.above,I.ok.inj,I.ok.has,I.ok.cab,λz=>absurd (show false=true from z) (by decide),I.ok.frames,I.ok.stk,I.ok.exf,I.ok.bs,I.ok.bsz,I.ok.noex,I.ok.exfs,I.ok.gg,I.ok.frf⟩,I.os,I.bare,I.base,I.loc,I.cell,I.free,I.freeC,I.pin,I.hok,I.len⟩
theorem Inv.lu (ok:X.Ok) (I:Inv (pP X x) pins σ H s):Inv X pins σ H s:=⟨ok,I.os,I.bare,I.base,I.loc,I.cell,I.free,I.freeC,I.pin,I.hok,I.len⟩
theorem landed {E:XK} {ev:Value} {s' s1:Shared} {H1:Hp} {Q:Unit->Shared->Prop} {E':Value->Shared->Prop} (hst:X.stack=X.env::X.outer) (hfr:X.env.frame=some X.env.locals) (I:Inv X pins σ H1 s1) (hq:ft X.prog X.w X.stack H1 s1 E ev s')
  (h:∀ x C T dd H' h',ev=.ref x->Inv X pins σ H' { s' with heap:=h' }->Tr h' x (.ref C) dd T .none->H' T=none->H' x=some (XO x C dd)->E (.ref C) (some x) H'->(X.env.locals<T/\(∀ y c,X.env.cells.lookup y=some c->c≠T)/\∀ p∈X.pn++pins,p.1≠T)->Q () { s' with heap:=h' }) :
  wpAny (model X.prog X.w) X.A (noteFrame ev X.env) (λ_ s2=>wpAny (model X.prog X.w) X.A (setFlight ev none) Q E' s2) E' s':=by
 obtain⟨x,C,T,dd,H',rfl,os,bare,un,hok,tr,nx,nT,hT,hx,hE⟩:=hq
 have hl:=jR I.stack un I.cQ (λb _=>by simp)
 have frN:∀ b∈dB X.stack,H' b=none:=λb hb=>by
  obtain⟨_,o,ho,_⟩:=I.stack.mem hb
  exact un.free b o ho (I.cQ b hb) (by simp)
 have fr:=I.ok.frames
 have old:∀ b o,s1.heap.get? b=some o->b∉[x,T]:=λb o q hb=>by
  rcases List.mem_cons.mp hb with z | z
  ·rw [z,nx] at q;cases q
  ·rw [List.mem_singleton.mp z,nT] at q;cases q
 rw [hst] at hl fr
 refine jo (L:=X.env.locals) fr hl hfr tr λh1 T' t1 n1 k1=>?_
 refine land (fs:=dB (X.env::X.outer)) t1 λh2 t2 k2=>?_
 rw [<- hst] at k1 k2
 have k3:Kp (dB X.stack) [x,T] s'.heap h2:=⟨λb o hb hf q=>k2.keep b o (λz=>by simp at z;rw [z] at q;exact absurd (Heap.lt_size q) (Nat.not_lt.mpr n1)) hf (k1.keep b o hb hf q),λb o hb q=>by
  obtain⟨s1',q1⟩:=k1.slot b o hb q
  obtain⟨s2',q2⟩:=k2.slot b _ (λz=>by simp at z;rw [z] at q;exact absurd (Heap.lt_size q) (Nat.not_lt.mpr n1)) q1
  exact⟨s2',q2⟩⟩
 obtain⟨vs,sl,oT,ts,he,r'⟩:=t2
 have below:∀ b o,s1.heap.get? b=some o->b<T':=λb o q=>by
  obtain⟨o1,q1⟩:=un.there b o q (by simp)
  exact Nat.lt_of_lt_of_le (Heap.lt_size q1) n1
 have fT:X.env.locals<T'/\(∀ y c,X.env.cells.lookup y=some c->c≠T')/\∀ p∈X.pn++pins,p.1≠T':=by
  refine⟨?_,λy c e=>?_,λp hp=>?_⟩
  ·obtain⟨m,⟨o,_,_,ho,_⟩,_⟩:=I.loc
   exact below _ o ho
  ·obtain⟨v,o,ho,_⟩:=I.cell y c e
   exact Nat.ne_of_lt (below _ o ho)
  ·exact Nat.ne_of_lt (below _ _ (I.pin p hp).1)
 refine h x C T' dd H' h2 rfl ?_ ⟨vs,sl,oT,ts,he,r'⟩ (hok.fresh n1) hx hE fT
 refine I.pZ (s':={ s' with heap:=h2 }) (ch:=[]) os ⟨λb o q nn hb _=>?_,λb o q nn hb _=>?_,λb o q nn _=>un.free b o q nn (by simp),λb o q _=>?_,un.tups,un.frzs,un.tbls⟩ ?_ bare (λb hb=>absurd hb (by simp))
 ·exact k3.keep b o (old b o q) hb (un.keep b o q nn hb (by simp))
 ·obtain⟨s1',q1⟩:=un.any q nn (by simp)
  obtain⟨s2',q2⟩:=k3.slot b _ (old b o q) q1
  exact⟨s2',q2⟩
 ·obtain⟨o1,q1⟩:=un.there b o q (by simp)
  obtain⟨s2',q2⟩:=k3.slot b _ (old b o q) q1
  exact⟨_,q2⟩
 ·exact jQ hok k3 (λb hb=>by
   rcases List.mem_cons.mp hb with z | z
   ·exact .inl z
   ·exact .inr (by rw [List.mem_singleton.mp z];exact hT)) frN hx he
def kX (n:Option Nat) (x:Addr) (σ:St):St:=match n with | some i=>σ.set i (some (.ref x)) | none=>σ
def gv (n:Option Nat) (D:Ends):Ends:=match n with
 | some i=>{ nx:=λσ H=>D.nx (σ.set i none) H,rt:=D.rt,bk:=λσ H=>D.bk (σ.set i none) H,ct:=λσ H=>D.ct (σ.set i none) H }
 | none=>D
end
def yG (K:PySem.W.Frag) (B:Addr) (n:Option Nat) (sp:Sp) (ta:TA) (put:V->St->St) (ts:TS):TS:=λD σ H=>ta σ H λvs H1=>sp vs H1 (λv H2=>D.nx (put v σ) H2)
 (λcv xo H2=>∃ C x dd,cv=.ref C/\xo=some x/\H2 x=some (XO x C dd)/\aS K C/\mroIn K C (.ref B)=some true/\ts (gv n D) (kX n x σ) H2)
section
variable {X:Cx} {B:Addr} {n:Option Nat} {hd:ExceptHandler} {ts:TS}
variable {k:Nat} {f:Str} {ps:List Str} {sp:Sp} {e:Expr} {es:List Expr} {t:TA} {p cpos epos pos:Pos}
end
section
variable {P:Program} {w:World} {K:PySem.W.Frag} {mg:Str->Option Value} {base:Heap} {k:Nat} {x:Str} {ps:List Str} {sp:Sp}
theorem l6 {st:Stmt} {N:List Str} (D:aA K mg x st)
  (hb:∀(kV doc pm:Value) (an:Option Addr) (cdv ct:Value) (us:List Value),us.length=ps.length->bindArgs (PySem.W.fnOf x x (a9 st) (aJ st) (ai st) .none kV doc pm an cdv ct) ⟨us,[]⟩=pure (ps.zip us))
  (S:az N ps (ai st)) (len:∀ vs H Q E,sp vs H Q E->vs.length=ps.length)
  (hbody:∀(f:Addr) (cdv:Value) (A:Around) (outer:List Env) (s:Shared) (H:Hp) (vs:List V) (Q:VK) (E:XK),bF k (A.deeper (envOfC x (ai st) s.heap.objs.size f cdv))->sp vs H Q E ->
   ∃ t,fZ (dh (ft P w) P w K mg base N x (ai st) f cdv A outer s H E) (aJ st) t/\t { nx:=λ_ H'=>Q .non H',rt:=Q } (start N vs) H):Callee P w K mg base (ft P w) (k+1) x ps sp:=by
 obtain⟨f,fd,F,hm⟩:=D
 obtain⟨oc,od,kV,doc,pm,an,cdv,ct,osl,rfl,lk,hcd⟩:=F.ex
 exact⟨f,_,uz lk hcd S len λA outer s H vs Q E hr h=>hbody f cdv A outer s H vs Q E hr h,hm,F.kp,F.binds hb⟩
theorem Callee.any {CX:gQ} (C:Callee P w K mg base a8 k x ps sp):Callee P w K mg base CX k x ps sp:=by
 obtain⟨f,fd,F,a,b,c⟩:=C.ex
 exact⟨f,fd,F.any,a,b,c⟩
end
theorem tu {P:Program} {w:World} {K:PySem.W.Frag} {mg:Str->Option Value} {base:Heap} {qual f p:Str} {st:Stmt} {fi:Addr} {fd:FuncData} {p1 p2 p3 p4:Pos} (F:pR K "__init__" qual st fi fd) (S:az ["self",p] ["self",p] (ai st))
  (hb:aJ st=[.Assign [.Attribute (.Name "self" p1) f p2] (.Name p p3) p4]) (h1:(ai st).names.lookup ("self":Str)=some .local) (h2:(ai st).names.lookup p=some .local) (hd:(p==("__debug__":Str))=false) (hcd:(p==("__classdict__":Str))=false)
  (ab:∀ env:Env,attributeBase (.Name "self" p1) f env (eval (.Name "self" p1) env)=eval (.Name "self" p1) env) (sw:∀ env:Env,swapsWith (.Name p p3) (some (.Attribute (.Name "self" p1) f p2)) p4.line env=pure false):bR P w K mg base a8 1 fi fd ["self",p] (kn K f):=by
 refine F.ok S (λvs H Q E h=>?_) (λcdv A outer s H vs Q E hr h=>?_)
 ·obtain⟨x,C,v,rfl,_⟩:=h
  rfl
 ·obtain⟨x,C,v,rfl,hx,c,hf,q⟩:=h
  rw [hb]
  refine⟨_,aj (nL (fk (i:=0) rfl (.inl h1) (by decide) (by decide)) (fk (i:=1) rfl (.inl h2) hd hcd) (sw _)),?_⟩
  exact⟨v,rfl,.ref x,rfl,x,C,rfl,hx,c,hf,λdx n ne=>q dx n ne⟩
structure fh (P:Program) (w:World) (K:PySem.W.Frag) (mg:Str->Option Value) (base:Heap) (x:Str) (C:Addr) (f:Str):Prop where
 mkd:lX K C
 cls:aS K C
 at_:mg x=some (.ref C)
 nof:findIn K (.ref C) f=some none
 ex:∃ fi fd p,findIn K (.ref C) "__init__"=some (some (.ref fi))/\isFn K (.ref fi)=true/\bR P w K mg base a8 1 fi fd ["self",p] (kn K f)/\Binds K fd ["self",p] []
structure gd (K:PySem.W.Frag) (mg:Str->Option Value) (x:Str) (C:Addr):Prop where
 mkd:lX K C
 cls:aS K C
 at_:mg x=some (.ref C)
 ini:findIn K (.ref C) "__init__"=some (some (.builtin "ValueError.__init__"))
section
variable {X:Cx} {C:Addr} {f x:Str} {pos np:Pos} {e:Expr} {t:TA}
theorem fm (c:fh X.prog X.w X.K X.mg X.base x C f) (hr:bF 2 X.A) (hg:Gl X x) (ha:PA X [e] t) (hdb:(x==("__debug__":Str))=false:=by decide)
  (he:starEach [e] X.env=(false,eval e X.env)::starEach [] X.env:=by rfl) (hpl:(backTo pos (starEach [] X.env)).any (·.1)=false:=by rfl):PE X (.Call (.Name x np) [e] [] pos) (wu C f t):=by
 obtain⟨fi,fd,p,hi,fn,F,hb⟩:=c.ex
 exact pk c.mkd c.cls hi fn c.nof F hr hg c.at_ hb ha hdb he hpl
theorem iC (c:gd X.K X.mg x C) (hg:Gl X x) (hdb:(x==("__debug__":Str))=false:=by decide):PE X (.Call (.Name x np) [] [] pos) (wt C):=ph c.mkd c.ini hg c.at_ hdb
theorem a7 {X:Cx} (K:PySem.W.Frag) (hK:X.K=K):b9 X (.builtin "isinstance") (rJ K):=by subst hK;exact oi
theorem cf {X:Cx} {e:Expr} {f:Str} {pos:Pos} {ta:TE} (K:PySem.W.Frag) (hK:X.K=K) (he:PE X e ta) (hb:attributeBase e f X.env (eval e X.env)=eval e X.env:=by rfl):PE X (.Attribute e f pos) (yH K ta f):=by subst hK;exact tX he hb
theorem gB:bootBuiltins "ValueError"=some (.type "ValueError"):=by decide +kernel
end
inductive vf (K:PySem.W.Frag) (H:Hp):Nat->V->V->Bool->Prop
 | flat {d:Nat} {y x:V}:dG y=true->dG x=true->vf K H d y x (qw y x)
 | same {d:Nat} {p:Addr}:vf K H d (.ref p) (.ref p) true
 | lists {d:Nat} {p q:Addr} {xs ys:List V} {e:Nat->Bool}:p≠q->aW K H p xs->aW K H q ys->xs.length=ys.length->(∀ j y x,xs[j]?=some y->ys[j]?=some x->vf K H d y x (e j))->vf K H (d+1) (.ref p) (.ref q) ((List.range xs.length).all e)
 | unlike {d:Nat} {p q:Addr} {xs ys:List V}:p≠q->aW K H p xs->aW K H q ys->xs.length≠ys.length->vf K H (d+1) (.ref p) (.ref q) false
 | tups {d:Nat} {p q:Addr} {xs ys:List V} {e:Nat->Bool}:p≠q->cF K H p xs->cF K H q ys->(∀ j y x,xs[j]?=some y->ys[j]?=some x->vf K H d y x (e j))->vf K H (d+1) (.ref p) (.ref q) ((List.range (min xs.length ys.length)).all e && xs.length==ys.length)
section
variable {X:Cx} {pins:List (Addr × Obj)} {σ:St} {H:Hp} {s:Shared}
theorem Vals.at {xs:List V} {us:List Value} (r:Vals xs us):∀{j:Nat} {u:Value},us[j]?=some u->∃ x,xs[j]?=some x/\RelV x u:=by
 induction r with
 | nil=>intro j u h;simp at h
 | cons r t ih =>
  intro j u h
  cases j with
  | zero=>simp only [List.getElem?_cons_zero,Option.some.injEq] at h;subst h;exact⟨_,rfl,r⟩
  | succ j=>simp only [List.getElem?_cons_succ] at h ⊢;exact ih h
theorem Vals.len {xs:List V} {us:List Value} (r:Vals xs us):us.length=xs.length:=by
 induction r with
 | nil=>rfl
 | cons r t ih=>simp only [List.length_cons,ih]
end
theorem au {A B:Prop} (a:A) (f:A->B):B:=f a
section
variable {K:PySem.W.Frag} {mg:Str->Option Value} {h:Heap} {x f p qual:Str} {C D fi N:Addr}
theorem bJ:kitOne K (.ref C) (.ref C)=some true:=by
 unfold kitOne
 rw [if_pos (by simp)]
theorem tG {b:Bool} (ne:(Value.ref C==Value.ref D)=false) (d:aS K D) (sb:mroIn K C (.ref D)=some b):kitOne K (.ref C) (.ref D)=some b:=by
 obtain⟨cd,hc,_,_⟩:=d.cls
 obtain⟨od,cd',sl,hl⟩:=d.at_
 unfold kitOne
 rw [if_neg (by rw [ne];decide)]
 show (if ((clsIn K D).isSome && typeIn K (.ref D)==some (.type "type"))=true then mroIn K C (.ref D) else none)=some b
 have ht:typeIn K (.ref D)=some (.type "type"):=by
  show (K.lookup D).map (λo=>o.cls)=_
  rw [hl]
  rfl
 rw [hc,ht,sb]
 rfl
theorem qK {T:String} {b:Bool} (m:kitMeta T=true) (sb:mroIn K C (.type T)=some b):kitOne K (.ref C) (.type T)=some b:=by
 unfold kitOne
 rw [if_neg (by intro z;cases (beq_iff_eq.mp z))]
 show (if kitMeta T=true then mroIn K C (.type T) else none)=some b
 rw [if_pos m,sb]
section
variable {nm q:Str} {bs bm:List Value} {hdct ab:Bool} {sn:Option Str} {od:Option Addr} {cd:ClassData} {sl:Array (Option Value)}
theorem wy {o:Obj} (l:K.lookup C=some o) (ob:∃ nm q N bs bm hdct sn sub ab col dd k0 k1 k2 k3 k5,o=excClassObj nm q C N bs bm hdct sn sub ab col dd k0 k1 k2 k3 k5 iX/\bm.contains (.type "ValueError")=true/\bm.contains (.type "AttributeError")=false/\bm.contains (.type "NameError")=false) (kp:keepIn K (.ref C)=true):lX K C:=by
 obtain⟨nm,q,N,bs,bm,hdct,sn,sub,ab,col,dd,k0,k1,k2,k3,k5,e,r⟩:=ob
 subst e
 exact⟨⟨nm,q,N,bs,bm,hdct,sn,sub,ab,col,dd,k0,k1,k2,k3,k5,l,r⟩,kp⟩
theorem uo (l:K.lookup C=some ⟨.type "type",od,.cls cd,sl⟩) (h2:bb cd.mro=true) (h3:cd.hasDict=true)
  (sa:findIn K (.ref C) "__setattr__"=some (some (.builtin "object.__setattr__"))) (ga:findIn K (.ref C) "__getattribute__"=some (some (.builtin "BaseException.__getattribute__"))) (gx:findIn K (.ref C) "__getattr__"=some none)
  (ca:findIn K (.ref C) "__class__"=some (some (.builtin "object.__class__"))) (gs:specialIn K (.builtin "object.__class__") "__get__"=some (some (.builtin "getset_descriptor.__get__"))) (tk:takesIn K (.builtin "object.__class__")=some true):L2.aS K C :=
 ⟨⟨cd,by unfold clsIn;rw [l],h2,h3⟩,⟨_,_,_,l⟩,sa,ga,gx,ca,gs,tk⟩
theorem fX (a:mg x=some (.ref C)) (M:lX K C) (c:aS K C) (ini:findIn K (.ref C) "__init__"=some (some (.builtin "ValueError.__init__"))):gd K mg x C:=⟨M,c,a,ini⟩
structure gb (qual f p:Str) (st:Stmt):Prop where
 S:az ["self",p] ["self",p] (ai st)
 hb:∃ p1 p2 p3 p4,aJ st=[.Assign [.Attribute (.Name "self" p1) f p2] (.Name p p3) p4]/\(∀ env:Env,attributeBase (.Name "self" p1) f env (eval (.Name "self" p1) env)=eval (.Name "self" p1) env)/\(∀ env:Env,swapsWith (.Name p p3) (some (.Attribute (.Name "self" p1) f p2)) p4.line env=pure false)
 h1:(ai st).names.lookup ("self":Str)=some .local
 h2:(ai st).names.lookup p=some .local
 hd:(p==("__debug__":Str))=false
 hcd:(p==("__classdict__":Str))=false
 bd:∀(kV doc pm:Value) (an:Option Addr) (cdv ct:Value) (us:List Value),us.length=2->bindArgs (PySem.W.fnOf "__init__" qual (a9 st) (aJ st) (ai st) .none kV doc pm an cdv ct) ⟨us,[]⟩=pure ((["self",p]:List Str).zip us)
theorem fY {st:Stmt} {oc:Value} {od an:Option Addr} {osl:Array (Option Value)} {kV doc pm cdv ct:Value} (I:gb qual f p st) (a:mg x=some (.ref C)) (M:lX K C) (c:aS K C) (nof:findIn K (.ref C) f=some none)
  (ini:findIn K (.ref C) "__init__"=some (some (.ref fi))) (fn:isFn K (.ref fi)=true) (l:K.lookup fi=some ⟨oc,od,.func (PySem.W.fnOf "__init__" qual (a9 st) (aJ st) (ai st) .none kV doc pm an cdv ct),osl⟩) (cc:codeIn K cdv qual=true) (kk:keepIn K (.ref fi)=true) :
  ∀(P:Program) (w:World) (base:Heap),fh P w K mg base x C f:=λP w base=>by
 obtain⟨p1,p2,p3,p4,hb,ab,sw⟩:=I.hb
 have F:=me l cc kk
 exact⟨M,c,a,nof,fi,_,p,ini,fn,tu F I.S hb I.h1 I.h2 I.hd I.hcd ab sw,F.binds I.bd⟩
end
theorem bU {od:Option Addr} {cd:ClassData} {sl:Array (Option Value)} (_:K.In h) (_:mg x=some (.ref C)) (l:K.lookup C=some ⟨.type "type",od,.cls cd,sl⟩) (h2:bb cd.mro=true) (h3:cd.hasDict=true)
  (sa:findIn K (.ref C) "__setattr__"=some (some (.builtin "object.__setattr__"))) (ga:findIn K (.ref C) "__getattribute__"=some (some (.builtin "BaseException.__getattribute__"))) (gx:findIn K (.ref C) "__getattr__"=some none)
  (ca:findIn K (.ref C) "__class__"=some (some (.builtin "object.__class__"))) (gs:specialIn K (.builtin "object.__class__") "__get__"=some (some (.builtin "getset_descriptor.__get__"))) (tk:takesIn K (.builtin "object.__class__")=some true)
  (ob:∃ nm q N bs bm hdct sn sub ab col dd k0 k1 k2 k3 k5,(⟨.type "type",od,.cls cd,sl⟩:Obj)=excClassObj nm q C N bs bm hdct sn sub ab col dd k0 k1 k2 k3 k5 iX/\bm.contains (.type "ValueError")=true/\bm.contains (.type "AttributeError")=false/\bm.contains (.type "NameError")=false) (kp:keepIn K (.ref C)=true):aS K C/\lX K C :=
 ⟨uo l h2 h3 sa ga gx ca gs tk,wy l ob kp⟩
theorem my {b:Bool} (_:aS K C/\lX K C) (_:aS K D/\lX K D) (m:mroIn K C (.ref D)=some b):mroIn K C (.ref D)=some b:=m
theorem aq {b:Bool} (_:aS K C/\lX K C) (d:aS K D/\lX K D) (ne:(Value.ref C==Value.ref D)=false) (m:mroIn K C (.ref D)=some b):kitOne K (.ref C) (.ref D)=some b:=tG ne d.1 m
theorem b5 {b:Bool} (_:aS K C/\lX K C) (m:mroIn K C (.type "ValueError")=some b):kitOne K (.ref C) (.type "ValueError")=some b:=qK (by decide +kernel) m
end
end L2
namespace Pw
theorem fJ (x n:Int):∀ k:Nat,(x%n)^k%n=x^k%n
 | 0=>by rw [Int.pow_zero,Int.pow_zero]
 | k+1=>by rw [Int.pow_succ,Int.pow_succ,Int.mul_emod,fJ x n k,Int.emod_emod,<- Int.mul_emod]
theorem rQ (b:Int):∀ k:Nat,(b*b)^k=b^(2*k)
 | 0=>by rw [Nat.mul_zero,Int.pow_zero,Int.pow_zero]
 | k+1=>by
  rw [Int.pow_succ,rQ b k,Nat.mul_add,Nat.mul_one,Int.pow_succ,Int.pow_succ,Int.mul_assoc]
theorem uP (x y n:Int):x%n*y%n=x*y%n:=by rw [Int.mul_emod,Int.emod_emod,<- Int.mul_emod]
theorem uO {x x' y y' n:Int} (h:x%n=x'%n) (h':y%n=y'%n):x*y%n=x'*y'%n:=by rw [Int.mul_emod,h,h',<- Int.mul_emod]
theorem step (r b n:Int) (l:Nat):(if l%2=1 then r*b%n else r)*(b*b%n)^(l/2)%n=r*b^l%n:=by
 have e:(b*b%n)^(l/2)%n=b^(2*(l/2))%n:=by rw [fJ,rQ]
 by_cases c:l%2=1
 ·rw [if_pos c]
  have h:l=2*(l/2)+1:=by omega
  have e2:b^l=b^(2*(l/2))*b:=by rw [<- Int.pow_succ];exact congrArg _ h
  rw [uO (Int.emod_emod_of_dvd (r*b) (Int.dvd_refl n)) e,e2]
  congr 1
  rw [Int.mul_assoc,Int.mul_comm b]
 ·rw [if_neg c]
  have h:l=2*(l/2):=by omega
  rw [uO (rfl:r%n=r%n) e,<- h]
theorem pow_add (a:Int) (m:Nat):∀ k:Nat,a^(m+k)=a^m*a^k
 | 0=>by rw [Nat.add_zero,Int.pow_zero,Int.mul_one]
 | k+1=>by rw [<- Nat.add_assoc,Int.pow_succ,pow_add a m k,Int.pow_succ,Int.mul_assoc]
theorem mul_pow (a b:Int):∀ k:Nat,(a*b)^k=a^k*b^k
 | 0=>by rw [Int.pow_zero,Int.pow_zero,Int.pow_zero,Int.mul_one]
 | k+1=>by
  rw [Int.pow_succ,Int.pow_succ,Int.pow_succ,mul_pow a b k]
  grind
theorem pow_mul (a:Int) (m:Nat):∀ k:Nat,a^(m*k)=(a^m)^k
 | 0=>by rw [Nat.mul_zero,Int.pow_zero,Int.pow_zero]
 | k+1=>by rw [Nat.mul_add,Nat.mul_one,pow_add,pow_mul a m k,Int.pow_succ]
theorem one_pow:∀ k:Nat,(1:Int)^k=1
 | 0=>Int.pow_zero 1
 | k+1=>by rw [Int.pow_succ,one_pow k,Int.mul_one]
theorem vp {n x y:Int}:x%n=y%n↔n∣x-y:=by
 rw [Int.emod_eq_emod_iff_emod_sub_eq_zero,Int.dvd_iff_emod_eq_zero]
end Pw
namespace L2
open PySem PySem.Spec PyProof.Rows
end L2
namespace L2
open PySem PySem.Spec PyProof.Rows PySem.W
def yF (K:PySem.W.Frag) (te:TE) (tk:TO):TE:=λσ H Q=>te σ H λx H1=>tk σ H1 λo H2=>o=some (-1)/\∃ a xs,x=.ref a/\aW K H2 a xs/\∀ p,H2 p=none->Q (.ref p) (upd H2 p (.lst xs.reverse))
section
variable {X:Cx} {e k:Expr} {te:TE} {tk:TO} {p2 pos:Pos}
end
mutual
def dv (K:PySem.W.Frag) (H:Hp):PyData->V->Prop
 | .none,v=>v=.non
 | .bool b,v=>v=.bl b
 | .int i,v=>v=.int i
 | .str x,v=>v=.str x
 | .list ds,v=>∃ p xs,v=.ref p/\aW K H p xs/\aX K H ds xs
 | .tuple ds,v=>∃ p xs,v=.ref p/\cF K H p xs/\aX K H ds xs
 | .dict _,_=>False
def aX (K:PySem.W.Frag) (H:Hp):List PyData->List V->Prop
 | [],xs=>xs=[]
 | d::ds,xs=>∃ x r,xs=x::r/\dv K H d x/\aX K H ds r
end
section
variable {K:PySem.W.Frag} {H H':Hp}
theorem Rd.same {a:Addr} {o:HO} (h:Rd H a o) (s:ay H H'):Rd H' a o:=by
 rcases h with h | ⟨b,h⟩
 ·exact .inl (s _ _ h)
 ·exact .inr ⟨b,s _ _ h⟩
theorem aW.same {a:Addr} {xs:List V} (h:aW K H a xs) (s:ay H H'):aW K H' a xs:=h.imp (λz=>z.same s) id
theorem cF.same {a:Addr} {xs:List V} (h:cF K H a xs) (s:ay H H'):cF K H' a xs:=h.imp (λz=>z.same s) id
mutual
theorem dv.same (s:ay H H'):∀(d:PyData) {v:V},dv K H d v->dv K H' d v
 | .none,_,h=>h
 | .bool _,_,h=>h
 | .int _,_,h=>h
 | .str _,_,h=>h
 | .list ds,_,⟨p,xs,e,h,t⟩=>⟨p,xs,e,h.same s,aX.same s ds t⟩
 | .tuple ds,_,⟨p,xs,e,h,t⟩=>⟨p,xs,e,h.same s,aX.same s ds t⟩
 | .dict _,_,h=>h.elim
theorem aX.same (s:ay H H'):∀(ds:List PyData) {xs:List V},aX K H ds xs->aX K H' ds xs
 | [],_,h=>h
 | d::ds,_,⟨x,r,e,h,t⟩=>⟨x,r,e,dv.same s d h,aX.same s ds t⟩
end
theorem aX.length:∀{ds:List PyData} {xs:List V},aX K H ds xs->xs.length=ds.length
 | [],_,h=>by cases h;rfl
 | d::ds,_,⟨x,r,e,h,t⟩=>by subst e;rw [List.length_cons,List.length_cons,aX.length t]
theorem aX.get:∀{ds:List PyData} {xs:List V},aX K H ds xs->∀{i:Nat} {x:V},xs[i]?=some x->∃ d,ds[i]?=some d/\dv K H d x
 | [],_,h,i,x,e=>by cases h;simp at e
 | d::ds,_,⟨y,r,ey,h,t⟩,0,x,e=>by subst ey;simp at e;subst e;exact⟨d,rfl,h⟩
 | d::ds,_,⟨y,r,ey,h,t⟩,i+1,x,e=>by subst ey;simp at e;simpa using aX.get t e
theorem aX.append:∀{ds es:List PyData} {xs ys:List V},aX K H ds xs->aX K H es ys->aX K H (ds++es) (xs++ys)
 | [],_,_,_,h,h'=>by cases h;exact h'
 | d::ds,_,_,_,⟨x,r,e,h,t⟩,h'=>by subst e;exact⟨x,_,rfl,h,t.append h'⟩
theorem aX.one {d:PyData} {x:V} (h:dv K H d x):aX K H [d] [x]:=⟨x,[],rfl,h,rfl⟩
theorem dv.lst {p:Addr} {xs:List V} {ds:List PyData} (h:H p=some (.lst xs)) (t:aX K H ds xs):dv K H (.list ds) (.ref p):=⟨p,xs,rfl,aW.of h,t⟩
theorem dv.tup {p:Addr} {xs:List V} {ds:List PyData} (h:H p=some (.tup xs)) (t:aX K H ds xs):dv K H (.tuple ds) (.ref p):=⟨p,xs,rfl,cF.of h,t⟩
mutual
def wB:PyData->Bool
 | .list _=>false
 | .tuple ds=>iU ds
 | _=>true
def iU:List PyData->Bool
 | []=>true
 | d::ds=>wB d && iU ds
end
def SameBut (p:Addr) (H H':Hp):Prop:=∀ b o,b≠p->H b=some o->H' b=some o
theorem cF.but {p a:Addr} {us xs:List V} (hp:H p=some (.lst us)) (s:SameBut p H H') (h:cF K H a xs):cF K H' a xs:=by
 rcases h with (h | ⟨o,h⟩) | h
 ·exact .inl (.inl (s _ _ (λe=>by rw [e,hp] at h;cases h) h))
 ·exact .inl (.inr ⟨o,s _ _ (λe=>by rw [e,hp] at h;cases h) h⟩)
 ·exact .inr h
mutual
theorem dv.but {p:Addr} {us:List V} (hp:H p=some (.lst us)) (s:SameBut p H H'):∀(d:PyData) {v:V},wB d=true->dv K H d v->dv K H' d v
 | .none,_,_,h=>h
 | .bool _,_,_,h=>h
 | .int _,_,_,h=>h
 | .str _,_,_,h=>h
 | .list ds,_,z,_=>by cases z
 | .tuple ds,_,z,⟨q,xs,e,h,t⟩=>⟨q,xs,e,h.but hp s,aX.but hp s ds z t⟩
 | .dict _,_,_,h=>h.elim
theorem aX.but {p:Addr} {us:List V} (hp:H p=some (.lst us)) (s:SameBut p H H'):∀(ds:List PyData) {xs:List V},iU ds=true->aX K H ds xs->aX K H' ds xs
 | [],_,_,h=>h
 | d::ds,_,z,⟨x,r,e,h,t⟩=>by
  have z':wB d=true/\iU ds=true:=by simpa [iU] using z
  exact⟨x,r,e,dv.but hp s d z'.1 h,aX.but hp s ds z'.2 t⟩
end
theorem lh {α:Type} {f:α->PyData} (h:∀ x,wB (f x)=true):∀ xs:List α,iU (xs.map f)=true
 | []=>rfl
 | x::xs=>by rw [List.map_cons,iU,h,lh h xs];rfl
end
section
variable {X:Cx} {pins:List (Addr × Obj)} {σ:St} {H:Hp} {s:Shared}
mutual
theorem dJ (I:Inv X pins σ H s):∀(d:PyData) {v:V} {u:Value},dv X.K H d v->RelV v u->∃ as,Reads s.heap u d as
 | .none,_,u,h,r=>by cases h;cases r;exact⟨_,.none⟩
 | .bool _,_,u,h,r=>by cases h;cases r;exact⟨_,.bool _⟩
 | .int _,_,u,h,r=>by cases h;obtain⟨t,rfl⟩:=r;exact⟨_,.int _ _⟩
 | .str _,_,u,h,r=>by cases h;obtain⟨t,rfl⟩:=r;exact⟨_,.str _ _⟩
 | .list ds,_,u,⟨p,xs,e,h,t⟩,r=>by
  subst e
  cases r
  obtain⟨its,rr,pl,_⟩:=I.list h
  obtain⟨o,h1,h2,n,h3⟩:=pl.isList
  obtain⟨as,ra⟩:=dI I ds t rr
  exact⟨_,.list h1 h2 h3 (by simpa using ra)⟩
 | .tuple ds,_,u,⟨p,xs,e,h,t⟩,r=>by
  subst e
  cases r
  obtain⟨its,rr,pl,_⟩:=I.tuple h
  obtain⟨o,h1,h2,n,h3⟩:=pl
  obtain⟨as,ra⟩:=dI I ds t rr
  exact⟨_,.tuple h1 h2 h3 (by simpa using ra)⟩
 | .dict _,_,_,h,_=>h.elim
theorem dI (I:Inv X pins σ H s):∀(ds:List PyData) {xs:List V} {us:List Value},aX X.K H ds xs->Vals xs us->∃ as,ReadsAll s.heap us ds as
 | [],_,us,h,r=>by cases h;cases r;exact⟨_,.nil⟩
 | d::ds,_,us,⟨x,r,e,h,t⟩,rr=>by
  subst e
  cases rr with
  | cons r1 r2 =>
   obtain⟨a1,q1⟩:=dJ I d h r1
   obtain⟨a2,q2⟩:=dI I ds t r2
   exact⟨_,.cons q1 q2⟩
end
def t4 (K:PySem.W.Frag) (neg:Bool):R2:=λy x H Q=>∃ d e,dv K H d y/\dv K H e x/\d.canLay0=true/\e.canLay0=true/\min d.depth e.depth<=60/\Q (.bl (if neg then !PyData.eqv d e else PyData.eqv d e)) H
theorem jZ (hu:X.A.units+64<cLine):gu X (compareOp .Eq) (t4 X.K false):=by
 intro pins s σ H y x u v Q I ry rx h
 obtain⟨d,e,hd,he,c1,c2,c3,q⟩:=h
 obtain⟨as,ra⟩:=dJ I d hd ry
 obtain⟨bs,rb⟩:=dJ I e he rx
 exact SeqAt.compareEq_reads ra rb c1 c2 (by omega) ⟨.bl _,H,I,rfl,q⟩
theorem mH (hu:X.A.units+64<cLine):gu X (compareOp .NotEq) (t4 X.K true):=by
 intro pins s σ H y x u v Q I ry rx h
 obtain⟨d,e,hd,he,c1,c2,c3,q⟩:=h
 obtain⟨as,ra⟩:=dJ I d hd ry
 obtain⟨bs,rb⟩:=dJ I e he rx
 exact SeqAt.compareNe_reads ra rb c1 c2 (by omega) ⟨.bl _,H,I,rfl,q⟩
end
end L2
namespace Pw
def lst (xs:List Nat):Nat:=xs.getLast?.getD 0
end Pw
namespace L2
open PySem PySem.Spec PyProof.Rows PySem.W
def yb (C:Addr) (H:Hp) (E:XK):Prop:=∀ x H',ay H H'->H x=none->H' x=some (XO x C none)->E (.ref C) (some x) H'
def yL (C:Addr) (f:Str) (v:V) (H:Hp) (E:XK):Prop:=∀ x dx H',ay H H'->H x=none->H' x=some (XO x C (some dx))->H' dx=some (.xd [(f,v)])->E (.ref C) (some x) H'
theorem oF {K:PySem.W.Frag} {C x:Addr} {H H1:Hp} {E:XK} (c:aS K C) (hs:ay H H1) (hx:H1 x=none) (e:yb C H E) :
  ∃(C':Addr) (dd:Option Addr),upd H1 x (XN x C none) x=some (XN x C' dd)/\aS K C'/\H x=none/\E (.ref C') (some x) (upd (upd H1 x (XN x C none)) x (XO x C' dd)):=by
 refine⟨C,none,ag,c,hs.free hx,e x _ ?_ (hs.free hx) ag⟩
 intro b o q
 have q1:=hs _ _ q
 have bx:b≠x:=λy=>by rw [y,hx] at q1;cases q1
 rw [ak bx,ak bx]
 exact q1
theorem oG {K:PySem.W.Frag} {C x dx:Addr} {f:Str} {v:V} {H H1:Hp} {E:XK} (c:aS K C) (hs:ay H H1) (hx:H1 x=none) (hdx:H1 dx=none) (ne:dx≠x) (e:yL C f v H E) :
  ∃(C':Addr) (dd:Option Addr),upd (upd (upd H1 x (XN x C none)) dx (.xd [(f,v)])) x (XN x C (some dx)) x=some (XN x C' dd)/\aS K C'/\H x=none/\E (.ref C') (some x) (upd (upd (upd (upd H1 x (XN x C none)) dx (.xd [(f,v)])) x (XN x C (some dx))) x (XO x C' dd)):=by
 refine⟨C,some dx,ag,c,hs.free hx,e x dx _ ?_ (hs.free hx) ag ?_⟩
 ·intro b o q
  have q1:=hs _ _ q
  have bx:b≠x:=λy=>by rw [y,hx] at q1;cases q1
  have bd:b≠dx:=λy=>by rw [y,hdx] at q1;cases q1
  rw [ak bx,ak bx,ak bd,ak bx]
  exact q1
 ·rw [ak ne,ak ne,ag]
end L2
namespace Ld
structure eI (n r:Int):Prop where
 two:2<=r
 dv:r∣n
 no:∀ d:Int,2<=d->d<r->¬d∣n
theorem eI.one {n r r':Int} (h:eI n r) (h':eI n r'):r=r':=by
 rcases Int.lt_trichotomy r r' with c | c | c
 ·exact absurd h.dv (h'.no r h.two c)
 ·exact c
 ·exact absurd h'.dv (h.no r' h'.two c)
theorem eI.le {n r:Int} (h:eI n r) (hn:0<n):r<=n:=Int.le_of_dvd hn h.dv
structure Inv (n k:Int):Prop where
 two:2<=k
 odd:k=2∨k%2=1
 no:∀ d:Int,2<=d->d<k->¬d∣n
theorem Inv.step {n k:Int} (h:Inv n k) (hk:¬k∣n):Inv n (k+if k=2 then 1 else 2):=by
 have h2:=h.two
 by_cases c:k=2
 ·rw [if_pos c]
  refine⟨by omega,.inr (by omega),λd d0 d1=>?_⟩
  have:d=k:=by omega
  rw [this];exact hk
 ·rw [if_neg c]
  have ho:k%2=1:=by rcases h.odd with z | z;exact absurd z c;exact z
  refine⟨by omega,.inr (by omega),λd d0 d1 hd=>?_⟩
  rcases (by omega:d<k∨d=k∨d=k+1) with z | z | z
  ·exact h.no d d0 z hd
  ·subst z;exact hk hd
  ·have e2:(2:Int)∣d:=Int.dvd_of_emod_eq_zero (by omega)
   exact h.no 2 (by omega) (by omega) (Int.dvd_trans e2 hd)
theorem Inv.found {n k:Int} (h:Inv n k) (hk:k∣n):eI n k:=⟨h.two,hk,h.no⟩
theorem Inv.done {n k:Int} (h:Inv n k) (hn:2<=n) (hk:n<k*k):eI n n:=by
 refine⟨hn,Int.dvd_refl n,λd d0 d1 hd=>?_⟩
 obtain⟨c,hc⟩:=hd
 have h2:=h.two
 by_cases z:d<k
 ·exact h.no d d0 z ⟨c,hc⟩
 ·have c0:0<c:=by
   rcases (by omega:c<=0∨0<c) with y | y
   ·have:=Int.mul_nonpos_of_nonneg_of_nonpos (show 0<=d by omega) y
    omega
   ·exact y
  have c2:2<=c:=by
   rcases (by omega:c=1∨2<=c) with y | y
   ·subst y;omega
   ·exact y
  have ck:c<k:=by
   rcases (by omega:c<k∨k<=c) with y | y
   ·exact y
   ·have:=Int.mul_le_mul (show k<=d by omega) y (by omega) (by omega)
    omega
  exact h.no c c2 ck ⟨d,by rw [Int.mul_comm];exact hc⟩
end Ld
namespace L2
open PySem PySem.Spec PyProof.Rows PySem.W
section
variable {K:PySem.W.Frag} {H:Hp}
mutual
theorem eqv_refl:∀ d:PyData,d.canLay0=true->PyData.eqv d d=true
 | .none,_=>by simp [PyData.eqv]
 | .bool _,_=>by simp [PyData.eqv]
 | .int _,_=>by simp [PyData.eqv]
 | .str _,_=>by simp [PyData.eqv]
 | .list ds,h=>by simpa [PyData.eqv] using gf ds h
 | .tuple ds,h=>by simpa [PyData.eqv] using gf ds h
 | .dict _,h=>by simp [PyData.canLay0] at h
theorem gf:∀ ds:List PyData,PyData.canLayAll0 ds=true->PyData.eqvAll ds ds=true
 | [],_=>by simp [PyData.eqvAll]
 | d::ds,h=>by
  have h':d.canLay0=true/\PyData.canLayAll0 ds=true:=by simpa [PyData.canLayAll0] using h
  simp [PyData.eqvAll,eqv_refl d h'.1,gf ds h'.2]
end
end
end L2
namespace L2
open PySem PySem.Spec PyProof.Rows
def yf (lo k:Int) (n:Nat):It:=⟨λi _=>i<n,λi H x H'=>H'=H/\x=.int (lo+i*k),λi _=>n<=i⟩
def xm (lo hi k:Int):Nat:=if lo<hi then ((hi-lo-1)/k+1).toNat else 0
def wZ (ta:TA):TI:=λσ H R=>ta σ H λvs H1=>∃ i j k:Int,vs=[.int i,.int j,.int k]/\(-(2^60)<=i/\i<2^60 /\ -(2^60)<=j/\j<2^60/\0<k/\k<2^29)/\R (yf i k (xm i j k)) H1
section
variable {X:Cx} {tg:Expr}
end
end L2
namespace Sv
def we (d:Nat) (arr:Nat->Bool):Nat->Bool:=λj=>arr j || (decide (d*d<=j) && decide (j%d=0))
def sv:Nat->(Nat->Bool) × List Nat
 | 0=>(λ_=>false,[])
 | i+1=>if (sv i).1 (i+2) then sv i else (we (i+2) (sv i).1,(sv i).2++[i+2])
theorem len:∀ i,(sv i).2.length<=i
 | 0=>Nat.le_refl _
 | i+1=>by
  have:=len i
  rw [sv]
  split
  ·omega
  ·rw [List.length_append,List.length_singleton];omega
end Sv
namespace L2
open PySem PySem.Spec PyProof.Rows
theorem i6 {X:Cx}:b9 X (.type "int") (λxs H Q=>∃ k,xs=[.bl k]/\Q (.int (if k=true then 1 else 0)) H):=λpins s σ H xs us Q I r h=>oh pins s σ H xs us Q I r (.inr h)
section
variable {X:Cx} {pins:List (Addr × Obj)} {σ:St} {H:Hp} {s:Shared} {h':Heap}
theorem Inv.gP {t':Nat} {ch:List Addr} (I:Inv X pins σ H s) (k:∀ b o,b∉ch->s.heap.get? b=some o->h'.get? b=some o) (hf:∀ b∈ch,iP X pins H b):Inv X pins σ H { s with heap:=h',toks:=t' }:=by
 have nit:∀ b u,H b=some u->b∉ch:=λb u e z=>by rw [(hf b z).1] at e;cases e
 refine I.step (g':=s.gens) (d':=s.drawn) (ch:=ch) (λb hb=>?_) (λb o _ _ hc e _=>k b o hc e) (λb o _ _ hc e _=>⟨o.slots,k b o hc e⟩) (λ_ _ _ _ n=>n)
  (λb o hc e=>⟨o,k b o hc e⟩) (λ_ _ e=>e) (λ_ _ _ e=>e) (λb ps e=>⟨#[],by rw [e];simp⟩) (λm hm=>?_) (λb u e=>?_) I.bare
 ·obtain⟨_,f1,_,f3,f4,f5⟩:=hf b hb
  exact⟨f3,f1,f4,f5⟩
 ·obtain⟨o,es,ep,ho,r⟩:=hm
  exact⟨o,es,ep,k _ o (λz=>(hf _ z).2.1 rfl) ho,r⟩
 ·refine (I.hok b u e).fW (λc v hc q=>k c v ?_ q) (λ_ q=>q) λ_ _ q=>q
  rcases hc with z | z
  ·rw [z];exact nit b u e
  ·exact nit c _ z
theorem Inv.adopt {T:Addr} {o:HO} (I:Inv X pins σ H s) (hf:iP X pins H T) (new:aN X.prog X.w (upd H T o) s.heap T o):Inv X pins σ (upd H T o) s:=by
 have nT:∀ b u,H b=some u->b≠T:=λb u e z=>by rw [z,hf.1] at e;cases e
 refine I.step (h':=s.heap) (g':=s.gens) (d':=s.drawn) (t':=s.toks) (ch:=[T]) (λb hb=>?_) (λb o _ _ hc e _=>e) (λb o _ _ hc e _=>⟨o.slots,e⟩) (λb o hc e n=>by rw [ak (λz=>hc (by simp [z]))];exact n)
  (λb o hc e=>⟨o,e⟩) (λb xs e=>by rw [ak (nT _ _ e)];exact e) (λb o u e=>by rw [ak (nT _ _ e)];exact e) (λb ps e=>⟨#[],by rw [ak (nT _ _ e),e];simp⟩) (λm hm=>hm) (λb u e=>?_) I.bare
 ·have e:b=T:=by simpa using hb
  subst e
  obtain⟨_,f1,_,f3,f4,f5⟩:=hf
  exact⟨f3,f1,f4,f5⟩
 ·by_cases z:b=T
  ·subst z
   rw [ag] at e
   cases e
   exact new
  ·rw [ak z] at e
   exact (I.hok b u e).fW (λc v _ q=>q) (λc q=>by rw [ak (nT _ _ q)];exact q) λc xs q=>by rw [ak (nT _ _ q)];exact q
end
def ye (K:PySem.W.Frag) (a:Addr):It :=
 ⟨λi H=>∃ xs x,aW K H a xs/\xs[i]?=some x,λi H x H'=>∃ p v,H p=none/\x=.ref p/\(∀ xs,aW K H a xs->xs[i]?=some v)/\H'=upd H p (.tup [.int i,v]),λi H=>∃ xs,aW K H a xs/\xs.length<=i⟩
theorem pK {P:Program} {w:World} {K:PySem.W.Frag} {elts:List Expr} {x1} {pos:Pos} (a it e:Addr) (ne:e≠it):Turn P w K (.Tuple elts x1 pos) (ye K a) [e,it] e (λi h=>(∃ old,IsEnum h e it i old)/\h.IsListIter it a i) where
 mem:=by simp
 obj:=λi h st b hb=>by
  obtain⟨⟨old,he⟩,hit⟩:=st
  rcases List.mem_cons.mp hb with z | z
  ·subst z
   exact⟨_,he,λv z=>by cases z⟩
  ·have z:b=it:=by simpa using z
   subst z
   obtain⟨o,e,c,d⟩:=hit
   exact⟨o,e,λv z=>by rw [d] at z;cases z⟩
 keep:=λi h h' st k=>by
  obtain⟨⟨old,he⟩,hit⟩:=st
  exact⟨⟨old,k e (by simp) _ he⟩,hit.at λo x=>k it (by simp) o x⟩
 item:=by
  intro X hP hw hK hc i pins s σ H E I hf st hg
  subst hP hw hK
  obtain⟨xs,x,hq,hx⟩:=hg
  obtain⟨its,rv,p,hz⟩:=I.list hq
  obtain⟨u,hu,ru⟩:=rv.get hx
  obtain⟨⟨old,he⟩,hit⟩:=st
  refine wpAny_pyNext_enum_item he hit p.isList (x:=u) (by simpa using hu) ne λh' ho hit' hT hsz hk=>?_
  refine⟨_,rfl,?_⟩
  have fT:H s.heap.objs.size=none:=I.hok.fresh (Nat.le_refl _)
  refine wpAny_letOwnedTupleGo_enum ho λh2 he2 hs2=>?_
  have hke:∀ b o,b∉[e,it]->s.heap.get? b=some o->h2.get? b=some o:=λb o hb q=>by
   have n1:b≠e:=λz=>hb (by simp [z])
   have n2:b≠it:=λz=>hb (by simp [z])
   exact (hs2.2 b n1).trans (hk b o n1 n2 q)
  have I1:Inv X pins σ H { s with heap:=h2,toks:=s.toks+1 }:=I.gP hke hf
  have ne1:s.heap.objs.size≠e:=Nat.ne_of_gt (Heap.lt_size he)
  have hT2:h2.get? s.heap.objs.size=some { cls:=.type "tuple",data:=.seq #[.int i s.toks,u] }:=(hs2.2 _ ne1).trans hT
  refine⟨.ref s.heap.objs.size,upd H s.heap.objs.size (.tup [.int i,x]),?_,rfl,⟨_,x,fT,rfl,λys hy=>by rw [I.hZ hy hq];exact hx,rfl⟩,⟨⟨u,by simpa using he2⟩,hit'.at λo q=>(hs2.2 it (Ne.symm ne)).trans q⟩,λb hb=>?_⟩
  ·have:=I1.adopt (T:=s.heap.objs.size) (o:=.tup [.int i,x]) (I.kW (Nat.le_refl _) fT) ⟨by show 2<=sizeLine;decide,[.int i s.toks,u],.cons ⟨_,rfl⟩ (.cons ru .nil),⟨_,hT2,rfl,_,rfl⟩⟩
   exact this
  ·have ne2:s.heap.objs.size≠it:=by obtain⟨o,q,_⟩:=hit;exact Nat.ne_of_gt (Heap.lt_size q)
   have nb:b≠s.heap.objs.size:=λz=>by
    subst z
    simp only [List.mem_cons,List.not_mem_nil,or_false] at hb
    rcases hb with y | y
    ·exact ne1 y
    ·exact ne2 y
   rw [ak nb]
   exact (hf b hb).1
 done:=by
  intro X hP hw hK hc i pins s σ H E I hf st hg
  subst hP hw hK
  obtain⟨xs,hq,hx⟩:=hg
  obtain⟨its,rv,p,hz⟩:=I.list hq
  have hl:=rv.length
  obtain⟨⟨old,he⟩,hit⟩:=st
  exact wpAny_pyNext_enum_end (I.ok.hd hc) he hit p.isList (by simp;omega) λh' eb=>⟨rfl,I.gP (t':=s.toks) (ch:=[it]) (λb o hb q=>eb b o (λz=>hb (by simp [z])) q) (λb hb=>hf b (List.mem_cons_of_mem _ hb))⟩
 self:=λ_ _ _ _ _ st h=>by
  obtain⟨⟨old,he⟩,_⟩:=st
  exact wpAny_pyIter_enum he h
def uF (K:PySem.W.Frag) (ta:TA):TI:=λσ H R=>ta σ H λvs H1=>∃ a,vs=[.ref a]/\(∃ xs,aW K H1 a xs)/\R (ye K a) H1
theorem gD:bootBuiltins "enumerate"=some (.type "enumerate"):=by decide +kernel
theorem tY {X:Cx} {elts:List Expr} {x1} {tpos:Pos} {a:Expr} {ta:TA} {p pos:Pos} (hg:Gl X "enumerate") (hm:X.mg "enumerate"=none) (ha:PA X [a] ta) (hs:starEach [a] X.env=[(false,eval a X.env)]:=by rfl) :
  PI X (.Tuple elts x1 tpos) (.Call (.Name "enumerate" p) [a] [] pos) (uF X.K ta):=by
 intro pins s σ H R I h
 refine Call_ (gh I hg hm gD (PyProof.Rows.callWith_type1 (a5 (ha pos pins s σ H _ I h) λus s1 ⟨vs,H1,I1,r1,q1⟩=>?_) hs rfl))
 obtain⟨b,e,⟨xs,hq⟩,q⟩:=q1
 subst e
 cases r1 with
 | cons r rr =>
  cases rr
  cases r
  obtain⟨its,rv,pl,hz⟩:=I1.list hq
  refine call_enumerate_list pl.isList λh' he hit hsz hk=>?_
  refine wpAny_pyIter_enum he ?_
  have I2:Inv X pins σ H1 { s1 with heap:=h' }:=I1.kept (t':=s1.toks) hk
  refine⟨_,[s1.heap.objs.size+1,s1.heap.objs.size],_,_,H1,rfl,I2,pK b s1.heap.objs.size (s1.heap.objs.size+1) (Nat.succ_ne_self _),⟨⟨_,he⟩,hit⟩,λc hc=>?_,q⟩
  simp only [List.mem_cons,List.not_mem_nil,or_false] at hc
  rcases hc with rfl | rfl
  ·exact I1.kW (by omega) (I1.hok.fresh (by omega))
  ·exact I1.kW (by omega) (I1.hok.fresh (by omega))
end L2
namespace Crt
structure G (a b g:Int):Prop where
 pos:0<g
 da:g∣a
 db:g∣b
 lin:∃ u v:Int,u*a+v*b=g
theorem G.gr {a b g d:Int} (h:G a b g) (h1:d∣a) (h2:d∣b):d∣g:=by
 obtain⟨u,v,e⟩:=h.lin
 rw [<- e]
 exact Int.dvd_add (Int.dvd_mul_of_dvd_right h1) (Int.dvd_mul_of_dvd_right h2)
theorem G.one {a b g g':Int} (h:G a b g) (h':G a b g'):g=g':=Int.le_antisymm (Int.le_of_dvd h'.pos (h'.gr h.da h.db)) (Int.le_of_dvd h.pos (h.gr h'.da h'.db))
theorem a1 {g u A v L:Int} (e:u*(g*A)+v*(g*L)=g):g*(u*A+v*L)=g*1:=by grind
theorem a2 {g A k L l y:Int} (h1:y=g*A*k) (h2:y=g*L*l):g*(A*k)=g*(L*l):=by grind
theorem a3 {u A v L k l:Int} (e4:u*A+v*L=1) (e5:A*k=L*l):k=L*(u*l+v*k):=by
 have z:k*(u*A+v*L)=k:=by rw [e4,Int.mul_one]
 grind
structure y8 (M N m n W x:Int):Prop where
 pos:0<W
 dM:M∣W
 dm:m∣W
 le:∀ y:Int,M∣y->m∣y->W∣y
 x0:0<=x
 x1:x<W
 eM:M∣x-N
 em:m∣x-n
theorem yc:∀(b a:Nat),0<a->∃ g,G (a:Int) (b:Int) g:=by
 intro b
 induction b using Nat.strongRecOn with
 | ind b ih =>
  intro a ha
  rcases Nat.eq_zero_or_pos b with z | z
  ·subst z
   exact⟨a,by omega,Int.dvd_refl _,Int.dvd_zero _,1,0,by simp⟩
  ·obtain⟨g,h⟩:=ih (a%b) (Nat.mod_lt a z) b z
   obtain⟨u,v,e⟩:=h.lin
   have ed:(a:Int)=(b:Int)*((a/b:Nat):Int)+((a%b:Nat):Int):=by
    have:=Nat.div_add_mod a b
    rw [<- Int.natCast_mul,<- Int.natCast_add,this]
   refine⟨g,h.pos,?_,h.da,v,u-v*((a/b:Nat):Int),?_⟩
   ·rw [ed]
    exact Int.dvd_add (Int.dvd_mul_of_dvd_left h.da) h.db
   ·rw [ed,<- e]
    generalize ((a/b:Nat):Int)=q
    generalize ((a%b:Nat):Int)=r
    generalize (b:Int)=b'
    grind
theorem wH {a b:Int} (ha:0<a) (hb:0<b):∃ g,G a b g:=by
 obtain⟨g,h⟩:=yc b.toNat a.toNat (by omega)
 rw [Int.toNat_of_nonneg (by omega),Int.toNat_of_nonneg (by omega)] at h
 exact⟨g,h⟩
structure Told (ps:List (Int × Int)) (M N:Int):Prop where
 pos:0<M
 x0:0<=N
 x1:N<M
 dv:∀ p∈ps,p.1∣M
 le:∀ y:Int,(∀ p∈ps,p.1∣y)->M∣y
 al:∀ p∈ps,p.1∣N-p.2
theorem Told.nil:Told [] 1 0:=⟨by decide,by decide,by decide,λ_ h=>by simp at h,λy _=>⟨y,by omega⟩,λ_ h=>by simp at h⟩
theorem Told.one {ps:List (Int × Int)} {M N M' N':Int} (h:Told ps M N) (h':Told ps M' N'):M=M'/\N=N':=by
 have e:M=M':=Int.le_antisymm (Int.le_of_dvd h'.pos (h.le _ h'.dv)) (Int.le_of_dvd h.pos (h'.le _ h.dv))
 subst e
 refine⟨rfl,?_⟩
 have z:M∣N-N':=h.le _ λp hp=>by
  have:=Int.dvd_sub (h.al p hp) (h'.al p hp)
  rwa [show N-p.2-(N' - p.2)=N-N' by omega] at this
 have w:=Int.emod_emod_of_dvd
 have:=(Int.emod_eq_emod_iff_emod_sub_eq_zero (m:=N) (n:=M) (k:=N')).mpr (Int.emod_eq_zero_of_dvd z)
 rwa [Int.emod_eq_of_lt h.x0 h.x1,Int.emod_eq_of_lt h'.x0 h'.x1] at this
end Crt
namespace Num
def Al (n x y:Int):Prop:=n∣x-y
theorem Al.refl (n x:Int):Al n x x:=⟨0,by omega⟩
theorem Al.symm {n x y:Int} (h:Al n x y):Al n y x:=by
 have:=(Int.dvd_neg).mpr h
 rwa [show -(x-y)=y-x by omega] at this
theorem Al.trans {n x y z:Int} (h:Al n x y) (h':Al n y z):Al n x z:=by
 have:=Int.dvd_add h h'
 rwa [show x-y+(y-z)=x-z by omega] at this
theorem Al.mul {n x y u v:Int} (h:Al n x y) (h':Al n u v):Al n (x*u) (y*v):=by
 have h1:n∣(x-y)*u:=Int.dvd_mul_of_dvd_left h
 have h2:n∣y*(u-v):=Int.dvd_mul_of_dvd_right h'
 have:=Int.dvd_add h1 h2
 rwa [show (x-y)*u+y*(u-v)=x*u-y*v by rw [Int.sub_mul,Int.mul_sub];omega] at this
theorem Al.pow {n x y:Int} (h:Al n x y):∀ k:Nat,Al n (x^k) (y^k)
 | 0=>by rw [Int.pow_zero,Int.pow_zero];exact Al.refl _ _
 | k+1=>by rw [Int.pow_succ,Int.pow_succ];exact (Al.pow h k).mul h
theorem Al.iff {n x y:Int}:Al n x y↔x%n=y%n:=Pw.vp.symm
theorem Al.rest (n x:Int):Al n (x%n) x:=Al.iff.mpr (Int.emod_emod_of_dvd x (Int.dvd_refl n))
def Co (a n:Int):Prop:=∃ u v:Int,u*a+v*n=1
theorem Co.dvd {a n b:Int} (h:Co a n) (hd:n∣a*b):n∣b:=by
 obtain⟨u,v,e⟩:=h
 have h1:n∣u*(a*b):=Int.dvd_mul_of_dvd_right hd
 have h2:n∣(v*b)*n:=⟨v*b,Int.mul_comm _ _⟩
 have:=Int.dvd_add h1 h2
 have e2:u*(a*b)+v*b*n=(u*a+v*n)*b:=by
  rw [Int.add_mul,Int.mul_assoc u a b,Int.mul_assoc v n b,Int.mul_comm n b,Int.mul_assoc v b n]
 rw [e2,e,Int.one_mul] at this
 exact this
theorem Co.cancel {a n x y:Int} (h:Co a n) (e:Al n (a*x) (a*y)):Al n x y:=by
 refine h.dvd ?_
 rw [Int.mul_sub]
 exact e
theorem Co.mul {a b n:Int} (h:Co a n) (h':Co b n):Co (a*b) n:=by
 obtain⟨u,v,e⟩:=h
 obtain⟨u',v',e'⟩:=h'
 refine⟨u*u',u*a*v'+v*(u'*b+v'*n),?_⟩
 have:(u*a+v*n)*(u'*b+v'*n)=1:=by rw [e,e'];rfl
 grind
theorem Co.pow {a n:Int} (h:Co a n):∀ k:Nat,Co (a^k) n
 | 0=>⟨1,0,by rw [Int.pow_zero];simp⟩
 | k+1=>by rw [Int.pow_succ];exact (Co.pow h k).mul h
theorem Co.xr {a b n:Int} (h:Co a n) (e:Al n a b):Co b n:=by
 obtain⟨u,v,e1⟩:=h
 obtain⟨c,hc⟩:=e
 refine⟨u,v+u*c,?_⟩
 have:b=a-n*c:=by omega
 rw [this]
 grind
theorem aR {n a:Int} {d k:Nat} (h:Al n (a^d) 1):Al n (a^(d*k)) 1:=by
 rw [Pw.pow_mul]
 have:=h.pow k
 rwa [Pw.one_pow] at this
structure Ord (n a:Int) (m:Nat):Prop where
 pos:0<m
 one:Al n (a^m) 1
 dv:∀ j:Nat,Al n (a^j) 1->m∣j
theorem pow_mod {n a:Int} {m j:Nat} (h:Al n (a^m) 1) (hj:Al n (a^j) 1):Al n (a^(j%m)) 1:=by
 have e:a^j=a^(m*(j/m))*a^(j%m):=by rw [<- Pw.pow_add,Nat.div_add_mod]
 rw [e] at hj
 have h1:=(aR (k:=j/m) h).mul (Al.refl n (a^(j%m)))
 rw [Int.one_mul] at h1
 exact h1.symm.trans hj
theorem j3 {n a:Int} {m:Nat} (pos:0<m) (one:Al n (a^m) 1) (no:∀ j,0<j->j<m->¬Al n (a^j) 1):Ord n a m:=by
 refine⟨pos,one,λj hj=>?_⟩
 have h:=pow_mod one hj
 rcases Nat.eq_zero_or_pos (j%m) with z | z
 ·exact Nat.dvd_of_mod_eq_zero z
 ·exact absurd h (no _ z (Nat.mod_lt _ pos))
theorem dH {P:Nat->Prop}:∀ N:Nat,P N->∃ m,P m/\∀ j,j<m->¬P j:=by
 intro N
 induction N using Nat.strongRecOn with
 | ind N ih =>
  intro h
  by_cases z:∃ j,j<N/\P j
  ·obtain⟨j,hj,pj⟩:=z
   exact ih j hj pj
  ·exact⟨N,h,λj hj pj=>z ⟨j,hj,pj⟩⟩
theorem iw {n a:Int} {N:Nat} (pos:0<N) (h:Al n (a^N) 1):∃ m,Ord n a m/\m<=N:=by
 obtain⟨m,⟨m0,m1⟩,no⟩:=dH (P:=λj=>0<j/\Al n (a^j) 1) N ⟨pos,h⟩
 refine⟨m,j3 m0 m1 λj j0 jm z=>no j jm ⟨j0,z⟩,?_⟩
 by_cases z:m<=N
 ·exact z
 ·exact absurd ⟨pos,h⟩ (no N (by omega))
theorem Ord.inj {n a:Int} {m i j:Nat} (h:Ord n a m) (c:Co a n) (hi:i<m) (hj:j<m) (e:Al n (a^i) (a^j)):i=j:=by
 have aux:∀ i j:Nat,i<m->j<m->i<=j->Al n (a^i) (a^j)->i=j:=by
  intro i j hi hj hij e
  have e1:a^j=a^i*a^(j-i):=by rw [<- Pw.pow_add];congr 1;omega
  rw [e1] at e
  have e2:Al n (a^i*1) (a^i*a^(j-i)):=by rw [Int.mul_one];exact e
  have e3:=(c.pow i).cancel e2
  have:=h.dv _ e3.symm
  rcases Nat.eq_zero_or_pos (j-i) with z | z
  ·omega
  ·have:=Nat.le_of_dvd z this
   omega
 rcases Nat.le_total i j with z | z
 ·exact aux i j hi hj z e
 ·exact (aux j i hj hi z e.symm).symm
theorem j5:∀(n:Nat) (l:List Nat),l.Nodup->(∀ x∈l,x<n)->l.length<=n:=by
 intro n
 induction n with
 | zero =>
  intro l _ h
  cases l with
  | nil=>exact Nat.le_refl _
  | cons x r=>exact absurd (h x (by simp)) (by omega)
 | succ n ih =>
  intro l nd h
  by_cases c:n∈l
  ·have h1:=ih (l.erase n) (nd.erase n) λx hx=>by
    have hx':=List.mem_of_mem_erase hx
    have ne:x≠n:=λz=>by
     subst z
     exact absurd hx (List.Nodup.not_mem_erase nd)
    have:=h x hx'
    omega
   rw [List.length_erase_of_mem c] at h1
   omega
  ·have h1:=ih l nd λx hx=>by
    have:=h x hx
    have ne:x≠n:=λz=>c (z▸hx)
    omega
   omega
end Num
namespace Num
structure Pm (p:Int):Prop where
 two:2<=p
 no:∀ d:Int,2<=d->d<p->¬d∣p
theorem Pm.co {p a:Int} (h:Pm p) (ha:¬p∣a):Co a p:=by
 have h2:=h.two
 have r0:=Int.emod_nonneg a (show p≠0 by omega)
 have r1:=Int.emod_lt_of_pos a (show 0<p by omega)
 have rn:a%p≠0:=λz=>ha (Int.dvd_of_emod_eq_zero z)
 obtain⟨g,G⟩:=Crt.wH (a:=a%p) (b:=p) (by omega) (by omega)
 have gl:=Int.le_of_dvd (show 0<a%p by omega) G.da
 have g1:g=1:=by
  have g0:=G.pos
  rcases (by omega:g=1∨2<=g) with z | z
  ·exact z
  ·exact absurd G.db (h.no g z (by omega))
 obtain⟨u,v,e⟩:=G.lin
 rw [g1] at e
 exact Co.xr ⟨u,v,e⟩ (Al.rest p a)
theorem Pm.or {p a b:Int} (h:Pm p) (hd:p∣a*b) (ha:¬p∣a):p∣b:=(h.co ha).dvd hd
def H:Int->List Int->Int->Int
 | acc,[],_=>acc
 | acc,c::cs,x=>H (acc*x+c) cs x
theorem pS (x:Int):∀(cs:List Int) (a b:Int),H (a+b) cs x=H a cs x+b*x^cs.length
 | [],a,b=>by rw [List.length_nil,Int.pow_zero,Int.mul_one];rfl
 | c::cs,a,b=>by
  show H ((a+b)*x+c) cs x=H (a*x+c) cs x+b*x^(cs.length+1)
  rw [show (a+b)*x+c=(a*x+c)+b*x by rw [Int.add_mul];omega,pS x cs,Int.pow_succ,Int.mul_assoc,Int.mul_comm x]
def uS (r:Int):Int->List Int->List Int
 | _,[]=>[]
 | _,[_]=>[]
 | c0,c::c'::cs=>(c0*r+c)::uS r (c0*r+c) (c'::cs)
theorem kg (r:Int):∀(cs:List Int) (c0:Int),(uS r c0 cs).length=cs.length-1
 | [],_=>rfl
 | [_],_=>rfl
 | c::c'::cs,c0=>by
  show (uS r (c0*r+c) (c'::cs)).length+1=_
  rw [kg r (c'::cs)]
  simp
theorem factor (x r:Int):∀(cs:List Int) (c0:Int),cs≠[]->H c0 cs x-H c0 cs r=(x-r)*H c0 (uS r c0 cs) x
 | [],_,h=>absurd rfl h
 | [c],c0,_=>by
  show c0*x+c-(c0*r+c)=(x-r)*c0
  rw [Int.sub_mul,Int.mul_comm c0 x,Int.mul_comm c0 r]
  omega
 | c::c'::cs,c0,_=>by
  have ih:=factor x r (c'::cs) (c0*r+c) (by simp)
  show H (c0*x+c) (c'::cs) x-H (c0*r+c) (c'::cs) r=(x-r)*H (c0*x+(c0*r+c)) (uS r (c0*r+c) (c'::cs)) x
  have e1:c0*x+c=(c0*r+c)+c0*(x-r):=by rw [Int.mul_sub];omega
  have e2:H (c0*x+(c0*r+c)) (uS r (c0*r+c) (c'::cs)) x=H (c0*r+c) (uS r (c0*r+c) (c'::cs)) x+c0*x*x^cs.length:=by
   rw [Int.add_comm (c0*x),pS,kg]
   simp
  rw [e1,pS,e2,List.length_cons,Int.pow_succ,Int.mul_add,<- ih]
  generalize H (c0*r+c) (c'::cs) x=A
  generalize H (c0*r+c) (c'::cs) r=B
  generalize x^cs.length=Y
  grind
theorem roots {p:Int} (hp:Pm p):∀(n:Nat) (cs:List Int) (c0:Int),cs.length=n->¬p∣c0->∀ rs:List Int,rs.Pairwise (λa b=>¬Al p a b)->(∀ r∈rs,p∣H c0 cs r)->rs.length<=n:=by
 intro n
 induction n with
 | zero =>
  intro cs c0 hl h0 rs hr hz
  have:cs=[]:=List.eq_nil_of_length_eq_zero hl
  subst this
  cases rs with
  | nil=>exact Nat.le_refl _
  | cons r rs=>exact absurd (hz r (by simp)) h0
 | succ n ih =>
  intro cs c0 hl h0 rs hr hz
  cases rs with
  | nil=>exact Nat.zero_le _
  | cons r rs =>
   have hne:cs≠[]:=λz=>by rw [z] at hl;simp at hl
   obtain⟨h1,h2⟩:=List.pairwise_cons.mp hr
   have:=ih (uS r c0 cs) c0 (by rw [kg,hl];rfl) h0 rs h2 λs hs=>by
    have e:=factor s r cs c0 hne
    have d1:=hz s (List.mem_cons_of_mem _ hs)
    have d2:=hz r (by simp)
    have d3:=Int.dvd_sub d1 d2
    rw [e] at d3
    exact hp.or d3 λz=>h1 s hs (Al.symm z)
   simpa using this
theorem uu (x:Int):∀(n:Nat) (a:Int),H a (List.replicate n 0++[-1]) x=a*x^(n+1)-1
 | 0,a=>by
  show a*x + -1=_
  rw [Int.pow_succ,Int.pow_zero,Int.one_mul];omega
 | n+1,a=>by
  show H (a*x+0) (List.replicate n 0++[-1]) x=_
  rw [uu x n,Int.add_zero,Int.pow_succ x (n+1),Int.mul_comm (x^(n+1)) x,Int.mul_assoc]
theorem sI {p:Int} (hp:Pm p) {n:Nat} (hn:0<n) (h:∀ a:Int,¬p∣a->Al p (a^n) 1):p-1<=n:=by
 have h2:=hp.two
 obtain⟨m,rfl⟩:∃ m,n=m+1:=⟨n-1,by omega⟩
 have key:=roots hp (m+1) (List.replicate m 0++[-1]) 1 (by simp) (λz=>by have:=Int.le_of_dvd (by decide) z;omega) ((List.range (p-1).toNat).map λi:Nat=>(i:Int)+1) ?_ ?_
 ·rw [List.length_map,List.length_range] at key
  omega
 ·rw [List.pairwise_map]
  refine List.Pairwise.imp_of_mem (R:=(·<·)) (λ{a b} ha hb hab z=>?_) List.pairwise_lt_range
  have hb':=List.mem_range.mp hb
  have:=Int.le_of_dvd (by omega) (Al.symm z)
  omega
 ·intro r hr
  obtain⟨i,hi,rfl⟩:=List.mem_map.mp hr
  have hi':=List.mem_range.mp hi
  rw [uu,Int.one_mul]
  exact h _ λz=>by have:=Int.le_of_dvd (by omega) z;omega
theorem jk {f:Nat->Nat} {n:Nat} (h:∀ i j,i<j->j<n->f i≠f j):((List.range n).map f).Nodup:=by
 show List.Pairwise _ _
 rw [List.pairwise_map]
 exact List.Pairwise.imp_of_mem (R:=(·<·)) (λ{a b} ha hb hab=>h a b hab (List.mem_range.mp hb)) List.pairwise_lt_range
theorem rest_eq {p x y:Int} (hp:0<p) (e:(x%p).toNat=(y%p).toNat):Al p x y:=by
 have h1:=Int.emod_nonneg x (show p≠0 by omega)
 have h2:=Int.emod_nonneg y (show p≠0 by omega)
 exact Al.iff.mpr (by omega)
theorem back {n a:Int} (hn:2<=n) (c:Co a n):∃ d:Nat,0<d/\(d:Int)<=n/\Al n (a^d) 1:=by
 by_cases z:∃ i j:Nat,i<j/\j<n.toNat+1/\Al n (a^i) (a^j)
 ·obtain⟨i,j,ij,jn,e⟩:=z
  refine⟨j-i,by omega,by omega,?_⟩
  have e1:a^j=a^i*a^(j-i):=by rw [<- Pw.pow_add];congr 1;omega
  rw [e1] at e
  have e2:Al n (a^i*1) (a^i*a^(j-i)):=by rw [Int.mul_one];exact e
  exact ((c.pow i).cancel e2).symm
 ·exfalso
  have nd:=jk (f:=λi=>(a^i%n).toNat) (n:=n.toNat+1) λi j ij jn e=>z ⟨i,j,ij,jn,rest_eq (by omega) e⟩
  have:=j5 n.toNat _ nd λx hx=>by
   obtain⟨i,_,rfl⟩:=List.mem_map.mp hx
   have h1:=Int.emod_nonneg (a^i) (show n≠0 by omega)
   have h2:=Int.emod_lt_of_pos (a^i) (show 0<n by omega)
   show (a^i%n).toNat<n.toNat
   omega
  rw [List.length_map,List.length_range] at this
  omega
def fact:Nat->Nat
 | 0=>1
 | n+1=>(n+1)*fact n
theorem kT:∀ n,0<fact n
 | 0=>by decide
 | n+1=>Nat.mul_pos (Nat.succ_pos n) (kT n)
theorem kN {d:Nat}:∀ n,0<d->d<=n->d∣fact n
 | 0,h,h'=>by omega
 | n+1,h,h'=>by
  by_cases c:d=n+1
  ·subst c;exact⟨fact n,rfl⟩
  ·exact Nat.dvd_trans (kN n h (by omega)) ⟨n+1,Nat.mul_comm _ _⟩
theorem Ord.mul {n a b:Int} {k m:Nat} (ha:Ord n a k) (hb:Ord n b m) (ca:Co a n) (cb:Co b n) (co:Nat.Coprime k m):Ord n (a*b) (k*m):=by
 refine⟨Nat.mul_pos ha.pos hb.pos,?_,λj hj=>?_⟩
 ·rw [Pw.mul_pow]
  have h1:=aR (k:=m) ha.one
  have h2:=aR (k:=k) hb.one
  rw [Nat.mul_comm m k] at h2
  exact h1.mul h2
 ·rw [Pw.mul_pow] at hj
  have d1:k∣j:=by
   have e:=hj.pow m
   rw [Pw.one_pow,Pw.mul_pow,<- Pw.pow_mul,<- Pw.pow_mul] at e
   have h2:=aR (k:=j) hb.one
   rw [Nat.mul_comm m j] at h2
   have e2:Al n (a^(j*m)) 1:=by
    have:=(Al.refl n (a^(j*m))).mul h2.symm
    rw [Int.mul_one] at this
    exact this.trans e
   exact Nat.Coprime.dvd_of_dvd_mul_right co (ha.dv _ e2)
  have d2:m∣j:=by
   have e:=hj.pow k
   rw [Pw.one_pow,Pw.mul_pow,<- Pw.pow_mul,<- Pw.pow_mul] at e
   have h2:=aR (k:=j) ha.one
   rw [Nat.mul_comm k j] at h2
   have e2:Al n (b^(j*k)) 1:=by
    have:=h2.symm.mul (Al.refl n (b^(j*k)))
    rw [Int.one_mul] at this
    exact this.trans e
   exact Nat.Coprime.dvd_of_dvd_mul_right co.symm (hb.dv _ e2)
  exact Nat.Coprime.mul_dvd_of_dvd_of_dvd co d1 d2
end Num
namespace Num
def Nm (q:Nat):Prop:=2<=q/\∀ d,2<=d->d<q->¬d∣q
theorem uQ {m:Nat} (h:2<=m):∃ q,Nm q/\q∣m:=by
 obtain⟨q,⟨q2,qm⟩,no⟩:=dH (P:=λd=>2<=d/\d∣m) m ⟨h,Nat.dvd_refl m⟩
 exact⟨q,⟨q2,λd d2 dq hd=>no d dq ⟨d2,Nat.dvd_trans hd qm⟩⟩,qm⟩
theorem Nm.co {q m:Nat} (h:Nm q) (hm:¬q∣m):Nat.Coprime q m:=by
 have hg:=Nat.gcd_dvd_left q m
 have g0:0<Nat.gcd q m:=Nat.gcd_pos_of_pos_left m (by have:=h.1;omega)
 have gl:=Nat.le_of_dvd (by have:=h.1;omega) hg
 rcases (by omega:Nat.gcd q m=1∨(2<=Nat.gcd q m/\Nat.gcd q m<q)∨Nat.gcd q m=q) with z | ⟨z1,z2⟩ | z
 ·exact z
 ·exact absurd hg (h.2 _ z1 z2)
 ·exact absurd (z▸Nat.gcd_dvd_right q m) hm
theorem rP {q:Nat} (hq:2<=q):∀ m:Nat,0<m->∃ k m',m=q^k*m'/\¬q∣m':=by
 intro m
 induction m using Nat.strongRecOn with
 | ind m ih =>
  intro hm
  by_cases c:q∣m
  ·obtain⟨t,ht⟩:=c
   have t0:0<t:=by
    rcases Nat.eq_zero_or_pos t with z | z
    ·subst z;omega
    ·exact z
   have tm:t<m:=by
    rw [ht]
    have:=Nat.mul_le_mul_right t hq
    omega
   obtain⟨k,m',e,hn⟩:=ih t tm t0
   exact⟨k+1,m',by rw [ht,e,Nat.pow_succ,Nat.mul_comm (q^k) q,Nat.mul_assoc],hn⟩
  ·exact⟨0,m,by simp,c⟩
theorem nH {q:Nat} (h:Nm q):∀(k d:Nat),d∣q^(k+1)->¬d∣q^k->d=q^(k+1):=by
 intro k
 induction k with
 | zero =>
  intro d h1 h2
  rw [Nat.zero_add,Nat.pow_one] at h1 ⊢
  rw [Nat.pow_zero] at h2
  have q2:=h.1
  have d0:0<d:=Nat.pos_of_dvd_of_pos h1 (by omega)
  have dl:=Nat.le_of_dvd (by omega) h1
  rcases (by omega:d=1∨(2<=d/\d<q)∨d=q) with z | ⟨z1,z2⟩ | z
  ·exact absurd (z▸Nat.dvd_refl 1) h2
  ·exact absurd h1 (h.2 d z1 z2)
  ·exact z
 | succ k ih =>
  intro d h1 h2
  by_cases c:q∣d
  ·obtain⟨t,ht⟩:=c
   have q0:0<q:=by have:=h.1;omega
   rw [ht,Nat.pow_succ,Nat.mul_comm (q^(k+1)) q] at h1
   rw [ht,Nat.pow_succ,Nat.mul_comm (q^k) q] at h2
   have e1:=Nat.dvd_of_mul_dvd_mul_left q0 h1
   have e2:¬t∣q^k:=λz=>h2 (Nat.mul_dvd_mul_left q z)
   rw [ht,ih t e1 e2,Nat.pow_succ q (k+1),Nat.mul_comm]
  ·have co:Nat.Coprime (q^(k+1+1)) d:=Nat.Coprime.pow_left _ (h.co c)
   have:d∣1:=by
    have:=Nat.dvd_gcd h1 (Nat.dvd_refl d)
    rwa [co] at this
   exact absurd (Nat.dvd_trans this (Nat.one_dvd _)) h2
section
variable {p:Int} {L:Nat}
structure Ex (p:Int) (L:Nat):Prop where
 pos:0<L
 all:∀ a:Int,¬p∣a->Al p (a^L) 1
 no:∀ j,0<j->j<L->∃ a:Int,¬p∣a/\¬Al p (a^j) 1
theorem Pm.unit {p a:Int} (hp:Pm p) (c:Co a p):¬p∣a:=λh=>by
 obtain⟨u,v,e⟩:=c
 have h1:p∣u*a:=Int.dvd_mul_of_dvd_right h
 have h2:p∣v*p:=⟨v,Int.mul_comm _ _⟩
 have:=Int.dvd_add h1 h2
 rw [e] at this
 have:=Int.le_of_dvd (by decide) this
 have:=hp.two
 omega
theorem ux (hp:Pm p):∃ L,Ex p L:=by
 have h2:=hp.two
 have uni:∀ a:Int,¬p∣a->Al p (a^fact p.toNat) 1:=λa ha=>by
  obtain⟨d,d0,d1,e⟩:=back h2 (hp.co ha)
  obtain⟨t,ht⟩:=kN p.toNat d0 (by omega)
  rw [ht]
  exact aR e
 obtain⟨L,⟨l0,l1⟩,no⟩:=dH (P:=λj=>0<j/\∀ a:Int,¬p∣a->Al p (a^j) 1) (fact p.toNat) ⟨kT _,uni⟩
 refine⟨L,l0,l1,λj j0 jl=>?_⟩
 have:=no j jl
 by_cases z:∃ a:Int,¬p∣a/\¬Al p (a^j) 1
 ·exact z
 ·exact absurd ⟨j0,λa ha=>Classical.byContradiction λw=>z ⟨a,ha,w⟩⟩ this
theorem lr (hp:Pm p) (h:Ex p L):∀ m:Nat,0<m->m∣L->∃ x:Int,Co x p/\Ord p x m:=by
 intro m
 induction m using Nat.strongRecOn with
 | ind m ih =>
  intro hm hd
  by_cases c:m=1
  ·subst c
   exact⟨1,⟨1,0,by omega⟩,by decide,by rw [Int.pow_succ,Int.pow_zero];exact Al.refl _ _,λj _=>Nat.one_dvd j⟩
  ·obtain⟨q,hq,qm⟩:=uQ (show 2<=m by omega)
   obtain⟨k,m',e,hn⟩:=rP hq.1 m hm
   have q0:0<q:=by have:=hq.1;omega
   obtain⟨k',rfl⟩:∃ k',k=k'+1:=by
    cases k with
    | zero=>rw [Nat.pow_zero,Nat.one_mul] at e;exact absurd (e▸qm) hn
    | succ k'=>exact⟨k',rfl⟩
   have m0:0<m':=by
    rcases Nat.eq_zero_or_pos m' with z | z
    ·rw [z,Nat.mul_zero] at e;omega
    ·exact z
   have qk:2<=q^(k'+1):=by
    rw [Nat.pow_succ]
    have:=Nat.mul_le_mul (Nat.pow_pos (n:=k') q0) hq.1
    omega
   have mm:m'<m:=by
    rw [e]
    have:=Nat.mul_le_mul_right m' qk
    omega
   obtain⟨y,cy,oy⟩:=ih m' mm m0 (Nat.dvd_trans ⟨q^(k'+1),by rw [e,Nat.mul_comm]⟩ hd)
   have dq:q^(k'+1)∣L:=Nat.dvd_trans ⟨m',e⟩ hd
   obtain⟨T,hT⟩:=dq
   have T0:0<T:=by
    rcases Nat.eq_zero_or_pos T with z | z
    ·rw [z,Nat.mul_zero] at hT;have:=h.pos;omega
    ·exact z
   have eL:L=q*(q^k'*T):=by rw [hT,Nat.pow_succ,Nat.mul_comm (q^k') q,Nat.mul_assoc]
   have jp:0<q^k'*T:=Nat.mul_pos (Nat.pow_pos q0) T0
   have jl:q^k'*T<L:=by
    rw [eL]
    have:=Nat.mul_le_mul_right (q^k'*T) hq.1
    omega
   obtain⟨a,ha,hna⟩:=h.no _ jp jl
   have ca:=hp.co ha
   have z1:Al p ((a^T)^(q^(k'+1))) 1:=by
    rw [<- Pw.pow_mul,Nat.mul_comm,<- hT]
    exact h.all a ha
   have z2:¬Al p ((a^T)^(q^k')) 1:=by
    rw [<- Pw.pow_mul,Nat.mul_comm]
    exact hna
   obtain⟨d,od,_⟩:=iw (Nat.pow_pos q0) z1
   have d1:=od.dv _ z1
   have d2:¬d∣q^k':=λw=>z2 (by obtain⟨t,ht⟩:=w;rw [ht];exact aR od.one)
   have ed:=nH hq k' d d1 d2
   subst ed
   refine⟨a^T*y,(ca.pow T).mul cy,?_⟩
   rw [e]
   exact od.mul oy (ca.pow T) cy (Nat.Coprime.pow_left _ (hq.co hn))
theorem uy (hp:Pm p) (h:Ex p L):(L:Int)=p-1:=by
 have h2:=hp.two
 have h1:=sI hp h.pos h.all
 obtain⟨g,cg,og⟩:=lr hp h L h.pos (Nat.dvd_refl L)
 have nd:=jk (f:=λi=>(g^i%p).toNat-1) (n:=L) λi j ij jn e=>by
  have r1:∀ k:Nat,1<=(g^k%p).toNat:=λk=>by
   have a1:=Int.emod_nonneg (g^k) (show p≠0 by omega)
   have:g^k%p≠0:=λz=>hp.unit (cg.pow k) (Int.dvd_of_emod_eq_zero z)
   omega
  have e':(g^i%p).toNat=(g^j%p).toNat:=by
   have:=r1 i
   have:=r1 j
   have e:(g^i%p).toNat-1=(g^j%p).toNat-1:=e
   omega
  have:=og.inj cg (by omega) jn (rest_eq (by omega) e')
  omega
 have:=j5 (p-1).toNat _ nd λx hx=>by
  obtain⟨i,_,rfl⟩:=List.mem_map.mp hx
  have a1:=Int.emod_nonneg (g^i) (show p≠0 by omega)
  have a2:=Int.emod_lt_of_pos (g^i) (show 0<p by omega)
  have:g^i%p≠0:=λz=>hp.unit (cg.pow i) (Int.dvd_of_emod_eq_zero z)
  show (g^i%p).toNat-1<(p-1).toNat
  omega
 rw [List.length_map,List.length_range] at this
 omega
theorem gY (hp:Pm p) {a:Int} (ha:¬p∣a):Al p (a^(p-1).toNat) 1:=by
 obtain⟨L,h⟩:=ux hp
 have:=uy hp h
 rw [show (p-1).toNat=L by omega]
 exact h.all a ha
theorem ma (hp:Pm p) {m:Nat} (h0:0<m) (hd:m∣(p-1).toNat):∃ x:Int,1<=x/\x<p/\Ord p x m:=by
 obtain⟨L,h⟩:=ux hp
 have:=uy hp h
 have h2:=hp.two
 obtain⟨x,cx,ox⟩:=lr hp h m h0 (by rwa [show (p-1).toNat=L by omega] at hd)
 have a1:=Int.emod_nonneg x (show p≠0 by omega)
 have a2:=Int.emod_lt_of_pos x (show 0<p by omega)
 have a3:x%p≠0:=λz=>hp.unit cx (Int.dvd_of_emod_eq_zero z)
 refine⟨x%p,by omega,a2,ox.pos,((Al.rest p x).pow m).trans ox.one,λj hj=>ox.dv j (((Al.rest p x).pow j).symm.trans hj)⟩
theorem tf (hp:Pm p):∃ g:Int,1<=g/\g<p/\Ord p g (p-1).toNat:=ma hp (by have:=hp.two;omega) (Nat.dvd_refl _)
end
end Num
namespace Num
theorem Co.vN {n a:Int} {m:Nat} (h:Al n (a^(m+1)) 1):Co a n:=by
 obtain⟨c,hc⟩:=h
 refine⟨a^m,-c,?_⟩
 rw [Int.pow_succ] at hc
 rw [Int.neg_mul,Int.mul_comm c n]
 omega
theorem vT {n a:Int} {e:Nat} (h0:0<e) (h1:Al n (a^e) 1) (no:∀ q,Nm q->q∣e->¬Al n (a^(e/q)) 1):Ord n a e:=by
 obtain⟨m,om,_⟩:=iw h0 h1
 have d:=om.dv _ h1
 by_cases z:m=e
 ·subst z;exact om
 ·exfalso
  obtain⟨t,ht⟩:=d
  have t2:2<=t:=by
   rcases (by omega:t=0∨t=1∨2<=t) with w | w | w
   ·rw [w] at ht;omega
   ·rw [w,Nat.mul_one] at ht;exact absurd ht.symm z
   ·exact w
  obtain⟨q,hq,r,hr⟩:=uQ t2
  have q0:0<q:=by have:=hq.1;omega
  have e1:e=q*(m*r):=by rw [ht,hr,<- Nat.mul_assoc,Nat.mul_comm m q,Nat.mul_assoc]
  refine no q hq ⟨m*r,e1⟩ ?_
  rw [e1,Nat.mul_div_cancel_left _ q0]
  exact aR om.one
theorem Ord.zk {n a:Int} {e:Nat} (h:Ord n a e) {q:Nat} (hq:Nm q) (hd:q∣e):¬Al n (a^(e/q)) 1:=λz=>by
 have q0:0<q:=by have:=hq.1;omega
 obtain⟨r,hr⟩:=hd
 rw [hr,Nat.mul_div_cancel_left _ q0] at z
 have d:=h.dv _ z
 have r0:0<r:=by
  rcases Nat.eq_zero_or_pos r with w | w
  ·rw [w,Nat.mul_zero] at hr;have:=h.pos;omega
  ·exact w
 have:=Nat.le_of_dvd r0 d
 have:=Nat.mul_le_mul_right r hq.1
 omega
end Num
namespace Num
theorem rq {n r:Int} (h:Ld.eI n r):Pm r:=⟨h.two,λd d2 dr hd=>h.no d d2 dr (Int.dvd_trans hd h.dv)⟩
def bL:List (Int × Int)->Int
 | []=>1
 | p::r=>p.1^p.2.toNat*bL r
theorem iF:∀(ps:List (Int × Int)) (p:Int × Int),bL (ps++[p])=bL ps*p.1^p.2.toNat
 | [],p=>by show p.1^_*1=1*_;omega
 | q::r,p=>by
  show q.1^q.2.toNat*bL (r++[p])=q.1^q.2.toNat*bL r*_
  rw [iF r p,Int.mul_assoc]
structure Part (n:Int) (ps:List (Int × Int)):Prop where
 ok:∀ p∈ps,Pm p.1/\1<=p.2/\p.2<=30
 rise:ps.Pairwise λa b=>a.1<b.1
 prod:bL ps=n
theorem bf {q:Int} (h:0<q):∀ k:Nat,0<q^k
 | 0=>by rw [Int.pow_zero];decide
 | k+1=>by rw [Int.pow_succ];exact Int.mul_pos (bf h k) h
theorem two_pow_le {q:Int} (h:2<=q):∀ k:Nat,(2:Int)^k<=q^k
 | 0=>by rw [Int.pow_zero,Int.pow_zero];exact Int.le_refl _
 | k+1=>by
  rw [Int.pow_succ,Int.pow_succ]
  exact Int.mul_le_mul (two_pow_le h k) h (by decide) (Int.le_of_lt (bf (by omega) k))
theorem two_le:∀{k:Nat},(2:Int)^k<=10^9->k<=29:=by
 intro k h
 by_cases c:k<=29
 ·exact c
 ·exfalso
  have e:k=30+(k-30):=by omega
  rw [e,Pw.pow_add] at h
  have:=bf (show (0:Int)<2 by decide) (k-30)
  have h2:=Int.mul_le_mul_of_nonneg_left (show (1:Int)<=2^(k-30) by omega) (show (0:Int)<=2^30 by decide)
  have:(2:Int)^30=1073741824:=by decide
  omega
structure Way (n:Int) (ps:List (Int × Int)) (left prime:Int):Prop where
 ok:∀ p∈ps,Pm p.1/\1<=p.2/\p.2<=30
 rise:ps.Pairwise λa b=>a.1<b.1
 prod:bL ps*left=n
 pos:1<=left
 inv:Ld.Inv left prime
 le:∀ p∈ps,p.1<=prime
 gone:ps=[]∨¬prime∣left
 two:(2:Int)^ps.length*left<=n
theorem Way.start {n:Int} (h:1<=n):Way n [] n 2:=⟨λ_ z=>by simp at z,List.Pairwise.nil,by show 1*n=n;omega,h,⟨by decide,.inl rfl,λd d0 d1=>by omega⟩,λ_ z=>by simp at z,.inl rfl,by rw [List.length_nil,Int.pow_zero];omega⟩
theorem Way.step {n left prime r left':Int} {ps:List (Int × Int)} {k:Nat} (w:Way n ps left prime) (hn:n<=10^9) (hl:1<left) (h:Ld.eI left r) (e:left=r^k*left') (l0:1<=left') (hk:1<=k) (hg:¬r∣left'):Way n (ps++[(r,(k:Int))]) left' r:=by
 have r2:=h.two
 have pm:=rq h
 have rp:prime<=r:=by
  rcases (by omega:prime<=r∨r<prime) with z | z
  ·exact z
  ·exact absurd h.dv (w.inv.no r r2 z)
 have rk:=bf (show 0<r by omega) k
 have k2:=two_pow_le r2 k
 have kl:(2:Int)^k<=left:=by
  have:=Int.mul_le_mul k2 l0 (by decide) (Int.le_of_lt rk)
  rw [Int.mul_one] at this
  omega
 have ln:left<=n:=by
  have z:=w.two
  have p0:=bf (show (0:Int)<2 by decide) ps.length
  have:=Int.mul_le_mul_of_nonneg_right (show (1:Int)<=2^ps.length by omega) (show 0<=left by omega)
  omega
 have k29:=two_le (k:=k) (by omega)
 refine⟨λp hp=>?_,?_,?_,l0,?_,λp hp=>?_,.inr hg,?_⟩
 ·rcases List.mem_append.mp hp with z | z
  ·exact w.ok p z
  ·rw [List.mem_singleton.mp z]
   exact⟨pm,by show (1:Int)<=k;omega,by show (k:Int)<=30;omega⟩
 ·refine List.pairwise_append.mpr ⟨w.rise,List.pairwise_singleton _ _,λa ha b hb=>?_⟩
  rw [List.mem_singleton.mp hb]
  show a.1<r
  have:=w.le a ha
  rcases w.gone with z | z
  ·rw [z] at ha;simp at ha
  ·have:prime≠r:=λy=>z (y▸h.dv)
   omega
 ·rw [iF,<- w.prod,e]
  show bL ps*r^((k:Int).toNat)*left'=_
  rw [Int.toNat_natCast,Int.mul_assoc]
 ·refine⟨r2,?_,λd d0 d1 hd=>h.no d d0 d1 (by rw [e];exact Int.dvd_mul_of_dvd_right hd)⟩
  rcases (by omega:r=2∨2<r) with z | z
  ·exact .inl z
  ·refine .inr ?_
   rcases (by omega:r%2=1∨r%2=0) with y | y
   ·exact y
   ·exact absurd (Int.dvd_of_emod_eq_zero y) (pm.no 2 (by decide) z)
 ·rcases List.mem_append.mp hp with z | z
  ·have:=w.le p z;omega
  ·rw [List.mem_singleton.mp z];exact Int.le_refl _
 ·rw [List.length_append,List.length_singleton,Pw.pow_add,Int.pow_succ,Int.pow_zero,Int.one_mul,Int.mul_assoc]
  refine Int.le_trans (Int.mul_le_mul_of_nonneg_left ?_ (Int.le_of_lt (bf (by decide) _))) w.two
  rw [e]
  obtain⟨k',rfl⟩:∃ k',k=k'+1:=⟨k-1,by omega⟩
  have p0:=bf (show 0<r by omega) k'
  have h1:r<=r^(k'+1):=by
   rw [Int.pow_succ]
   have:=Int.mul_le_mul_of_nonneg_right (show 1<=r^k' by omega) (show 0<=r by omega)
   omega
  exact Int.mul_le_mul_of_nonneg_right (show 2<=r^(k'+1) by omega) (show 0<=left' by omega)
theorem Way.done {n prime:Int} {ps:List (Int × Int)} (w:Way n ps 1 prime):Part n ps:=⟨w.ok,w.rise,by have:=w.prod;omega⟩
theorem Way.len {n left prime:Int} {ps:List (Int × Int)} (w:Way n ps left prime) (hn:n<=10^9):ps.length<=29:=by
 refine two_le ?_
 have z:=w.two
 have p0:=bf (show (0:Int)<2 by decide) ps.length
 have:=Int.mul_le_mul_of_nonneg_left w.pos (Int.le_of_lt p0)
 omega
end Num
namespace Num
open PySem
theorem cV:∀{ps:List (Int × Int)} {p:Int × Int},p∈ps->1<=p.2->p.1∣bL ps
 | a::r,p,h,hk=>by
  rcases List.mem_cons.mp h with z | z
  ·subst z
   obtain⟨k,hk'⟩:∃ k,p.2.toNat=k+1:=⟨p.2.toNat-1,by omega⟩
   show p.1∣p.1^p.2.toNat*bL r
   rw [hk',Int.pow_succ]
   exact Int.dvd_mul_of_dvd_left ⟨p.1^k,Int.mul_comm _ _⟩
  ·exact Int.dvd_mul_of_dvd_right (cV z hk)
theorem xy {q:Nat} (h:Nm q):Pm (q:Int):=⟨by have:=h.1;omega,λd d2 dq hd=>h.2 d.toNat (by omega) (by omega) (by
 obtain⟨c,hc⟩:=hd
 have:(d.toNat:Int)=d:=by omega
 exact Int.natCast_dvd_natCast.mp (by rw [this];exact⟨c,hc⟩))⟩
theorem qO {p:Int} (h:Pm p):Nm p.toNat:=⟨by have:=h.two;omega,λd d2 dp hd=>h.no d (by omega) (by omega) (by
 have:=Int.natCast_dvd_natCast.mpr hd
 rwa [show (p.toNat:Int)=p by have:=h.two;omega] at this)⟩
theorem rz {p q:Int} (hp:Pm p) (hq:Pm q):∀ k:Nat,q∣p^k->q=p
 | 0,h=>by
  rw [Int.pow_zero] at h
  have:=Int.le_of_dvd (by decide) h
  have:=hq.two
  omega
 | k+1,h=>by
  rw [Int.pow_succ] at h
  by_cases c:q∣p^k
  ·exact rz hp hq k c
  ·have d:=hq.or h c
   have l:=Int.le_of_dvd (by have:=hp.two;omega) d
   rcases (by omega:q<p∨q=p) with z | z
   ·exact absurd d (hp.no q hq.two z)
   ·exact z
theorem cY {q:Int} (hq:Pm q):∀{ps:List (Int × Int)},(∀ p∈ps,Pm p.1)->q∣bL ps->∃ p∈ps,p.1=q
 | [],_,h=>by
  have:=Int.le_of_dvd (by decide) (show q∣1 from h)
  have:=hq.two
  omega
 | a::r,hp,h=>by
  by_cases c:q∣a.1^a.2.toNat
  ·exact⟨a,by simp,(rz (hp a (by simp)) hq _ c).symm⟩
  ·obtain⟨p,h1,h2⟩:=cY hq (λp z=>hp p (List.mem_cons_of_mem _ z)) (hq.or h c)
   exact⟨p,List.mem_cons_of_mem _ h1,h2⟩
theorem rh {n a e:Int} {ps:List (Int × Int)} (h:Part e ps) (he:1<=e):(Al n (a^e.toNat) 1/\∀ q∈ps.map (·.1),¬Al n (a^(e/q).toNat) 1)↔Ord n a e.toNat:=by
 constructor
 ·rintro⟨h1,h2⟩
  refine vT (by omega) h1 λq hq hd=>?_
  have hd':(q:Int)∣e:=by
   have:=Int.natCast_dvd_natCast.mpr hd
   rwa [show (e.toNat:Int)=e by omega] at this
  obtain⟨p,hp,ep⟩:=cY (xy hq) (λp z=>(h.ok p z).1) (by rw [h.prod];exact hd')
  have:=h2 q (List.mem_map.mpr ⟨p,hp,ep⟩)
  rwa [show (e/(q:Int)).toNat=e.toNat/q by
   have:e/(q:Int)=((e.toNat/q:Nat):Int):=by rw [Int.natCast_ediv];congr 1;omega
   rw [this,Int.toNat_natCast]] at this
 ·intro h1
  refine⟨h1.one,λq hq=>?_⟩
  obtain⟨p,hp,rfl⟩:=List.mem_map.mp hq
  obtain⟨o1,o2,_⟩:=h.ok p hp
  have d:p.1∣e:=by rw [<- h.prod];exact cV hp o2
  have t:=o1.two
  have:=h1.zk (qO o1) (by
   have:(p.1.toNat:Int)∣(e.toNat:Int):=by rw [show (p.1.toNat:Int)=p.1 by omega,show (e.toNat:Int)=e by omega];exact d
   exact Int.natCast_dvd_natCast.mp this)
  rwa [show e.toNat/p.1.toNat=(e/p.1).toNat by
   have:e/p.1=((e.toNat/p.1.toNat:Nat):Int):=by rw [Int.natCast_ediv];congr 1<;>omega
   rw [this,Int.toNat_natCast]] at this
structure LF (p g:Int):Prop where
 one:1<=g
 lt:g<p
 ord:Ord p g (p-1).toNat
 no:∀ a:Int,1<=a->a<g->¬Ord p a (p-1).toNat
def rowsOf (ps:List (Int × Int)) (ds:Nat->PyData):List PyData:=(List.range ps.length).map λi=>.tuple [ds i,.int (ps.getD i (0,0)).2]
theorem bC {ps:List (Int × Int)} {ds:Nat->PyData}:(rowsOf ps ds).length=ps.length:=by unfold rowsOf;rw [List.length_map,List.length_range]
theorem iK {ps:List (Int × Int)} {ds:Nat->PyData} {i:Nat} {p:Int × Int} (h:ps[i]?=some p):(rowsOf ps ds)[i]?=some (.tuple [ds i,.int p.2]):=by
 have hi:=(List.getElem?_eq_some_iff.mp h).1
 unfold rowsOf
 rw [List.getElem?_map,List.getElem?_range hi]
 show some (PyData.tuple [ds i,.int (ps.getD i (0,0)).2])=_
 rw [List.getD_eq_getElem?_getD,h]
 rfl
inductive gG:Int->PyData->Prop
 | mk (p g:Int) (ps:List (Int × Int)) (ds:Nat->PyData):Pm p->p<=10^9->LF p g->Part (p-1) ps->ps.length<=29->(∀ i q k,ps[i]?=some (q,k)->gG q (ds i))->gG p (.tuple [.int p,.int g,.tuple (rowsOf ps ds)])
theorem gG.head {p:Int} {d:PyData} (h:gG p d):∃ g rows,d=.tuple [.int p,.int g,.tuple rows]:=by
 cases h
 exact⟨_,_,rfl⟩
def Ht:Nat->Int->Prop
 | 0,_=>False
 | L+1,n=>∀ q:Int,Pm q->q∣n-1->Ht L q
theorem uD:∀(L:Nat) (n:Int),Pm n->n<2^(L+2)->Ht (L+2) n
 | 0,n,h,hn=>by
  have h2:=h.two
  have hn':n<4:=hn
  intro q hq hd
  intro q' hq' hd'
  have q2:=hq.two
  have l:=Int.le_of_dvd (by rcases (by omega:n=2∨n=3) with z | z;exfalso;rw [z] at hd;have:=Int.le_of_dvd (by decide) hd;omega;omega) hd
  have qq:q=2:=by omega
  rw [qq] at hd'
  have:=Int.le_of_dvd (by decide) hd'
  have:=hq'.two
  omega
 | L+1,n,h,hn=>by
  intro q hq hd
  have q2:=hq.two
  have h2:=h.two
  refine uD L q hq ?_
  have e:(2:Int)^(L+1+2)=2^(L+2)*2:=by rw [<- Int.pow_succ]
  rw [e] at hn
  have four:(4:Int)<=2^(L+2):=by
   have:=bf (show (0:Int)<2 by decide) L
   have e4:(2:Int)^(L+2)=2^L*4:=by rw [Pw.pow_add];rfl
   omega
  obtain⟨c,hc⟩:=hd
  rcases (by omega:n<=3∨3<n) with z | z
  ·have:q<=n-1:=Int.le_of_dvd (by
    rcases (by omega:n=2∨n=3) with y | y
    ·exfalso
     rw [y] at hc
     have:=Int.le_of_dvd (by decide) (show q∣1 from ⟨c,hc⟩)
     omega
    ·omega) ⟨c,hc⟩
   omega
  ·rcases (by omega:n%2=0∨n%2=1) with y | y
   ·exact absurd (Int.dvd_of_emod_eq_zero y) (h.no 2 (by decide) (by omega))
   ·rcases (by omega:q=2∨2<q) with x | x
    ·omega
    ·have qo:q%2=1:=by
      rcases (by omega:q%2=1∨q%2=0) with w | w
      ·exact w
      ·exact absurd (Int.dvd_of_emod_eq_zero w) (hq.no 2 (by decide) x)
     have ce:c%2=0:=by
      rcases (by omega:c%2=0∨c%2=1) with w | w
      ·exact w
      ·exfalso
       have:(q*c)%2=1:=by rw [Int.mul_emod,qo,w];rfl
       omega
     have c2:2<=c:=by
      rcases (by omega:c<=0∨2<=c) with w | w
      ·have:=Int.mul_nonpos_of_nonneg_of_nonpos (show 0<=q by omega) w
       omega
      ·exact w
     have:=Int.mul_le_mul_of_nonneg_left c2 (show 0<=q by omega)
     omega
theorem vE {n:Int} (h:Pm n) (hn:n<=10^9):Ht 30 n:=uD 28 n h (by
 have:(2:Int)^(28+2)=1073741824:=by decide
 omega)
end Num
namespace L2
open PySem PySem.Spec PyProof.Rows
def zu:PyData->String
 | .none => "NoneType"
 | .bool _ => "bool"
 | .int _ => "int"
 | .str _ => "str"
 | .list _ => "list"
 | .tuple _ => "tuple"
 | .dict _ => "dict"
def zq:PyData->Bool
 | .int _=>true
 | _=>false
def yQ:PyData->Bool
 | .bool _=>true
 | _=>false
def zp:PyData->Bool
 | .list _=>true
 | _=>false
section
variable {X:Cx} {K:PySem.W.Frag}
def lI (K:PySem.W.Frag):List V->Hp->VK->Prop:=λxs H Q=>∃ d x n b,xs=[x,.ty n]/\dv K H d x/\PySem.W.kitOne K (.type (zu d)) (.type n)=some b/\Q (.bl b) H
theorem i7:b9 X (.builtin "isinstance") (lI X.K):=by
 intro pins s σ H xs us Q I r h
 obtain⟨d,x,n,b,rfl,hd,ek,q⟩:=h
 obtain⟨u,w',rfl,rx,rc⟩:=vals2 r
 have e:w'=.type n:=rc
 subst e
 have fin:∀ tk,∃ v' H',Inv X pins σ H' { s with toks:=tk }/\RelV v' (.bool b)/\Q v' H':=λtk=>⟨.bl b,H,I.tok _,rfl,q⟩
 cases d with
 | none=>cases hd;exact dX I rx eF.non ek fin
 | bool y=>cases hd;exact dX I rx (eF.bl _) ek fin
 | int y=>cases hd;exact dX I rx (eF.int _) ek fin
 | str y=>cases hd;exact dX I rx (eF.str _) ek fin
 | list ds =>
  obtain⟨p,ys,rfl,h,t⟩:=hd
  cases rx
  obtain⟨its,rr,pl,_⟩:=I.list h
  obtain⟨o,h1,h2,_⟩:=pl.isList
  exact PySem.W.kia_one PySem.W.kitx_list I.cH ⟨o,h1,h2⟩ ek (λz=>nomatch z) fin
 | tuple ds =>
  obtain⟨p,ys,rfl,h,t⟩:=hd
  cases rx
  obtain⟨its,rr,pl,_⟩:=I.tuple h
  obtain⟨o,h1,h2,_⟩:=pl
  exact PySem.W.kia_one PySem.W.kitx_tuple I.cH ⟨o,h1,h2⟩ ek (λz=>nomatch z) fin
 | dict _=>exact hd.elim
theorem tD {H:Hp} {d:PyData} {x:V} {Q:VK} (h:dv K H d x) (q:Q (.bl (zq d || yQ d)) H):lI K [x,.ty "int"] H Q:=by
 refine⟨d,x,"int",_,rfl,h,?_,q⟩
 cases d<;>first | exact h.elim | with_unfolding_all rfl
theorem qI {H:Hp} {d:PyData} {x:V} {Q:VK} (h:dv K H d x) (q:Q (.bl (yQ d)) H):lI K [x,.ty "bool"] H Q:=by
 refine⟨d,x,"bool",_,rfl,h,?_,q⟩
 cases d<;>first | exact h.elim | with_unfolding_all rfl
theorem tE {H:Hp} {d:PyData} {x:V} {Q:VK} (h:dv K H d x) (q:Q (.bl (zp d)) H):lI K [x,.ty "list"] H Q:=by
 refine⟨d,x,"list",_,rfl,h,?_,q⟩
 cases d<;>first | exact h.elim | with_unfolding_all rfl
end
def wW (i:Int) (n:Nat):List V:=(List.range n).map fun(k:Nat)=>V.int (i+(k:Int))
def zt (ta:TA):TE:=λσ H Q=>ta σ H λvs H1=>∃ i j:Int,vs=[.int i,.int j]/\(-(2^62)<=i/\i<2^62 /\ -(2^62)<=j/\j<2^62)/\j-i<=10^6/\∀ l,H1 l=none->Q (.ref l) (upd H1 l (.lst (wW i (j-i).toNat)))
variable {X:Cx}
section
variable {X:Cx} {K:PySem.W.Frag}
end
section
variable {κ:Type} [DecidableEq κ]
def cp (kvs:List (κ × V)) (k:κ):Option V:=(kvs.find? λkv=>decide (kv.1=k)).map (·.2)
def putK (kvs:List (κ × V)) (k:κ) (v:V):List (κ × V) :=
 if (kvs.any λkv=>decide (kv.1=k))=true then kvs.map (λkv=>if kv.1=k then (kv.1,v) else kv) else kvs++[(k,v)]
def qj (kvs:List (κ × V)) (k:κ):List (κ × V):=kvs.filter λkv=>decide (kv.1≠k)
theorem bE {p:κ × V} {r:List (κ × V)} {k:κ} (e:p.1=k):cp (p::r) k=some p.2:=by simp [cp,List.find?_cons,e]
theorem bD {p:κ × V} {r:List (κ × V)} {k:κ} (e:¬p.1=k):cp (p::r) k=cp r k:=by simp [cp,List.find?_cons,e]
theorem dU (k:κ):∀ kvs:List (κ × V),(kvs.any λkv=>decide (kv.1=k))=(cp kvs k).isSome
 | []=>rfl
 | p::r=>by
  rw [List.any_cons]
  by_cases e:p.1=k
  ·simp only [bE e,decide_eq_true e,Bool.true_or,Option.isSome_some]
  ·rw [bD e,decide_eq_false e,Bool.false_or];exact dU k r
theorem lS (k j:κ) (y:V):∀ kvs:List (κ × V),cp (kvs.map λkv=>if kv.1=k then (kv.1,y) else kv) j=(cp kvs j).map λx=>if j=k then y else x
 | []=>rfl
 | p::r=>by
  have ih:=lS k j y r
  rw [List.map_cons]
  by_cases h:p.1=k
  ·rw [if_pos h]
   by_cases e:p.1=j
   ·rw [bE (p:=(p.1,y)) e,bE e,Option.map_some,if_pos (e.symm.trans h)]
   ·rw [bD (p:=(p.1,y)) e,bD e,ih]
  ·rw [if_neg h]
   by_cases e:p.1=j
   ·rw [bE (p:=p) e,bE e,Option.map_some,if_neg (λz=>h (e.trans z))]
   ·rw [bD (p:=p) e,bD e,ih]
theorem jE (k j:κ) (y:V):∀ kvs:List (κ × V),cp kvs k=none->cp (kvs++[(k,y)]) j=if j=k then some y else cp kvs j
 | [],_=>by
  by_cases e:k=j
  ·rw [if_pos e.symm];exact bE (p:=(k,y)) e
  ·rw [if_neg (λz=>e z.symm)];exact bD (p:=(k,y)) e
 | p::r,hn=>by
  rw [List.cons_append]
  have hk:¬p.1=k:=λz=>by rw [bE z] at hn;cases hn
  rw [bD hk] at hn
  have ih:=jE k j y r hn
  by_cases e:p.1=j
  ·rw [bE e,bE e,if_neg (λz=>hk (e.trans z))]
  ·rw [bD e,bD e,ih]
theorem sg (kvs:List (κ × V)) (k j:κ) (y:V):cp (putK kvs k y) j=if j=k then some y else cp kvs j:=by
 unfold putK
 by_cases a:(kvs.any λkv=>decide (kv.1=k))=true
 ·rw [if_pos a,lS]
  rw [dU] at a
  by_cases e:j=k
  ·obtain⟨x,hx⟩:=Option.isSome_iff_exists.mp a
   rw [if_pos e,e,hx,Option.map_some,if_pos rfl]
  ·rw [if_neg e]
   cases cp kvs j with
   | none=>rfl
   | some x=>rw [Option.map_some,if_neg e]
 ·rw [if_neg a]
  refine jE k j y kvs ?_
  rw [dU] at a
  cases q:cp kvs k with
  | none=>rfl
  | some x=>rw [q] at a;exact (a rfl).elim
theorem cJ (kvs:List (κ × V)) (k:κ) (v:V):(putK kvs k v).length<=kvs.length+1:=by
 unfold putK
 split
 ·rw [List.length_map];omega
 ·rw [List.length_append,List.length_cons,List.length_nil];omega
theorem lD {kvs:List (κ × V)} {k:κ} (v:V) (h:cp kvs k=none):putK kvs k v=kvs++[(k,v)]:=by
 unfold putK
 rw [dU,h]
 exact if_neg (by decide)
theorem dD.oR {o:Option V} {u:Option Value} (r:dD o u):o.isSome=u.isSome:=by
 cases o with
 | none=>cases u with
  | none=>rfl
  | some _=>exact (show False from r).elim
 | some _=>cases u with
  | none=>exact (show False from r).elim
  | some _=>rfl
theorem dD.getD {o:Option V} {u:Option Value} {d:V} {d':Value} (r:dD o u) (rd:RelV d d'):RelV (o.getD d) (u.getD d'):=by
 cases o with
 | none=>cases u with
  | none=>exact rd
  | some _=>exact (show False from r).elim
 | some _=>cases u with
  | none=>exact (show False from r).elim
  | some _=>exact r
theorem KV.val {kvs:List (κ × V)} {vs:List (κ × Value)} (r:KV kvs vs) (k:κ):dD (cp kvs k) (valueAt vs k):=by
 unfold KV at r
 induction r with
 | nil=>exact True.intro
 | @cons p q ps qs h t ih =>
  obtain⟨h1,h2⟩:=h
  by_cases e:p.1=k
  ·have e':q.1=k:=h1.symm.trans e
   have b:valueAt (q::qs) k=some q.2:=by simp [valueAt,List.find?_cons,e']
   rw [bE e,b];exact h2
  ·have e':¬q.1=k:=λz=>e (h1.trans z)
   have b:valueAt (q::qs) k=valueAt qs k:=by simp [valueAt,List.find?_cons,e']
   rw [bD e,b];exact ih
theorem KV.any {kvs:List (κ × V)} {vs:List (κ × Value)} (r:KV kvs vs) (k:κ):(kvs.any λkv=>decide (kv.1=k))=vs.any λkv=>decide (kv.1=k):=by
 unfold KV at r
 induction r with
 | nil=>rfl
 | cons h t ih=>rw [List.any_cons,List.any_cons,ih,h.1]
theorem KV.wb {kvs:List (κ × V)} {vs:List (κ × Value)} (r:KV kvs vs) (k:κ) {y:V} {u:Value} (ry:RelV y u) :
  KV (kvs.map λkv=>if kv.1=k then (kv.1,y) else kv) (vs.map λkv=>if kv.1=k then (kv.1,u) else kv):=by
 unfold KV at r ⊢
 induction r with
 | nil=>exact .nil
 | @cons p q ps qs h t ih =>
  rw [List.map_cons,List.map_cons]
  refine .cons ?_ ih
  obtain⟨h1,h2⟩:=h
  by_cases e:p.1=k
  ·rw [if_pos e,if_pos (h1.symm.trans e)];exact⟨h1,ry⟩
  ·rw [if_neg e,if_neg (λz=>e (h1.trans z))];exact⟨h1,h2⟩
theorem KV.put {kvs:List (κ × V)} {vs:List (κ × Value)} (r:KV kvs vs) (k:κ) {y:V} {u:Value} (ry:RelV y u):KV (putK kvs k y) (stored vs k u):=by
 unfold putK stored
 rw [r.any k]
 by_cases e:(vs.any λkv=>decide (kv.1=k))=true
 ·rw [if_pos e,if_pos e];exact r.wb k ry
 ·rw [if_neg e,if_neg e];exact Paired.snoc r ⟨rfl,ry⟩
theorem KV.drop {kvs:List (κ × V)} {vs:List (κ × Value)} (r:KV kvs vs) (k:κ):KV (qj kvs k) (without vs k):=by
 unfold KV at r ⊢
 unfold qj without
 induction r with
 | nil=>exact .nil
 | @cons p q ps qs h t ih =>
  obtain⟨h1,h2⟩:=h
  rw [List.filter_cons,List.filter_cons]
  by_cases e:p.1=k
  ·have a:¬decide (p.1≠k)=true:=by simp [e]
   have b:¬decide (q.1≠k)=true:=by simp [h1.symm.trans e]
   rw [if_neg a,if_neg b];exact ih
  ·have e':¬q.1=k:=λz=>e (h1.trans z)
   have a:decide (p.1≠k)=true:=by simp [e]
   have b:decide (q.1≠k)=true:=by simp [e']
   rw [if_pos a,if_pos b];exact .cons ⟨h1,h2⟩ ih
theorem KV.keys {kvs:List (κ × V)} {vs:List (κ × Value)} (r:KV kvs vs):kvs.map (·.1)=vs.map (·.1):=by
 unfold KV at r
 induction r with
 | nil=>rfl
 | cons h t ih=>rw [List.map_cons,List.map_cons,ih,h.1]
theorem KV.length {kvs:List (κ × V)} {vs:List (κ × Value)} (r:KV kvs vs):kvs.length=vs.length:=Paired.length r
end
theorem je {P:Program} {w:World} {k:Key} {u:Value} (r:RelV (kV k) u):(aL P w).is k u=true:=by
 cases k with
 | inl i=>obtain⟨t,e⟩:=(show ∃ t,u=Value.int i t from r);subst e;exact lb P w i t
 | inr x=>obtain⟨t,e⟩:=(show ∃ t,u=Value.str x t from r);subst e;exact lg P w x t
theorem jc {P:Program} {w:World}:∀{ks:List Key} {us:List Value},Vals (ks.map kV) us->ItemsAre (aL P w) ks us
 | [],_,r=>by rw [List.map_nil] at r;cases r;exact .nil
 | k::ks,_,r=>by
  rw [List.map_cons] at r
  cases r with
  | cons h t=>exact .cons (je h) (jc t)
abbrev KT (H:Hp):List (List Key × V)->List (List Key × Addr × Value)->Prop:=Paired λp q=>p.1=q.1/\H q.2.1=some (.tup (p.1.map kV))/\RelV p.2 q.2.2
theorem KT.val {H:Hp} {kvs:List (List Key × V)} {xs:List (List Key × Addr × Value)} (r:KT H kvs xs) (k:List Key):dD (cp kvs k) ((atKey xs k).map (·.2)):=by
 induction r with
 | nil=>exact True.intro
 | @cons p q ps qs h t ih =>
  obtain⟨h1,_,h2⟩:=h
  by_cases e:p.1=k
  ·have e':q.1=k:=h1.symm.trans e
   have b:atKey (q::qs) k=some q.2:=by simp [atKey,List.find?_cons,e']
   rw [bE e,b];exact h2
  ·have e':¬q.1=k:=λz=>e (h1.trans z)
   have b:atKey (q::qs) k=atKey qs k:=by simp [atKey,List.find?_cons,e']
   rw [bD e,b];exact ih
theorem KT.wb {H:Hp} {kvs:List (List Key × V)} {xs:List (List Key × Addr × Value)} (r:KT H kvs xs) (k:List Key) {y:V} {u:Value} (ry:RelV y u) :
  KT H (kvs.map λkv=>if kv.1=k then (kv.1,y) else kv) (xs.map (putAt k u)):=by
 induction r with
 | nil=>exact .nil
 | @cons p q ps qs h t ih =>
  rw [List.map_cons,List.map_cons]
  refine .cons ?_ ih
  obtain⟨h1,h2,h3⟩:=h
  unfold putAt
  by_cases e:p.1=k
  ·rw [if_pos e,if_pos (h1.symm.trans e)];exact⟨h1,h2,ry⟩
  ·rw [if_neg e,if_neg (λz=>e (h1.trans z))];exact⟨h1,h2,h3⟩
theorem KT.put {H:Hp} {kvs:List (List Key × V)} {xs:List (List Key × Addr × Value)} (r:KT H kvs xs) (k:List Key) {b:Addr} {y:V} {u:Value} (hb:H b=some (.tup (k.map kV))) (ry:RelV y u) :
  KT H (putK kvs k y) (storedH xs k b u):=by
 have e:(kvs.any λkv=>decide (kv.1=k))=(atKey xs k).isSome:=by
  rw [dU,(r.val k).oR,Option.isSome_map]
 unfold putK storedH
 rw [e]
 by_cases q:(atKey xs k).isSome=true
 ·rw [if_pos q,if_pos q];exact r.wb k ry
 ·rw [if_neg q,if_neg q];exact Paired.snoc r ⟨rfl,hb,ry⟩
theorem KT.keeps {H H':Hp} {kvs:List (List Key × V)} {xs:List (List Key × Addr × Value)} (r:KT H kvs xs) (ht:∀ b ys,H b=some (.tup ys)->H' b=some (.tup ys)):KT H' kvs xs :=
 Paired.vM r λ_ _ z=>⟨z.1,ht _ _ z.2.1,z.2.2⟩
section
variable {P:Program} {w:World} {H:Hp} {h:Heap} {a:Addr}
theorem uT {u:HO} (ok:dw P w H h) (e:Rd H a u):aN P w H h a u:=e.ok ok
theorem i8 {kvs:List (Key × V)} (ok:dw P w H h) (e:Rd H a (.dK kvs)):kvs.length<=sizeLine/\(a==sysModules)=false/\∃ vs,KV kvs vs/\h.DictOf (aL P w) a vs :=
 show aN P w H h a (.dK kvs) from uT ok e
theorem gU {kvs:List (Key × V)} (ok:dw P w H h) (e:H a=some (.dK kvs)):kvs.length<=sizeLine/\(a==sysModules)=false/\∃ vs,KV kvs vs/\h.DictOf (aL P w) a vs:=i8 ok (.inl e)
theorem jV {ks:List Key} (ok:dw P w H h) (e:H a=some (.tup (ks.map kV))):(tupleKind (aL P w)).is h ks a:=by
 obtain⟨_,its,r,o,h1,h2,n,h3⟩:=(show aN P w H h a (.tup (ks.map kV)) from ok a _ e)
 exact⟨o,its.toArray,n,h1,h2,h3,by simpa using jc r⟩
theorem kM {kvs:List (List Key × V)} (ok:dw P w H h) (e:Rd H a (.dT kvs)):kvs.length<=sizeLine/\(a==sysModules)=false /\
  ∃ xs,KT H kvs xs/\h.DictOfH (tupleKind (aL P w)) a xs:=by
 obtain⟨z,y,xs,r,o,es,ep,h1,h2,h3,h4,h5⟩:=(show aN P w H h a (.dT kvs) from uT ok e)
 refine⟨z,y,xs,r,o,es,ep,h1,h2,h3,h4,λx hx=>?_,h5⟩
 have all:∀{l:List (List Key × V)} {m:List (List Key × Addr × Value)},KT H l m->∀ x∈m,(tupleKind (aL P w)).is h x.1 x.2.1:=by
  intro l m q
  induction q with
  | nil=>intro x hx;exact nomatch hx
  | @cons p q ps qs hq t ih =>
   intro x hx
   rcases List.mem_cons.mp hx with e | hx
   ·subst e
    exact jV ok (by rw [<- hq.1];exact hq.2.1)
   ·exact ih x hx
 exact all r x hx
theorem wU {kvs:List (List Key × V)} (ok:dw P w H h) (e:H a=some (.dT kvs)):kvs.length<=sizeLine/\(a==sysModules)=false /\
  ∃ xs,KT H kvs xs/\h.DictOfH (tupleKind (aL P w)) a xs:=kM ok (.inl e)
end
def fg (H:Hp) (a:Addr) (y:V) (r:Option V):Prop :=
 (∃ kvs k,Rd H a (.dK kvs)/\y=kV k/\r=cp kvs k)∨∃ kvs k b,Rd H a (.dT kvs)/\y=.ref b/\H b=some (.tup (k.map kV))/\r=cp kvs k
def lT (H:Hp) (a:Addr) (y v:V) (H':Hp):Prop :=
 (∃ kvs k,H a=some (.dK kvs)/\y=kV k/\kvs.length<sizeLine/\H'=upd H a (.dK (putK kvs k v))) ∨
 ∃ kvs k b,H a=some (.dT kvs)/\y=.ref b/\H b=some (.tup (k.map kV))/\kvs.length<sizeLine/\H'=upd H a (.dT (putK kvs k v))
theorem fg.k {H:Hp} {a:Addr} {kvs:List (Key × V)} {k:Key} (e:H a=some (.dK kvs)):fg H a (kV k) (cp kvs k):=.inl ⟨kvs,k,.inl e,rfl,rfl⟩
theorem fg.t {H:Hp} {a b:Addr} {kvs:List (List Key × V)} {k:List Key} (e:H a=some (.dT kvs)) (eb:H b=some (.tup (k.map kV))):fg H a (.ref b) (cp kvs k):=.inr ⟨kvs,k,b,.inl e,rfl,eb,rfl⟩
theorem lT.k {H:Hp} {a:Addr} {kvs:List (Key × V)} {k:Key} {v:V} (e:H a=some (.dK kvs)) (hl:kvs.length<sizeLine):lT H a (kV k) v (upd H a (.dK (putK kvs k v))):=.inl ⟨kvs,k,e,rfl,hl,rfl⟩
theorem lT.t {H:Hp} {a b:Addr} {kvs:List (List Key × V)} {k:List Key} {v:V} (e:H a=some (.dT kvs)) (eb:H b=some (.tup (k.map kV))) (hl:kvs.length<sizeLine) :
  lT H a (.ref b) v (upd H a (.dT (putK kvs k v))):=.inr ⟨kvs,k,b,e,rfl,eb,hl,rfl⟩
section
variable {X:Cx} {pins:List (Addr × Obj)} {σ:St} {H:Hp} {s:Shared} {a:Addr} {y v:V} {u r:Value} {o:Option V} {A:Around} {E:Value->Shared->Prop}
theorem Inv.big (I:Inv X pins σ H s):sysModules<s.heap.objs.size:=by
 have h:mainGlobals<s.heap.objs.size:=(I.mod.glob.keeps I.bk).lt
 exact Nat.lt_trans (by decide) h
theorem oA {Q:Value->Shared->Prop} (hu:A.units+1<cLine) (I:Inv X pins σ H s) (g:fg H a y (some v)) (ry:RelV y u) (h:∀ w' s',Inv X pins σ H s'->RelV v w'->Q w' s') :
  wpAny (model X.prog X.w) A (getItem (.ref a) u) Q E s:=by
 rcases g with⟨kvs,k,e,ey,l⟩|⟨kvs,k,b,e,ey,eb,l⟩
 ·subst ey
  obtain⟨z,hd,vs,rel,dd⟩:=i8 I.hok e
  obtain⟨w',hw,rw'⟩:=dD.some_of (v:=v) (o:=valueAt vs k) (by rw [l];exact rel.val k)
  exact wpAny_getItem_of (je ry) dd.mapOf hw (h w' _ (I.tok _) rw')
 ·subst ey
  cases (show u=Value.ref b from ry)
  obtain⟨z,hd,xs,rel,dd⟩:=kM I.hok e
  obtain⟨w',hw,rw'⟩:=dD.some_of (v:=v) (o:=(atKey xs k).map (·.2)) (by rw [l];exact rel.val k)
  obtain⟨p,hp,hp2⟩:=Option.map_eq_some_iff.mp hw
  refine wpAny_getItem_heap (tupleKind_room_in1 hu) (jV I.hok eb) dd hp ?_
  rw [hp2]
  exact h w' _ (I.tok _) rw'
theorem gJ {h':Heap} {t':Nat} {ob:HO} (I:Inv X pins σ H s) (mu:wI (H a)) (hs:Heap.SameBut a s.heap h') (he:∃ q,h'.get? a=some q) (new:aN X.prog X.w (upd H a ob) h' a ob) :
  Inv X pins σ (upd H a ob) { s with heap:=h',toks:=t' } :=
 I.write (x:=a) (e:=a) mu (.inl rfl) (λb q hb z=>(hs.2 b hb).trans z) he new
theorem l7 {P:Program} {w:World} {H':Hp} {h':Heap} {kvs:List (Key × V)} {vs:List (Key × Value)} (z:kvs.length<=sizeLine) (hd:(a==sysModules)=false) (rel:KV kvs vs) (dd:h'.DictOf (aL P w) a vs) :
  aN P w H' h' a (.dK kvs):=⟨z,hd,vs,rel,dd⟩
theorem oB {H':Hp} {Q:Unit->Shared->Prop} (hu:A.units+1<cLine) (I:Inv X pins σ H s) (g:lT H a y v H') (ry:RelV y u) (rv:RelV v r) (h:∀ s',Inv X pins σ H' s'->Q () s') :
  wpAny (model X.prog X.w) A (setItem (.ref a) u r) Q E s:=by
 rcases g with⟨kvs,k,e,ey,l,eH⟩|⟨kvs,k,b,e,ey,eb,l,eH⟩
 ·subst ey eH
  obtain⟨z,hd,vs,rel,dd⟩:=gU I.hok e
  have hz:vs.length<=sizeLine:=by rw [<- rel.length];exact z
  have hl:(putK kvs k v).length<=sizeLine:=by have:=cJ kvs k v;omega
  refine wpAny_setItem_pairs (hsz:=hz) (je ry) dd λh' dd' hs=>h _ ?_
  have he:∃ q,h'.get? a=some q:=let ⟨q,_,_,hq,_⟩:=dd';⟨q,hq⟩
  exact gJ I (by rw [e];exact True.intro) hs he (l7 hl hd (rel.put k rv) dd')
 ·subst ey eH
  cases (show u=Value.ref b from ry)
  obtain⟨z,hd,xs,rel,dd⟩:=wU I.hok e
  have hz:xs.length<=sizeLine:=by rw [<- Paired.length rel];exact z
  have hl:(putK kvs k v).length<=sizeLine:=by have:=cJ kvs k v;omega
  refine wpAny_setItem_heap (hsz:=hz) (tupleKind_room_in1 hu) (jV I.hok eb) dd λh' dd' hs=>h _ ?_
  obtain⟨q,es,ep,hq,h2,h3,h4,_,h5⟩:=dd'
  refine gJ I (by rw [e];exact True.intro) hs ⟨q,hq⟩ ⟨hl,hd,_,(rel.put k eb rv).keeps λc ys ec=>?_,q,es,ep,hq,h2,h3,h4,h5⟩
  rw [ak (xq ec e (λz=>nomatch z))]
  exact ec
end
section
variable {X:Cx} {pins:List (Addr × Obj)} {σ:St} {H:Hp} {s:Shared} {a:Addr} {kvs:List (Key × V)} {k:Key} {u:Value} {A:Around} {E:Value->Shared->Prop}
theorem wQ {Q:Value->Shared->Prop} (I:Inv X pins σ H s) (e:Rd H a (.dK kvs)) (h:∀ t s',Inv X pins σ H s'->Q (.int kvs.length t) s'):wpAny (model X.prog X.w) A (call (.builtin "len") [.ref a]) Q E s:=by
 obtain⟨z,hd,vs,rel,dd⟩:=i8 I.hok e
 refine call_len_dict hd dd (by rw [<- rel.length];rw [sizeLine_eq] at z;omega) ?_
 rw [<- rel.length]
 exact h _ _ (I.tok _)
end
def wJ (i:Expr):Prop:=∀ ov iv,subscripted i false ov iv=operate [ov,iv] (getItem ov iv)
theorem uh {prog:Program} {w:World} {A:Around} {E:Value->Shared->Prop} {s:Shared} {env:Env} {value slice:Expr} {pos:Pos} {T id:String} {Q:Value->Shared->Prop}
  (hl:typeLookup (.type T) "__getitem__"=pure (some (.builtin id))) (hs:wJ slice)
  (h:wpAny (model prog w) A (eval value env) (λo s₁=>wpAny (model prog w) A (eval slice env) (λi s₂=>s₂.TypeIs o T/\wpAny (model prog w) A (getItem o i) Q E s₂) E s₁) E s) :
  wpAny (model prog w) A (eval (.Subscript value slice pos) env) Q E s:=by
 refine Subscript_ (wpAny_mono h (λo s₁ h₁=>wpAny_mono h₁ (λi s₂ h₂=>?_) λ_ _ x=>x) λ_ _ x=>x)
 obtain⟨hT,h₂⟩:=h₂
 unfold subscriptTail
 refine wpAny_bind ?_
 rw [getitemInPython_of_ne hT.not_modules]
 refine wpAny_bind (wpAny_specialOf hT hl ?_)
 have fin:wpAny (model prog w) A (subscripted slice false o i) (λr s₃=>wpAny (model prog w) A (letTemporaryGo value o r >>= λ_=>pure r) Q E s₃) E s₂:=by
  rw [hs o i]
  exact wpAny_operating (wpAny_mono h₂ (λr s₃ h₃=>wpAny_bind (wpAny_letTemporaryGo (wpAny_pure h₃))) λ_ _ x=>x)
 first
  | exact wpAny_pure (wpAny_bind fin)
  | exact wpAny_bind (wpAny_pure (wpAny_bind fin))
  | exact wpAny_bind fin
theorem kL {X:Cx} {pins:List (Addr × Obj)} {σ:St} {H:Hp} {s:Shared} {a:Addr} {y:V} {o:Option V} (I:Inv X pins σ H s) (g:fg H a y o):s.TypeIs (.ref a) "dict":=by
 rcases g with⟨kvs,k,e,_,_⟩|⟨kvs,k,b,e,_,_,_⟩
 ·obtain⟨_,_,vs,_,dd⟩:=i8 I.hok e
  exact dd.typeIs
 ·obtain⟨_,_,xs,_,dd⟩:=kM I.hok e
  exact dd.typeIs
def uY (td ty:TE):TE:=λσ H Q=>td σ H λx H1=>ty σ H1 λy H2=>∃ a v,x=.ref a/\fg H2 a y (some v)/\Q v H2
def yC (ty td:TE):TE:=λσ H Q=>ty σ H λy H1=>td σ H1 λx H2=>∃ a o,x=.ref a/\fg H2 a y o/\Q (.bl o.isSome) H2
def ui (ty td:TE):TE:=λσ H Q=>ty σ H λy H1=>td σ H1 λx H2=>∃ a o,x=.ref a/\fg H2 a y o/\Q (.bl (!o.isSome)) H2
def uU (td ty tv:TE):TS:=λD σ H=>tv σ H λv H1=>td σ H1 λx H2=>ty σ H2 λy H3=>∃ a H4,x=.ref a/\lT H3 a y v H4/\D.nx σ H4
section
variable {X:Cx} {o i e value:Expr} {pos pos' tpos:Pos} {td ty tv:TE}
theorem fI (hu:X.A.units+1<cLine) (ho:PE X o td) (hi:PE X i ty) (hs:wJ i):PE X (.Subscript o i pos) (uY td ty):=by
 intro pins s σ H Q I h
 refine uh PySem.F.slot_dict_getitem.lookup hs (a5 (ho pins s σ H _ I h) λu s1 ⟨x,H1,I1,rx,q1⟩=>a5 (hi pins s1 σ H1 _ I1 q1) λiv s2 ⟨y,H2,I2,ry,a,v,ex,g,q2⟩=>?_)
 subst ex
 obtain rfl:u=Value.ref a:=rx
 exact⟨kL I2 g,oA hu I2 g ry λw' s3 I3 rw'=>⟨v,H2,I3,rw',q2⟩⟩
theorem j6 (hu:X.A.units+1<cLine) (ho:PE X o td) (hi:PE X i ty) (hv:PE X value tv) (hs:swapsWith value (some (.Subscript o i pos')) pos.line X.env=pure false) :
  PS X (.Assign [.Subscript o i pos'] value pos) (uU td ty tv):=by
 intro pins s σ H D I h
 refine wpAny_Assign_Subscript (a5 (hv pins s σ H _ I h) λr s1 ⟨v,H1,I1,rv,q1⟩=>a5 (ho pins s1 σ H1 _ I1 q1) λu s2 ⟨x,H2,I2,rx,q2⟩=>a5 (hi pins s2 σ H2 _ I2 q2) λiv s3 ⟨y,H3,I3,ry,a,H4,ex,g,q3⟩=>?_) hs
 subst ex
 obtain rfl:u=Value.ref a:=rx
 exact oB hu I3 g ry rv λs4 I4=>⟨σ,H4,I4,q3⟩
end
theorem qi {P:Program} {w:World} {H:Hp} (h:Heap) (hb:sysModules<h.objs.size):aN P w H (h.push { cls:=.type "dict",data:=.dict #[] }) h.objs.size (.dK []) :=
 ⟨Nat.zero_le _,beq_eq_false_iff_ne.mpr (Ne.symm (Nat.ne_of_lt hb)),[],.nil,Heap.DictOf.new h⟩
def wj:TE:=λ_ H Q=>∀ p,H p=none->Q (.ref p) (upd H p (.dK []))
def wm:TE:=λ_ H Q=>∀ p,H p=none->Q (.ref p) (upd H p (.dT []))
section
variable {X:Cx} {pos:Pos}
end
def ku:List (TE × TE)->St->Hp->(List (V × V)->Hp->Prop)->Prop
 | [],_,H,Q=>Q [] H
 | (tk,tv)::r,σ,H,Q=>tk σ H λx H1=>tv σ H1 λy H2=>ku r σ H2 λps H3=>Q ((x,y)::ps) H3
abbrev VV:List (V × V)->List (Value × Value)->Prop:=Paired λp q=>RelV p.1 q.1/\RelV p.2 q.2
def x6 (X:Cx) (pos:Pos) (keys:List (Option Expr)) (values:List Expr) (trs:List (TE × TE)):Prop :=
 ∀(pins:List (Addr × Obj)) (s:Shared) (σ:St) (H:Hp) (Q:List (V × V)->Hp->Prop),Inv X pins σ H s->ku trs σ H Q ->
  wpAny (model X.prog X.w) X.A (evalPairs (pairTrees keys values X.env pos)) (λvs s'=>∃ ps H',Inv X pins σ H' s'/\VV ps vs/\Q ps H') X.xe s
theorem nI {X:Cx} {pos:Pos}:x6 X pos [] [] []:=λpins s σ H Q I h=>pairTrees_nil_walk ⟨[],H,I,.nil,h⟩
theorem fK {X:Cx} {pos:Pos} {k v:Expr} {ks:List (Option Expr)} {vs:List Expr} {tk tv:TE} {trs:List (TE × TE)} (hk:PE X k tk) (hv:PE X v tv) (hr:x6 X pos ks vs trs) :
  x6 X pos (some k::ks) (v::vs) ((tk,tv)::trs):=λpins s σ H Q I h =>
 pairTrees_cons_walk (a5 (hk pins s σ H _ I h) λu s1 ⟨x,H1,I1,rx,q1⟩=>a5 (hv pins s1 σ H1 _ I1 q1) λw2 s2 ⟨y,H2,I2,ry,q2⟩ =>
  a5 (hr pins s2 σ H2 _ I2 q2) λws s3 ⟨ps,H3,I3,rel,q3⟩=>⟨(x,y)::ps,H3,I3,.cons ⟨rx,ry⟩ rel,q3⟩)
def ie (kvs more:List (Key × V)):List (Key × V):=more.foldl (λacc kv=>putK acc kv.1 kv.2) kvs
theorem KV.merge:∀{more:List (Key × V)} {rs:List (Key × Value)} {kvs:List (Key × V)} {vs:List (Key × Value)},KV more rs->KV kvs vs->KV (ie kvs more) (merged vs rs):=by
 intro more rs kvs vs r
 unfold KV at r
 induction r generalizing kvs vs with
 | nil=>intro q;exact q
 | @cons p q ps qs h t ih =>
  intro r0
  have e:KV (putK kvs p.1 p.2) (stored vs q.1 q.2):=by
   have:=r0.put p.1 h.2
   rw [<- h.1];exact this
  exact ih e
theorem eK:∀(more kvs:List (Key × V)),(ie kvs more).length<=kvs.length+more.length
 | [],kvs=>by show kvs.length<=kvs.length+0;omega
 | p::r,kvs=>by
  have h1:=eK r (putK kvs p.1 p.2)
  have h2:=cJ kvs p.1 p.2
  show (ie (putK kvs p.1 p.2) r).length<=_
  rw [List.length_cons];omega
theorem gT {P:Program} {w:World}:∀{kvs:List (Key × V)} {ws:List (Value × Value)},VV (kvs.map λkv=>(kV kv.1,kv.2)) ws->∃ rs,Carries (aL P w) ws rs/\KV kvs rs
 | [],_,r=>by rw [List.map_nil] at r;cases r;exact⟨[],True.intro,.nil⟩
 | p::kvs,_,r=>by
  rw [List.map_cons] at r
  cases r with
  | @cons a b as bs h t =>
   obtain⟨rs,c,q⟩:=gT (P:=P) (w:=w) t
   obtain⟨b1,b2⟩:=b
   exact⟨(p.1,b2)::rs,⟨je h.1,rfl,c⟩,.cons ⟨rfl,h.2⟩ q⟩
def uZ (trs:List (TE × TE)):TE:=λσ H Q=>∀ p,H p=none->ku trs σ (upd H p (.dK [])) λps H2=>H2 p=some (.dK [])/\∃ kvs:List (Key × V),ps=kvs.map (λkv=>(kV kv.1,kv.2))/\kvs.length<=15/\Q (.ref p) (upd H2 p (.dK (ie [] kvs)))
theorem nF {X:Cx} {pos:Pos} {keys:List (Option Expr)} {values:List Expr} {trs:List (TE × TE)} (h:x6 X pos keys values trs) (hall:keys.all (·.isSome)=true) (hl:keys.length=values.length) (h0:keys≠[])
  (h15:keys.length<=15):PE X (.Dict keys values pos) (uZ trs):=by
 intro pins s σ H Q I q
 have hn:=I.hok.fresh (Nat.le_refl s.heap.objs.size)
 have I1:=I.laid (a:=s.heap.objs.size) (o:=.dK []) (h':=s.heap.push { cls:=.type "dict",data:=.dict #[] }) (t':=s.toks) (λ_ _ q=>Heap.get?_push_of_some _ q) (Nat.le_refl _) (qi s.heap I.big)
 refine wpAny_Dict_walk (knd:=aL X.prog X.w) hall hl h0 h15 (a5 (h pins _ σ _ _ I1 (q _ hn)) λws s2 ⟨ps,H2,I2,rel,e,kvs,ep,lk,q2⟩=>?_)
 subst ep
 obtain⟨rs,c,rk⟩:=gT (P:=X.prog) (w:=X.w) rel
 obtain⟨z,hd,vs0,r0,dd⟩:=gU I2.hok e
 cases r0
 refine⟨rs,c,dd,λh' dd' hs=>⟨.ref s.heap.objs.size,_,?_,rfl,q2⟩⟩
 have hz:(ie [] kvs).length<=sizeLine:=by
  have h1:=eK kvs []
  rw [List.length_nil] at h1
  rw [sizeLine_eq];omega
 have he:∃ q,h'.get? s.heap.objs.size=some q:=let ⟨q,_,_,hq,_⟩:=dd';⟨q,hq⟩
 exact gJ I2 (by rw [e];exact True.intro) hs he (l7 hz hd (rk.merge .nil) dd')
structure M1 (X:Cx) (o:Expr) (m:Str) (apos:Pos) (e:Expr) (cpos:Pos):Prop where
 base:attributeBase o m X.env (eval o X.env)=eval o X.env
 yn:((backTo cpos (starEach [e] X.env)).all (λx=>!x.1) && (backToKw cpos (keywordEach [] X.env)).all (λx=>x.1.isSome)
  && decide (([e]:List Expr).length+([]:List Keyword).length+(if ([]:List Keyword).isEmpty then 0 else 1)<30))=true
 line:(apos.endLine==cpos.line)=true
 trees:backTo cpos (starEach [e] X.env)=[(false,eval e X.env)]
structure M2 (X:Cx) (o:Expr) (m:Str) (apos:Pos) (e f:Expr) (cpos:Pos):Prop where
 base:attributeBase o m X.env (eval o X.env)=eval o X.env
 yn:((backTo cpos (starEach [e,f] X.env)).all (λx=>!x.1) && (backToKw cpos (keywordEach [] X.env)).all (λx=>x.1.isSome)
  && decide (([e,f]:List Expr).length+([]:List Keyword).length+(if ([]:List Keyword).isEmpty then 0 else 1)<30))=true
 line:(apos.endLine==cpos.line)=true
 trees:backTo cpos (starEach [e,f] X.env)=[(false,eval e X.env),(false,eval f X.env)]
def yd (H:Hp) (a:Addr):Prop:=(∃ kvs,Rd H a (.dK kvs))∨∃ kvs,Rd H a (.dT kvs)
theorem vG {X:Cx} {pins:List (Addr × Obj)} {σ:St} {H:Hp} {s:Shared} {a:Addr} (I:Inv X pins σ H s) (d:yd H a) :
  s.TypeIs (.ref a) "dict"/\(∀ b,Value.ref a=.ref b->∃ ob,s.heap.get? b=some ob/\ob.dict=none)/\(a==sysModules)=false:=by
 rcases d with⟨kvs,e⟩|⟨kvs,e⟩
 ·obtain⟨_,hd,vs,_,dd⟩:=i8 I.hok e
  refine⟨dd.typeIs,λb q=>?_,hd⟩
  cases q
  obtain⟨ob,_,_,h1,h2,_⟩:=dd
  exact⟨ob,h1,h2.2.1⟩
 ·obtain⟨_,hd,xs,_,dd⟩:=kM I.hok e
  refine⟨dd.typeIs,λb q=>?_,hd⟩
  cases q
  obtain⟨ob,_,_,h1,h2,_⟩:=dd
  exact⟨ob,h1,h2.2.1⟩
section
variable {X:Cx} {pins:List (Addr × Obj)} {σ:St} {H:Hp} {s:Shared} {a:Addr} {y d:V} {u r:Value} {o:Option V} {A:Around} {E:Value->Shared->Prop}
theorem vA {Q:Value->Shared->Prop} (hu:A.units+1<cLine) (I:Inv X pins σ H s) (g:fg H a y o) (ry:RelV y u) (h:∀ w' s',Inv X pins σ H s'->RelV (o.getD .non) w'->Q w' s') :
  wpAny (model X.prog X.w) A (call (.builtin "dict.get") [.ref a,u]) Q E s:=by
 rcases g with⟨kvs,k,e,ey,l⟩|⟨kvs,k,b,e,ey,eb,l⟩
 ·subst ey
  obtain⟨z,hd,vs,rel,dd⟩:=i8 I.hok e
  refine call_meetsIn PySem.F.slot_dict_get dd.typeIs PySem.F.entry_dict_get (PySem.F.args_dict_get_2 _ _) (meets_dict_get (aL X.prog X.w) a (je ry) hd) ⟨_,dd.mapOf,h _ _ (I.tok _) ?_⟩
  rw [l]
  exact (rel.val k).getD rfl
 ·subst ey
  cases (show u=Value.ref b from ry)
  obtain⟨z,hd,xs,rel,dd⟩:=kM I.hok e
  refine call_meetsIn PySem.F.slot_dict_get dd.typeIs PySem.F.entry_dict_get (PySem.F.args_dict_get_2 _ _) (meetsH_dict_get (tupleKind (aL X.prog X.w)) a b hd) ⟨tupleKind_room_in1 hu,k,xs,jV I.hok eb,dd,h _ _ (I.tok _) ?_⟩
  rw [l]
  exact (rel.val k).getD rfl
end
def rR (td ty:TE):TE:=λσ H Q=>td σ H λx H1=>∃ a,x=.ref a/\yd H1 a/\ty σ H1 λy H2=>∃ o,fg H2 a y o/\Q (o.getD .non) H2
section
variable {X:Cx} {o e f:Expr} {apos cpos:Pos} {td ty tx:TE}
theorem rj (hu:X.A.units+1<cLine) (ho:PE X o td) (he:PE X e ty) (m:M1 X o "get" apos e cpos):PE X (.Call (.Attribute o "get" apos) [e] [] cpos) (rR td ty):=by
 intro pins s σ H Q I h
 refine wpAny_Call_method m.base m.yn m.line PySem.F.plainAttrs_dict PySem.F.slot_dict_get PySem.F.type_dict_get (a5 (ho pins s σ H _ I h) λu s1 ⟨x,H1,I1,rx,a,ex,d,q1⟩=>?_)
 subst ex
 obtain rfl:u=Value.ref a:=rx
 obtain⟨t1,t2,_⟩:=vG I1 d
 refine⟨t1,t2,?_⟩
 rw [m.trees]
 refine Calls.callWith_builtin rfl (Calls.evalArgs_plain (Calls.spliced_cons (a5 (he pins s1 σ H1 _ I1 q1) λiv s2 ⟨y,H2,I2,ry,ov,g,q2⟩=>Calls.spliced_nil ?_)))
 exact vA hu I2 g ry λw' s3 I3 rw'=>⟨_,H2,I3,rw',q2⟩
end
section
variable {X:Cx} {pins:List (Addr × Obj)} {σ:St} {H:Hp} {s:Shared} {a:Addr} {kvs:List (Key × V)} {A:Around} {E:Value->Shared->Prop}
end
section
variable {X:Cx} {pins:List (Addr × Obj)} {σ:St} {H:Hp} {s:Shared} {a:Addr} {y:V} {u:Value} {A:Around} {E:Value->Shared->Prop}
end
def pG (l:Int) (b:Bool):HO:=.dK [(Sum.inr "left",.int l),(Sum.inr "free",.bl b)]
def tP (l:Int) (b:Bool):Prop:=b=true∨(0<=l/\l<2147483647)
def Up (p:Addr) (b:Bool) (H H':Hp):Prop:=∃ l,tP l b/\H'=upd H p (pG l b)
theorem gk {H:Hp} {p:Addr} {o o':HO}:upd (upd H p o) p o'=upd H p o':=by
 funext c
 by_cases e:c=p
 ·subst e;rw [ag,ag]
 ·rw [ak e,ak e,ak e]
theorem Up.trans {p:Addr} {b:Bool} {H H1 H2:Hp} (h:Up p b H H1) (h':Up p b H1 H2):Up p b H H2:=by
 obtain⟨l,_,rfl⟩:=h
 obtain⟨l',k',rfl⟩:=h'
 exact⟨l',k',gk⟩
theorem Up.at {p:Addr} {b:Bool} {H H1:Hp} (h:Up p b H H1):∃ l,tP l b/\H1 p=some (pG l b):=by
 obtain⟨l,k,rfl⟩:=h
 exact⟨l,k,ag⟩
theorem Up.ne {p q:Addr} {b:Bool} {H H1:Hp} (h:Up p b H H1) (n:q≠p):H1 q=H q:=by
 obtain⟨l,k,rfl⟩:=h
 exact ak n
theorem fE {H:Hp} {p:Addr} {l:Int} {b:Bool} (h:H p=some (pG l b)):fg H p (.str "left") (some (.int l)):=fg.k (k:=Sum.inr "left") h
theorem qC {H:Hp} {p:Addr} {l:Int} {b:Bool} (h:H p=some (pG l b)):fg H p (.str "free") (some (.bl b)):=fg.k (k:=Sum.inr "free") h
theorem lF {H:Hp} {p:Addr} {l l':Int} {b:Bool} (h:H p=some (pG l b)):lT H p (.str "left") (.int l') (upd H p (pG l' b)):=.inl ⟨_,Sum.inr "left",h,rfl,by show 2<sizeLine;decide,rfl⟩
def Us (p:Addr) (b:Bool) (H H':Hp):Prop:=(∃ l,tP l b/\H' p=some (pG l b))/\∀ q o,q≠p->H q=some o->H' q=some o
theorem Up.us {p:Addr} {b:Bool} {H H':Hp} (h:Up p b H H'):Us p b H H':=⟨h.at,λq o n e=>by rw [h.ne n];exact e⟩
theorem Us.trans {p:Addr} {b:Bool} {H H1 H2:Hp} (h:Us p b H H1) (h':Us p b H1 H2):Us p b H H2:=⟨h'.1,λq o n e=>h'.2 q o n (h.2 q o n e)⟩
theorem Us.lay {p q:Addr} {b:Bool} {H H1:Hp} {o:HO} (h:Us p b H H1) (f:H1 q=none):Us p b H (upd H1 q o):=by
 obtain⟨⟨l,k,e⟩,s⟩:=h
 exact⟨⟨l,k,by rw [ak (λz=>by rw [<- z,e] at f;cases f)];exact e⟩,λr u n er=>by
  have:=s r u n er
  rw [ak (λz=>by rw [z,f] at this;cases this)];exact this⟩
theorem Us.free {p q:Addr} {b:Bool} {H H1:Hp} (h:Us p b H H1) (f:H1 q=none):H q=none:=by
 cases e:H q with
 | none=>rfl
 | some o =>
  by_cases n:q=p
  ·subst n
   obtain⟨l,_,z⟩:=h.1
   rw [z] at f;cases f
  ·rw [h.2 q o n e] at f;cases f
theorem Us.same {p:Addr} {b:Bool} {H H0 H1:Hp} (h:Us p b H H1) (s:ay H0 H) (f:H0 p=none):ay H0 H1:=λc o e=>h.2 c o (λz=>by rw [z,f] at e;cases e) (s c o e)
section
variable {K:PySem.W.Frag} {H H':Hp}
theorem cF.jf {a:Addr} {xs:List V} (k:∀ a xs,Rd H a (.tup xs)->Rd H' a (.tup xs)) (h:cF K H a xs):cF K H' a xs:=h.imp (λz=>k _ _ z) id
mutual
theorem dv.jf (k:∀ a xs,Rd H a (.tup xs)->Rd H' a (.tup xs)):∀(d:PyData) {v:V},wB d=true->dv K H d v->dv K H' d v
 | .none,_,_,h=>h
 | .bool _,_,_,h=>h
 | .int _,_,_,h=>h
 | .str _,_,_,h=>h
 | .list ds,_,z,_=>by cases z
 | .tuple ds,_,z,⟨q,xs,e,h,t⟩=>⟨q,xs,e,h.jf k,aX.jf k ds z t⟩
 | .dict _,_,_,h=>h.elim
theorem aX.jf (k:∀ a xs,Rd H a (.tup xs)->Rd H' a (.tup xs)):∀(ds:List PyData) {xs:List V},iU ds=true->aX K H ds xs->aX K H' ds xs
 | [],_,_,h=>h
 | d::ds,_,z,⟨x,r,e,h,t⟩=>by
  have z':wB d=true/\iU ds=true:=by simpa [iU] using z
  exact⟨x,r,e,dv.jf k d z'.1 h,aX.jf k ds z'.2 t⟩
end
end
theorem Us.ref {p:Addr} {b:Bool} {H H1:Hp} (h:Us p b H H1):∃ l,tP l b/\H1 p=some (pG l b):=h.1
theorem rD {X:Cx} {ss:List Stmt}:fZ X ss (λ_ _ _=>False):=by
 intro _ _ _ _ _ _ h
 exact False.elim h
theorem rB {X:Cx} {Ex:Addr->Shared->Hp->List Addr->Value->Shared->Prop} {elt target iter:Expr} {ifs:List Expr} {scope:Scope} {pos:Pos} {N':List Str} {js:List (Option Nat)} {cl:List (Str × Addr)} {wi:TI} {g:TG} {tt:TT} {te:TE} {i0:Nat} {x0:Str} {pos' pos2:Pos} (hN0:X.N.Nodup) (hi0:X.N[i0]?=some x0) (hx0:Loc X.env.scope x0) (hcalm:X.calm=true)
  (K:dg X N' js scope cl) (hi:PI X target iter wi)
  (hg:∀ C s₂ H₂ fp,iQ X C s₂ H₂ fp->PG (bz X (Ex C s₂ H₂ fp) N' scope cl C s₂ H₂ fp) target g) (ht:∀ C s₂ H₂ fp,iQ X C s₂ H₂ fp->jH (bz X (Ex C s₂ H₂ fp) N' scope cl C s₂ H₂ fp) ifs tt) (he:∀ C s₂ H₂ fp,iQ X C s₂ H₂ fp->PE (bz X (Ex C s₂ H₂ fp) N' scope cl C s₂ H₂ fp) elt te)
  (herr:∀ C s₂ H₂ fp use Q' acc e s',Ex C s₂ H₂ fp e s'->notedBy (model X.prog X.w) X.A (compEnvC scope (cellsFrom (C+1) scope.names cl) C X.env) (λe s''=>compPost (model X.prog X.w) X.A X.xe use Q' acc C (.error e) s'') e s')
  (hsw:swapsWith (.ListComp elt [⟨target,iter,ifs,0⟩] scope pos) (some (.Name x0 pos')) pos2.line X.env=pure true) (hf0:X.fn x0=true∨X.env.scope.names.lookup x0=some .local)
  (hs:∀ x,foldedSetIterable iter X.env x=pure x:=by intro _;rfl):PS X (.Assign [.Name x0 pos'] (.ListComp elt [⟨target,iter,ifs,0⟩] scope pos) pos2) (pI (x9 js wi g tt te) (fC i0)):=by
 intro pins s σ H Dn I h
 rw [exec_Assign_Name_used _ _ _ _ hsw]
 refine wpAny_bind (wpAny_standAt (wpAny_bind ?_))
 unfold evalThenUse
 refine wpAny_bind ?_
 refine wpAny_comprehension_free (use:=some (assign (.Name x0 pos') X.env)) rfl hs K.clos K.kind K.names (a5 (hi pins s σ H _ I h) λv s1 h1=>a5 h1 λitv s2 h2=>?_)
 obtain⟨H2,I2⟩:∃ H2,Inv X pins σ H2 s2:=by obtain⟨_,_,_,_,H2,_,I2,_⟩:=h2;exact⟨H2,I2⟩
 refine ny (Ex:=Ex) (Q:=λx H1=>fC i0 x σ H1 Dn.nx) hcalm K hg ht he herr h2 λC D vys H4 s5 hm hDe hDleC hDC nD nC hI qn=>?_
 obtain⟨m5,hn5⟩:=hm
 have le:=Nat.le_trans hDe hDleC
 have key:Inv X pins σ (upd H4 D (.lst vys)) s5:=hI s5.heap ⟨rfl,λ_ _=>rfl⟩
 have nC':upd H4 D (.lst vys) C=none:=by rw [ak (Ne.symm hDC)];exact nC
 have CL:C≠X.env.locals:=λz=>by
  have:=I2.lt
  rw [<- z] at this
  exact Nat.lt_irrefl _ (Nat.lt_of_lt_of_le this le)
 have Cfs:C∉X.fs:=λz=>I2.tN le z
 obtain⟨oC,es,ep,gC,dC,skC,fdC⟩:=hn5
 have J1:Inv X ((C,oC)::pins) σ (upd H4 D (.lst vys)) s5:=key.eh λp hp=>by
  rcases List.mem_cons.mp hp with z | z
  ·subst z
   exact⟨gC,nC',CL,Cfs,λv z=>by rw [dC] at z;cases z⟩
  ·exact key.pin p (List.mem_append_right _ z)
 show wpAny _ _ (assign (.Name x0 pos') X.env (.ref D)) _ _ _
 refine PyProof.Rows.assign_Name ?_
 refine br J1 hN0 hi0 hx0 (show RelV (.ref D) (.ref D) from rfl) (λs6 I6=>?_) hf0
 have pC:=(I6.pin (C,oC) (List.mem_append_right _ (List.mem_cons_self ..))).1
 refine⟨m5,⟨oC,es,ep,pC,dC,skC,fdC⟩,λh' hsb'=>?_⟩
 have I7:Inv X pins (σ.set i0 (some (.ref D))) (upd H4 D (.lst vys)) s6:=I6.eh λp hp=>I6.pin p (List.mem_append_right _ (List.mem_cons_of_mem _ hp))
 have I8:=I7.turned (t':=s6.toks) (it:=C) (λb o hb e=>hsb'.extBut b o hb e) nC' CL (.inr (Nat.le_trans I2.sz le))
  (λx c e=>by
   obtain⟨v,q⟩:=I2.cell x c e
   exact Nat.ne_of_lt (Nat.lt_of_lt_of_le q.lt le))
  (λp hp=>Nat.ne_of_lt (Nat.lt_of_lt_of_le (Heap.lt_size (I2.pin p hp).1) le))
 exact wpAny_pure (wpAny_pure ⟨_,_,I8,qn⟩)
theorem nK {X:Cx} {elt target iter:Expr} {ifs:List Expr} {scope:Scope} {pos:Pos} {N':List Str} {js:List (Option Nat)} {cl:List (Str × Addr)} {wi:TI} {g:TG} {tt:TT} {te:TE} {i0:Nat} {x0:Str} {pos' pos2:Pos} (hN0:X.N.Nodup) (hi0:X.N[i0]?=some x0) (hx0:Loc X.env.scope x0) (hcalm:X.calm=true)
  (K:dg X N' js scope cl) (hi:PI X target iter wi)
  (hg:∀ C s₂ H₂ fp,PG (bB X N' scope cl C s₂ H₂ fp) target g) (ht:∀ C s₂ H₂ fp,jH (bB X N' scope cl C s₂ H₂ fp) ifs tt) (he:∀ C s₂ H₂ fp,PE (bB X N' scope cl C s₂ H₂ fp) elt te)
  (hsw:swapsWith (.ListComp elt [⟨target,iter,ifs,0⟩] scope pos) (some (.Name x0 pos')) pos2.line X.env=pure true) (hf0:X.fn x0=true∨X.env.scope.names.lookup x0=some .local)
  (hs:∀ x,foldedSetIterable iter X.env x=pure x:=by intro _;rfl):PS X (.Assign [.Name x0 pos'] (.ListComp elt [⟨target,iter,ifs,0⟩] scope pos) pos2) (pI (x9 js wi g tt te) (fC i0)) :=
 rB (Ex:=λ_ _ _ _ _ _=>False) hN0 hi0 hx0 hcalm K hi (λC s H f _=>hg C s H f) (λC s H f _=>ht C s H f) (λC s H f _=>he C s H f) (λ_ _ _ _ _ _ _ _ _ z=>z.elim) hsw hf0 hs
theorem ky (it t:Addr) (i:Nat) (items:Array Value) (x:Value) (hx:items[i]?=some x):Meets (Builtin.«tuple_iterator.__next__» ⟨[.ref it],[]⟩)
  (λ_ R s=>s.heap.IsTupleIter it t i/\s.heap.IsTuple t items/\∀ h',h'.IsTupleIter it t (i+1)->Heap.SameBut it s.heap h'->R (.ok (.ret x)) { s with heap:=h' }) :=
 .of_wp λprog w A R s h=>by
  obtain⟨⟨o,e,c,d⟩,⟨o2,e2,c2,n2,d2⟩,q⟩:=h
  have hx':items[(i:Int).toNat]?=some x:=by simpa using hx
  wp_walk using wpAny_field (i:=0) (x:=Value.ref t) e d rfl,wpAny_field (i:=1) (x:=Value.int i 0) e d rfl,wpAny_seqItems e2 d2
  rw [hx']
  refine wpAny_bind (wpAny_setField e d (show 1<2 by decide) ?_)
  obtain⟨oc,od,odt,os⟩:=o
  cases c
  cases d
  wp_walk
  refine⟨x,rfl,q _ ⟨_,Heap.get?_update_self _ e rfl,rfl,?_⟩ (Heap.SameBut.update ..)⟩
  show Data.fields _=_
  simp [rawInt]
theorem lR (it t:Addr) (i:Nat) (items:Array Value) (hx:items[i]?=none):Meets (Builtin.«tuple_iterator.__next__» ⟨[.ref it],[]⟩)
  (λA R s=>A.handled=none/\s.heap.IsTupleIter it t i/\s.heap.IsTuple t items/\∀ h' e,Heap.ExtBut it s.heap h'->(∃ o,h'.get? e=some o/\o.cls=.type "StopIteration")->R (.error (.ref e)) { s with heap:=h' }) :=
 .of_wp λprog w A R s h=>by
  obtain⟨hn,⟨o,e,c,d⟩,⟨o2,e2,c2,n2,d2⟩,q⟩:=h
  have hx':items[(i:Int).toNat]?=none:=by simpa using hx
  wp_walk using wpAny_field (i:=0) (x:=Value.ref t) e d rfl,wpAny_field (i:=1) (x:=Value.int i 0) e d rfl,wpAny_seqItems e2 d2
  rw [hx']
  wp_walk using wpAny_setField e d (show 0<2 by decide)
  refine wpAny_raiseNew_none hn (q _ _ (λb o hb e=>Heap.get?_push_of_some _ (Heap.get?_push_of_some _ ((Heap.get?_update_other _ _ (Ne.symm hb)).trans e))) ⟨_,Heap.get?_push_size _ rfl,rfl⟩)
section
variable {prog:Program} {w:World} {A:Around} {E:Value->Shared->Prop} {s:Shared} {it t:Addr} {i:Nat} {items:Array Value} {Q:Value->Shared->Prop}
theorem gF {x:Value} (h1:s.heap.IsTupleIter it t i) (h2:s.heap.IsTuple t items) (hx:items[i]?=some x) (q:∀ h',h'.IsTupleIter it t (i+1)->Heap.SameBut it s.heap h'->Q x { s with heap:=h' }) :
  wpAny (model prog w) A (Builtin.SmallTypes.nextOf (.ref it)) Q E s:=by
 have ty:s.TypeIs (.ref it) "tuple_iterator":=by obtain⟨o,e,c,_⟩:=h1;exact⟨o,e,c⟩
 unfold Builtin.SmallTypes.nextOf
 refine wpAny_bind (wpAny_callSpecial?_slot ty slot_tupleiter_next (call_meets slot_tupleiter_next ty entry_tupleiter_next (args_tupleiter_next _) (ky it t i items x hx) ⟨h1,h2,λh' a b=>?_⟩))
 exact wpAny_pure (q h' a b)
theorem ik (hn:A.handled=none) (h1:s.heap.IsTupleIter it t i) (h2:s.heap.IsTuple t items) (hx:items[i]?=none) (q:∀ h' e,Heap.ExtBut it s.heap h'->(∃ o,h'.get? e=some o/\o.cls=.type "StopIteration")->E (.ref e) { s with heap:=h' }) :
  wpAny (model prog w) A (Builtin.SmallTypes.nextOf (.ref it)) Q E s:=by
 have ty:s.TypeIs (.ref it) "tuple_iterator":=by obtain⟨o,e,c,_⟩:=h1;exact⟨o,e,c⟩
 unfold Builtin.SmallTypes.nextOf
 exact wpAny_bind (wpAny_callSpecial?_slot ty slot_tupleiter_next (call_meets slot_tupleiter_next ty entry_tupleiter_next (args_tupleiter_next _) (lR it t i items hx) ⟨hn,h1,h2,λh' e a b=>q h' e a b⟩))
end
inductive Sd
 | l
 | t
def Sd.It:Sd->Heap->Addr->Addr->Nat->Prop
 | .l=>Heap.IsListIter
 | .t=>Heap.IsTupleIter
def Sd.Sq:Sd->Heap->Addr->Array Value->Prop
 | .l=>Heap.IsList
 | .t=>Heap.IsTuple
def Sd.io (k:Sd) (a:Addr):Obj:=match k with
 | .l=>{ cls:=.type "list_iterator",data:=.fields #[.ref a,.int 0 0] }
 | .t=>{ cls:=.type "tuple_iterator",data:=.fields #[.ref a,.int 0 0] }
theorem Sd.It.at {k:Sd} {h h':Heap} {it a:Addr} {i:Nat} (x:k.It h it a i) (e:∀ o,h.get? it=some o->h'.get? it=some o):k.It h' it a i:=by
 cases k<;>(obtain⟨o,e1,r⟩:=x;exact⟨o,e o e1,r⟩)
theorem Sd.It.there {k:Sd} {h:Heap} {it a:Addr} {i:Nat} (x:k.It h it a i):∃ o,h.get? it=some o/\∀ v,o.data≠.cell v:=by
 cases k<;>(obtain⟨o,e1,_,d⟩:=x;exact⟨o,e1,λv z=>by rw [d] at z;cases z⟩)
theorem Sd.Sq.at {k:Sd} {h h':Heap} {a:Addr} {xs:Array Value} (x:k.Sq h a xs) (e:∀ o,h.get? a=some o->h'.get? a=some o):k.Sq h' a xs:=by
 cases k<;>(obtain⟨o,e1,r⟩:=x;exact⟨o,e o e1,r⟩)
theorem Sd.Sq.lt {k:Sd} {h:Heap} {a:Addr} {xs:Array Value} (x:k.Sq h a xs):a<h.objs.size:=by
 cases k<;>(obtain⟨o,e1,r⟩:=x;exact Heap.lt_size e1)
theorem Sd.start (k:Sd) {h:Heap} {it a:Addr} (e:h.get? it=some (k.io a)):k.It h it a 0:=by
 cases k<;>exact⟨_,e,rfl,rfl⟩
section
variable {prog:Program} {w:World} {A:Around} {E:Value->Shared->Prop} {s:Shared} {it a:Addr} {i:Nat} {xs:Array Value} {Q:Value->Shared->Prop} {k:Sd}
theorem Sd.item {x:Value} (h1:k.It s.heap it a i) (h2:k.Sq s.heap a xs) (hx:xs[i]?=some x) (q:∀ h',k.It h' it a (i+1)->Heap.SameBut it s.heap h'->Q x { s with heap:=h' }) :
  wpAny (model prog w) A (Builtin.SmallTypes.nextOf (.ref it)) Q E s:=by
 cases k
 ·exact wpAny_nextOf_list_item h1 h2 hx q
 ·exact gF h1 h2 hx q
theorem Sd.fin (hn:A.handled=none) (h1:k.It s.heap it a i) (h2:k.Sq s.heap a xs) (hx:xs[i]?=none) (q:∀ h' e,Heap.ExtBut it s.heap h'->(∃ o,h'.get? e=some o/\o.cls=.type "StopIteration")->E (.ref e) { s with heap:=h' }) :
  wpAny (model prog w) A (Builtin.SmallTypes.nextOf (.ref it)) Q E s:=by
 cases k
 ·exact wpAny_nextOf_list_end hn h1 h2 hx q
 ·exact ik hn h1 h2 hx q
theorem Sd.iter (h2:k.Sq s.heap a xs) (q:Q (.ref s.heap.objs.size) { s with heap:=s.heap.push (k.io a) }):wpAny (model prog w) A (pyIter (.ref a)) Q E s:=by
 cases k
 ·exact wpAny_pyIter_list h2 q
 ·exact wpAny_pyIter_tuple h2 q
end
theorem uq (k1 k2:Sd) (l1 l2:Addr) (xs ys:Array Value):Meets (Builtin.«zip.__new__» ⟨[.type "zip",.ref l1,.ref l2],[]⟩)
  (λ_ R s=>k1.Sq s.heap l1 xs/\k2.Sq s.heap l2 ys/\∀ h',IsZip h' (s.heap.objs.size+4) (s.heap.objs.size+2) (s.heap.objs.size+3) .none->IsPair h' (s.heap.objs.size+2) (.ref s.heap.objs.size) (.ref (s.heap.objs.size+1)) ->
   IsPair h' (s.heap.objs.size+3) .none .none->k1.It h' s.heap.objs.size l1 0->k2.It h' (s.heap.objs.size+1) l2 0->(∀ c o,s.heap.get? c=some o->h'.get? c=some o)->R (.ok (.ret (.ref (s.heap.objs.size+4)))) { s with heap:=h' }) :=
 .of_wp λprog w A R s h=>by
  obtain⟨h1,h2,q⟩:=h
  have f1:=sub_zip
  have h2':k2.Sq (s.heap.push (k1.io l1)) l2 ys:=h2.at λo e=>Heap.get?_push_of_some _ e
  wp_walk using Sd.iter h1,Sd.iter (s:={ s with heap:=s.heap.push (k1.io l1) }) h2'
  refine⟨_,rfl,?_⟩
  have e5:((((s.heap.push (k1.io l1)).push (k2.io l2)).push { cls:=.type "tuple",data:=.seq #[.ref s.heap.objs.size,.ref (s.heap.push (k1.io l1)).objs.size] }).push { cls:=.type "tuple",data:=.seq #[.none,.none] }).objs.size=s.heap.objs.size+4:=by simp only [Heap.size_push]
  have e4:(((s.heap.push (k1.io l1)).push (k2.io l2)).push { cls:=.type "tuple",data:=.seq #[.ref s.heap.objs.size,.ref (s.heap.push (k1.io l1)).objs.size] }).objs.size=s.heap.objs.size+3:=by simp only [Heap.size_push]
  have e3:((s.heap.push (k1.io l1)).push (k2.io l2)).objs.size=s.heap.objs.size+2:=by simp only [Heap.size_push]
  have e2:(s.heap.push (k1.io l1)).objs.size=s.heap.objs.size+1:=by simp only [Heap.size_push]
  show R (.ok (.ret (.ref ((((s.heap.push (k1.io l1)).push (k2.io l2)).push { cls:=.type "tuple",data:=.seq #[.ref s.heap.objs.size,.ref (s.heap.push (k1.io l1)).objs.size] }).push { cls:=.type "tuple",data:=.seq #[.none,.none] }).objs.size))) { s with heap:=((((s.heap.push (k1.io l1)).push (k2.io l2)).push { cls:=.type "tuple",data:=.seq #[.ref s.heap.objs.size,.ref (s.heap.push (k1.io l1)).objs.size] }).push { cls:=.type "tuple",data:=.seq #[.none,.none] }).push { cls:=.type "zip",data:=.fields #[.none,.bool false,.bool false,.ref ((s.heap.push (k1.io l1)).push (k2.io l2)).objs.size,.ref (((s.heap.push (k1.io l1)).push (k2.io l2)).push { cls:=.type "tuple",data:=.seq #[.ref s.heap.objs.size,.ref (s.heap.push (k1.io l1)).objs.size] }).objs.size] } }
  have g0:(s.heap.push (k1.io l1)).get? s.heap.objs.size=some (k1.io l1):=Heap.get?_push_size _ (by cases k1<;>rfl)
  have g1:((s.heap.push (k1.io l1)).push (k2.io l2)).get? (s.heap.objs.size+1)=some (k2.io l2):=by rw [<- e2];exact Heap.get?_push_size _ (by cases k2<;>rfl)
  rw [e5,e4,e3,e2]
  refine q _ ?_ ?_ ?_ (k1.start (Heap.get?_push_of_some _ (Heap.get?_push_of_some _ (Heap.get?_push_of_some _ (Heap.get?_push_of_some _ g0))))) (k2.start (Heap.get?_push_of_some _ (Heap.get?_push_of_some _ (Heap.get?_push_of_some _ g1)))) λc o e=>Heap.get?_push_of_some _ (Heap.get?_push_of_some _ (Heap.get?_push_of_some _ (Heap.get?_push_of_some _ (Heap.get?_push_of_some _ e))))
  ·exact (show _=_ from by
    have:=Heap.get?_push_size (((((s.heap.push (k1.io l1)).push (k2.io l2)).push { cls:=.type "tuple",data:=.seq #[.ref s.heap.objs.size,.ref (s.heap.objs.size+1)] }).push { cls:=.type "tuple",data:=.seq #[.none,.none] })) (o:={ cls:=.type "zip",data:=.fields #[.none,.bool false,.bool false,.ref (s.heap.objs.size+2),.ref (s.heap.objs.size+3)] }) rfl
    simp only [Heap.size_push] at this
    exact this)
  ·refine Heap.get?_push_of_some _ (Heap.get?_push_of_some _ ?_)
   have:=Heap.get?_push_size ((s.heap.push (k1.io l1)).push (k2.io l2)) (o:={ cls:=.type "tuple",data:=.seq #[.ref s.heap.objs.size,.ref (s.heap.objs.size+1)] }) rfl
   simp only [Heap.size_push] at this
   exact this
  ·refine Heap.get?_push_of_some _ ?_
   have:=Heap.get?_push_size (((s.heap.push (k1.io l1)).push (k2.io l2)).push { cls:=.type "tuple",data:=.seq #[.ref s.heap.objs.size,.ref (s.heap.objs.size+1)] }) (o:={ cls:=.type "tuple",data:=.seq #[.none,.none] }) rfl
   simp only [Heap.size_push] at this
   exact this
theorem sj (k1 k2:Sd) (z TI TO i1 i2 l1 l2:Addr) (ap:ZipApart z TI TO i1 i2 l1 l2) (n1 n2:Nat) (xs ys:Array Value) (x y a b:Value) (hx:xs[n1]?=some x) (hy:ys[n2]?=some y):Meets (Builtin.«zip.__next__» ⟨[.ref z],[]⟩)
  (λ_ R s=>IsZip s.heap z TI TO .none/\IsPair s.heap TI (.ref i1) (.ref i2)/\IsPair s.heap TO a b/\k1.It s.heap i1 l1 n1/\k2.It s.heap i2 l2 n2/\k1.Sq s.heap l1 xs/\k2.Sq s.heap l2 ys /\
   ∀ h',IsZip h' z TI TO (rawInt s.heap.objs.size)->IsPair h' TO x y->k1.It h' i1 l1 (n1+1)->k2.It h' i2 l2 (n2+1)->IsPair h' s.heap.objs.size x y ->
    (∀ c o,c≠z->c≠TO->c≠i1->c≠i2->s.heap.get? c=some o->h'.get? c=some o)->R (.ok (.ret (.ref s.heap.objs.size))) { s with heap:=h' }) :=
 .of_wp λprog w A R s h=>by
  obtain⟨hz,hTI,hTO,j1,j2,q1,q2,q⟩:=h
  wp_walk using wpAny_field (i:=2) (x:=Value.bool false) hz rfl rfl,wpAny_field (i:=3) (x:=Value.ref TI) hz rfl rfl,wpAny_field (i:=0) (x:=Value.none) hz rfl rfl,wpAny_field (i:=4) (x:=Value.ref TO) hz rfl rfl,wpAny_seqItems hTI rfl,wpAny_setField_rec hz (show 0<5 by decide)
  intro ha za sa
  have ka:∀ c o,c≠z->s.heap.get? c=some o->ha.get? c=some o:=λc o hc e=>(sa.2 c hc).trans e
  have j1a:=j1.at (h':=ha) λo e=>ka i1 o ap.i1z e
  have q1a:=q1.at (h':=ha) λo e=>ka l1 o ap.l1z e
  wp_walk using wpAny_onRaise,Sd.item (s:={ s with heap:=ha }) j1a q1a hx
  intro hb jb sb
  have kb:∀ c o,c≠z->c≠i1->s.heap.get? c=some o->hb.get? c=some o:=λc o h1 h2 e=>(sb.2 c h2).trans (ka c o h1 e)
  have TOb:IsPair hb TO a b:=kb TO _ ap.TOz ap.TOi1 hTO
  wp_walk using wpAny_seqItems TOb rfl,wpAny_updateSeq_pair (s:={ s with heap:=hb }) TOb
  intro hc TOc' sc
  have TOc:IsPair hc TO x b:=TOc'
  have kc:∀ c o,c≠z->c≠i1->c≠TO->s.heap.get? c=some o->hc.get? c=some o:=λc o h1 h2 h3 e=>(sc.2 c h3).trans (kb c o h1 h2 e)
  have zc:hc.get? z=some { cls:=.type "zip",data:=.fields #[.ellipsis,.bool false,.bool false,.ref TI,.ref TO] }:=(sc.2 z (Ne.symm ap.TOz)).trans ((sb.2 z (Ne.symm ap.i1z)).trans za)
  have j1c:=jb.at (h':=hc) λo e=>(sc.2 i1 (Ne.symm ap.TOi1)).trans e
  have j2c:=j2.at (h':=hc) λo e=>kc i2 o ap.i2z (Ne.symm ap.i12) (Ne.symm ap.TOi2) e
  have q2c:=q2.at (h':=hc) λo e=>kc l2 o ap.l2z ap.l2i1 ap.l2TO e
  wp_walk using wpAny_letGo,wpAny_onRaise,Sd.item (s:={ s with heap:=hc }) j2c q2c hy
  intro hd jd sd
  have TOd:IsPair hd TO x b:=(sd.2 TO ap.TOi2).trans TOc
  have zd:=(sd.2 z (Ne.symm ap.i2z)).trans zc
  wp_walk using wpAny_seqItems TOd rfl,wpAny_updateSeq_pair (s:={ s with heap:=hd }) TOd
  intro he TOe' se
  have TOe:IsPair he TO x y:=TOe'
  have ze:=(se.2 z (Ne.symm ap.TOz)).trans zd
  wp_walk using wpAny_letGo,wpAny_seqItems TOe rfl
  have sz:he.objs.size=s.heap.objs.size:=se.1.trans (sd.1.trans (sc.1.trans (sb.1.trans sa.1)))
  have zn:z≠he.objs.size:=Nat.ne_of_lt (Heap.lt_size ze)
  have zf:(he.push { cls:=.type "tuple",data:=.seq #[x,y] }).get? z=some { cls:=.type "zip",data:=.fields #[.ellipsis,.bool false,.bool false,.ref TI,.ref TO] }:=Heap.get?_push_of_some _ ze
  have ke:∀ c o,c≠z->he.get? c=some o->(((he.push { cls:=.type "tuple",data:=.seq #[x,y] }).update z (Obj.mapFields λx=>x.setIfInBounds 0 (rawInt ↑he.objs.size))).update z (Obj.mapFields λx=>x.setIfInBounds 1 (Value.bool false))).get? c=some o:=λc o hc e=>(Heap.get?_update_other _ _ (Ne.symm hc)).trans ((Heap.get?_update_other _ _ (Ne.symm hc)).trans (Heap.get?_push_of_some _ e))
  have g1:=Heap.get?_update_self (Obj.mapFields λx=>x.setIfInBounds 0 (rawInt ↑he.objs.size)) zf rfl
  have g2:=Heap.get?_update_self (Obj.mapFields λx=>x.setIfInBounds 1 (Value.bool false)) g1 rfl
  have gn:(((he.push { cls:=.type "tuple",data:=.seq #[x,y] }).update z (Obj.mapFields λx=>x.setIfInBounds 0 (rawInt ↑he.objs.size))).update z (Obj.mapFields λx=>x.setIfInBounds 1 (Value.bool false))).get? he.objs.size=some { cls:=.type "tuple",data:=.seq #[x,y] }:=(Heap.get?_update_other _ _ zn).trans ((Heap.get?_update_other _ _ zn).trans (Heap.get?_push_size _ rfl))
  refine⟨_,rfl,?_⟩
  show R (.ok (.ret (.ref he.objs.size))) { s with heap:=(((he.push { cls:=.type "tuple",data:=.seq #[x,y] }).update z (Obj.mapFields λx=>x.setIfInBounds 0 (rawInt ↑he.objs.size))).update z (Obj.mapFields λx=>x.setIfInBounds 1 (Value.bool false))) }
  generalize (((he.push { cls:=.type "tuple",data:=.seq #[x,y] }).update z (Obj.mapFields λx=>x.setIfInBounds 0 (rawInt ↑he.objs.size))).update z (Obj.mapFields λx=>x.setIfInBounds 1 (Value.bool false)))=hf at *
  rw [sz]
  refine q hf (by rw [<- sz];exact g2) (ke TO _ ap.TOz TOe) (j1c.at λo e=>ke i1 o ap.i1z ((se.2 i1 (Ne.symm ap.TOi1)).trans ((sd.2 i1 ap.i12).trans e))) (jd.at λo e=>ke i2 o ap.i2z ((se.2 i2 (Ne.symm ap.TOi2)).trans e)) (by rw [<- sz];exact gn) λc o h1 h2 h3 h4 e=>ke c o h1 ((se.2 c h2).trans ((sd.2 c h4).trans (kc c o h1 h3 h2 e)))
theorem si (k1:Sd) (z TI TO i1 i2 l1:Addr) (i1z:i1≠z) (l1z:l1≠z) (n1:Nat) (xs:Array Value) (a b:Value) (hx:xs[n1]?=none):Meets (Builtin.«zip.__next__» ⟨[.ref z],[]⟩)
  (λA R s=>A.handled=none/\IsZip s.heap z TI TO .none/\IsPair s.heap TI (.ref i1) (.ref i2)/\IsPair s.heap TO a b/\k1.It s.heap i1 l1 n1/\k1.Sq s.heap l1 xs /\
   ∀ h' e,(∀ c o,c≠z->c≠i1->s.heap.get? c=some o->h'.get? c=some o)->(∃ o,h'.get? e=some o/\o.cls=.type "StopIteration")->R (.error (.ref e)) { s with heap:=h' }) :=
 .of_wp λprog w A R s h=>by
  obtain⟨hn,hz,hTI,hTO,j1,q1,q⟩:=h
  wp_walk using wpAny_field (i:=2) (x:=Value.bool false) hz rfl rfl,wpAny_field (i:=3) (x:=Value.ref TI) hz rfl rfl,wpAny_field (i:=0) (x:=Value.none) hz rfl rfl,wpAny_field (i:=4) (x:=Value.ref TO) hz rfl rfl,wpAny_seqItems hTI rfl,wpAny_setField_rec hz (show 0<5 by decide)
  intro ha za sa
  have ka:∀ c o,c≠z->s.heap.get? c=some o->ha.get? c=some o:=λc o hc e=>(sa.2 c hc).trans e
  have j1a:=j1.at (h':=ha) λo e=>ka i1 o i1z e
  have q1a:=q1.at (h':=ha) λo e=>ka l1 o l1z e
  wp_walk using wpAny_onRaise,Sd.fin (A:=A.in1) (s:={ s with heap:=ha }) hn j1a q1a hx
  intro hb e kb oe
  have zb:=kb z _ (Ne.symm i1z) za
  refine wpAny_setField_rec (s:={ s with heap:=hb }) zb (show 0<5 by decide) λhc zc sc=>?_
  obtain⟨o,eo,co⟩:=oe
  have ez:e≠z:=λx=>by
   subst x
   rw [zb] at eo
   cases eo
   injection co with x
   exact absurd x (by decide)
  exact q hc e (λc o h1 h2 x=>(sc.2 c h1).trans (kb c o h2 (ka c o h1 x))) ⟨o,(sc.2 e ez).trans eo,co⟩
section
variable {prog:Program} {w:World} {A:Around} {E:Value->Shared->Prop} {s:Shared}
theorem jx {it:Addr} {T id:String} {Q:Option Value->Shared->Prop} (ty:s.TypeIs (.ref it) T) (sl:Slot T "__next__" id)
  (h:wpAny (model prog w) A (call (.builtin id) [.ref it]) (λv s'=>Q (some v) s') (λe s'=>(∃ x o,e=.ref x/\s'.heap.get? x=some o/\o.cls=.type "StopIteration")/\Q none s') s):wpAny (model prog w) A (pyNext (.ref it)) Q E s:=by
 unfold pyNext
 refine wpAny_bind (wpAny_attempt (wpAny_callSpecial?_slot ty sl (wpAny_mono h (λv s' q=>wpAny_pure q) λe s' q=>?_)))
 obtain⟨⟨x,o,rfl,eo,co⟩,q⟩:=q
 refine wpAny_bind (wpAny_isInstance (T := "StopIteration") (b:=true) ⟨o,eo,co⟩ ?_ ?_)
 ·with_unfolding_all rfl
 ·rw [if_pos rfl]
  exact wpAny_pure q
theorem qa {k1 k2:Sd} {l1 l2:Addr} {xs ys:Array Value} {Q:Value->Shared->Prop} (h1:k1.Sq s.heap l1 xs) (h2:k2.Sq s.heap l2 ys)
  (q:∀ h',IsZip h' (s.heap.objs.size+4) (s.heap.objs.size+2) (s.heap.objs.size+3) .none->IsPair h' (s.heap.objs.size+2) (.ref s.heap.objs.size) (.ref (s.heap.objs.size+1)) ->
   IsPair h' (s.heap.objs.size+3) .none .none->k1.It h' s.heap.objs.size l1 0->k2.It h' (s.heap.objs.size+1) l2 0->(∀ c o,s.heap.get? c=some o->h'.get? c=some o)->Q (.ref (s.heap.objs.size+4)) { s with heap:=h' }) :
  wpAny (model prog w) A (call (.type "zip") [.ref l1,.ref l2]) Q E s :=
 callType_new F.called_zip (by decide) (F.typeCall_zip_2 _ _) (F.newCall_zip_2 _ _) (λobj=>F.args_object_init_3 _ _ _) F.entry_zip_new (uq k1 k2 l1 l2 xs ys) ⟨h1,h2,λh' z a b c d e=>⟨⟨_,z,rfl⟩,q h' z a b c d e⟩⟩
theorem iT {k1 k2:Sd} {z TI TO i1 i2 l1 l2:Addr} {n1 n2:Nat} {xs ys:Array Value} {x y a b:Value} {Q:Option Value->Shared->Prop} (ap:ZipApart z TI TO i1 i2 l1 l2) (hz:IsZip s.heap z TI TO .none) (hTI:IsPair s.heap TI (.ref i1) (.ref i2)) (hTO:IsPair s.heap TO a b)
  (j1:k1.It s.heap i1 l1 n1) (j2:k2.It s.heap i2 l2 n2) (q1:k1.Sq s.heap l1 xs) (q2:k2.Sq s.heap l2 ys) (hx:xs[n1]?=some x) (hy:ys[n2]?=some y)
  (q:∀ h',IsZip h' z TI TO (rawInt s.heap.objs.size)->IsPair h' TO x y->k1.It h' i1 l1 (n1+1)->k2.It h' i2 l2 (n2+1)->IsPair h' s.heap.objs.size x y ->
    (∀ c o,c≠z->c≠TO->c≠i1->c≠i2->s.heap.get? c=some o->h'.get? c=some o)->Q (some (.ref s.heap.objs.size)) { s with heap:=h' }):wpAny (model prog w) A (pyNext (.ref z)) Q E s :=
 jx ⟨_,hz,rfl⟩ F.slot_zip_next (call_meets F.slot_zip_next ⟨_,hz,rfl⟩ F.entry_zip_next (F.args_zip_next_1 _) (sj k1 k2 z TI TO i1 i2 l1 l2 ap n1 n2 xs ys x y a b hx hy) ⟨hz,hTI,hTO,j1,j2,q1,q2,λh' a b c d e f=>q h' a b c d e f⟩)
theorem jX {k1:Sd} {z TI TO i1 i2 l1:Addr} {n1:Nat} {xs:Array Value} {a b:Value} {Q:Option Value->Shared->Prop} (hn:A.handled=none) (i1z:i1≠z) (l1z:l1≠z) (hz:IsZip s.heap z TI TO .none) (hTI:IsPair s.heap TI (.ref i1) (.ref i2)) (hTO:IsPair s.heap TO a b)
  (j1:k1.It s.heap i1 l1 n1) (q1:k1.Sq s.heap l1 xs) (hx:xs[n1]?=none)
  (q:∀ h',(∀ c o,c≠z->c≠i1->s.heap.get? c=some o->h'.get? c=some o)->Q none { s with heap:=h' }):wpAny (model prog w) A (pyNext (.ref z)) Q E s :=
 jx ⟨_,hz,rfl⟩ F.slot_zip_next (call_meets F.slot_zip_next ⟨_,hz,rfl⟩ F.entry_zip_next (F.args_zip_next_1 _) (si k1 z TI TO i1 i2 l1 i1z l1z n1 xs a b hx) ⟨hn,hz,hTI,hTO,j1,q1,λh' e k ⟨o,eo,co⟩=>⟨⟨e,o,rfl,eo,co⟩,q h' k⟩⟩)
end
def mY (k:Sd) (K:PySem.W.Frag) (H:Hp) (a:Addr) (xs:List V):Prop:=match k with
 | .l=>aW K H a xs
 | .t=>cF K H a xs
theorem Inv.xF {X:Cx} {pins:List (Addr × Obj)} {σ:St} {H:Hp} {s:Shared} {k:Sd} {a:Addr} {xs:List V} (I:Inv X pins σ H s) (h:mY k X.K H a xs):∃ its:List Value,Vals xs its/\k.Sq s.heap a its.toArray:=by
 cases k
 ·obtain⟨its,r,p,_⟩:=I.list h
  exact⟨its,r,p.isList⟩
 ·obtain⟨its,r,p,_⟩:=I.tuple h
  exact⟨its,r,p⟩
theorem Inv.nW {X:Cx} {pins:List (Addr × Obj)} {σ:St} {H:Hp} {s:Shared} {k:Sd} {a:Addr} {xs ys:List V} (I:Inv X pins σ H s) (h:mY k X.K H a xs) (h':mY k X.K H a ys):xs=ys:=by
 cases k
 ·exact I.hZ h h'
 ·exact I.jD h h'
def xZ (k1 k2:Sd) (K:PySem.W.Frag) (a b:Addr):It :=
 ⟨λi H=>∃ xs ys x y,mY k1 K H a xs/\mY k2 K H b ys/\xs[i]?=some x/\ys[i]?=some y,λi H x H'=>∃ p u v,H p=none/\x=.ref p/\(∀ xs,mY k1 K H a xs->xs[i]?=some u)/\(∀ ys,mY k2 K H b ys->ys[i]?=some v)/\H'=upd H p (.tup [u,v]),
  λi H=>∃ xs,mY k1 K H a xs/\xs.length<=i⟩
theorem rY {P:Program} {w:World} {K:PySem.W.Frag} {elts:List Expr} {x1} {pos:Pos} {k1 k2:Sd} {a b z TI TO i1 i2:Addr} (ap:ZipApart z TI TO i1 i2 a b):Turn P w K (.Tuple elts x1 pos) (xZ k1 k2 K a b) [z,TI,TO,i1,i2] z (λi h=>IsZip h z TI TO .none/\IsPair h TI (.ref i1) (.ref i2)/\(∃ u v,IsPair h TO u v)/\k1.It h i1 a i/\k2.It h i2 b i) where
 mem:=by simp
 obj:=λi h st c hc=>by
  obtain⟨h1,h2,⟨u,v,h3⟩,h4,h5⟩:=st
  simp only [List.mem_cons,List.not_mem_nil,or_false] at hc
  rcases hc with rfl | rfl | rfl | rfl | rfl
  ·exact⟨_,h1,λv z=>by cases z⟩
  ·exact⟨_,h2,λv z=>by cases z⟩
  ·exact⟨_,h3,λv z=>by cases z⟩
  ·exact h4.there
  ·exact h5.there
 keep:=λi h h' st k=>by
  obtain⟨h1,h2,⟨u,v,h3⟩,h4,h5⟩:=st
  exact⟨k z (by simp) _ h1,k TI (by simp) _ h2,⟨u,v,k TO (by simp) _ h3⟩,h4.at λo x=>k i1 (by simp) o x,h5.at λo x=>k i2 (by simp) o x⟩
 item:=by
  intro X hP hw hK hc i pins s σ H E I hf st hg
  subst hP hw hK
  obtain⟨xs,ys,x,y,hq1,hq2,hx,hy⟩:=hg
  obtain⟨its1,rv1,p1⟩:=I.xF hq1
  obtain⟨its2,rv2,p2⟩:=I.xF hq2
  obtain⟨u,hu,ru⟩:=rv1.get hx
  obtain⟨v,hv,rv⟩:=rv2.get hy
  obtain⟨h1,h2,⟨u0,v0,h3⟩,h4,h5⟩:=st
  refine iT ap h1 h2 h3 h4 h5 p1 p2 (x:=u) (y:=v) (by simpa using hu) (by simpa using hv) λh' z' TO' j1 j2 hT hk=>?_
  refine⟨_,rfl,?_⟩
  have fT:H s.heap.objs.size=none:=I.hok.fresh (Nat.le_refl _)
  refine wpAny_letOwnedTupleGo_zip z' λh'' z2 s2=>?_
  have hke:∀ c o,c∉[z,TI,TO,i1,i2]->s.heap.get? c=some o->h''.get? c=some o:=λc o hc q=>by
   simp only [List.mem_cons,List.not_mem_nil,or_false,not_or] at hc
   exact (s2.2 c hc.1).trans (hk c o hc.1 hc.2.2.1 hc.2.2.2.1 hc.2.2.2.2 q)
  have I1:Inv X pins σ H { s with heap:=h'',toks:=s.toks }:=I.gP hke hf
  have nz:∀ c∈[z,TI,TO,i1,i2],c≠s.heap.objs.size:=λc hc e=>by
   have:∃ o,s.heap.get? c=some o:=by
    simp only [List.mem_cons,List.not_mem_nil,or_false] at hc
    rcases hc with rfl | rfl | rfl | rfl | rfl
    ·exact⟨_,h1⟩
    ·exact⟨_,h2⟩
    ·exact⟨_,h3⟩
    ·obtain⟨o,e,_⟩:=h4.there;exact⟨o,e⟩
    ·obtain⟨o,e,_⟩:=h5.there;exact⟨o,e⟩
   obtain⟨o,eo⟩:=this
   exact Nat.ne_of_lt (Heap.lt_size eo) e
  have hT2:h''.get? s.heap.objs.size=some { cls:=.type "tuple",data:=.seq #[u,v] }:=(s2.2 _ (Ne.symm (nz z (by simp)))).trans hT
  refine⟨.ref s.heap.objs.size,upd H s.heap.objs.size (.tup [x,y]),?_,rfl,⟨_,x,y,fT,rfl,λzs hz=>by rw [I.nW hz hq1];exact hx,λzs hz=>by rw [I.nW hz hq2];exact hy,rfl⟩,
   ⟨z2,(s2.2 TI ap.TIz).trans (hk TI _ ap.TIz ap.TITO ap.TIi1 ap.TIi2 h2),⟨_,_,(s2.2 TO ap.TOz).trans TO'⟩,j1.at λo q=>(s2.2 i1 ap.i1z).trans q,j2.at λo q=>(s2.2 i2 ap.i2z).trans q⟩,λc hc=>?_⟩
  ·exact I1.adopt (T:=s.heap.objs.size) (o:=.tup [x,y]) (I.kW (Nat.le_refl _) fT) ⟨by show 2<=sizeLine;decide,[u,v],.cons ru (.cons rv .nil),⟨_,hT2,rfl,_,rfl⟩⟩
  ·rw [ak (nz c hc)]
   exact (hf c hc).1
 done:=by
  intro X hP hw hK hc i pins s σ H E I hf st hg
  subst hP hw hK
  obtain⟨xs,hq,hx⟩:=hg
  obtain⟨its,rv,p⟩:=I.xF hq
  have hl:=rv.length
  obtain⟨h1,h2,⟨u0,v0,h3⟩,h4,h5⟩:=st
  exact jX (I.ok.hd hc) ap.i1z ap.l1z h1 h2 h3 h4 p (by simp;omega) λh' eb=>⟨rfl,I.gP (t':=s.toks) (ch:=[z,i1]) (λc o hc q=>by
   simp only [List.mem_cons,List.not_mem_nil,or_false,not_or] at hc
   exact eb c o hc.1 hc.2 q) (λc hc=>hf c (by
    simp only [List.mem_cons,List.not_mem_nil,or_false] at hc
    rcases hc with rfl | rfl<;>simp))⟩
 self:=λ_ _ _ _ _ st h=>wpAny_pyIter_zip st.1 h
def w6 (k1 k2:Sd) (K:PySem.W.Frag) (ta:TA):TI:=λσ H R=>ta σ H λvs H1=>∃ a b,vs=[.ref a,.ref b]/\(∃ xs,mY k1 K H1 a xs)/\(∃ ys,mY k2 K H1 b ys)/\R (xZ k1 k2 K a b) H1
theorem oa:bootBuiltins "zip"=some (.type "zip"):=by decide +kernel
theorem vY {X:Cx} {elts:List Expr} {x1} {tpos:Pos} {a b:Expr} {ta:TA} {p pos:Pos} (k1 k2:Sd) (hg:Gl X "zip") (hm:X.mg "zip"=none) (ha:PA X [a,b] ta) (hs:starEach [a,b] X.env=[(false,eval a X.env),(false,eval b X.env)]:=by rfl) (hs2:starEach [b] X.env=[(false,eval b X.env)]:=by rfl) :
  PI X (.Tuple elts x1 tpos) (.Call (.Name "zip" p) [a,b] [] pos) (w6 k1 k2 X.K ta):=by
 intro pins s σ H R I h
 refine Call_ (gh I hg hm oa (PyProof.Rows.callWith_type1 (a5 (ha pos pins s σ H _ I h) λus s1 ⟨vs,H1,I1,r1,q1⟩=>?_) (by rw [hs,hs2]) (by rw [hs2];rfl)))
 obtain⟨a',b',e,⟨xs,hq1⟩,⟨ys,hq2⟩,q⟩:=q1
 subst e
 cases r1 with
 | cons r rr =>
  cases rr with
  | cons r' rr' =>
   cases rr'
   cases r
   cases r'
   obtain⟨its1,rv1,p1⟩:=I1.xF hq1
   obtain⟨its2,rv2,p2⟩:=I1.xF hq2
   refine qa p1 p2 λh' hz hTI hTO j1 j2 hk=>?_
   refine wpAny_pyIter_zip hz ?_
   have I2:Inv X pins σ H1 { s1 with heap:=h' }:=I1.kept (t':=s1.toks) hk
   refine⟨_,[s1.heap.objs.size+4,s1.heap.objs.size+2,s1.heap.objs.size+3,s1.heap.objs.size,s1.heap.objs.size+1],_,_,H1,rfl,I2,rY (PyProof.Rows.zipApart_new p1.lt p2.lt),⟨hz,hTI,⟨_,_,hTO⟩,j1,j2⟩,λc hc=>?_,q⟩
   simp only [List.mem_cons,List.not_mem_nil,or_false] at hc
   rcases hc with rfl | rfl | rfl | rfl | rfl<;>exact I1.kW (by omega) (I1.hok.fresh (by omega))
theorem ow {K:PySem.W.Frag} {k1 k2:Sd} {a b:Addr} {xs ys:List V} {js:List (Option Nat)} {g:TG} {tt:TT} {te:TE} {σ:St} {Q:VK} {H1:Hp} (Pv:Nat->List V->Hp->Prop) (h0:Pv 0 [] H1) (hxy:xs.length=ys.length) (hx:xs.length<=sizeLine) (hl:∀ i zs H,i<=xs.length->Pv i zs H->mY k1 K H a xs/\mY k2 K H b ys/\zs.length<=i)
  (hs:∀ i x y zs H p,xs[i]?=some x->ys[i]?=some y->Pv i zs H->H p=none->g (.ref p) (bc js σ) (upd H p (.tup [x,y])) λσ2 H2=>a6 (bc js σ) σ2/\tt σ2 H2 λc H3=>if c=true then te σ2 H3 λv H4=>Pv (i+1) (zs++[v]) H4 else Pv (i+1) zs H3)
  (hd:∀ zs H p,Pv xs.length zs H->H p=none->Q (.ref p) (upd H p (.lst zs))):kz (xZ k1 k2 K a b) js g tt te σ Q H1:=by
 refine⟨λi m zs H=>m=xs.length-i/\i<=xs.length/\Pv i zs H,⟨xs.length,by simp,Nat.zero_le _,h0⟩,?_⟩
 rintro i m zs H ⟨rfl,hi,p⟩
 obtain⟨q,q',hy⟩:=hl i zs H hi p
 by_cases hlt:i<xs.length
 ·refine .inr ⟨⟨xs,ys,xs[i],ys[i],q,q',by simp [hlt],by simp⟩,by omega,Pv (i+1),λys' H' p'=>⟨xs.length-(i+1),by omega,rfl,hlt,p'⟩,λx H' y=>?_⟩
  obtain⟨pt,u,v,f,e1,e2,e3,e4⟩:=y
  subst e1 e4
  exact hs i u v zs _ pt (e2 xs q) (e3 ys q') p f
 ·have e:i=xs.length:=by omega
  subst e
  exact .inl ⟨⟨xs,q,Nat.le_refl _⟩,by omega,λp' hp'=>hd zs H p' p hp'⟩
end L2
namespace Num
theorem vS {p x y:Int} {m:Nat} (h:Al p x y) (o:Ord p x m):Ord p y m:=⟨o.pos,(h.pow m).symm.trans o.one,λj z=>o.dv j ((h.pow j).trans z)⟩
def eN:List (Int × Int)->Nat
 | []=>1
 | p::r=>p.1.toNat^p.2.toNat*eN r
theorem bO:∀ a b:List (Int × Int),eN (a++b)=eN a*eN b
 | [],b=>by simp [eN]
 | p::r,b=>by
  show p.1.toNat^p.2.toNat*eN (r++b)=p.1.toNat^p.2.toNat*eN r*eN b
  rw [bO r b,Nat.mul_assoc]
theorem jO:∀ a:List (Int × Int),(∀ p∈a,Pm p.1)->(eN a:Int)=bL a
 | [],_=>rfl
 | p::r,h=>by
  have t:=(h p (List.mem_cons_self ..)).two
  show ((p.1.toNat^p.2.toNat*eN r:Nat):Int)=p.1^p.2.toNat*bL r
  rw [Int.natCast_mul,Int.natCast_pow,jO r λx z=>h x (List.mem_cons_of_mem _ z),show (p.1.toNat:Int)=p.1 by omega]
theorem l9:∀ a:List (Int × Int),(∀ p∈a,Pm p.1)->0<eN a
 | [],_=>Nat.one_pos
 | p::r,h=>by
  have t:=(h p (List.mem_cons_self ..)).two
  exact Nat.mul_pos (Nat.pow_pos (by omega)) (l9 r λx z=>h x (List.mem_cons_of_mem _ z))
theorem vw {q m:Nat} (h:Nm q) (hm:¬q∣m) (k:Nat):Nat.Coprime (q^k) m:=Nat.Coprime.pow_left k (h.co hm)
theorem wV {q:Int} (hq:Pm q) {b:List (Int × Int)} (hb:∀ p∈b,Pm p.1) (ne:∀ p∈b,p.1≠q):¬q.toNat∣eN b:=λz=>by
 have t:=hq.two
 have:q∣bL b:=by
  rw [<- jO b hb]
  have:=Int.natCast_dvd_natCast.mpr z
  rwa [show (q.toNat:Int)=q by omega] at this
 obtain⟨p,hp,e⟩:=cY hq hb this
 exact ne p hp e
theorem uw {b:List (Int × Int)} (hb:∀ p∈b,Pm p.1):∀ a:List (Int × Int),(∀ p∈a,Pm p.1)->(∀ x∈a,∀ y∈b,y.1≠x.1)->Nat.Coprime (eN a) (eN b)
 | [],_,_=>Nat.coprime_one_left _
 | p::r,h,ne=>by
  have hp:=h p (List.mem_cons_self ..)
  exact Nat.Coprime.mul_left (vw (qO hp) (wV hp hb (ne p (List.mem_cons_self ..))) _) (uw hb r (λx z=>h x (List.mem_cons_of_mem _ z)) λx z=>ne x (List.mem_cons_of_mem _ z))
theorem tU {n a:Int} {q t:Nat} (hq:Nm q) (h:Al n (a^q^t) 1) (no:∀ j,j<t->¬Al n (a^q^j) 1):Ord n a (q^t):=by
 have q2:=hq.1
 obtain⟨m,o,_⟩:=iw (N:=q^t) (Nat.pow_pos (by omega)) h
 have d:=o.dv _ h
 cases t with
 | zero =>
  have:m=1:=Nat.eq_one_of_dvd_one (by simpa using d)
  rw [this] at o
  simpa using o
 | succ k =>
  have:m=q^(k+1):=nH hq k m d λz=>no k (Nat.lt_succ_self _) (by
   obtain⟨c,hc⟩:=z
   rw [hc]
   exact aR o.one)
  rw [<- this]
  exact o
theorem b7 {a:Int} {x y:Nat}:(a^x)^y=a^(x*y):=by rw [Int.pow_mul]
theorem mJ {n a:Int} {M1 M2 E1 E2:Nat} (co:Nat.Coprime M1 M2) (p1:0<M1) (p2:0<M2) (h:Al n (a^(M1*M2)) 1) (o1:Ord n (a^M2) E1) (o2:Ord n (a^M1) E2):Ord n a (E1*E2):=by
 have d1:E1∣M1:=o1.dv M1 (by rw [b7,Nat.mul_comm];exact h)
 have d2:E2∣M2:=o2.dv M2 (by rw [b7];exact h)
 obtain⟨c1,hc1⟩:=d1
 obtain⟨c2,hc2⟩:=d2
 obtain⟨e,o,_⟩:=iw (Nat.mul_pos p1 p2) h
 have x1:e∣M2*E1:=o.dv _ (by rw [<- b7];exact o1.one)
 have x2:e∣M1*E2:=o.dv _ (by rw [<- b7];exact o2.one)
 have cc:Nat.Coprime c2 c1:=by
  have:Nat.Coprime c1 c2:=Nat.Coprime.coprime_dvd_left ⟨E1,by rw [hc1,Nat.mul_comm]⟩ (Nat.Coprime.coprime_dvd_right ⟨E2,by rw [hc2,Nat.mul_comm]⟩ co)
  exact this.symm
 have x3:e∣E1*E2:=by
  have:=Nat.dvd_gcd x1 x2
  rw [show M2*E1=E1*E2*c2 by rw [hc2];rw [Nat.mul_comm (E2*c2) E1,Nat.mul_assoc],show M1*E2=E1*E2*c1 by rw [hc1];rw [Nat.mul_assoc,Nat.mul_comm c1 E2,Nat.mul_assoc],Nat.gcd_mul_left,cc.gcd_eq_one,Nat.mul_one] at this
  exact this
 have ce:Nat.Coprime E1 E2:=Nat.Coprime.coprime_dvd_left ⟨c1,hc1⟩ (Nat.Coprime.coprime_dvd_right ⟨c2,hc2⟩ co)
 refine⟨Nat.mul_pos o1.pos o2.pos,?_,λj hj=>?_⟩
 ·obtain⟨c,hc⟩:=x3
  rw [hc]
  exact aR o.one
 ·refine ce.mul_dvd_of_dvd_of_dvd (o1.dv j ?_) (o2.dv j ?_)
  ·rw [b7,Nat.mul_comm,<- b7]
   have:=hj.pow M2
   rwa [Int.one_pow] at this
  ·rw [b7,Nat.mul_comm,<- b7]
   have:=hj.pow M1
   rwa [Int.one_pow] at this
structure TO (n a:Int) (ps:List (Int × Int)) (ts:List Int):Prop where
 len:ts.length=ps.length
 nn:∀ t∈ts,0<=t
 ord:Ord n a (eN ((ps.map (·.1)).zip ts))
theorem TO.al {n a b:Int} {ps:List (Int × Int)} {ts:List Int} (h:TO n a ps ts) (e:Al n a b):TO n b ps ts:=⟨h.len,h.nn,vS e h.ord⟩
theorem TO.none {n a:Int} (h:Al n a 1):TO n a [] []:=⟨rfl,λ_ z=>by simp at z,⟨Nat.one_pos,by show Al n (a^1) 1;rw [Int.pow_one];exact h,λj _=>Nat.one_dvd j⟩⟩
theorem TO.one {n a q k:Int} {t:Nat} (hq:Pm q) (h:Al n (a^q.toNat^t) 1) (no:∀ j,j<t->¬Al n (a^q.toNat^j) 1):TO n a [(q,k)] [(t:Int)]:=by
 refine⟨rfl,λx z=>?_,?_⟩
 ·rw [List.mem_singleton.mp z];omega
 ·show Ord n a (q.toNat^(t:Int).toNat*1)
  rw [Nat.mul_one,Int.toNat_natCast]
  exact tU (qO hq) h no
theorem TO.two {n a:Int} {as bs:List (Int × Int)} {ts us:List Int} (ha:∀ p∈as,Pm p.1) (hb:∀ p∈bs,Pm p.1) (ne:∀ x∈as,∀ y∈bs,y.1≠x.1) (h:Al n (a^eN (as++bs)) 1) (h1:TO n (a^eN bs) as ts) (h2:TO n (a^eN as) bs us):TO n a (as++bs) (ts++us):=by
 refine⟨by rw [List.length_append,List.length_append,h1.len,h2.len],λt z=>(List.mem_append.mp z).elim (h1.nn t) (h2.nn t),?_⟩
 rw [List.map_append,List.zip_append (by rw [List.length_map,h1.len]),bO]
 rw [bO] at h
 exact mJ (uw hb as ha ne) (l9 as ha) (l9 bs hb) h h1.ord h2.ord
end Num
namespace L2
open PySem PySem.Spec PyProof.Rows
def xh (K:PySem.W.Frag) (ta:TA):TI:=λσ H R=>ta σ H λvs H1=>∃ a b k1 k2,vs=[.ref a,.ref b]/\(∃ xs,mY k1 K H1 a xs)/\(∃ ys,mY k2 K H1 b ys)/\R (xZ k1 k2 K a b) H1
end L2
namespace L2
open PySem PySem.Spec PyProof.Rows PySem.W
end L2
namespace L2
open PySem PySem.Spec PyProof.Rows
end L2
namespace L2
open PySem PySem.Spec PyProof.Rows PySem.W
section
variable {prog:Program} {w:World} {A:Around} {E:Value->Shared->Prop} {K:PySem.W.Frag} {h:Heap} {g:Array GenState} {d:Drawn} {t:Nat} {os:OsState} {x C B:Addr}
theorem kS {dd:Option Addr} {vs:Array Value} {sl:Array (Option Value)} {Q:Bool->Shared->Prop} (X:K.In h) (c:aS K C) (b:aS K B) (he:h.get? x=some ⟨.ref C,dd,.fields vs,sl⟩) (hs:mroIn K C (.ref B)=some false)
  (hq:Q false ⟨h,g,d,t,os⟩):wpAny (model prog w) A (excMatches (.ref x) (.ref B)) Q E ⟨h,g,d,t,os⟩:=by
 have f:=tc_notTuple
 have L1:=looks_mroIn (M:=model prog w) X hs
 have L2:=looks_mroIn (M:=model prog w) X b.base
 have L3:=looks_mroIn (M:=model prog w) X c.base
 obtain⟨od,cd,sc,hk⟩:=b.at_
 have hB:=X _ _ hk
 unfold excMatches
 repeat (first | with_reducible refine wpAny_loadPart_at he ?_ | with_reducible refine wpAny_loadPart_at hB ?_ | with_reducible refine Looks.at L1 ?_ | with_reducible refine Looks.at L2 ?_ | with_reducible refine Looks.at L3 ?_ | wp_step)
 exact hq
end
section
variable {X:Cx} {pins:List (Addr × Obj)} {σ:St} {H:Hp} {s:Shared} {x:Addr}
theorem mh {rest:List ExceptHandler} {i:Nat} {n c:Str} {np hpos:Pos} {b₀:Stmt} {suite:List Stmt} {ts:TS} {D:Ends} {C B T:Addr} {dd:Option Addr} (I:Inv X pins σ H s) (tr:Tr s.heap x (.ref C) dd T .none) (hT:H T=none) (fT:X.env.locals<T/\(∀ y c,X.env.cells.lookup y=some c->c≠T)/\∀ p∈X.pn++pins,p.1≠T)
  (cC:aS X.K C) (cB:aS X.K B) (hs:mroIn X.K C (.ref B)=some true) (hg:Gl X c) (hm:X.mg c=some (.ref B)) (hN:X.N.Nodup) (hi:X.N[i]?=some n) (hl:X.env.scope.names.lookup n=some .local)
  (ht:fZ (pP X x) (b₀::suite) ts) (h:ts (gv (some i) D) (kX (some i) x σ) H) (hdb:(c==("__debug__":Str))=false:=by decide) :
  wpAny (model X.prog X.w) X.A (handleBy (.ref x) X.env (.ExceptHandler (some (.Name c np)) (some n) (b₀::suite) hpos::rest)) (SP X pins D) X.xe s:=by
 have J:=I.yp x
 obtain⟨vs,sl,oT,tsv,he,r'⟩:=tr
 refine wpAny_handleBy_cons (codeAny_handlers_test (cI (X:=pP X x) J hg hm ?_ hdb)) (by intro q;cases q)
 obtain⟨hh,g,d,tk,os⟩:=s
 refine i9 I.cH cC cB he hs ?_
 refine codeAny_handlers_suite_as (land (s:=⟨hh,g,d,tk,os⟩) (fs:=[]) ⟨vs,sl,oT,tsv,he,r'⟩ λh' t' k'=>?_)
 have J1:Inv (pP X x) pins σ H { (⟨hh,g,d,tk,os⟩:Shared) with heap:=h' }:=J.turned (t':=tk) (it:=T) (λb o hb e=>k'.keep b o (by simpa using hb) (by simp) e) hT (Nat.ne_of_gt fT.1) (.inr (Nat.le_trans I.ok.above (Nat.le_of_lt fT.1))) fT.2.1 fT.2.2
 refine br (X:=pP X x) (v:=.ref x) J1 hN hi (.inl hl) rfl (λs2 J2=>?_) (.inr hl)
 refine wpAny_mono (ht pins s2 _ H _ J2 h) (λfl s3 q=>?_) λ_ _ z=>False.elim z
 cases fl with
 | next =>
  obtain⟨σ',H',I',q⟩:=q
  exact name_goes (I'.lu I.ok) hN hi hl λs4 I4=>⟨_,H',I4,q⟩
 | brk =>
  obtain⟨σ',H',I',q⟩:=q
  exact name_goes (I'.lu I.ok) hN hi hl λs4 I4=>⟨_,H',I4,q⟩
 | cont =>
  obtain⟨σ',H',I',q⟩:=q
  exact name_goes (I'.lu I.ok) hN hi hl λs4 I4=>⟨_,H',I4,q⟩
 | ret u =>
  obtain⟨v,σ',H',I',rv,q⟩:=q
  exact name_goes (I'.lu I.ok) hN hi hl λs4 I4=>⟨v,_,H',I4,rv,q⟩
theorem mi {rest:List ExceptHandler} {c:Str} {np hpos:Pos} {b₀:Stmt} {suite:List Stmt} {ts:TS} {D:Ends} {C B T:Addr} {dd:Option Addr} (I:Inv X pins σ H s) (tr:Tr s.heap x (.ref C) dd T .none) (hT:H T=none) (fT:X.env.locals<T/\(∀ y c,X.env.cells.lookup y=some c->c≠T)/\∀ p∈X.pn++pins,p.1≠T)
  (cC:aS X.K C) (cB:aS X.K B) (hs:mroIn X.K C (.ref B)=some true) (hg:Gl X c) (hm:X.mg c=some (.ref B))
  (ht:fZ (pP X x) (b₀::suite) ts) (h:ts D σ H) (hdb:(c==("__debug__":Str))=false:=by decide) :
  wpAny (model X.prog X.w) X.A (handleBy (.ref x) X.env (.ExceptHandler (some (.Name c np)) none (b₀::suite) hpos::rest)) (SP X pins D) X.xe s:=by
 have J:=I.yp x
 obtain⟨vs,sl,oT,tsv,he,r'⟩:=tr
 refine wpAny_handleBy_cons (codeAny_handlers_test (cI (X:=pP X x) J hg hm ?_ hdb)) (by intro q;cases q)
 obtain⟨hh,g,d,tk,os⟩:=s
 refine i9 I.cH cC cB he hs ?_
 refine codeAny_handlers_suite (land (s:=⟨hh,g,d,tk,os⟩) (fs:=[]) ⟨vs,sl,oT,tsv,he,r'⟩ λh' t' k'=>?_)
 have J1:Inv (pP X x) pins σ H { (⟨hh,g,d,tk,os⟩:Shared) with heap:=h' }:=J.turned (t':=tk) (it:=T) (λb o hb e=>k'.keep b o (by simpa using hb) (by simp) e) hT (Nat.ne_of_gt fT.1) (.inr (Nat.le_trans I.ok.above (Nat.le_of_lt fT.1))) fT.2.1 fT.2.2
 refine wpAny_mono (ht pins _ _ H _ J1 h) (λfl s3 q=>?_) λ_ _ z=>False.elim z
 cases fl with
 | next=>obtain⟨σ',H',I',q⟩:=q;exact⟨σ',H',I'.lu I.ok,q⟩
 | brk=>obtain⟨σ',H',I',q⟩:=q;exact⟨σ',H',I'.lu I.ok,q⟩
 | cont=>obtain⟨σ',H',I',q⟩:=q;exact⟨σ',H',I'.lu I.ok,q⟩
 | ret u=>obtain⟨v,σ',H',I',rv,q⟩:=q;exact⟨v,σ',H',I'.lu I.ok,rv,q⟩
end
def vm (X:Cx) (n:Option Nat) (B:Addr) (hd:ExceptHandler) (ts:TS):Prop:=(∃ c np nm body hpos,hd=.ExceptHandler (some (.Name c np)) nm body hpos/\Gl X c/\X.mg c=some (.ref B)/\(c==("__debug__":Str))=false/\aS X.K B) /\
 ∀(rest:List ExceptHandler) (pins:List (Addr × Obj)) (σ:St) (H:Hp) (s:Shared) (x C T:Addr) (dd:Option Addr) (D:Ends),Inv X pins σ H s->Tr s.heap x (.ref C) dd T .none->H T=none ->
 (X.env.locals<T/\(∀ y c,X.env.cells.lookup y=some c->c≠T)/\∀ p∈X.pn++pins,p.1≠T)->aS X.K C->mroIn X.K C (.ref B)=some true->ts (gv n D) (kX n x σ) H->wpAny (model X.prog X.w) X.A (handleBy (.ref x) X.env (hd::rest)) (SP X pins D) X.xe s
section
variable {X:Cx} {B:Addr} {n:Option Nat} {hd:ExceptHandler} {ts:TS}
theorem vW {i:Nat} {nm c:Str} {np hpos:Pos} {b₀:Stmt} {suite:List Stmt} (cB:aS X.K B) (hg:Gl X c) (hm:X.mg c=some (.ref B)) (hN:X.N.Nodup) (hi:X.N[i]?=some nm) (hl:X.env.scope.names.lookup nm=some .local) (ht:∀ x,fZ (pP X x) (b₀::suite) ts)
  (hdb:(c==("__debug__":Str))=false:=by decide):vm X (some i) B (.ExceptHandler (some (.Name c np)) (some nm) (b₀::suite) hpos) ts :=
 ⟨⟨c,np,_,_,hpos,rfl,hg,hm,hdb,cB⟩,λrest pins σ H s x C T dd D I tr hT fT cC hs h=>mh I tr hT fT cC cB hs hg hm hN hi hl (ht x) h hdb⟩
theorem vX {c:Str} {np hpos:Pos} {b₀:Stmt} {suite:List Stmt} (cB:aS X.K B) (hg:Gl X c) (hm:X.mg c=some (.ref B)) (ht:∀ x,fZ (pP X x) (b₀::suite) ts)
  (hdb:(c==("__debug__":Str))=false:=by decide):vm X none B (.ExceptHandler (some (.Name c np)) none (b₀::suite) hpos) ts :=
 ⟨⟨c,np,_,_,hpos,rfl,hg,hm,hdb,cB⟩,λrest pins σ H s x C T dd D I tr hT fT cC hs h=>mi I tr hT fT cC cB hs hg hm (ht x) h hdb⟩
theorem kY {rest:List ExceptHandler} {pins:List (Addr × Obj)} {σ:St} {H:Hp} {s:Shared} {x C T:Addr} {dd:Option Addr} {D:Ends} (hh:vm X n B hd ts) (I:Inv X pins σ H s) (tr:Tr s.heap x (.ref C) dd T .none) (cC:aS X.K C) (hs:mroIn X.K C (.ref B)=some false)
  (h:wpAny (model X.prog X.w) X.A (handleBy (.ref x) X.env rest) (SP X pins D) X.xe s):wpAny (model X.prog X.w) X.A (handleBy (.ref x) X.env (hd::rest)) (SP X pins D) X.xe s:=by
 obtain⟨⟨c,np,nm,body,hpos,rfl,hg,hm,hdb,cB⟩,_⟩:=hh
 have J:=I.yp x
 obtain⟨vs,sl,oT,tsv,he,r'⟩:=tr
 refine wpAny_handleBy_cons (codeAny_handlers_test (cI (X:=pP X x) J hg hm ?_ hdb)) (by intro q;cases q)
 obtain⟨hh,g,d,tk,os⟩:=s
 exact kS I.cH cC cB he hs h
variable {B2:Addr} {n2:Option Nat} {hd2:ExceptHandler} {ts2:TS}
def vc (K:PySem.W.Frag) (B:Addr) (n:Option Nat) (B2:Addr) (n2:Option Nat) (sp:Sp) (ta:TA) (put:V->St->St) (ts ts2:TS):TS:=λD σ H=>ta σ H λvs H1=>sp vs H1 (λv H2=>D.nx (put v σ) H2)
 (λcv xo H2=>∃ C x dd,cv=.ref C/\xo=some x/\H2 x=some (XO x C dd)/\aS K C/\((mroIn K C (.ref B)=some true/\ts (gv n D) (kX n x σ) H2)∨(mroIn K C (.ref B)=some false/\mroIn K C (.ref B2)=some true/\ts2 (gv n2 D) (kX n2 x σ) H2)))
theorem sP {pins:List (Addr × Obj)} {σ:St} {D:Ends} {E:XK} {ev:Value} {s' s1:Shared} {H1:Hp} (hst:X.stack=X.env::X.outer) (hfr:X.env.frame=some X.env.locals) (hh:vm X n B hd ts) (hh2:vm X n2 B2 hd2 ts2) (I:Inv X pins σ H1 s1) (hq:ft X.prog X.w X.stack H1 s1 E ev s')
  (hE:∀ C x H',E (.ref C) (some x) H'->aS X.K C/\((mroIn X.K C (.ref B)=some true/\ts (gv n D) (kX n x σ) H')∨(mroIn X.K C (.ref B)=some false/\mroIn X.K C (.ref B2)=some true/\ts2 (gv n2 D) (kX n2 x σ) H'))) :
  wpAny (model X.prog X.w) X.A (noteFrame ev X.env) (λ_ s2=>wpAny (model X.prog X.w) X.A (setFlight ev none) (λ_ s3=>wpAny (model X.prog X.w) X.A (handleBy ev X.env [hd,hd2]) (SP X pins D) X.xe s3) X.xe s2) X.xe s':=by
 refine landed hst hfr I hq λx C T dd H' h' ee I' tr hT hx e fT=>?_
 subst ee
 obtain⟨c1,c2⟩:=hE C x H' e
 rcases c2 with⟨c2,c3⟩|⟨c2,c3,c4⟩
 ·exact hh.2 _ pins σ H' _ x C T dd D I' tr hT fT c1 c2 c3
 ·exact kY hh I' tr c1 c2 (hh2.2 _ pins σ H' _ x C T dd D I' tr hT fT c1 c3 c4)
variable {k:Nat} {f:Str} {ps:List Str} {sp:Sp} {e:Expr} {es:List Expr} {t:TA} {p cpos epos pos:Pos}
end
namespace HT
section
variable {prog:Program} {w:World} {A:Around} {E:Value->Shared->Prop} {s:Shared}
end
end HT
end L2
namespace L2
open PySem PySem.Spec PyProof.Rows PySem.W
section
variable {prog:Program} {w:World} {A:Around} {E:Value->Shared->Prop} {s:Shared} {K:PySem.W.Frag} {x C:Addr} {name:Str} {v:Value} {cd:ClassData}
theorem qz {vs:Array Value} {sl:Array (Option Value)} {dx:Addr} {m:Str->Option Value} {f0:Str} {Q:Unit->Shared->Prop} (X:K.In s.heap) (hx:s.heap.get? x=some ⟨.ref C,some dx,.fields vs,sl⟩) (hd:s.heap.Ns1 dx m) (hw:PySem.Within m [f0]) (hne:dx≠x) (hc:clsIn K C=some cd) (hm:bb cd.mro=true) (hh:cd.hasDict=true)
  (hs:findIn K (.ref C) "__setattr__"=some (some (.builtin "object.__setattr__"))) (hn:findIn K (.ref C) name=some none)
  (h:∀ h',h'.get? x=some ⟨.ref C,some dx,.fields vs,sl⟩->h'.Ns1 dx (λy=>if y=name then some v else m y)->(∀ b ob,b≠dx->s.heap.get? b=some ob->h'.get? b=some ob)->Q () { s with heap:=h',toks:=s.toks+2 }) :
  wpAny (model prog w) A (setAttr (.ref x) name v) Q E s:=by
 obtain⟨oD0,es0,ep0,gD0,hdd0,rest0⟩:=id hd
 have I:PySem.W.InstAt s.heap x ⟨.ref C,some dx,.fields vs,sl⟩ C (some oD0):=⟨hx,rfl,rfl,gD0⟩
 obtain⟨m1,m2,m3⟩:=dW hm
 refine PySem.W.set_plain X I hs ?_
 have SF:=PySem.F.store_object
 have sub:Looks (model prog w) s.heap (isInstance (.ref x) (.type "object")) true:=I.type.andThen (looks_mroIn X (by unfold mroIn;rw [hc,Option.bind_some,if_neg (by rw [m3];decide),m1]))
 refine codeAny_call_builtin SF.slot.plain SF.entry (@check_slot (model prog w) _ _ { s with toks:=s.toks+1 } "object.__setattr__" "object" "__setattr__" (.ref x) [.str name s.toks,v] [] _ SF.kind SF.split sub (SF.args (.ref x) (.str name s.toks) v) ?_)
 have L1:Looks (model prog w) s.heap (mroOf (.ref C)) cd.mro:=(looks_clsIn X hc).andThen .now
 rw [osa_eq,refuse_eq]
 refine wpAny_bind (wpAny_bind (Looks.here (s:={ s with toks:=s.toks+1 }) I.type (wpAny_bind (Looks.here (s:={ s with toks:=s.toks+1 }) L1 ?_))))
 rw [fq _ hm]
 refine wpAny_pure (wpAny_bind (Looks.here (s:={ s with toks:=s.toks+1 }) I.type (wpAny_bind (Looks.here (s:={ s with toks:=s.toks+1 }) (looks_findIn X hn) (wpAny_bind (wpAny_pure ?_))))))
 show wpAny _ _ (Builtin.ObjectAttr.storeInOwnDict (.ref x) (.ref C) (.str name s.toks) name v false) _ _ _
 refine wpAny_bind (wpAny_pure (wpAny_bind (wpAny_bind (wpAny_loadPart hx ?_))))
 refine wpAny_bind (Looks.here (s:={ s with toks:=s.toks+1 }) (looks_clsIn X hc) ?_)
 rw [hh]
 refine wpAny_pure ?_
 show wpAny _ _ (Builtin.ObjectAttr.storeInDict dx (.str name s.toks) name v) _ _ _
 refine wpAny_bind (wpAny_pure (wpAny_bind ?_))
 refine wpAny_nsSet1 (s:={ s with toks:=s.toks+1 }) hd λh' hn2 hs2=>?_
 have hw2:PySem.Within (λy=>if y=name then some v else m y) [name,f0]:=λy hy=>by
  by_cases z:y=name
  ·rw [z];exact List.mem_cons_self
  ·have hy:m y≠none:=by simpa [z] using hy
   exact List.mem_cons_of_mem _ (hw y hy)
 obtain⟨oD,esD,epD,hoD,hdD,hcD⟩:=hn2.count hw2
 refine wpAny_bind (wpAny_lookBehind hoD (by rw [hdD];exact pastItsLine_dict (Nat.le_trans hcD (by show 2<=sizeLine+1;decide))) ?_)
 exact wpAny_pure (h h' ((hs2.2 _ (Ne.symm hne)).trans hx) hn2 λb ob hb e=>(hs2.2 b hb).trans e)
end
def wd (K:PySem.W.Frag) (ta tv:TE) (g:Str):TS:=λD σ H=>tv σ H λy H1=>ta σ H1 λxv H2=>∃ x C dx f0 v0,xv=.ref x/\H2 x=some (XN x C (some dx))/\H2 dx=some (.xd [(f0,v0)])/\aS K C/\findIn K (.ref C) g=some none /\
 D.nx σ (upd H2 dx (.xd [(g,y),(f0,v0)]))
section
variable {X:Cx} {o value:Expr} {f:Str} {pos pos':Pos} {ta tv:TE}
theorem rC (ha:PE X o ta) (hv:PE X value tv) (hs:swapsWith value (some (.Attribute o f pos')) pos.line X.env=pure false:=by rfl):PS X (.Assign [.Attribute o f pos'] value pos) (wd X.K ta tv f):=by
 intro pins s σ H D I h
 refine plainObj_wpAny_Assign_Attribute (a5 (hv pins s σ H _ I h) λu s1 ⟨y,H1,I1,ry,q⟩=>a5 (ha pins s1 σ H1 _ I1 q) λov s2 ⟨xv,H2,I2,rx,x,C,dx,f0,v0,ex,hx,hdx,c,hf,q2⟩=>?_) hs
 subst ex
 obtain rfl:ov=Value.ref x:=rx
 obtain⟨t,sl,hg⟩:=XN.get I2.hok hx
 obtain⟨mA,hn,hr⟩:=(show aN X.prog X.w H2 s2.heap dx (.xd [(f0,v0)]) from I2.hok dx _ hdx)
 obtain⟨cd,hc,hm,hh⟩:=c.cls
 have hne:dx≠x:=λz=>by rw [z,hx] at hdx;cases hdx
 have hw:PySem.Within mA [f0]:=λk hk=>by
  by_cases e:k=f0
  ·rw [e];exact List.mem_cons_self
  ·have e':(k==f0)=false:=by simpa using e
   have:=hr k
   rw [List.lookup_cons,e'] at this
   cases z:mA k with
   | none=>exact absurd z hk
   | some _=>rw [z] at this;exact False.elim this
 refine qz I2.cH hg hn hw hne hc hm hh c.sa hf λh' g1 g2 g3=>?_
 refine⟨σ,upd H2 dx (.xd [(f,y),(f0,v0)]),I2.un ⟨λb o q n _ _=>g3 b o (λz=>by rw [z,hdx] at n;cases n) q,λb o q n _ _=>⟨o.slots,g3 b o (λz=>by rw [z,hdx] at n;cases n) q⟩,λb o q n _=>?_,λb o q _=>?_,λb xs q=>?_,λb o xs q=>?_,λb ps q=>?_⟩ ?_,q2⟩
 ·rw [ak (λz=>by rw [z,hdx] at n;cases n)];exact n
 ·by_cases z:b=dx
  ·obtain⟨od,_,_,e,_⟩:=g2
   exact⟨_,by rw [z];exact e⟩
  ·exact⟨o,g3 b o z q⟩
 ·rw [ak (λz=>by rw [z,hdx] at q;cases q)];exact q
 ·rw [ak (λz=>by rw [z,hdx] at q;cases q)];exact q
 ·exact⟨#[],by rw [ak (λz=>by rw [z,hdx] at q;cases q),q];simp⟩
 ·intro b o q
  by_cases z2:b=dx
  ·subst z2
   rw [ag] at q
   cases q
   refine⟨_,g2,λk=>?_⟩
   show dD (List.lookup k [(f,y),(f0,v0)]) (if k=f then some u else mA k)
   by_cases e:k=f
   ·subst e
    rw [if_pos rfl,List.lookup_cons,beq_self_eq_true]
    exact ry
   ·have e':(k==f)=false:=by simpa using e
    rw [if_neg e,List.lookup_cons,e']
    exact hr k
  ·rw [ak z2] at q
   refine (I2.hok b o q).fW (λc' u' hc' r=>g3 c' u' (λz3=>?_) r) (λc' r=>?_) λc' xs r=>?_
   ·rcases hc' with e | e
    ·exact z2 (e.symm.trans z3)
    ·rw [z3,hdx] at e;cases e
   ·rw [ak (λz3=>by rw [z3,hdx] at r;cases r)];exact r
   ·rw [ak (λz3=>by rw [z3,hdx] at r;cases r)];exact r
end
theorem yJ {H:Hp} {x dx:Addr} {a b:HO} {c:HO} (ne:dx≠x):upd (upd (upd H dx a) x c) dx b=upd (upd H dx b) x c:=by
 funext z
 unfold upd
 by_cases h1:z=dx
 ·rw [if_pos h1,h1,if_neg ne,if_pos rfl]
 ·rw [if_neg h1]
  by_cases h2:z=x
  ·rw [if_pos h2,if_pos h2]
  ·rw [if_neg h2,if_neg h2,if_neg h1,if_neg h1]
def ko (K:PySem.W.Frag) (f g:Str):Sp:=λvs H Q _=>∃ x C v u,vs=[.ref x,v,u]/\H x=some (XN x C none)/\aS K C/\findIn K (.ref C) f=some none/\findIn K (.ref C) g=some none /\
 ∀ dx,H dx=none->dx≠x->Q .non (upd (upd H dx (.xd [(g,u),(f,v)])) x (XN x C (some dx)))
theorem qG {P:Program} {w:World} {K:PySem.W.Frag} {mg:Str->Option Value} {base:Heap} {qual f g p p':Str} {st:Stmt} {fi:Addr} {fd:FuncData} {p1 p2 p3 p4 q1 q2 q3 q4:Pos} (F:pR K "__init__" qual st fi fd) (S:az ["self",p,p'] ["self",p,p'] (ai st))
  (hb:aJ st=[.Assign [.Attribute (.Name "self" p1) f p2] (.Name p p3) p4,.Assign [.Attribute (.Name "self" q1) g q2] (.Name p' q3) q4]) (h1:(ai st).names.lookup ("self":Str)=some .local) (h2:(ai st).names.lookup p=some .local) (h3:(ai st).names.lookup p'=some .local) (hd:(p==("__debug__":Str))=false) (hcd:(p==("__classdict__":Str))=false) (hd':(p'==("__debug__":Str))=false) (hcd':(p'==("__classdict__":Str))=false)
  (sw:∀ env:Env,swapsWith (.Name p p3) (some (.Attribute (.Name "self" p1) f p2)) p4.line env=pure false) (sw':∀ env:Env,swapsWith (.Name p' q3) (some (.Attribute (.Name "self" q1) g q2)) q4.line env=pure false):bR P w K mg base a8 1 fi fd ["self",p,p'] (ko K f g):=by
 refine F.ok S (λvs H Q E h=>?_) (λcdv A outer s H vs Q E hr h=>?_)
 ·obtain⟨x,C,v,u,rfl,_⟩:=h
  rfl
 ·obtain⟨x,C,v,u,rfl,hx,c,hf,hg,q⟩:=h
  rw [hb]
  refine⟨_,ae (nL (fk (i:=0) rfl (.inl h1) (by decide) (by decide)) (fk (i:=1) rfl (.inl h2) hd hcd) (sw _)) (aj (rC (fk (i:=0) rfl (.inl h1) (by decide) (by decide)) (fk (i:=2) rfl (.inl h3) hd' hcd') (sw' _))),?_⟩
  refine⟨v,rfl,.ref x,rfl,x,C,rfl,hx,c,hf,λdx n ne=>?_⟩
  refine⟨u,rfl,.ref x,rfl,x,C,dx,f,v,rfl,ag,by rw [ak ne,ag],c,hg,?_⟩
  rw [yJ ne]
  exact q dx n ne
structure sG (P:Program) (w:World) (K:PySem.W.Frag) (mg:Str->Option Value) (base:Heap) (x:Str) (C:Addr) (f g:Str):Prop where
 mkd:lX K C
 cls:aS K C
 at_:mg x=some (.ref C)
 nof:findIn K (.ref C) f=some none
 nog:findIn K (.ref C) g=some none
 ex:∃ fi fd p p',findIn K (.ref C) "__init__"=some (some (.ref fi))/\isFn K (.ref fi)=true/\bR P w K mg base a8 1 fi fd ["self",p,p'] (ko K f g)/\Binds K fd ["self",p,p'] []
def xX (C:Addr) (f g:Str) (t:TA):TE:=λσ H Q=>t σ H λvs H1=>∃ v u,vs=[v,u]/\∀ x dx,H1 x=none->H1 dx=none->dx≠x->Q (.ref x) (upd (upd (upd H1 x (XN x C none)) dx (.xd [(g,u),(f,v)])) x (XN x C (some dx)))
section
variable {X:Cx} {C:Addr} {f g x:Str} {pos np:Pos} {e e':Expr} {t:TA}
theorem vV (c:sG X.prog X.w X.K X.mg X.base x C f g) (hr:bF 2 X.A) (hg:Gl X x) (ha:PA X [e,e'] t) (hdb:(x==("__debug__":Str))=false:=by decide)
  (he:starEach [e,e'] X.env=(false,eval e X.env)::starEach [e'] X.env:=by rfl) (hpl:(backTo pos (starEach [e'] X.env)).any (·.1)=false:=by rfl):PE X (.Call (.Name x np) [e,e'] [] pos) (xX C f g t):=by
 obtain⟨fi,fd,p,p',hi,fn,F,hb⟩:=c.ex
 have M:=c.mkd
 intro pins s σ H Q I h
 refine wpAny_Call_Name_kw (cI I hg c.at_ ?_ hdb)
 refine PySem.W.callWith_K (h₀:=X.base) I.ok.mod.kin M.kp (a5 (ha pos pins s σ H _ I h) λus s1 ⟨vs,H1,I1,r,q⟩=>⟨I1.cH,?_⟩) he hpl
 obtain⟨v,v',rfl,q⟩:=q
 obtain⟨u,u',rfl,ru,ru'⟩:=vals2 r
 obtain⟨nm,qn,Nn,bs,bm,hdct,sn,sub,ab,col,dd,k0,k1,k2,k3,k5,hk,hB,hA,hN⟩:=M.obj
 have I2:=Inv.newExc (C:=C) I1 [u,u']
 have n1:H1 (s1.heap.objs.size+1)=none:=I1.hok.fresh (Nat.le_succ _)
 have r2:Vals [V.ref (s1.heap.objs.size+1),v,v'] [Value.ref (s1.heap.objs.size+1),u,u']:=.cons rfl (.cons ru (.cons ru' .nil))
 have hq:ko X.K f g [V.ref (s1.heap.objs.size+1),v,v'] (upd H1 (s1.heap.objs.size+1) (XN (s1.heap.objs.size+1) C none)) (λz H3=>z=.non/\Q (.ref (s1.heap.objs.size+1)) H3) E0 :=
  ⟨_,C,v,v',rfl,ag,c.cls,c.nof,c.nog,λdx hd hne=>⟨rfl,q _ dx n1 (by rw [ak hne] at hd;exact hd) hne⟩⟩
 obtain⟨hh,g,d,tk,os⟩:=s1
 refine gX (K:=X.K) I1.cH hB hA hN (I1.cH _ _ hk) (by show 2<=sizeLine;decide) hi (bind_fn I1.cH _ (beq_iff_eq.mp fn)) ?_
 refine codeAny_mono (F.run _ X.stack _ _ ⟨[Value.ref (hh.objs.size+1),u,u'],[]⟩ [Value.ref (hh.objs.size+1),u,u'] _ _ E0 (hr.make C [u,u'] []) (I2.sT.make C [u,u'] []) (by have:=hb _ [Value.ref (hh.objs.size+1),u,u'] I2.cH rfl;rwa [List.append_nil] at this) r2 hq) λr s' hq'=>?_
 cases r with
 | error e=>exact False.elim hq'
 | ok fl =>
  cases fl with
  | ret u' =>
   obtain⟨v',H',I3,rv,ev,q3⟩:=I2.after hq'
   subst ev
   exact⟨rv,⟨V.ref (hh.objs.size+1),H',I3,rfl,q3⟩⟩
  | next=>exact False.elim hq'
  | brk=>exact False.elim hq'
  | cont=>exact False.elim hq'
end
structure mX (qual f g p p':Str) (st:Stmt):Prop where
 S:az ["self",p,p'] ["self",p,p'] (ai st)
 hb:∃ p1 p2 p3 p4 q1 q2 q3 q4,aJ st=[.Assign [.Attribute (.Name "self" p1) f p2] (.Name p p3) p4,.Assign [.Attribute (.Name "self" q1) g q2] (.Name p' q3) q4]/\(∀ env:Env,swapsWith (.Name p p3) (some (.Attribute (.Name "self" p1) f p2)) p4.line env=pure false)/\(∀ env:Env,swapsWith (.Name p' q3) (some (.Attribute (.Name "self" q1) g q2)) q4.line env=pure false)
 h1:(ai st).names.lookup ("self":Str)=some .local
 h2:(ai st).names.lookup p=some .local
 h3:(ai st).names.lookup p'=some .local
 hd:(p==("__debug__":Str))=false
 hcd:(p==("__classdict__":Str))=false
 hd':(p'==("__debug__":Str))=false
 hcd':(p'==("__classdict__":Str))=false
 bd:∀(kV doc pm:Value) (an:Option Addr) (cdv ct:Value) (us:List Value),us.length=3->bindArgs (PySem.W.fnOf "__init__" qual (a9 st) (aJ st) (ai st) .none kV doc pm an cdv ct) ⟨us,[]⟩=pure ((["self",p,p']:List Str).zip us)
section
variable {K:PySem.W.Frag} {mg:Str->Option Value} {x f g p p' qual:Str} {C fi:Addr}
theorem um {st:Stmt} {oc:Value} {od an:Option Addr} {osl:Array (Option Value)} {kV doc pm cdv ct:Value} (I:mX qual f g p p' st) (a:mg x=some (.ref C)) (M:lX K C) (c:aS K C) (nof:findIn K (.ref C) f=some none) (nog:findIn K (.ref C) g=some none)
  (ini:findIn K (.ref C) "__init__"=some (some (.ref fi))) (fn:isFn K (.ref fi)=true) (l:K.lookup fi=some ⟨oc,od,.func (PySem.W.fnOf "__init__" qual (a9 st) (aJ st) (ai st) .none kV doc pm an cdv ct),osl⟩) (cc:codeIn K cdv qual=true) (kk:keepIn K (.ref fi)=true) :
  ∀(P:Program) (w:World) (base:Heap),sG P w K mg base x C f g:=λP w base=>by
 obtain⟨p1,p2,p3,p4,q1,q2,q3,q4,hb,sw,sw'⟩:=I.hb
 have F:=me l cc kk
 exact⟨M,c,a,nof,nog,fi,_,p,p',ini,fn,qG F I.S hb I.h1 I.h2 I.h3 I.hd I.hcd I.hd' I.hcd' sw sw',F.binds I.bd⟩
end
end L2
namespace Num
theorem iE {p:Int} (hp:2<=p):∀{k l:Nat} {R T:Int},¬p∣R->¬p∣T->p^k*R=p^l*T->k=l/\R=T
 | 0,0,R,T,_,_,e=>by rw [Int.pow_zero,Int.one_mul,Int.one_mul] at e;exact⟨rfl,e⟩
 | 0,l+1,R,T,h,_,e=>by
  rw [Int.pow_zero,Int.one_mul,Int.pow_succ,Int.mul_comm (p^l),Int.mul_assoc] at e
  exact absurd ⟨_,e⟩ h
 | k+1,0,R,T,_,h,e=>by
  rw [Int.pow_zero,Int.one_mul,Int.pow_succ,Int.mul_comm (p^k),Int.mul_assoc] at e
  exact absurd ⟨_,e.symm⟩ h
 | k+1,l+1,R,T,h,h',e=>by
  rw [Int.pow_succ,Int.pow_succ,Int.mul_comm (p^k),Int.mul_comm (p^l),Int.mul_assoc,Int.mul_assoc] at e
  obtain⟨e1,e2⟩:=iE hp h h' (Int.eq_of_mul_eq_mul_left (by omega) e)
  exact⟨by rw [e1],e2⟩
theorem Part.tail {n:Int} {x:Int × Int} {r:List (Int × Int)} (h:Part n (x::r)):Part (bL r) r:=⟨λp hp=>h.ok p (List.mem_cons_of_mem _ hp),(List.pairwise_cons.mp h.rise).2,rfl⟩
theorem Part.nd {n:Int} {x:Int × Int} {r:List (Int × Int)} (h:Part n (x::r)):¬x.1∣bL r:=λz=>by
 obtain⟨y,hy,e⟩:=cY (h.ok x (List.mem_cons_self ..)).1 (λp hp=>(h.ok p (List.mem_cons_of_mem _ hp)).1) z
 have:=(List.pairwise_cons.mp h.rise).1 y hy
 omega
theorem Part.hd {n:Int} {x:Int × Int} {r:List (Int × Int)} (h:Part n (x::r)) {q:Int} (hq:Pm q) (hd:q∣n):x.1<=q:=by
 obtain⟨y,hy,e⟩:=cY hq (λp hp=>(h.ok p hp).1) (h.prod▸hd)
 rcases List.mem_cons.mp hy with rfl | hy
 ·omega
 ·have:=(List.pairwise_cons.mp h.rise).1 y hy
  omega
theorem Part.dv {n:Int} {ps:List (Int × Int)} (h:Part n ps) {x:Int × Int} (hx:x∈ps):x.1∣n:=h.prod▸cV hx (h.ok x hx).2.1
theorem Part.one:∀{ps qs:List (Int × Int)} {n:Int},Part n ps->Part n qs->ps=qs
 | [],[],_,_,_=>rfl
 | [],y::t,n,h,h'=>by
  exfalso
  have e:n=1:=h.prod.symm
  have:=(h'.ok y (List.mem_cons_self ..)).1.two
  have:=Int.le_of_dvd (by decide) (e▸h'.dv (List.mem_cons_self ..))
  omega
 | x::r,[],n,h,h'=>by
  exfalso
  have e:n=1:=h'.prod.symm
  have:=(h.ok x (List.mem_cons_self ..)).1.two
  have:=Int.le_of_dvd (by decide) (e▸h.dv (List.mem_cons_self ..))
  omega
 | (p,k)::r,(q,l)::t,n,h,h'=>by
  have hp:=h.ok _ (List.mem_cons_self ..)
  have hq:=h'.ok _ (List.mem_cons_self ..)
  have e1:p<=q:=h.hd hq.1 (h'.dv (List.mem_cons_self ..))
  have e2:q<=p:=h'.hd hp.1 (h.dv (List.mem_cons_self ..))
  obtain rfl:p=q:=by omega
  obtain⟨a,b⟩:=iE hp.1.two h.nd h'.nd (h.prod.trans h'.prod.symm)
  have:k=l:=by have:=hp.2.1;have:=hq.2.1;simp only at *;omega
  subst this
  rw [Part.one h.tail (b▸h'.tail)]
def xw:List (Int × Int)->Int
 | []=>1
 | x::r=>x.1^(x.2.toNat-1)*(x.1-1)*xw r
theorem jv:∀{ps:List (Int × Int)},(∀ p∈ps,Pm p.1)->0<bL ps
 | [],_=>by decide
 | x::r,h=>Int.mul_pos (bf (by have:=(h x (List.mem_cons_self ..)).two;omega) _) (jv λp hp=>h p (List.mem_cons_of_mem _ hp))
theorem Part.pos {n:Int} {ps:List (Int × Int)} (h:Part n ps):0<n:=h.prod▸jv λp hp=>(h.ok p hp).1
structure Dv (A:Int) (F:List (List (Int × Int))):Prop where
 part:∀ s∈F,Part (bL s) s
 nodup:(F.map bL).Nodup
 mem:∀ d,d∈F.map bL↔0<d/\d∣A
 sum:(F.map xw).sum=A
theorem Dv.start:Dv 1 [[]]:=⟨λs hs=>by rw [List.mem_singleton.mp hs];exact⟨λ_ z=>by simp at z,List.Pairwise.nil,rfl⟩,by simp,λd=>by
  show d∈[1]↔_
  rw [List.mem_singleton]
  exact⟨λe=>by rw [e];exact⟨by decide,Int.dvd_refl _⟩,fun⟨a,b⟩=>by have:=Int.le_of_dvd (by decide) b;omega⟩,rfl⟩
structure Ds (n:Int) (ds:List Int):Prop where
 rise:ds.Pairwise (·<·)
 mem:∀ d,d∈ds↔0<d/\d∣n
theorem qN {l:List Int} (h:l.Pairwise (·<=·)) (nd:l.Nodup):l.Pairwise (·<·) :=
 (h.and nd).imp fun⟨a,b⟩=>by omega
theorem qM:∀{l m:List Int},l.Pairwise (·<·)->m.Pairwise (·<·)->(∀ a,a∈l↔a∈m)->l=m
 | [],[],_,_,_=>rfl
 | [],y::m,_,_,h=>by have:=(h y).mpr (List.mem_cons_self ..);simp at this
 | x::l,[],_,_,h=>by have:=(h x).mp (List.mem_cons_self ..);simp at this
 | x::l,y::m,hl,hm,h=>by
  obtain⟨a,b⟩:=List.pairwise_cons.mp hl
  obtain⟨c,d⟩:=List.pairwise_cons.mp hm
  have e:x=y:=by
   rcases List.mem_cons.mp ((h x).mp (List.mem_cons_self ..)) with z | z
   ·exact z
   ·rcases List.mem_cons.mp ((h y).mpr (List.mem_cons_self ..)) with w | w
    ·exact w.symm
    ·have:=a y w;have:=c x z;omega
  subst e
  rw [qM b d λz=>?_]
  constructor
  ·intro hz
   rcases List.mem_cons.mp ((h z).mp (List.mem_cons_of_mem _ hz)) with w | w
   ·have:=a z hz;omega
   ·exact w
  ·intro hz
   rcases List.mem_cons.mp ((h z).mpr (List.mem_cons_of_mem _ hz)) with w | w
   ·have:=c z hz;omega
   ·exact w
theorem Ds.one {n:Int} {ds es:List Int} (h:Ds n ds) (h':Ds n es):ds=es:=qM h.rise h'.rise λa=>(h.mem a).trans (h'.mem a).symm
theorem Dv.ds {n:Int} {F:List (List (Int × Int))} {ds:List Int} (h:Dv n F) (p:ds.Perm (F.map bL)) (s:ds.Pairwise (·<=·)):Ds n ds :=
 ⟨qN s (p.nodup_iff.mpr h.nodup),λd=>p.mem_iff.trans (h.mem d)⟩
theorem gZ (p:Int->Bool):∀ l:List Int,l.length=(l.filter p).length+(l.filter (λd=>!p d)).length
 | []=>rfl
 | x::l=>by
  have:=gZ p l
  cases e:p x<;>simp [List.filter_cons,e]<;>omega
theorem yn {n:Int} (hn:n<=10^9) {l:List Int} (nd:l.Nodup) (h:∀ d∈l,0<d/\d∣n) (n0:0<n):l.length<=63246:=by
 have lo:(l.filter (λd=>decide (d<31623))).length<=31623:=by
  have:=j5 31623 ((l.filter (λd=>decide (d<31623))).map Int.toNat) ?_ ?_
  ·simpa using this
  ·refine List.pairwise_map.mpr ((nd.filter _).imp_of_mem λ{a b} ha hb ne e=>ne ?_)
   have h1:=h a (List.mem_filter.mp ha).1
   have h2:=h b (List.mem_filter.mp hb).1
   omega
  ·intro x hx
   obtain⟨d,hd,rfl⟩:=List.mem_map.mp hx
   have:=(List.mem_filter.mp hd).2
   simp at this
   omega
 have hi:(l.filter (λd=>!decide (d<31623))).length<=31623:=by
  have:=j5 31623 ((l.filter (λd=>!decide (d<31623))).map λd=>(n/d).toNat) ?_ ?_
  ·simpa using this
  ·refine List.pairwise_map.mpr ((nd.filter _).imp_of_mem λ{a b} ha hb ne e=>ne ?_)
   have h1:=h a (List.mem_filter.mp ha).1
   have h2:=h b (List.mem_filter.mp hb).1
   obtain⟨c,hc⟩:=h1.2
   obtain⟨c',hc'⟩:=h2.2
   have e1:n/a=c:=by rw [hc];exact Int.mul_ediv_cancel_left _ (by omega)
   have e2:n/b=c':=by rw [hc'];exact Int.mul_ediv_cancel_left _ (by omega)
   rw [e1,e2] at e
   have c0:0<c:=by
    rcases (by omega:c<=0∨0<c) with z | z
    ·have:=Int.mul_nonpos_of_nonneg_of_nonpos (show 0<=a by omega) z
     omega
    ·exact z
   have c0':0<c':=by
    rcases (by omega:c'<=0∨0<c') with z | z
    ·have:=Int.mul_nonpos_of_nonneg_of_nonpos (show 0<=b by omega) z
     omega
    ·exact z
   obtain rfl:c=c':=by omega
   exact Int.eq_of_mul_eq_mul_right (by omega) (hc.symm.trans hc')
  ·intro x hx
   obtain⟨d,hd,rfl⟩:=List.mem_map.mp hx
   have h1:=(List.mem_filter.mp hd).2
   simp at h1
   have h2:n/d<=n/31623:=by
    refine Int.le_ediv_of_mul_le (by decide) ?_
    have:=Int.ediv_mul_le n (show d≠0 by omega)
    have:=Int.mul_le_mul_of_nonneg_left h1 (Int.ediv_nonneg (show 0<=n by omega) (show 0<=d by omega))
    omega
   have:n/31623<31623:=Int.ediv_lt_of_lt_mul (by decide) (by omega)
   omega
 have:=gZ (λd:Int=>decide (d<31623)) l
 omega
def ins (x:Int × Int):List (Int × Int)->List (Int × Int)
 | []=>[x]
 | y::r=>if x.1<y.1 then x::y::r else y::ins x r
end Num
namespace Tim
open PySem PyProof.Rows
abbrev kk (x:Keyed):Int:=numOf x.1
def yM (x:Keyed):Prop:=∃ n t,x.1=.int n t
def wD (xs:Array Keyed):Prop:=∀ p∈xs.toList,yM p
theorem wD.at {xs:Array Keyed} (h:wD xs) {i:Nat} (hi:i<xs.size):yM xs[i]:=h _ (by simp)
section
variable {prog:Program} {w:World} {A:Around} {E:Value->Shared->Prop} {s:Shared} {a₀:Array Keyed}
theorem el {st:SortSt} {xs:Array Keyed} {i:Nat} {Q:Keyed->SortSt->Prop} (hi:i<xs.size) (h:Q xs[i] st) :
  wpS (model prog w) A E s (elem' xs i) Q st:=by
 rw [elem'_eq,getElem?_pos xs i hi]
 exact wpS_pure h
def wz (left:Bool) (v:Int) (xs:Array Keyed) (i:Nat):Prop:=if left=true then K xs i<v else K xs i<=v
instance (left:Bool) (v:Int) (xs:Array Keyed) (i:Nat):Decidable (wz left v xs i):=by unfold wz;infer_instance
theorem wz.mono {left:Bool} {v:Int} {xs:Array Keyed} {i j:Nat} (h:wz left v xs j) (le:K xs i<=K xs j):wz left v xs i:=by
 unfold wz at *
 split at h<;>rename_i c<;>simp only [c,if_true,if_false,Bool.false_eq_true]<;>omega
def Up (xs:Array Keyed) (lo hi:Nat):Prop:=∀ i j,lo<=i->i<=j->j<hi->K xs i<=K xs j
end
end Tim
namespace Tim
open PySem PyProof.Rows
def R (x y:Keyed):Prop:=kk x<=kk y
abbrev sF (l:List Keyed):Prop:=l.Pairwise R
structure Mg (o X Y T:List Keyed):Prop where
 sx:sF (o++X)
 sy:sF (o++Y)
 pm:(o++(X++Y)).Perm T
theorem Mg.swap {o X Y T:List Keyed} (h:Mg o X Y T):Mg o Y X T:=⟨h.sy,h.sx,(List.perm_append_comm.append_left o).trans h.pm⟩
theorem Mg.left {o X1 X2 Y T:List Keyed} (h:Mg o (X1++X2) Y T) (c:∀ x∈X1,∀ y∈Y,R x y):Mg (o++X1) X2 Y T:=by
 refine⟨by rw [List.append_assoc];exact h.sx,?_,by have:=h.pm;simpa only [List.append_assoc] using this⟩
 have h1:=List.pairwise_append.mp h.sx
 have h2:=List.pairwise_append.mp h.sy
 have h3:=List.pairwise_append.mp h1.2.1
 rw [List.append_assoc]
 refine List.pairwise_append.mpr ⟨h1.1,List.pairwise_append.mpr ⟨h3.1,h2.2.1,c⟩,λa ha b hb=>?_⟩
 rcases List.mem_append.mp hb with hb | hb
 ·exact h1.2.2 a ha b (List.mem_append_left _ hb)
 ·exact h2.2.2 a ha b hb
def Out (z T:List Keyed):Prop:=sF z/\z.Perm T
theorem Mg.sS {o X T:List Keyed} (h:Mg o X [] T):Out (o++X) T:=⟨h.sx,by have:=h.pm;rwa [List.append_nil] at this⟩
theorem Mg.sR {o Y T:List Keyed} (h:Mg o [] Y T):Out (o++Y) T:=⟨h.sy,by have:=h.pm;rwa [List.nil_append] at this⟩
structure Mh (o X Y T:List Keyed):Prop where
 sx:sF (X++o)
 sy:sF (Y++o)
 pm:((X++Y)++o).Perm T
theorem Mh.swap {o X Y T:List Keyed} (h:Mh o X Y T):Mh o Y X T:=⟨h.sy,h.sx,(List.perm_append_comm.append_right o).trans h.pm⟩
theorem Mh.left {o X1 X2 Y T:List Keyed} (h:Mh o (X1++X2) Y T) (c:∀ y∈Y,∀ x∈X2,R y x):Mh (X2++o) X1 Y T:=by
 refine⟨by rw [<- List.append_assoc];exact h.sx,?_,?_⟩
 ·have h1:=List.pairwise_append.mp h.sx
  have h2:=List.pairwise_append.mp h.sy
  have h3:=List.pairwise_append.mp h1.1
  refine List.pairwise_append.mpr ⟨h2.1,List.pairwise_append.mpr ⟨h3.2.1,h1.2.1,λa ha b hb=>h1.2.2 a (List.mem_append_right _ ha) b hb⟩,λa ha b hb=>?_⟩
  rcases List.mem_append.mp hb with hb | hb
  ·exact c a ha b hb
  ·exact h2.2.2 a ha b hb
 ·refine List.Perm.trans ?_ h.pm
  rw [<- List.append_assoc]
  refine List.Perm.append_right o ?_
  rw [List.append_assoc,List.append_assoc]
  exact List.perm_append_comm.append_left X1
theorem Mh.sS {o X T:List Keyed} (h:Mh o X [] T):Out (X++o) T:=⟨h.sx,by have:=h.pm;rwa [List.append_nil] at this⟩
theorem Mh.sR {o Y T:List Keyed} (h:Mh o [] Y T):Out (Y++o) T:=h.swap.sS
theorem Mh.xi {o X T:List Keyed} {y:Keyed} (h:Mh o X [y] T) (c:∀ x∈X,R y x):Out ([y]++X++o) T:=by
 have:=(Mh.left (X1:=[]) (X2:=X) h λz hz x hx=>by rw [List.mem_singleton.mp hz];exact c x hx).sR
 rwa [<- List.append_assoc] at this
theorem ext_toList (xs:Array Keyed) (a b:Nat):(xs.extract a b).toList=(xs.toList.drop a).take (b-a):=by simp [Array.toList_extract,List.extract_eq_take_drop]
theorem mT {xs:Array Keyed} {i:Nat} (h:i<xs.size):xs.toList.take (i+1)=xs.toList.take i++[xs[i]]:=by
 have h':i<xs.toList.length:=by simpa using h
 rw [List.take_succ_eq_append_getElem h']
 simp
end Tim
namespace Tim
open PySem PyProof.Rows
structure Sm (st st':SortSt):Prop where
 kind:kindOf st'=kindOf st
 arr:arrOf st'=arrOf st
 pend:pendingOf st'=pendingOf st
 failed:failedOf st'=failedOf st
theorem Sm.trans {a b c:SortSt} (h:Sm a b) (g:Sm b c):Sm a c:=⟨g.kind.trans h.kind,g.arr.trans h.arr,g.pend.trans h.pend,g.failed.trans h.failed⟩
section
variable {prog:Program} {w:World} {A:Around} {E:Value->Shared->Prop} {s:Shared} {xs ys:Array Keyed}
def J (xs ys out:Array Keyed) (ia ib:Nat):Prop:=Mg out.toList (xs.toList.drop ia) (ys.toList.drop ib) (xs.toList++ys.toList)
def lW (xs ys z:Array Keyed):Prop:=Out z.toList (xs.toList++ys.toList)
theorem nk (zs:Array Keyed) (a:Nat):(zs.extract a zs.size).toList=zs.toList.drop a:=by
 rw [ext_toList,List.take_of_length_le (by simp)]
theorem J.done {out:Array Keyed} {ia ib:Nat} (h:J xs ys out ia ib) (c:ib=ys.size∨ia=xs.size):lW xs ys (out++xs.extract ia xs.size++ys.extract ib ys.size):=by
 unfold J at h
 unfold lW
 rw [Array.toList_append,Array.toList_append,nk,nk]
 rcases c with rfl | rfl
 ·rw [List.drop_of_length_le (l:=ys.toList) (by simp)] at h ⊢
  rw [List.append_nil]
  exact h.sS
 ·rw [List.drop_of_length_le (l:=xs.toList) (by simp)] at h ⊢
  rw [List.append_nil]
  exact h.sR
section
variable {β:Type} {st:SortSt} {Q:β->SortSt->Prop}
end
inductive Iv (xs ys:Array Keyed) (n:Nat) {ρ:Type}:Option (Array Keyed) × Array Keyed × Nat × Nat × ρ->Prop
 | mk {out ia ib r} (j:J xs ys out ia ib) (h1:ia+1<xs.size) (h2:ib<ys.size) (h3:n<=ia+ib):Iv xs ys n (none,out,ia,ib,r)
inductive y9 (xs ys:Array Keyed) {ρ:Type}:Option (Array Keyed) × ρ->Prop
 | mk {z r} (o:lW xs ys z):y9 xs ys (some z,r)
end
end Tim
namespace Tim
open PySem PyProof.Rows
section
variable {prog:Program} {w:World} {A:Around} {E:Value->Shared->Prop} {s:Shared} {xs ys:Array Keyed}
def Jh (xs ys out:Array Keyed) (na nb:Nat):Prop:=Mh out.reverse.toList (xs.toList.take na) (ys.toList.take nb) (xs.toList++ys.toList)
theorem fB (zs:Array Keyed) (a:Nat):(zs.extract 0 a).toList=zs.toList.take a:=by rw [ext_toList];simp
theorem Jh.done {out:Array Keyed} {na nb:Nat} (h:Jh xs ys out na nb) (c:na=0∨nb=0):lW xs ys (xs.extract 0 na++ys.extract 0 nb++out.reverse):=by
 unfold Jh at h
 unfold lW
 rw [Array.toList_append,Array.toList_append,fB,fB]
 rcases c with rfl | rfl
 ·rw [List.take_zero] at h ⊢
  exact h.sR
 ·rw [List.take_zero] at h ⊢
  rw [List.append_nil]
  exact h.sS
theorem Jh.first {out:Array Keyed} {na nb:Nat} (h:Jh xs ys out na nb) (py:0<ys.size) (e:nb=1) (l:∀ x∈xs.toList,R ys[0] x):lW xs ys (ys.extract 0 nb++xs.extract 0 na++out.reverse):=by
 unfold Jh at h
 unfold lW
 rw [Array.toList_append,Array.toList_append,fB,fB]
 subst e
 have h1:ys.toList.take 1=[ys[0]]:=by rw [show 1=0+1 from rfl,mT py];simp
 rw [h1] at h ⊢
 exact h.xi λx hx=>l x (List.mem_of_mem_take hx)
inductive Iw (xs ys:Array Keyed) (n:Nat) {ρ:Type}:Option (Array Keyed) × Nat × Nat × Array Keyed × ρ->Prop
 | mk {na nb out r} (j:Jh xs ys out na nb) (h1:0<na) (h2:na<=xs.size) (h3:1<nb) (h4:nb<=ys.size) (h5:na+nb+n<=xs.size+ys.size):Iw xs ys n (none,na,nb,out,r)
end
end Tim
namespace Tim
open PySem PyProof.Rows
section
variable {prog:Program} {w:World} {A:Around} {E:Value->Shared->Prop} {s:Shared}
end
end Tim
namespace Tim
open PySem PyProof.Rows
def Dn (xs:Array Keyed) (lo hi:Nat):Prop:=∀ i j,lo<=i->i<=j->j<hi->K xs j<=K xs i
structure Fr (lo:Nat) (st st':SortSt):Prop where
 kind:kindOf st'=kindOf st
 failed:failedOf st'=failedOf st
 pend:pendingOf st'=pendingOf st
 perm:(arrOf st').Perm (arrOf st)
 low:∀ i,i<lo->(arrOf st')[i]?=(arrOf st)[i]?
theorem Fr.trans {lo:Nat} {a b c:SortSt} (h:Fr lo a b) (g:Fr lo b c):Fr lo a c :=
 ⟨g.kind.trans h.kind,g.failed.trans h.failed,g.pend.trans h.pend,g.perm.trans h.perm,λi hi=>(g.low i hi).trans (h.low i hi)⟩
theorem Fr.size {lo:Nat} {st st':SortSt} (h:Fr lo st st'):(arrOf st').size=(arrOf st).size:=h.perm.size_eq
theorem Up.next {xs:Array Keyed} {lo x:Nat} (h:Up xs lo (lo+x)) (hx:1<=x) (c:¬K xs (lo+x)<K xs (lo+x-1)):Up xs lo (lo+(x+1)):=by
 intro i j h1 h2 h3
 by_cases e:j<lo+x
 ·exact h i j h1 h2 e
 ·obtain rfl:j=lo+x:=by omega
  by_cases e':i=lo+x
  ·rw [e'];exact Int.le_refl _
  ·exact Int.le_trans (h i (lo+x-1) h1 (by omega) (by omega)) (Int.not_lt.mp c)
theorem Dn.next {xs:Array Keyed} {lo x:Nat} (h:Dn xs lo (lo+x)) (hx:1<=x) (c:K xs (lo+x)<=K xs (lo+x-1)):Dn xs lo (lo+(x+1)):=by
 intro i j h1 h2 h3
 by_cases e:j<lo+x
 ·exact h i j h1 h2 e
 ·obtain rfl:j=lo+x:=by omega
  by_cases e':i=lo+x
  ·rw [e'];exact Int.le_refl _
  ·exact Int.le_trans c (h i (lo+x-1) h1 (by omega) (by omega))
section
variable {prog:Program} {w:World} {A:Around} {E:Value->Shared->Prop} {s:Shared}
end
end Tim
namespace Tim
open PySem PyProof.Rows
def Pd:Nat->List (Nat × Nat × Nat)->List (List Keyed)->Prop
 | _,[],[]=>True
 | o,x::p,r::rs=>x.1=o/\x.2.1=r.length/\0<r.length/\sF r/\Pd (o+r.length) p rs
 | _,_,_=>False
theorem Pd.len:∀{o:Nat} {p:List (Nat × Nat × Nat)} {rs:List (List Keyed)},Pd o p rs->p.length=rs.length/\p.length<=rs.flatten.length
 | _,[],[],_=>⟨rfl,Nat.zero_le _⟩
 | _,x::p,r::rs,h=>by
  have:=Pd.len h.2.2.2.2
  have h2:=h.2.2.1
  simp only [List.length_cons,List.flatten_cons,List.length_append]
  omega
theorem Pd.two:∀{i o:Nat} {p:List (Nat × Nat × Nat)} {rs:List (List Keyed)},Pd o p rs->i+1<p.length->∃ p1 pw pw' p2 rs1 X Y rs2,p1.length=i/\rs=rs1++X::Y::rs2 /\
   p=p1++(o+rs1.flatten.length,X.length,pw)::(o+rs1.flatten.length+X.length,Y.length,pw')::p2/\sF X/\sF Y/\0<X.length/\0<Y.length /\
   ∀ C z,sF C->C.length=X.length+Y.length->Pd o (p1++(o+rs1.flatten.length,X.length+Y.length,z)::p2) (rs1++C::rs2)
 | 0,o,x::y::p,X::Y::rs,h,_=>by
  obtain⟨x1,x2,x3⟩:=x
  obtain⟨y1,y2,y3⟩:=y
  obtain⟨a,b,c,d,e,f,g,h,k⟩:=h
  simp only at a b e f
  subst a b e f
  exact⟨[],x3,y3,p,[],X,Y,rs,rfl,rfl,rfl,d,h,c,g,λC z s l=>⟨rfl,l.symm,by omega,s,by rw [l,<- Nat.add_assoc];exact k⟩⟩
 | i+1,o,x::p,X::rs,h,l=>by
  obtain⟨p1,pw,pw',p2,rs1,X',Y',rs2,e1,e2,e3,s1,s2,n1,n2,f⟩:=Pd.two (i:=i) h.2.2.2.2 (by simp at l ⊢;omega)
  refine⟨x::p1,pw,pw',p2,X::rs1,X',Y',rs2,by simp [e1],by rw [e2];rfl,?_,s1,s2,n1,n2,λC z s l=>⟨h.1,h.2.1,h.2.2.1,h.2.2.2.1,?_⟩⟩
  ·rw [e3];simp [Nat.add_assoc]
  ·have:=f C z s l
   simpa [Nat.add_assoc] using this
 | 0,_,[_],[_],_,l=>by simp at l
 | 0,_,_::_::_,[_],h,_=>h.2.2.2.2.elim
section
variable {prog:Program} {w:World} {A:Around} {E:Value->Shared->Prop} {s:Shared} {a₀:Array Keyed} {T:List Keyed} {lo:Nat}
end
end Tim
namespace Tim
open PySem PyProof.Rows
section
variable {prog:Program} {w:World} {A:Around} {E:Value->Shared->Prop} {s:Shared}
end
end Tim
namespace L2
open PySem PySem.Spec PyProof.Rows
theorem eX:∀{us:List Value} {ns:List Int},IntsAre us ns->Vals (ns.map V.int) us
 | _,_,.nil=>.nil
 | _,_,.cons n t h=>.cons ⟨t,rfl⟩ (eX h)
theorem nq:∀{us:List Value} {ns:List Int},us.length=ns.length->(∀(j:Nat) (v:Value),us[j]?=some v->∃ n t,ns[j]?=some n/\v=.int n t)->IntsAre us ns
 | [],[],_,_=>.nil
 | u::us,n::ns,hl,h=>by
  obtain⟨n',t,e1,e2⟩:=h 0 u rfl
  cases e1
  subst e2
  exact .cons _ t (nq (by simpa using hl) λj v e=>by simpa using h (j+1) v (by simpa using e))
 | [],_::_,hl,_=>by simp at hl
 | _::_,[],hl,_=>by simp at hl
section
variable {prog:Program} {w:World} {K:Type} [DecidableEq K] {knd:HeapKind prog w K} {A:Around} {E:Value->Shared->Prop} {s:Shared}
end
end L2
namespace L2
open PySem PySem.Spec PyProof.Rows PySem.W
def sm (h:Heap) (d:Addr) (es:Array DictEntry) (ep:Nat):Prop:=∃ o,h.get? d=some o/\o.ExactDict/\o.data=.dict es ep
section
variable {P:Program} {w:World} {A:Around} {E:Value->Shared->Prop} {s:Shared} {d:Addr} {es:Array DictEntry} {ep:Nat}
theorem sm.type (x:sm s.heap d es ep):s.TypeIs (.ref d) "dict":=by obtain⟨o,a,c,_⟩:=x;exact⟨o,a,c.1⟩
end
section
variable {X:Cx} {pins:List (Addr × Obj)} {σ:St} {H:Hp} {s:Shared} {A:Around} {E:Value->Shared->Prop}
theorem vB {a:Addr} {kvs:List (List Key × V)} (I:Inv X pins σ H s) (e:H a=some (.dT kvs)):kvs.length<=sizeLine/\(a==sysModules)=false/\∃ es ep,sm s.heap a es ep/\es.size=kvs.length/\∀(i:Nat) x,es[i]?=some x->∃ k v b,kvs[i]?=some (k,v)/\x.key=.ref b/\H b=some (.tup (k.map kV)):=by
 obtain⟨z,y,xs,r,o,es,ep,h1,h2,h3,h4,h5⟩:=(show aN X.prog X.w H s.heap a (.dT kvs) from I.hok a _ e)
 have l1:kvs.length=xs.length:=Paired.length r
 have l2:es.size=xs.length:=by rw [<- Array.length_toList,h4,List.length_map]
 refine⟨z,y,es,ep,⟨o,h1,h2,h3⟩,by omega,λi x hx=>?_⟩
 have hx':(xs.map (entryOfKey (tupleKind (aL X.prog X.w))))[i]?=some x:=by rw [<- h4,Array.getElem?_toList];exact hx
 rw [List.getElem?_map] at hx'
 obtain⟨y0,e1,e2⟩:=Option.map_eq_some_iff.mp hx'
 have hg:∀{l:List (List Key × V)} {m:List (List Key × Addr × Value)} (i:Nat),Paired (fun(p:List Key × V) (q:List Key × Addr × Value)=>p.1=q.1/\H q.2.1=some (.tup (p.1.map kV))/\RelV p.2 q.2.2) l m->∀ y,m[i]?=some y->∃ p,l[i]?=some p/\H y.2.1=some (.tup (p.1.map kV)):=by
  intro l m i q
  induction q generalizing i with
  | nil=>intro y z;simp at z
  | cons a t ih =>
   intro y z
   cases i with
   | zero=>simp at z;subst z;exact⟨_,rfl,a.2.1⟩
   | succ i=>exact ih i y (by simpa using z)
 obtain⟨p,e3,e4⟩:=hg i r y0 e1
 exact⟨p.1,p.2,y0.2.1,e3,by rw [<- e2];rfl,e4⟩
def xB:List V->Hp->VK->Prop:=λxs H Q=>∃(a:Addr) (n:Nat),xs=[.ref a]/\((∃ kvs,H a=some (.dT kvs)/\n=kvs.length)∨∃ kvs,H a=some (.dK kvs)/\n=kvs.length)/\Q (.int n) H
theorem tI {d:Addr} {es:Array DictEntry} {ep:Nat} {P:Program} {w:World} {Q:Value->Shared->Prop} (nd:(d==sysModules)=false) (x:sm s.heap d es ep) (fit:es.size<=sizeLine)
  (q:Q (.int es.size (s.toks+1)) { s with toks:=s.toks+1+1 }):wpAny (model P w) A (call (.builtin "len") [.ref d]) Q E s:=by
 have f63:(es.size:Int)<2^63:=by rw [sizeLine_eq] at fit;omega
 refine Calls.call_function_entry kind_len plain_len entry_len (args_len1 _) ?_
 have t:=x.type
 obtain⟨o,a,c,e⟩:=x
 unfold Builtin.«len»
 refine wpAny_bind (m:=oneArg "len" _) (wpAny_pure (wpAny_bind (m:=callSpecial? (.ref d) (Str.ofString "__len__")) (wpAny_callSpecial?_slot (name:=Str.ofString "__len__") t F.slot_dict_len (wpAny_call_entry F.slot_dict_len t F.entry_dict_len ?g (F.args_dict_len_1 _)))))
 show wpAny _ _ (dictSize d >>= _) _ _ s
 unfold dictSize
 refine wpAny_bind (wpAny_bind (wpAny_dictEntries a e (wpAny_pure ?_)))
 show wpAny _ _ (Builtin.Dict.pendingCount d >>= _) _ _ s
 refine wpAny_bind (wpAny_pendingCount_other nd (wpAny_ret_mkInt ?_))
 simp only [show ((es.size:Int)+((0:Nat):Int))=(es.size:Int) from Int.add_zero _]
 refine wpAny_bind (wpAny_holding (wpAny_pure (wpAny_bind (wpAny_letGo ?_))))
 show wpAny _ _ (if ((es.size:Nat):Int)<0 then _ else _) _ _ _
 rw [if_neg (by omega)]
 show wpAny _ _ (if ((es.size:Nat):Int)≥2^63 then _ else _) _ _ _
 rw [if_neg (by omega)]
 exact wpAny_bind (wpAny_mkInt (wpAny_pure ⟨_,rfl,q⟩))
theorem oj:b9 X (.builtin "len") xB:=by
 intro pins s σ H xs us Q I r h
 obtain⟨a,n,rfl,ha,q⟩:=h
 obtain⟨u,rfl,ru⟩:=vals1 r
 cases ru
 rcases ha with⟨kvs,ha,rfl⟩|⟨kvs,ha,rfl⟩
 ·obtain⟨z,nd,es,ep,de,sz,_⟩:=vB I ha
  exact tI nd de (by omega) ⟨.int kvs.length,H,I.tok _,⟨_,by rw [sz]⟩,q⟩
 ·exact wQ I (.inl ha) λt s' I'=>⟨.int kvs.length,H,I',⟨t,rfl⟩,q⟩
def wo (td ty:TE):TE:=λσ H Q=>td σ H λx H1=>∃ a,x=.ref a/\yd H1 a/\ty σ H1 λy H2=>∃ kvs k b v,H2 a=some (.dT kvs)/\y=.ref b/\H2 b=some (.tup (k.map kV))/\cp kvs k=some v/\Q v (upd H2 a (.dT (qj kvs k)))
end
section
variable {P:Program} {w:World} {K:PySem.W.Frag} {mg:Str->Option Value} {base:Heap} {CX:gQ} {k:Nat} {C:Addr} {m qual x:Str} {ps:List Str} {sp:Sp} {st:Stmt}
structure jG (P:Program) (w:World) (K:PySem.W.Frag) (mg:Str->Option Value) (base:Heap) (CX:gQ) (k:Nat) (C:Addr) (m:Str) (ps:List Str) (sp:Sp):Prop where
 ex:∃ f fd,Meth K C m f/\bR P w K mg base CX k f fd ps sp/\Binds K fd ps []
theorem jG.imp {sp':Sp} (D:jG P w K mg base CX k C m ps sp) (h:∀ vs H Q E,sp' vs H Q E->sp vs H Q E):jG P w K mg base CX k C m ps sp':=by
 obtain⟨f,fd,M,F,b⟩:=D.ex
 exact⟨f,fd,M,F.imp h,b⟩
variable {X:Cx} {E:XK} {o e:Expr} {es:List Expr} {ta:TE} {t:TA} {p apos pos:Pos}
structure zg (K:PySem.W.Frag) (x qual:Str) (st:Stmt) (f:Addr) (fd:FuncData) (ds:Array Value):Prop where
 ex:∃(oc:Value) (od:Option Addr) (T:Addr) (o:Obj) (n:Nat) (kV doc pm:Value) (an:Option Addr) (cdv ct:Value) (osl:Array (Option Value)),
  fd=fnOf x qual (a9 st) (aJ st) (ai st) (.ref T) kV doc pm an cdv ct/\K.lookup f=some ⟨oc,od,.func fd,osl⟩/\codeIn K cdv qual=true/\K.lookup T=some o/\o.data=.seq ds n
 kp:keepIn K (.ref f)=true
end
end L2
namespace L2
open PySem PySem.Spec PyProof.Rows
def yV (q:Nat):Nat->Nat->Nat
 | 0,m=>m
 | f+1,m=>if q<=m*m then m else yV q f (m+1)
def rt (q:Nat):Nat:=yV q q 0
end L2
namespace Num
theorem Ord.co {n a:Int} {m:Nat} (o:Ord n a m):Co a n:=by
 obtain⟨k,hk⟩:∃ k,m=k+1:=⟨m-1,by have:=o.pos;omega⟩
 exact Co.vN (m:=k) (by rw [<- hk];exact o.one)
end Num
namespace L2
open PySem PySem.Spec PyProof.Rows
theorem vo {X:Cx} {e:Expr} {target:Expr} {ifs:List Expr} {scope:Scope} {N':List Str} {js:List (Option Nat)} {cl:List (Str × Addr)} {g:TG} {tt:TT} {tb:Addr->St->Hp->(Hp->Prop)->Prop} {Bd:Value->Env->(Shared->Prop)->Shared->Prop} {o₀:Obj} {ho:HO} {na:Sem Value} (hcalm:X.calm=true)
  (hstart:∀(R:Result->Shared->Prop) (s:Shared) (it acc:Value) (env:Env),codeAny (model X.prog X.w) X.A (.compLoop e 0 it acc env) R s->wpAny (model X.prog X.w) X.A (pyIter it) (λit' s'=>codeAny (model X.prog X.w) X.A (.compLoop e 0 it' acc env) R s') (notedBy (model X.prog X.w) X.A env λx s'=>R (.error x) s') s->codeAny (model X.prog X.w) X.A (.compStart e 0 it acc env) R s)
  (hloop:∀(R:Result->Shared->Prop) (s:Shared) (it acc:Value) (env:Env) (I:Nat->Shared->Prop),
  (∀ n s,I n s->wpAny (model X.prog X.w) X.A (pyNext it) (λr s₁=>match r with
   | none=>R (.ok .next) s₁
   | some v=>wpAny (model X.prog X.w) X.A (letOwnedTupleGo target it v) (λ_ s₁'=>wpAny (model X.prog X.w) X.A (assign target env v) (λ_ s₂ =>
     wpAny (model X.prog X.w) X.A (forIn ifs true λc r=>if r=true then do let ok <- isTrue c env (eval c env);pure (ForInStep.yield ok) else pure (ForInStep.yield r)) (λok s₃ =>
      if ok=true then Bd acc env (λs₅=>∃ m,m<n/\I m s₅) s₃ else ∃ m,m<n/\I m s₃) (λ_ _=>False) s₂) (λ_ _=>False) s₁') (λ_ _=>False) s₁) (λ_ _=>False) s) ->
  ∀ n,I n s->codeAny (model X.prog X.w) X.A (.compLoop e 0 it acc env) R s)
  (hna:∀(Q:Value->Shared->Prop) (E:Value->Shared->Prop) (s:Shared),Q (.ref s.heap.objs.size) { s with heap:=s.heap.push o₀ }->wpAny (model X.prog X.w) X.A na Q E s)
  (hfr:o₀.isFreed=false) (hnew:∀(H:Hp) (h:Heap) (D:Addr),sysModules<D->h.get? D=some o₀->aN X.prog X.w H h D ho)
  (K:dg X N' js scope cl)
  (hg:∀ C s₂ H₂ fp,PG (bB X N' scope cl C s₂ H₂ fp) target g) (ht:∀ C s₂ H₂ fp,jH (bB X N' scope cl C s₂ H₂ fp) ifs tt)
  (hB:∀ C s₂ H₂ fp (D:Addr) P σ H s N Ps,Inv (bB X N' scope cl C s₂ H₂ fp) P σ H s->tb D σ H N->(∀ H' s',Inv (bB X N' scope cl C s₂ H₂ fp) P σ H' s'->N H'->Ps s')->Bd (.ref D) (bB X N' scope cl C s₂ H₂ fp).env Ps s)
  {pins:List (Addr × Obj)} {σ:St} {Q:VK} {use:Option (Value->Sem Unit)} {Q':Value->Shared->Prop} {itv:Value} {s2:Shared}
  (h2:wL X pins σ target (λJ H1=>∀ D,H1 D=none->∃ W:Nat->Nat->Hp->Prop,(∃ m,W 0 m (upd H1 D ho))/\∀ i m H,W i m H ->
 (J.stop i H/\Q (.ref D) H) ∨
 (J.go i H/\∃ N:Hp->Prop,(∀ H',N H'->∃ m',m'<m/\W (i+1) m' H') /\
  ∀ x H',J.yld i H x H'->g x (bc js σ) H' λσ2 H2=>a6 (bc js σ) σ2/\tt σ2 H2 λb H3=>if b=true then tb D σ2 H3 N else N H3)) itv s2)
  (hok:∀ C D H4 s5,(∃ m,s5.heap.Ns C m)->(∀ h',Heap.SameBut C s5.heap h'->Inv X pins σ H4 { s5 with heap:=h' })->Q (.ref D) H4->compPost (model X.prog X.w) X.A X.xe use Q' (.ref D) C (.ok .next) s5) :
  wpAny (model X.prog X.w) X.A na (λacc s₃=>wpAny (model X.prog X.w) X.A (newFunctionEnv scope X.env.globals cl [] X.env.qual none .none (some X.env)) (λcenv s₄ =>
   codeAny (model X.prog X.w) X.A (.compStart e 0 itv acc { cenv with scope:=relabel scope X.env }) (compPost (model X.prog X.w) X.A X.xe use Q' acc cenv.locals) s₄) X.xe s₃) X.xe s2:=by
 obtain⟨it,fp,tn,J,H2,e0,I2,T,st2,f2,hW⟩:=h2
 subst e0
 obtain⟨W,⟨m0,w0⟩,turn⟩:=hW s2.heap.objs.size (I2.hok.fresh (Nat.le_refl _))
 refine hna _ _ _ (eY ?_)
 dsimp only
 generalize hP2:s2.heap.push o₀=P2
 generalize hh₁:pushCells (P2.push { cls:=.type "dict",data:=.dict #[] }) scope.names=h₁
 have hns₁:h₁.Ns P2.objs.size λ_=>none:=hh₁▸(Heap.Ns.new P2 (.type "dict")).keeps (pushCells_keeps _ _)
 have upP:∀ b o,P2.get? b=some o->h₁.get? b=some o:=λb o e=>hh₁▸pushCells_keeps _ _ b o (Heap.get?_push_of_some _ e)
 have hcel:∀ x c,(cellsFrom (P2.objs.size+1) scope.names cl).lookup x=some c->∃ v,h₁.IsCell c v:=by
  have:=gH scope.names (P2.push { cls:=.type "dict",data:=.dict #[] }) cl λx c e=>by
   obtain⟨v,q⟩:=I2.cell x c (K.sub.get x c e)
   exact⟨v,q.keeps λb o e=>Heap.get?_push_of_some _ (hP2▸Heap.get?_push_of_some _ e)⟩
  rw [Heap.size_push,hh₁] at this
  exact this
 have hC:P2.objs.size=s2.heap.objs.size+1:=by rw [<- hP2,Heap.size_push]
 have hDC:s2.heap.objs.size≠P2.objs.size:=by rw [hC];exact Nat.ne_of_lt (Nat.lt_succ_self _)
 have below:∀ b,b<s2.heap.objs.size->b≠P2.objs.size/\b≠s2.heap.objs.size:=λb hb=>⟨by rw [hC];exact Nat.ne_of_lt (Nat.lt_succ_of_lt hb),Nat.ne_of_lt hb⟩
 have old:∀ b o,s2.heap.get? b=some o->h₁.get? b=some o:=λb o e=>upP b o (hP2▸Heap.get?_push_of_some _ e)
 have hacc:h₁.get? s2.heap.objs.size=some o₀:=upP _ _ (hP2▸Heap.get?_push_size _ hfr)
 have hbig:=I2.big
 generalize hCe:P2.objs.size=C at *
 generalize hDe:s2.heap.objs.size=D at *
 let Y:Cx:=bB X N' scope cl C s2 H2 fp
 have clLt:∀ y c,cl.lookup y=some c->c<D:=λy c e=>by
  obtain⟨v,q⟩:=I2.cell y c (K.sub.get y c e)
  rw [<- hDe]
  exact q.lt
 have cellsX:∀ y c,Y.env.cells.lookup y=some c->cl.lookup y=some c∨C+1<=c:=λy c e=>dE _ _ _ e
 have cellNe:∀ y c,Y.env.cells.lookup y=some c->c≠D:=λy c e=>by
  rcases cellsX y c e with z | z
  ·exact Nat.ne_of_lt (clLt y c z)
  ·exact Nat.ne_of_gt (by omega)
 have freshH:∀ a,D<=a->H2 a=none:=λa ha=>I2.hok.fresh (by rw [hDe];exact ha)
 have hDleC:D<=C:=by rw [hC];exact Nat.le_succ _
 have hbelowfp:∀ b∈fp,b<D:=λb hb=>by
  obtain⟨o,e,_⟩:=T.obj _ _ st2 b hb
  rw [<- hDe]
  exact Heap.lt_size e
 have okY:Y.Ok:=by
  refine⟨I2.ok.mod,K.kind,I2.ok.glob,I2.ok.blt,?_,jL _ _ _ (λx c e=>Nat.lt_succ_of_lt (Nat.lt_of_lt_of_le (clLt x c e) hDleC)) (λx y c e1 e2=>I2.ok.inj x y c (K.sub.get x c e1) (K.sub.get y c e2)),λx hx=>?_,λx c hf hc=>?_,I2.ok.hd,I2.ok.frames,.inl rfl,λb hb=>?_,I2.bs,Nat.le_trans I2.ok.bsz I2.sz,λb o e hb=>?_,λb hb hf=>?_,I2.stack,I2.cQ⟩
  ·show s2.heap.objs.size<=C
   rw [hDe];exact hDleC
  ·have hx':(relabel scope X.env).names.lookup x=some .cell∨(relabel scope X.env).names.lookup x=some .free:=hx
   have:∃ y∈scope.names,y.1=x/\(y.2=.free∨y.2=.cell):=by
    rcases hx' with q | q
    ·exact cK q (.inl rfl)
    ·exact cK q (.inr rfl)
   obtain⟨y,hm,e1,e2⟩:=this
   refine Option.isSome_iff_exists.mp (PySem.W.cellsFrom_some _ _ _ ?_)
   rcases e2 with e2 | e2
   ·have q:=K.has y hm e2
    rw [e1] at q
    exact .inr q
   ·exact .inl (e1▸(K.nocell y hm e2).1)
  ·have hf':scope.names.lookup x=some .cell:=by simpa using (show (scope.names.lookup x==some .cell)=true from hf)
   have:=jM _ _ _ hf' hc
   show s2.heap.objs.size<=c
   rw [hDe];exact Nat.le_trans hDleC (Nat.le_of_succ_le this)
  ·refine⟨Nat.ne_of_lt (Nat.lt_of_lt_of_le (hbelowfp b hb) hDleC),λx c e=>?_⟩
   rcases cellsX x c e with z | z
   ·exact (f2 b hb).2.2.2.2.1 x c (K.sub.get x c z)
   ·exact Nat.ne_of_gt (Nat.lt_of_lt_of_le (Nat.lt_of_lt_of_le (hbelowfp b hb) hDleC) (Nat.le_of_succ_le z))
  ·rcases (f2 b hb).2.2.2.1 with z | z
   ·exact I2.ok.noex b o e z
   ·exact absurd (Nat.lt_of_lt_of_le (Heap.lt_size e) (Nat.le_trans I2.ok.bsz z)) (Nat.lt_irrefl _)
  ·rcases List.mem_cons.mp (I2.du b hf) with z | z
   ·exact (f2 b hb).2.1 z
   ·exact (f2 b hb).2.2.1 z
 -- the block's names
 have locY:∀{s':Shared} {H':Hp} {σ':St},True:=λ{_ _ _}=>trivial
 have hCD:C≠D:=λz=>hDC z.symm
 have invY0:Inv Y [] (bc js σ) (upd H2 D ho) { s2 with heap:=h₁ }:=by
  refine⟨okY,rfl,I2.bare,Un.laid old (by show s2.heap.objs.size<=D;rw [hDe];exact Nat.le_refl _) (freshH D (Nat.le_refl _)),⟨_,hns₁,λi x v e1 e2 vis=>?_⟩,hcel,by show upd H2 D ho C=none;rw [ak hCD];exact freshH C hDleC,λy c e=>?_,λp hp=>absurd (show p∈([]:List (Addr × Obj)) from hp) (by simp),I2.hok.laid old (by rw [hDe];exact Nat.le_refl _) (hnew _ _ _ (by rw [<- hDe];rw [hDe];exact hbig) hacc),?_⟩
  ·-- a name of the block that has a value stands outside in a cell
   have e2':(bc js σ)[i]?=some (some v):=e2
   unfold bc at e2'
   rw [List.getElem?_map] at e2'
   cases ej:js[i]? with
   | none=>rw [ej] at e2';cases e2'
   | some o =>
    rw [ej] at e2'
    cases o with
    | none=>cases e2'
    | some j =>
     obtain⟨n1,n2,n3,n4,n5⟩:=K.jok i j x ej e1
     have e3:(σ[j]?).join=some v:=by simpa using e2'
     have e4:σ[j]?=some (some v):=by
      cases q:σ[j]? with
      | none=>rw [q] at e3;cases e3
      | some z=>rw [q] at e3;simpa using e3
     obtain⟨m,hn,hl⟩:=I2.loc
     obtain⟨u,r,l⟩:=hl j x v n1 e4 n3
     refine⟨u,r,.inr ⟨n5,?_⟩⟩
     rcases l with⟨k,_⟩|⟨k,c,ec,z⟩
     ·exact absurd k n4
     ·obtain⟨c',ec'⟩:=Option.isSome_iff_exists.mp n2
      have ee:=K.sub.get x c' ec'
      rw [ec] at ee
      cases ee
      refine⟨c,(gI _ _ _ λy hy hk=>(K.nocell y hy hk).2 (some j,x) ?_ rfl).trans ec',?_⟩
      ·exact List.mem_of_getElem? (i:=i) (by rw [List.getElem?_zip_eq_some];exact⟨ej,e1⟩)
      obtain⟨o,ho,hd⟩:=z
      exact⟨o,old c o ho,hd⟩
  ·rw [ak (cellNe y c e)]
   rcases cellsX y c e with z | z
   ·exact I2.freeC y c (K.sub.get y c z)
   ·exact freshH c (by omega)
  ·show (bc js σ).length=N'.length
   unfold bc
   rw [List.length_map]
   exact K.jlen
 have stat:∀{H':Hp},(∀ b∈fp,H' b=none)->∀ b∈fp,iP Y [] H' b:=λ{H'} hn b hb =>
  ⟨hn b hb,Nat.ne_of_lt (Nat.lt_of_lt_of_le (hbelowfp b hb) hDleC),okY.exfs b hb,.inl hb,okY.exf b hb |>.2,λp hp=>absurd (show p∈([]:List (Addr × Obj)) from hp) (by simp)⟩
 have loop:∀ s3:Shared,s3={ s2 with heap:=h₁ } ->
   codeAny (model X.prog X.w) X.A (.compLoop e 0 (.ref it) (.ref D) (compEnvC scope (cellsFrom (C+1) scope.names cl) C X.env)) (compPost (model X.prog X.w) X.A X.xe use Q' (.ref D) C) s3:=by
  rintro s3 rfl
  refine hloop _ _ _ _ _ (λn s'=>∃ i H',Inv Y [] (bc js σ) H' s'/\tn i s'.heap/\(∀ b∈fp,H' b=none)/\W i n H') ?_ m0
   ⟨0,_,invY0,T.keep _ _ _ st2 λb _ o e=>old b o e,λb hb=>by rw [ak (Nat.ne_of_lt (hbelowfp b hb))];exact (f2 b hb).1,w0⟩
  rintro n s4 ⟨i,H4,I4,st4,fr4,w4⟩
  rcases turn i n H4 w4 with⟨stop,qn⟩|⟨go,Nn,hN,step⟩
  ·refine a5 (T.done Y rfl rfl rfl hcalm i _ s4 _ H4 (λ_ _=>False) I4 (stat fr4) st4 stop) λr s5 ⟨hr,I5⟩=>?_
   subst hr
   obtain⟨m5,hn5,_⟩:=I5.loc
   have nC:H4 C=none:=I5.free
   refine hok C D H4 s5 ⟨m5,hn5⟩ (λh' hsb=>?_) qn
   refine I2.pZ (s':={ s5 with heap:=h' }) (ch:=fp) I5.os ?_ ?_ I5.bare (λb hb=>?_)
   ·-- kept
    have u:=I5.base
    have neC:∀ b o,s2.heap.get? b=some o->b≠C/\b≠D:=λb o e=>by
     have:=Heap.lt_size e
     rw [hDe] at this
     exact⟨Nat.ne_of_lt (Nat.lt_of_lt_of_le this hDleC),Nat.ne_of_lt this⟩
    refine⟨λb o e nn hb hx=>hsb.extBut b o (neC b o e).1 (u.keep b o e nn hb hx),λb o e nn hb hx=>?_,λb o e nn hx=>?_,λb o e hx=>?_,λb xs e=>?_,λb o xs e=>?_,λb ps e=>?_⟩
    ·obtain⟨sl,q⟩:=u.slot b o e nn hb hx
     exact⟨sl,hsb.extBut b _ (neC b o e).1 q⟩
    ·exact u.free b o e nn hx
    ·obtain⟨o',q⟩:=u.there b o e hx
     exact⟨o',hsb.extBut b _ (neC b o e).1 q⟩
    ·exact u.tups b xs e
    ·exact u.frzs b o xs e
    ·exact u.tbls b ps e
   ·intro b o e
    refine (I5.hok b o e).fW (λc w' hc q=>hsb.extBut c w' ?_ q) (λc q=>q) λc xs q=>q
    rintro rfl
    rcases hc with rfl | hc
    ·rw [nC] at e;cases e
    ·rw [nC] at hc;cases hc
   ·exact⟨(f2 b hb).2.2.2.1,(f2 b hb).2.1,(f2 b hb).2.2.2.2.1,(f2 b hb).2.2.2.2.2⟩
  ·refine a5 (T.item Y rfl rfl rfl hcalm i _ s4 _ H4 (λ_ _=>False) I4 (stat fr4) st4 go) λr s5 ⟨u,hr,h5⟩=>?_
   subst hr
   refine a5 h5 λ_ s6 ⟨x,H6,I6,r6,y6,st6,fr6⟩=>?_
   have I6':=I6.pinned (stat fr6) (T.obj _ _ st6)
   refine a5 (hg C s2 H2 fp _ s6 _ H6 x u _ I6' r6 (step x H6 y6)) λ_ s7 ⟨σ7,H7,I7,k7,q7⟩=>?_
   refine a5 (ht C s2 H2 fp _ s7 σ7 H7 _ I7 q7) λb s8 ⟨H8,I8,q8⟩=>?_
   -- behind the tests and the element: the state goes back to what the next turn wants
   have again:∀{s9:Shared} {H9:Hp},Inv Y ([]++fo fp s6.heap) σ7 H9 s9->Inv Y [] (bc js σ) H9 s9/\tn (i+1) s9.heap/\∀ b∈fp,H9 b=none:=λ{s9 H9} I9=>by
    refine⟨(I9.dS).weak k7.len k7.get,T.keep _ _ _ st6 λb hb o e=>(I9.pin (b,o) (List.mem_append_right _ (List.mem_append_right _ (bZ hb e)))).1,λb hb=>?_⟩
    obtain⟨o,e,d⟩:=T.obj _ _ st6 b hb
    exact (I9.pin (b,o) (List.mem_append_right _ (List.mem_append_right _ (bZ hb e)))).2.1
   cases b with
   | false =>
    rw [if_neg Bool.false_ne_true] at q8 ⊢
    obtain⟨m',hm,w8⟩:=hN _ q8
    obtain⟨J8,t8,f8⟩:=again I8
    exact⟨m',hm,i+1,H8,J8,t8,f8,w8⟩
   | true =>
    rw [if_pos rfl] at q8 ⊢
    refine hB C s2 H2 fp D _ σ7 H8 s8 Nn _ I8 q8 λH9 s9 I9 q9=>?_
    obtain⟨J9,t9,f9⟩:=again I9
    obtain⟨m',hm,w9⟩:=hN _ q9
    exact⟨m',hm,i+1,H9,J9,t9,f9,w9⟩
 exact hstart _ _ _ _ _ (loop _ rfl) (T.self _ 0 _ _ _ (T.keep _ _ _ st2 λb _ o e=>old b o e) (loop _ rfl))
def m7 (kx vx:Expr) (acc:Value) (env:Env):Sem Unit:=do
 let kv <- eval kx env
 let vv <- holding [kv] (eval vx env)
 match acc with
 | .ref d=>do
  standAt { kx.pos with endLine:=vx.pos.endLine,endCol:=vx.pos.endCol }
  holding [kv,vv] (dictSet d kv vv)
 | _=>unsupported "internal:dictcomp"
theorem pN (kx vx target iter:Expr) (ifs:List Expr) (scope:Scope) (pos:Pos) (it acc:Value) (env:Env) :
  compTurn (.DictComp kx vx [⟨target,iter,ifs,0⟩] scope pos) 0 it acc env=(do
   standAt iter.pos
   match <- pyNext it with
   | none=>pure (.done .next)
   | some v =>
    letOwnedTupleGo target it v
    assign target env v
    let mut ok:=true
    for c in ifs do
     if ok then ok <- isTrue c env (eval c env)
    if ok then m7 kx vx acc env
    again (.compLoop (.DictComp kx vx [⟨target,iter,ifs,0⟩] scope pos) 0 it acc env)):=by rfl
theorem kJ {prog:Program} {w:World} {A:Around} {R:Result->Shared->Prop} {s:Shared} {kx vx target:Expr} {gens:List Comprehension} {scope:Scope} {pos:Pos} {ps:Pos} {ifs:List Expr} {d:Nat} {B:Sem Unit} {it acc:Value} {env:Env} (I:Nat->Shared->Prop)
  (ht:compTurn (.DictComp kx vx gens scope pos) d it acc env=(do
   standAt ps
   match <- pyNext it with
   | none=>pure (.done .next)
   | some v =>
    letOwnedTupleGo target it v
    assign target env v
    let mut ok:=true
    for c in ifs do
     if ok then ok <- isTrue c env (eval c env)
    if ok then B
    again (.compLoop (.DictComp kx vx gens scope pos) d it acc env)))
  (turn:∀ n s,I n s->wpAny (model prog w) A (pyNext it) (λr s₁=>match r with
   | none=>R (.ok .next) s₁
   | some v=>wpAny (model prog w) A (letOwnedTupleGo target it v) (λ_ s₁'=>wpAny (model prog w) A (assign target env v) (λ_ s₂ =>
     wpAny (model prog w) A (forIn ifs true λc r=>if r=true then do let ok <- isTrue c env (eval c env);pure (ForInStep.yield ok) else pure (ForInStep.yield r)) (λok s₃ =>
      if ok=true then wpAny (model prog w) A B (λ_ s₅=>∃ m,m<n/\I m s₅) (λ_ _=>False) s₃
      else ∃ m,m<n/\I m s₃) (λ_ _=>False) s₂) (λ_ _=>False) s₁') (λ_ _=>False) s₁) (λ_ _=>False) s)
  (n:Nat) (h:I n s) :
  codeAny (model prog w) A (.compLoop (.DictComp kx vx gens scope pos) d it acc env) R s:=by
 refine codeAny_loop rfl I (λn s hI=>?_) n h
 show wpAny _ A ((compTurn (.DictComp kx vx gens scope pos) d it acc env).onRaise (λx=>do noteFrame x env;theTreesLotGoes x)) _ _ s
 refine wpAny_noted ?_
 rw [ht]
 refine wpAny_bind (wpAny_standAt (wpAny_bind (wpAny_mono (turn n s hI) (λr s₁ h₁=>?_) λ_ _ h'=>h'.elim)))
 cases r with
 | none=>exact wpAny_pure h₁
 | some v =>
  refine wpAny_bind (wpAny_mono h₁ (λ_ s₁' h₁'=>?_) λ_ _ h'=>h'.elim)
  refine wpAny_bind (wpAny_mono h₁' (λ_ s₂ h₂=>wpAny_bind (wpAny_mono h₂ (λok s₃ h₃=>?_) λ_ _ h'=>h'.elim)) λ_ _ h'=>h'.elim)
  cases ok with
  | false=>exact wpAny_pure ⟨rfl,h₃⟩
  | true=>exact wpAny_bind (wpAny_mono h₃ (λ_ s₅ h₅=>wpAny_pure ⟨rfl,h₅⟩) λ_ _ h'=>h'.elim)
def iY (H:Hp) (a:Addr) (y v:V) (H':Hp):Prop:=∃ kvs k,H a=some (.dK kvs)/\y=kV k/\kvs.length<sizeLine/\H'=upd H a (.dK (putK kvs k v))
def yX (js:List (Option Nat)) (wi:TI) (g:TG) (tt:TT) (tk tv:TE):TE:=λσ H Q=>wi σ H λJ H1=>∀ D,H1 D=none->∃ W:Nat->Nat->Hp->Prop,(∃ m,W 0 m (upd H1 D (.dK [])))/\∀ i m H,W i m H ->
 (J.stop i H/\Q (.ref D) H) ∨
 (J.go i H/\∃ N:Hp->Prop,(∀ H',N H'->∃ m',m'<m/\W (i+1) m' H') /\
  ∀ x H',J.yld i H x H'->g x (bc js σ) H' λσ2 H2=>a6 (bc js σ) σ2/\tt σ2 H2 λb H3=>if b=true then (tk σ2 H3 λk H4=>tv σ2 H4 λv H5=>∃ H6,iY H5 D k v H6/\N H6) else N H3)
theorem oz {X:Cx} {A:Around} {pins:List (Addr × Obj)} {σ:St} {H H':Hp} {s:Shared} {a:Addr} {y v:V} {u r:Value} {E:Value->Shared->Prop} {Q:Unit->Shared->Prop} (I:Inv X pins σ H s) (g:iY H a y v H') (ry:RelV y u) (rv:RelV v r) (h:∀ s',Inv X pins σ H' s'->Q () s') :
  wpAny (model X.prog X.w) A (dictSet a u r) Q E s:=by
 obtain⟨kvs,k,e,ey,l,eH⟩:=g
 subst ey eH
 obtain⟨z,hd,vs,rel,dd⟩:=gU I.hok e
 have hz:vs.length<=sizeLine:=by rw [<- rel.length];exact z
 have hl:(putK kvs k v).length<=sizeLine:=by have:=cJ kvs k v;omega
 refine wpAny_dictSet_pairs (hsz:=hz) (je ry) dd λh' dd' hs=>h _ ?_
 have he:∃ q,h'.get? a=some q:=let ⟨q,_,_,hq,_⟩:=dd';⟨q,hq⟩
 exact gJ I (by rw [e];exact True.intro) hs he (l7 hl hd (rel.put k rv) dd')
theorem qh {P:Program} {w:World} {h:Heap} {D:Addr} (e:h.get? D=some { cls:=.type "dict",data:=.dict #[] }):h.DictOf (aL P w) D []:=by
 obtain⟨o,es,ep,h1,h2,h3,h4,h5,h6⟩:=Heap.DictOf.new (knd:=aL P w) h
 rw [Heap.get?_push_size _ rfl] at h1
 cases h1
 exact⟨_,es,ep,e,h2,h3,h4,h5,h6⟩
theorem sN {Y:Cx} {kx vx:Expr} {tk tv:TE} {D:Addr} {P:List (Addr × Obj)} {σ:St} {H:Hp} {s:Shared} {N:Hp->Prop} {Ps:Shared->Prop} (hk:PE Y kx tk) (hv:PE Y vx tv) (I:Inv Y P σ H s) (q:tk σ H λk H4=>tv σ H4 λv H5=>∃ H6,iY H5 D k v H6/\N H6) (k:∀ H' s',Inv Y P σ H' s'->N H'->Ps s') :
  wpAny (model Y.prog Y.w) Y.A (m7 kx vx (.ref D) Y.env) (λ_ s'=>Ps s') Y.xe s:=by
 unfold m7
 refine wpAny_bind (a5 (hk _ s σ H _ I q) λkv s1 ⟨x,H4,I4,r4,q4⟩=>wpAny_bind (wpAny_holding (a5 (hv _ s1 σ H4 _ I4 q4) λvv s2 ⟨v,H5,I5,r5,H6,gp,n6⟩=>?_)))
 exact wpAny_bind (wpAny_standAt (wpAny_holding (oz I5 gp r4 r5 λs' I'=>k _ _ I' n6)))
theorem xu {X:Cx} {kx vx target iter:Expr} {ifs:List Expr} {scope:Scope} {pos:Pos} {N':List Str} {js:List (Option Nat)} {cl:List (Str × Addr)} {wi:TI} {g:TG} {tt:TT} {tk tv:TE} (hcalm:X.calm=true)
  (K:dg X N' js scope cl) (hi:PI X target iter wi)
  (hg:∀ C s₂ H₂ fp,PG (bB X N' scope cl C s₂ H₂ fp) target g) (ht:∀ C s₂ H₂ fp,jH (bB X N' scope cl C s₂ H₂ fp) ifs tt) (hk:∀ C s₂ H₂ fp,PE (bB X N' scope cl C s₂ H₂ fp) kx tk) (hv:∀ C s₂ H₂ fp,PE (bB X N' scope cl C s₂ H₂ fp) vx tv)
  (hs:∀ x,foldedSetIterable iter X.env x=pure x:=by intro _;rfl):PE X (.DictComp kx vx [⟨target,iter,ifs,0⟩] scope pos) (yX js wi g tt tk tv):=by
 intro pins s σ H Q I h
 rw [arm_eval_DictComp]
 refine wpAny_comprehension_free (use:=none) rfl hs K.clos K.kind K.names (a5 (hi pins s σ H _ I h) λv s1 h1=>a5 h1 λitv s2 h2=>?_)
 exact vo (Bd:=λacc env Ps s=>wpAny (model X.prog X.w) X.A (m7 kx vx acc env) (λ_ s'=>Ps s') (λ_ _=>False) s) (tb:=λD σ2 H3 N=>tk σ2 H3 λk H4=>tv σ2 H4 λv H5=>∃ H6,iY H5 D k v H6/\N H6) (o₀:={ cls:=.type "dict",data:=.dict #[] }) (ho:=.dK []) hcalm
  (λR s it acc env h0 h=>codeAny_compStart_dict h0 h) (λR s it acc env I turn n h=>kJ I (pN kx vx target iter ifs scope pos it acc env) turn n h) (λQ E s h=>wpAny_newObj_type h) rfl
  (λH h D hb e=>⟨Nat.zero_le _,beq_eq_false_iff_ne.mpr (Ne.symm (Nat.ne_of_lt hb)),[],.nil,qh e⟩) K hg ht
  (λC s₂ H₂ fp D P σ H s N Ps I q k=>sN (hk C s₂ H₂ fp) (hv C s₂ H₂ fp) I q k) h2 λC D H4 s5 ⟨m,hn⟩ hI q=>⟨m,hn,λh' hsb=>⟨.ref D,_,hI h' hsb,rfl,q⟩⟩
end L2
namespace L2
open PySem PySem.Spec PyProof.Rows PySem.W
def pU (v d:Addr):HO:=.ext λh=>h.IsValuesView v d
def xC:V->List V->Hp->VK->Prop:=λx xs H Q=>∃(a:Addr) (kvs:List (Key × V)),x=.ref a/\xs=[]/\H a=some (.dK kvs)/\∀ v,H v=none->Q (.ref v) (upd H v (pU v a))
theorem tM {X:Cx}:x5 X "dict.values" xC:=by
 intro pins s σ H x xs v us Q I rx r h
 obtain⟨a,kvs,rfl,rfl,ha,q⟩:=h
 cases rx
 cases r
 obtain⟨z,hd,vs,rel,dd⟩:=gU I.hok ha
 have fT:H s.heap.objs.size=none:=I.hok.fresh (Nat.le_refl _)
 have hv:(s.heap.push { cls:=.type "dict_values",data:=.fields #[.ref a] }).IsValuesView s.heap.objs.size a:=⟨_,Heap.get?_push_size _ rfl,rfl,rfl⟩
 refine call_meetsIn PySem.F.slot_dict_values dd.typeIs PySem.F.entry_dict_values (PySem.F.args_dict_values_1 _) (meets_dict_values (aL X.prog X.w) a hd) ⟨⟨vs,dd⟩,?_⟩
 refine⟨.ref s.heap.objs.size,upd H s.heap.objs.size (pU s.heap.objs.size a),I.laid (t':=s.toks) (λb u w=>Heap.get?_push_of_some _ w) (Nat.le_refl _) ?_,rfl,q _ fT⟩
 exact⟨hv,⟨_,Heap.get?_push_size _ rfl⟩,λh1 h2 ⟨o,e,r⟩ k=>⟨o,k o e,r⟩⟩
def wa:List V->Hp->VK->Prop:=λxs H Q=>∃(v a:Addr) (kvs:List (Key × V)),xs=[.ref v]/\H v=some (pU v a)/\H a=some (.dK kvs)/\∀ p,H p=none->Q (.ref p) (upd H p (.lst (kvs.map (·.2))))
theorem KV.vals:∀{kvs:List (Key × V)} {vs:List (Key × Value)} {us:List Value},KV kvs vs->us.length=vs.length->(∀(j:Nat) u,us[j]?=some u->∃ k,vs[j]?=some (k,u))->Vals (kvs.map (·.2)) us
 | [],[],us,_,hl,_=>by
  cases us with
  | nil=>exact .nil
  | cons _ _=>simp at hl
 | p::kvs,q::vs,us,.cons h r,hl,hu=>by
  cases us with
  | nil=>simp at hl
  | cons u us =>
   obtain⟨k,e⟩:=hu 0 u rfl
   cases e
   exact .cons h.2 (KV.vals r (by simpa using hl) λj u e=>by simpa using hu (j+1) u (by simpa using e))
theorem l5 {X:Cx} (hc:X.calm=true):b9 X (.type "list") wa:=by
 intro pins s σ H xs us Q I r h
 obtain⟨v,a,kvs,rfl,hv,ha,q⟩:=h
 obtain⟨u,rfl,ru⟩:=vals1 r
 cases ru
 obtain⟨z,hd,vs,rel,dd⟩:=gU I.hok ha
 obtain⟨ep,da⟩:=dd.dictAt
 have zl:vs.length<=sizeLine:=by rw [<- rel.length];exact z
 have vv:s.heap.IsValuesView v a:=(show aN X.prog X.w H s.heap v (pU v a) from I.hok v _ hv).1
 refine kdl_call (kdl_values (knd:=aL X.prog X.w) (r:=v) (d:=a) (kvs:=vs) (ep:=ep)) (I.ok.hd hc) ⟨vv,da⟩ zl λh' tk acc c k hD hacc=>?_
 have al:acc.toList.length=vs.length:=by rw [Array.length_toList];exact hacc.1
 have fT:H s.heap.objs.size=none:=I.hok.fresh (Nat.le_refl _)
 have rv:Vals (kvs.map (·.2)) acc.toList:=KV.vals rel al λj u e=>hacc.2 j u (by rw [<- Array.getElem?_toList];exact e)
 refine⟨.ref s.heap.objs.size,upd H s.heap.objs.size (.lst (kvs.map (·.2))),?_,rfl,q _ fT⟩
 exact I.laid k (Nat.le_refl _) ⟨by rw [List.length_map];exact z,acc.toList,c,rv,by rw [hD]⟩
def v9:List V->Hp->VK->Prop:=λxs H Q=>∃(a:Addr) (kvs:List (Key × V)) (ns:List Int),xs=[.ref a]/\H a=some (.dK kvs)/\kvs.map (·.1)=ns.map Sum.inl/\∀ p,H p=none->Q (.ref p) (upd H p (.lst (ns.map V.int)))
theorem lZ {X:Cx} (hc:X.calm=true):b9 X (.type "list") v9:=by
 intro pins s σ H xs us Q I r h
 obtain⟨a,kvs,ns,rfl,ha,hk,q⟩:=h
 obtain⟨u,rfl,ru⟩:=vals1 r
 cases ru
 obtain⟨z,hd,vs,rel,dd⟩:=gU I.hok ha
 obtain⟨ep,da⟩:=dd.dictAt
 have kl:vs.map (·.1)=ns.map Sum.inl:=rel.keys.symm.trans hk
 have nl:vs.length=ns.length:=by have:=congrArg List.length kl;simpa using this
 have zl:vs.length<=sizeLine:=by rw [<- rel.length];exact z
 refine kdl_call (kdl_dict (knd:=aL X.prog X.w) (d:=a) (kvs:=vs) (ep:=ep) hd) (I.ok.hd hc) da zl λh' tk acc c k hD hacc=>?_
 have al:acc.toList.length=vs.length:=by rw [Array.length_toList];exact hacc.1
 have hI:IntsAre acc.toList ns:=nq (al.trans nl) λj v e=>by
  obtain⟨k,x,e1,e2⟩:=hacc.2 j v (by rw [<- Array.getElem?_toList];exact e)
  have e3:(ns.map Sum.inl)[j]?=some k:=by rw [<- kl,List.getElem?_map,e1];rfl
  rw [List.getElem?_map] at e3
  obtain⟨n,e4,e5⟩:=Option.map_eq_some_iff.mp e3
  rcases aY e2 with⟨i,t,e6,e7⟩|⟨i,t,e6,e7⟩
  ·rw [e6] at e5
   cases e5
   exact⟨n,t,e4,e7⟩
  ·rw [e6] at e5
   cases e5
 have fT:H s.heap.objs.size=none:=I.hok.fresh (Nat.le_refl _)
 refine⟨.ref s.heap.objs.size,upd H s.heap.objs.size (.lst (ns.map V.int)),?_,rfl,q _ fT⟩
 exact I.laid k (Nat.le_refl _) ⟨by rw [List.length_map,<- nl];exact zl,acc.toList,c,eX hI,by rw [hD]⟩
def rH:List V->Hp->VK->Prop:=λxs H Q=>∃(a:Addr) (kvs:List (Key × V)),xs=[.ref a,.ty "dict"]/\H a=some (.dK kvs)/\Q (.bl true) H
theorem jJ {X:Cx}:b9 X (.builtin "isinstance") rH:=by
 intro pins s σ H xs us Q I r h
 obtain⟨a,kvs,rfl,ha,q⟩:=h
 obtain⟨u,w',rfl,rx,rc⟩:=vals2 r
 have e:w'=.type "dict":=rc
 subst e
 cases rx
 obtain⟨z,hd,vs,rel,dd⟩:=gU I.hok ha
 obtain⟨o,h1,h2⟩:=dd.typeIs (s:=s)
 exact PySem.W.kia_one PySem.W.kitx_dict I.cH ⟨o,h1,h2⟩ (by with_unfolding_all rfl) (λz=>nomatch z) λtk=>⟨.bl true,H,I.tok _,rfl,q⟩
section
variable {X:Cx} {pins:List (Addr × Obj)} {σ:St} {H:Hp} {s:Shared}
theorem sO {fn:Addr} {fd:FuncData} {ps:List Str} {sp:Sp} {k i:Nat} {E:XK} {f:Str} {e:Expr} {es:List Expr} {t:TA} {p pos:Pos} {Q:VK} (F:bR X.prog X.w X.K X.mg X.base (ft X.prog X.w) k fn fd ps sp) (hr:bF k X.A) (hv:PE X.jq (.Name f p) (rT i)) (hσ:σ[i]?=some (some (.ref fn))) (hk:PySem.W.keepIn X.K (.ref fn)=true) (hb:Binds X.K fd ps [])
  (ha:PA X.jq (e::es) t) (I:Inv X pins σ H s) (h:t σ H λvs H1=>sp vs H1 Q E) (he:starEach (e::es) X.env=(false,eval e X.env)::starEach es X.env:=by rfl) (hpl:(backTo pos (starEach es X.env)).any (·.1)=false:=by rfl) :
  wpAny (model X.prog X.w) X.A (eval (.Call (.Name f p) (e::es) [] pos) X.env) (EP X pins σ Q) (λev s'=>∃ H1 s1,Inv X pins σ H1 s1/\ft X.prog X.w X.stack H1 s1 E ev s') s:=by
 refine wpAny_Call_Name_kw (wpAny_mono (hv pins s σ H (λv H'=>v=.ref fn/\t σ H' λvs H1=>sp vs H1 Q E) (I.gm _) ⟨_,hσ,rfl,h⟩) (λu s0 ⟨v,H0,J0,rv,ev,h0⟩=>?_) λ_ _ z=>False.elim z)
 subst ev
 cases rv
 refine PySem.W.callWith_K (h₀:=X.base) I.ok.mod.kin hk (wpAny_mono (ha pos pins s0 σ H0 _ J0 h0) (λus s1 ⟨vs,H1,J1,r,q⟩=>?_) λ_ _ z=>False.elim z) he hpl
 have I1:Inv X pins σ H1 s1:=J1.cE
 refine⟨I1.cH,?_⟩
 have hl:(us++[]).length=ps.length:=by rw [List.append_nil,<- r.length];exact F.len _ _ _ _ q
 have bt:=hb s1 us I1.cH hl
 rw [List.append_nil] at bt
 refine wpAny_call (codeAny_mono (F.run X.A X.stack s1 H1 ⟨us,[]⟩ us vs Q E hr I1.sT bt r q) λr' s' hq=>?_)
 cases r' with
 | error e=>exact⟨H1,s1,I1,hq⟩
 | ok fl =>
  cases fl with
  | ret u=>exact I1.after hq
  | next=>exact False.elim hq
  | brk=>exact False.elim hq
  | cont=>exact False.elim hq
end
def vd (j:Nat) (fn:Addr) (t:TS):TS:=λD σ H=>σ[j]?=some (some (.ref fn))/\t D σ H
section
variable {X:Cx} {B B2 fn:Addr} {fd:FuncData} {n n2:Option Nat} {hd hd2:ExceptHandler} {ts ts2:TS} {k:Nat} {f:Str} {ps:List Str} {sp:Sp} {e:Expr} {es:List Expr} {t:TA} {p cpos epos pos:Pos}
theorem pB {i j:Nat} {nm:Str} {tp:Pos} (F:bR X.prog X.w X.K X.mg X.base (ft X.prog X.w) k fn fd ps sp) (hk:PySem.W.keepIn X.K (.ref fn)=true) (hb:Binds X.K fd ps []) (hr:bF k X.A) (hv:PE X.jq (.Name f p) (rT j)) (hst:X.stack=X.env::X.outer) (hfr:X.env.frame=some X.env.locals) (hN:X.N.Nodup) (hi:X.N[i]?=some nm) (hx:X.env.scope.names.lookup nm=some .local) (ha:PA X.jq (e::es) t) (hh:vm X n B hd ts) (hh2:vm X n2 B2 hd2 ts2)
  (he:starEach (e::es) X.env=(false,eval e X.env)::starEach es X.env:=by rfl) (hpl:(backTo cpos (starEach es X.env)).any (·.1)=false:=by rfl)
  (hs:swapsWith (.Call (.Name f p) (e::es) [] cpos) (some (.Name nm tp)) epos.line X.env=pure false:=by rfl) :
  PS X (.Try [.Assign [.Name nm tp] (.Call (.Name f p) (e::es) [] cpos) epos] [hd,hd2] [] [] pos) (vd j fn (vc X.K B n B2 n2 sp t (λv σ=>σ.set i (some v)) ts ts2)):=by
 intro pins s σ H D I h
 obtain⟨hσ,h⟩:=h
 refine wpAny_Try_except (wpAny_execs_cons (wpAny_Assign_Name (wpAny_mono (sO F hr hv hσ hk hb ha I h he hpl) (λv s1 ⟨y,H1,I1,r1,q1⟩=>br I1 hN hi (.inl hx) r1 (λs2 I2=>wpAny_execs_nil (wpAny_execs_nil ⟨_,H1,I2,q1⟩)) (.inr hx)) λev s' ⟨H1,s1,I1,hq⟩=>?_) hs))
 exact sP hst hfr hh hh2 I1 hq λC x H' ⟨C',x',dd,e1,e2,_,c1,c2⟩=>by cases e1;cases e2;exact⟨c1,c2⟩
end
theorem lY:bootBuiltins "dict"=some (.type "dict"):=by decide +kernel
theorem gS {X:Cx} (K:PySem.W.Frag) (hK:X.K=K):b9 X (.builtin "isinstance") (lI K):=hK▸i7
theorem jw {X:Cx} {a:Expr} {ta:TE} (K:PySem.W.Frag) (hK:X.K=K) (ha:PE X a ta) (he:∀ whole,isTrue a X.env whole=(do let v <- whole;standAt a.pos;holding [v] (truthy v))) :
  PT X a (λσ H Q=>ta σ H λx H'=>∃ k,pT K x H' k/\Q k H'):=hK▸a4 ha he
def ur (J:It) (js:List (Option Nat)) (g:TG) (tt:TT) (tk tv:TE) (σ:St) (Q:VK) (H1:Hp):Prop:=∀ D,H1 D=none->∃ W:Nat->Nat->Hp->Prop,(∃ m,W 0 m (upd H1 D (.dK [])))/\∀ i m H,W i m H ->
 (J.stop i H/\Q (.ref D) H) ∨
 (J.go i H/\∃ N:Hp->Prop,(∀ H',N H'->∃ m',m'<m/\W (i+1) m' H') /\
  ∀ x H',J.yld i H x H'->g x (bc js σ) H' λσ2 H2=>a6 (bc js σ) σ2/\tt σ2 H2 λb H3=>if b=true then (tk σ2 H3 λk H4=>tv σ2 H4 λv H5=>∃ H6,iY H5 D k v H6/\N H6) else N H3)
theorem wg {js:List (Option Nat)} {wi:TI} {g:TG} {tt:TT} {tk tv:TE} {σ:St} {H:Hp} {Q:VK}:yX js wi g tt tk tv σ H Q=wi σ H λJ H1=>ur J js g tt tk tv σ Q H1:=rfl
theorem l8 {K:PySem.W.Frag} {a:Addr} {xs:List V} {js:List (Option Nat)} {g:TG} {tt:TT} {tk tv:TE} {σ:St} {Q:VK} {H:Hp} (Pv:Addr->Nat->Hp->Prop) (h0:∀ D,H D=none->Pv D 0 (upd H D (.dK []))) (hl:∀ D i H,i<=xs.length->Pv D i H->aW K H a xs)
  (hs:∀ D i x H p,xs[i]?=some x->Pv D i H->H p=none->g (.ref p) (bc js σ) (upd H p (.tup [.int i,x])) λσ2 H2=>a6 (bc js σ) σ2/\tt σ2 H2 λb H3=>if b=true then (tk σ2 H3 λk H4=>tv σ2 H4 λv H5=>∃ H6,iY H5 D k v H6/\Pv D (i+1) H6) else Pv D (i+1) H3) (hd:∀ D H,Pv D xs.length H->Q (.ref D) H):ur (ye K a) js g tt tk tv σ Q H:=by
 intro D hD
 refine⟨λi m H=>m=xs.length-i/\i<=xs.length/\Pv D i H,⟨xs.length,by simp,Nat.zero_le _,h0 D hD⟩,?_⟩
 rintro i m H ⟨rfl,hi,p⟩
 have q:=hl D i H hi p
 by_cases hlt:i<xs.length
 ·have hx:xs[i]?=some xs[i]:=List.getElem?_eq_getElem hlt
  refine .inr ⟨⟨xs,_,q,hx⟩,Pv D (i+1),λH' p'=>⟨xs.length-(i+1),by omega,rfl,hlt,p'⟩,λx H' y=>?_⟩
  obtain⟨pt,v,f,e1,e2,e3⟩:=y
  subst e1 e3
  exact hs D i v H pt (e2 xs q) p f
 ·have e:i=xs.length:=by omega
  subst e
  exact .inl ⟨⟨xs,q,Nat.le_refl _⟩,hd D H p⟩
end L2
set_option maxHeartbeats 8000000
namespace K
open PySem PySem.Spec PyProof.Rows L2
def top (i:Nat):Stmt:=PySem.Challenge.pw_rootprime_k77_tables_of_powers.main.body.getD i (.Pass ⟨0,0,0,0⟩)
theorem uI {us:List Value} (h:us.length=1):∃ a,us=[a]:=match us,h with | [a],_=>⟨a,rfl⟩
theorem uJ {us:List Value} (h:us.length=2):∃ a b,us=[a,b]:=match us,h with | [a,b],_=>⟨a,b,rfl⟩
theorem uK {us:List Value} (h:us.length=3):∃ a b c,us=[a,b,c]:=match us,h with | [a,b,c],_=>⟨a,b,c,rfl⟩
theorem uL {us:List Value} (h:us.length=4):∃ a b c d,us=[a,b,c,d]:=match us,h with | [a,b,c,d],_=>⟨a,b,c,d,rfl⟩
theorem uM {us:List Value} (h:us.length=5):∃ a b c d e,us=[a,b,c,d,e]:=match us,h with | [a,b,c,d,e],_=>⟨a,b,c,d,e,rfl⟩
theorem uN {us:List Value} (h:us.length=6):∃ a b c d e f,us=[a,b,c,d,e,f]:=match us,h with | [a,b,c,d,e,f],_=>⟨a,b,c,d,e,f,rfl⟩
theorem fM {N P:List Str} {sc:Scope} (a:sc.kind=.function:=by exact rfl) (b:sc.isCoroutine=false:=by exact rfl) (c:sc.isGenerator=false:=by exact rfl) (d:N.Nodup:=by decide +kernel) (e:N.take P.length=P:=by exact rfl) (f:∀ x∈P,sc.names.lookup x=some .local∨sc.names.lookup x=some .cell:=by decide +kernel) (g:∀ y∈sc.names,y.2≠.free:=by decide +kernel):az N P sc:=⟨a,b,c,d,e,f,g⟩
theorem fw {F:PySem.W.Frag} {mg:Str->Option Value} {x:Str} {h:Heap} {f:Addr} {st:Stmt} {oc:Value} {od an:Option Addr} {osl:Array (Option Value)} {kV doc pm cdv ct:Value} (X:F.In h) (G:h.Ns mainGlobals mg) (a:PySem.W.nsIn F mainGlobals x=some (some (.ref f)):=by k_is) (l:F.lookup f=some ⟨oc,od,.func (PySem.W.fnOf x x (a9 st) (aJ st) (ai st) .none kV doc pm an cdv ct),osl⟩:=by k_is) (c:PySem.W.codeIn F cdv x=true:=by k_is) (kk:PySem.W.keepIn F (.ref f)=true:=by k_is):aA (eG X) mg x st:=qg X G a l c kk
theorem sk {X:Cx} {N':List Str} {js:List (Option Nat)} {scope:Scope} {cl:List (Str × Addr)} (clos:closureFor scope X.env=pure cl) (kind:scope.kind=.function) (nocell:∀ y∈scope.names,y.2=.cell->scope.names.lookup y.1=some .cell/\∀ p∈js.zip N',p.1.isSome=true->p.2≠y.1:=by decide +kernel) (names:∀ y∈scope.names,y.2=.local->scope.names.lookup y.1=some .local:=by decide +kernel) (sub:AllIn X.env cl:=by repeat (first | exact True.intro | refine⟨rfl,?_⟩)) (has:f7 cl scope.names:=by repeat (first | exact True.intro | refine⟨rfl,?_⟩ | refine⟨True.intro,?_⟩)) (j:fv X scope cl js N':=by repeat (first | exact True.intro | refine⟨⟨rfl,rfl,.inl rfl,.inl rfl⟩,?_⟩)):dg X N' js scope cl:=vz clos kind nocell names sub has j
theorem bw {X:Cx} {pos:Pos} {i:Nat} {x:Str} {e:Expr} {te:TE} {pos':Pos} (hN:X.N.Nodup) (he:PE X e te) (hi:X.N[i]?=some x:=by exact rfl) (hx:Loc X.env.scope x:=by exact Or.inl rfl) (hs:swapsWith e (some (.Name x pos')) pos.line X.env=pure false:=by rfl) (hf:X.fn x=true∨X.env.scope.names.lookup x=some .local:=by first | exact .inl rfl | exact .inr rfl | assumption):PS X (.Assign [.Name x pos'] e pos) (pI te (fC i)):=j7 hN hi hx he hs hf
theorem cm {X:Cx} {CX:gQ} {k n:Nat} {x:Str} {ps:List Str} {sp:Sp} {E:XK} {e:Expr} {es:List Expr} {t:TA} {p pos:Pos} (C:Callee X.prog X.w X.K X.mg X.base CX k x ps sp) (hr:bF n X.A) (hx:Passes CX X E) (ha:PA X (e::es) t) (hm:k<=n:=by decide) (hg:Gl X x:=by exact rfl) (hdb:(x==("__debug__":Str))=false:=by decide) (he:starEach (e::es) X.env=(false,eval e X.env)::starEach es X.env:=by rfl) (hpl:(backTo pos (starEach es X.env)).any (·.1)=false:=by rfl):PE X (.Call (.Name x p) (e::es) [] pos) (nX sp [] E t):=bS C (hr.mono hm) hg hx ha hdb he hpl
theorem cO {P:Program} {w:World} {F:PySem.W.Frag} {mg:Str->Option Value} {base:Heap} {k:Nat} {x:Str} {ps:List Str} {sp:Sp} {st:Stmt} {N:List Str} (D:aA F mg x st) (S:az N ps (ai st))
  (hbody:∀(f:Addr) (cdv:Value) (A:Around) (outer:List Env) (s:Shared) (H:Hp) (vs:List V) (Q:VK) (E:XK),bF k (A.deeper (envOfC x (ai st) s.heap.objs.size f cdv))->sp vs H Q E->∃ t,fZ (dh a8 P w F mg base N x (ai st) f cdv A outer s H E).jq (aJ st) t/\t { nx:=λ_ H'=>Q .non H',rt:=Q } (start N vs) H)
  (hb:∀(kV doc pm:Value) (an:Option Addr) (cdv ct:Value) (us:List Value),us.length=ps.length->bindArgs (PySem.W.fnOf x x (a9 st) (aJ st) (ai st) .none kV doc pm an cdv ct) ⟨us,[]⟩=pure (ps.zip us):=by
    intro _ _ _ _ _ _ us hl
    first | (obtain⟨_,rfl⟩:=uI hl;exact rfl) | (obtain⟨_,_,rfl⟩:=uJ hl;exact rfl) | (obtain⟨_,_,_,rfl⟩:=uK hl;exact rfl) | (obtain⟨_,_,_,_,rfl⟩:=uL hl;exact rfl) | (obtain⟨_,_,_,_,_,rfl⟩:=uM hl;exact rfl) | (obtain⟨_,_,_,_,_,_,rfl⟩:=uN hl;exact rfl))
  (len:∀ vs H Q E,sp vs H Q E->vs.length=ps.length:=by
    intro _ _ _ _ h
    first | (obtain⟨_,rfl,_⟩:=h;rfl) | (obtain⟨_,_,rfl,_⟩:=h;rfl) | (obtain⟨_,_,_,rfl,_⟩:=h;rfl) | (obtain⟨_,_,_,_,rfl,_⟩:=h;rfl) | (obtain⟨_,_,_,_,_,rfl,_⟩:=h;rfl) | (obtain⟨_,_,_,_,_,_,rfl,_⟩:=h;rfl) | (obtain⟨_,_,_,_,_,_,_,rfl,_⟩:=h;rfl) | (obtain⟨_,_,_,_,_,_,_,_,rfl,_⟩:=h;rfl) | (obtain⟨_,_,_,_,_,_,_,_,_,rfl,_⟩:=h;rfl) | (obtain⟨_,_,_,_,_,_,_,_,_,_,rfl,_⟩:=h;rfl) | (obtain⟨_,_,_,_,_,_,_,_,_,_,_,rfl,_⟩:=h;rfl) | (obtain⟨_,_,_,_,_,_,_,_,_,_,_,_,rfl,_⟩:=h;rfl) | (obtain⟨_,_,_,_,_,_,_,_,_,_,_,_,_,rfl,_⟩:=h;rfl) | (obtain⟨_,_,_,_,_,_,_,_,_,_,_,_,_,_,rfl,_⟩:=h;rfl) | (obtain⟨_,_,_,_,_,_,_,_,_,_,_,_,_,_,_,rfl,_⟩:=h;rfl)):Callee P w F mg base a8 (k+1) x ps sp:=ot D hb S len hbody
theorem cX {P:Program} {w:World} {F:PySem.W.Frag} {mg:Str->Option Value} {base:Heap} {k:Nat} {x:Str} {ps:List Str} {sp:Sp} {st:Stmt} {N:List Str} (D:aA F mg x st) (S:az N ps (ai st))
  (hbody:∀(f:Addr) (cdv:Value) (A:Around) (outer:List Env) (s:Shared) (H:Hp) (vs:List V) (Q:VK) (E:XK),bF k (A.deeper (envOfC x (ai st) s.heap.objs.size f cdv))->sp vs H Q E->∃ t,fZ (dh (ft P w) P w F mg base N x (ai st) f cdv A outer s H E) (aJ st) t/\t { nx:=λ_ H'=>Q .non H',rt:=Q } (start N vs) H)
  (hb:∀(kV doc pm:Value) (an:Option Addr) (cdv ct:Value) (us:List Value),us.length=ps.length->bindArgs (PySem.W.fnOf x x (a9 st) (aJ st) (ai st) .none kV doc pm an cdv ct) ⟨us,[]⟩=pure (ps.zip us):=by
    intro _ _ _ _ _ _ us hl
    first | (obtain⟨_,rfl⟩:=uI hl;exact rfl) | (obtain⟨_,_,rfl⟩:=uJ hl;exact rfl) | (obtain⟨_,_,_,rfl⟩:=uK hl;exact rfl) | (obtain⟨_,_,_,_,rfl⟩:=uL hl;exact rfl) | (obtain⟨_,_,_,_,_,rfl⟩:=uM hl;exact rfl) | (obtain⟨_,_,_,_,_,_,rfl⟩:=uN hl;exact rfl))
  (len:∀ vs H Q E,sp vs H Q E->vs.length=ps.length:=by
    intro _ _ _ _ h
    first | (obtain⟨_,rfl,_⟩:=h;rfl) | (obtain⟨_,_,rfl,_⟩:=h;rfl) | (obtain⟨_,_,_,rfl,_⟩:=h;rfl) | (obtain⟨_,_,_,_,rfl,_⟩:=h;rfl) | (obtain⟨_,_,_,_,_,rfl,_⟩:=h;rfl) | (obtain⟨_,_,_,_,_,_,rfl,_⟩:=h;rfl) | (obtain⟨_,_,_,_,_,_,_,rfl,_⟩:=h;rfl) | (obtain⟨_,_,_,_,_,_,_,_,rfl,_⟩:=h;rfl) | (obtain⟨_,_,_,_,_,_,_,_,_,rfl,_⟩:=h;rfl) | (obtain⟨_,_,_,_,_,_,_,_,_,_,rfl,_⟩:=h;rfl) | (obtain⟨_,_,_,_,_,_,_,_,_,_,_,rfl,_⟩:=h;rfl) | (obtain⟨_,_,_,_,_,_,_,_,_,_,_,_,rfl,_⟩:=h;rfl) | (obtain⟨_,_,_,_,_,_,_,_,_,_,_,_,_,rfl,_⟩:=h;rfl) | (obtain⟨_,_,_,_,_,_,_,_,_,_,_,_,_,_,rfl,_⟩:=h;rfl) | (obtain⟨_,_,_,_,_,_,_,_,_,_,_,_,_,_,_,rfl,_⟩:=h;rfl)):Callee P w F mg base (ft P w) (k+1) x ps sp:=l6 D hb S len hbody
end K
local macro_rules | `(tactic| k_data) => `(tactic| (iterate 2 ((try dsimp only [L2.bV, L2.xU, L2.u9, L2.uX, L2.xQ, L2.yA, L2.rT, L2.tC, L2.xT, L2.rI, L2.t5, L2.rU, L2.y7, L2.vb, L2.pI, L2.fC, L2.pJ, L2.xV, L2.xW, L2.xM, L2.yY, L2.xK, L2.u6, L2.xG, L2.yZ, L2.xR, L2.uW, L2.yE, L2.xS, L2.tB, L2.xH, L2.u5, L2.uA, L2.wX, L2.nX, L2.uj, L2.wq, L2.uH, L2.wY, L2.wZ, L2.uG, L2.w5, L2.y4, L2.yF, L2.va, L2.nY, L2.u7, L2.yS, L2.yU, L2.yW, L2.xI, L2.zt, L2.yo, L2.uY, L2.uU, L2.uZ, L2.ku, L2.uF, L2.w6, L2.xh, L2.rS, L2.wu, L2.xX, L2.wt, L2.yH, L2.yG, L2.vc, L2.kX, L2.gv, L2.xP, L2.xO, L2.yD, L2.yz, L2.t7, L2.yC, L2.ui, L2.wo, L2.wm, L2.wj, L2.vd, L2.rR, L2.wg, List.getElem?_cons_zero, List.getElem?_cons_succ, List.set_cons_zero, List.set_cons_succ, List.nil_append, List.cons_append, L2.wG, L2.zm, L2.wO]); (try simp only [Option.some.injEq, exists_eq_left', exists_and_left, List.cons.injEq, L2.V.int.injEq, L2.V.bl.injEq, and_true, true_and, and_assoc, decide_eq_true_eq, List.append_nil, Int.reduceToNat, Int.reducePow, Int.reduceLT, Int.reduceLE, Int.reduceNeg, Int.zero_add, Nat.reducePow, Nat.reduceLT, Int.reduceAdd, Int.reduceSub, Int.reduceMul, L2.V.ref.injEq, L2.ba, L2.rW, exists_eq_left, exists_eq', exists_eq, exists_const, L2.uc, L2.ua, L2.ud, L2.ue, L2.uf, L2.ub, L2.ug, reduceIte, reduceCtorEq, Bool.not_eq_true', decide_eq_false_iff_not, Int.reduceAbs, Bool.not_true, Bool.not_false, if_true, Bool.false_eq_true, if_false]))))
namespace K
open PySem PySem.Spec PyProof.Rows L2
section
variable {P:Program} {w:World} {K:PySem.W.Frag} {mg:Str->Option Value} {base:Heap}
theorem pW {i:Int} (h:(decide (i.natAbs<10^250))=true):Bd i:=Nat.lt_of_lt_of_le (of_decide_eq_true h) pX
def lN (K:PySem.W.Frag):Sp:=λvs H Q _=>∃(a:Addr) (ns:List Int) (k:Nat),vs=[.ref a,.int k]/\aW K H a (ns.map V.int)/\∀ c,Q (.int c) H
theorem dz:az ["_law_script","_law_k"] ["_law_script","_law_k"] (ai (top 33)):=fM
theorem oV (D:aA K mg "_law_cell_at" (top 33)) (n_len:mg "len"=none):Callee P w K mg base a8 1 "_law_cell_at" ["_law_script","_law_k"] (lN K):=by
 refine cO D dz (λf cdv A outer s H vs Q E hr h=>?_)
 obtain⟨a,ns,k,rfl,hS,q⟩:=h
 have nd:=dz.nd
 refine⟨_,(ae (aZ (av gy (pv 1) (aE bW rfl n_len PySem.boot_len (aa (pv 0) ah)) (aw _)) (aj (aB (aG aO (pv 0) (pv 1) (λ_ _=>rfl)))) aF) (aj (aB af))),?_⟩
 show bV _ _ _ [some (.ref a),some (.int k)] H
 k_data
 refine di hS ?_
 refine⟨_,rfl,?_⟩
 rw [List.length_map]
 refine bp (λc=>?_) (λc=>q _)
 refine fG hS (by omega) (by rw [List.length_map];exact c) λv hv=>?_
 obtain⟨i,_,rfl⟩:=List.mem_map.mp hv
 exact q i
def nS:Sp:=λvs H Q _=>∃(c:Int) (b:Bool),vs=[.int c,.bl b]/\∀ p l H',ay H H'->H p=none->H' p=some (pG l b)->tP l b->Q (.ref p) H'
theorem eT:az ["_law_cell","_law_free"] ["_law_cell","_law_free"] (ai (top 34)):=fM
theorem qY (D:aA K mg "_law_state" (top 34)):Callee P w K mg base a8 1 "_law_state" ["_law_cell","_law_free"] nS:=by
 refine cO D eT (λf cdv A outer s H vs Q E hr h=>?_)
 obtain⟨c,b,rfl,q⟩:=h
 have nd:=eT.nd
 refine⟨_,(ae (aZ (a4 (pv 1) (λ_=>rfl)) (aj (aB (nF (fK bI (pv 0) (fK bI cM nI)) rfl rfl (by intro z;cases z) (by decide)))) aF) (aj (aB (nF (fK bI (ar b3 af (ar aK (pv 0) af)) (fK bI cM nI)) rfl rfl (by intro z;cases z) (by decide))))),?_⟩
 show bV _ _ _ [some (.int c),some (.bl b)] H
 k_data
 refine bp (λz=>λp hp=>⟨ag,[(Sum.inr "left",.int c),(Sum.inr "free",.bl true)],rfl,by show 2<=15;decide,?_⟩) (λz=>λp hp=>⟨ag,[(Sum.inr "left",.int (1+c%2147483646)),(Sum.inr "free",.bl false)],rfl,by show 2<=15;decide,?_⟩)
 ·subst z
  rw [gk]
  exact q p c _ (ao hp) hp ag (.inl rfl)
 ·have z:b=false:=by simpa using z
  subst z
  rw [gk]
  exact q p (1+c%2147483646) _ (ao hp) hp ag (.inr ⟨by omega,by omega⟩)
def kq:Sp:=λvs H Q _=>∃(p:Addr) (m l:Int) (b:Bool),vs=[.ref p,.int m]/\H p=some (pG l b)/\tP l b/\0<m/\m<10^200/\∀ r H',0<=r->r<m->Up p b H H'->Q (.int r) H'
theorem fN:az ["_law_state_here","_law_many","_law_found"] ["_law_state_here","_law_many"] (ai (top 35)):=fM
theorem tT (D:aA K mg "_law_take" (top 35)):Callee P w K mg base a8 1 "_law_take" ["_law_state_here","_law_many"] kq:=by
 refine cO D fN (λf cdv A outer s H vs Q E hr h=>?_)
 obtain⟨p,m,l,b,rfl,hp,hl,hm,hm1,q⟩:=h
 have nd:=fN.nd
 refine⟨_,(ae (aZ (a4 (fI (fF hr) (pv 0) bI (λ_ _=>rfl)) (λ_=>rfl)) (ae (bw (i:=2) nd (ar aK (fI (fF hr) (pv 0) bI (λ_ _=>rfl)) (pv 1))) (ae (j6 (fF hr) (pv 0) bI (ar bG (fI (fF hr) (pv 0) bI (λ_ _=>rfl)) (pv 1)) rfl) (aj (aB (pv 2))))) aF) (ae (j6 (fF hr) (pv 0) bI (ar aK (ar aV (fI (fF hr) (pv 0) bI (λ_ _=>rfl)) af) af) rfl) (aj (aB (ar aK (ar bG (ar aK (ar aV (fI (fF hr) (pv 0) bI (λ_ _=>rfl)) af) af) af) (pv 1)))))),?_⟩
 show bV _ _ _ [some (.ref p),some (.int m),none] H
 k_data
 refine⟨_,qC hp,b,ba.mpr rfl,?_⟩
 refine bp (λz=>?_) (λz=>?_)
 ·subst z
  refine⟨_,fE hp,l,rfl,hm,_,fE hp,l,rfl,hm,Bd.of (by omega) (by omega),_,lF hp,?_⟩
  exact q _ _ (Int.emod_nonneg _ (by omega)) (Int.emod_lt_of_pos _ hm) ⟨_,.inl rfl,rfl⟩
 ·have z:b=false:=by simpa using z
  subst z
  obtain⟨l0,l1⟩:0<=l/\l<2147483647:=by rcases hl with z | z;cases z;exact z
  refine⟨_,fE hp,l,rfl,Bd.of (by omega) (by omega),pW (by decide),_,lF hp,_,fE ag,_,rfl,Bd.of (by omega) (by omega),pW (by decide),pW (by decide),hm,?_⟩
  exact q _ _ (Int.emod_nonneg _ (by omega)) (Int.emod_lt_of_pos _ hm) ⟨_,.inr ⟨by omega,by omega⟩,rfl⟩
def lP:Sp:=λvs H Q _=>∃(p:Addr) (l:Int) (b:Bool),vs=[.ref p]/\H p=some (pG l b)/\tP l b/\∀ x H',-(10^56)<x->x<10^56->Up p b H H'->Q (.int x) H'
theorem dN:az ["_law_state_here","_law_way","_law_found","_law_k"] ["_law_state_here"] (ai (top 36)):=fM
theorem oY (D:aA K mg "_law_number" (top 36)) (c__law_take:Callee P w K mg base a8 1 "_law_take" ["_law_state_here","_law_many"] kq) (n_range:mg "range"=none):Callee P w K mg base a8 2 "_law_number" ["_law_state_here"] lP:=by
 refine cO D dN (λf cdv A outer s H vs Q E hr h=>?_)
 obtain⟨p,l,b,rfl,hp,hl,q⟩:=h
 have nd:=dN.nd
 refine⟨_,(ae (bw (i:=1) nd (cm c__law_take hr aH (aa (pv 0) (aa af ah)))) (ae (aZ (av bK (pv 1) af (aw _)) (aj (aB (ar cS (cm c__law_take hr aH (aa (pv 0) (aa af ah))) af))) aF) (ae (aZ (av bK (pv 1) af (aw _)) (aj (aB (ar cS (cm c__law_take hr aH (aa (pv 0) (aa (ar aV af (ar iu af af)) ah))) (ar iu af af)))) aF) (ae (bw (i:=2) nd af) (ae (cT PassesOwn.never rfl (cu rfl n_range (aa af ah)) (aC (i:=3) nd rfl (Or.inl rfl) (.inr rfl)) (aj (bw (i:=2) nd (ar b3 (ar aV (pv 2) (ar iu af af)) (cm c__law_take hr aH (aa (pv 0) (aa (ar iu af af) ah))))))) (aj (aB (ar aV (pv 2) (ar cS (ar aV af (cm c__law_take hr aH (aa (pv 0) (aa af ah)))) af))))))))),?_⟩
 show bV _ _ _ [some (.ref p),none,none,none] H
 k_data
 refine⟨p,4,l,b,rfl,hp,hl,by omega,by omega,λr1 H1 r10 r11 u1=>?_⟩
 obtain⟨l1,k1,e1⟩:=u1.at
 refine⟨rfl,?_⟩
 refine bp (λz=>?_) (λz=>⟨rfl,bp (λz2=>?_) (λz2=>?_)⟩)
 ·exact⟨p,21,l1,b,rfl,e1,k1,by omega,by omega,λr2 H2 r20 r21 u2=>⟨_,rfl,q _ _ (by omega) (by omega) (u1.trans u2)⟩⟩
 ·exact⟨pW (by decide),pW (by decide),p,200000000,l1,b,rfl,e1,k1,by omega,by omega,λr2 H2 r20 r21 u2=>⟨_,rfl,q _ _ (by omega) (by omega) (u1.trans u2)⟩⟩
 have pw:∀ i:Nat,i<8->(10:Int)^(8*i)<=10^56:=by decide
 refine cz (λi σ' H'=>∃(x:Int) (o:Option V),σ'=[some (.ref p),some (.int r1),some (.int x),o]/\0<=x/\x<10^(8*i)/\Up p b H H') ⟨0,none,rfl,by omega,by decide,u1⟩ ?_ ?_
 ·rintro i σ' H' hi ⟨x,o,rfl,x0,x1,u⟩
  have p1:=pw i (by omega)
  have p2:(10:Int)^(8*(i+1))=10^(8*i)*100000000:=by rw [Nat.mul_add,Pw.pow_add];rfl
  obtain⟨l2,k2,e2⟩:=u.at
  k_data
  refine⟨Bd.of (by omega) (by omega),pW (by decide),p,100000000,l2,b,rfl,e2,k2,by omega,by omega,λr2 H2 r20 r21 u2=>?_⟩
  refine⟨r2,rfl,by omega,?_,u.trans u2⟩
  rw [p2]
  generalize (10:Int)^(8*i)=Y at *
  omega
 ·rintro σ' H' ⟨x,o,rfl,x0,x1,u⟩
  obtain⟨l2,k2,e2⟩:=u.at
  k_data
  have p1:=pw 7 (by omega)
  refine⟨p,2,l2,b,rfl,e2,k2,by omega,by omega,λr2 H2 r20 r21 u2=>?_⟩
  refine⟨r2,rfl,pW (by decide),Bd.of (by omega) (by omega),Bd.of (by omega) (by omega),Bd.of (by omega) (by omega),?_⟩
  have x2:x<10^56:=Int.lt_of_lt_of_le x1 p1
  rcases (by omega:r2=0∨r2=1) with z | z
  ·subst z
   exact q _ _ (by omega) (by omega) (u.trans u2)
  ·subst z
   exact q _ _ (by omega) (by omega) (u.trans u2)
def gq (a:Int):Prop := -(10^240)<=a/\a<=10^240
theorem gq.bd {a:Int} (h:gq a):Bd a:=Bd.of (by have:=h.1;omega) (by have:=h.2;omega)
def jz:Sp:=λvs H Q _=>∃ a b:Int,vs=[.int a,.int b]/\gq a/\gq b/\∀ g u v p H',Gcd.xY a b g u v->ay H H'->H' p=some (.tup [.int g,.int u,.int v])->Q (.ref p) H'
theorem iL:az ["a","b","g","u","v","next_g","next_u","next_v","times"] ["a","b"] (ai (top 15)):=fM
structure DS where
 (g u v ng nu nv:Int)
 t:Option V
theorem mC (D:aA K mg "divisor" (top 15)) (n_abs:mg "abs"=none):Callee P w K mg base a8 1 "divisor" ["a","b"] jz:=by
 refine cO D iL (λf cdv A outer s H vs Q E hr h=>?_)
 obtain⟨a,b,rfl,ha,hb,q⟩:=h
 have nd:=iL.nd
 refine⟨_,(ae (nJ (i:=2) (j:=3) (k:=4) rfl nd rfl rfl rfl (by decide) (by decide) (by decide) rfl rfl rfl (aa (aE gR rfl n_abs L2.boot_abs (aa (pv 0) ah)) (aa af (aa af ah))) rfl) (ae (nJ (i:=5) (j:=6) (k:=7) rfl nd rfl rfl rfl (by decide) (by decide) (by decide) rfl rfl rfl (aa (aE gR rfl n_abs L2.boot_abs (aa (pv 1) ah)) (aa af (aa af ah))) rfl) (ae (bh PassesOwn.never (av cW (pv 5) af (aw _)) (ae (bw (i:=8) nd (ar bG (pv 2) (pv 5))) (ae (mO (i:=2) (j:=5) rfl nd rfl rfl (by decide) rfl rfl (aa (pv 5) (aa (ar cS (pv 2) (ar aV (pv 8) (pv 5))) ah)) rfl) (ae (mO (i:=3) (j:=6) rfl nd rfl rfl (by decide) rfl rfl (aa (pv 6) (aa (ar cS (pv 3) (ar aV (pv 8) (pv 6))) ah)) rfl) (aj (mO (i:=4) (j:=7) rfl nd rfl rfl (by decide) rfl rfl (aa (pv 7) (aa (ar cS (pv 4) (ar aV (pv 8) (pv 7))) ah)) rfl)))))) (aj (aB (cD (aa (pv 2) (aa (lx (av gy (pv 0) af (aw _)) (ly iO (pv 3)) (pv 3)) (aa (lx (av gy (pv 1) af (aw _)) (ly iO (pv 4)) (pv 4)) ah))))))))),?_⟩
 show bV _ _ _ [some (.int a),some (.int b),none,none,none,none,none,none,none] H
 k_data
 have hA:0<=(if a<0 then -a else a)/\(if a<0 then -a else a)<=10^240:=by have:=ha.1;have:=ha.2;split<;>omega
 have hB:0<=(if b<0 then -b else b)/\(if b<0 then -b else b)<=10^240:=by have:=hb.1;have:=hb.2;split<;>omega
 refine bj (α:=DS) (λx=>[some (.int a),some (.int b),some (.int x.g),some (.int x.u),some (.int x.v),some (.int x.ng),some (.int x.nu),some (.int x.nv),x.t])
  (λx H'=>H'=H/\Gcd.J (if a<0 then -a else a) (if b<0 then -b else b) x.g x.u x.v x.ng x.nu x.nv/\x.g<=10^240/\x.ng<=10^240) (λx=>x.ng.toNat)
  ⟨_,1,0,_,0,1,none⟩ rfl ⟨rfl,Gcd.J.start hA.1 hB.1,hA.2,hB.2⟩ ?_
 rintro x H1 ⟨rfl,j,hg,hng⟩
 k_data
 refine bp (λc=>?_) (λc=>?_)
 ·refine⟨_,λ_ _ z=>z,?_⟩
  obtain⟨s1,s2,s3,s4⟩:=j.small hA.1 hB.1 hA.2 hB.2 (by omega)
  obtain⟨j',l,q0,ql⟩:=j.turn c
  have bg:gq x.ng:=⟨by omega,hng⟩
  have bq:gq (x.g/x.ng):=⟨by omega,by omega⟩
  refine⟨c,bg.bd,bq.bd,bg.bd,bq.bd,gq.bd s3,bq.bd,gq.bd s4,⟨x.ng,x.nu,x.nv,x.g-x.g/x.ng*x.ng,x.u-x.g/x.ng*x.nu,x.v-x.g/x.ng*x.nv,some (.int (x.g/x.ng))⟩,rfl,rfl,j',hng,by show (x.g-x.g/x.ng*x.ng)<=_;omega,by show (x.g-x.g/x.ng*x.ng).toNat<x.ng.toNat;omega⟩
 ·have e:x.ng=0:=by have:=j.n0;omega
  rw [e] at j
  have z:=j.done
  refine bp (λca=>?_) (λca=>?_)<;>simp only [ca,if_true,if_false] at z ⊢<;>refine bp (λcb=>?_) (λcb=>?_)<;>simp only [cb,if_true,if_false] at z ⊢ <;>
   exact⟨by show 3<=sizeLine;decide,λp hp=>q _ _ _ p _ z (ao hp) ag⟩
end
end K
namespace K
open PySem PySem.Spec PyProof.Rows L2
structure Gd (n a g:Int):Prop where
 pos:0<g
 dn:g∣n
 da:g∣a
 gr:∀ d:Int,d∣n->d∣a->d∣g
theorem Gd.one {n a g g':Int} (h:Gd n a g) (h':Gd n a g'):g=g' :=
 Int.le_antisymm (Int.le_of_dvd h'.pos (h'.gr g h.dn h.da)) (Int.le_of_dvd h.pos (h.gr g' h'.dn h'.da))
theorem kO {n a g:Int} (dn:g∣n):g∣a%n↔g∣a:=by
 have e:=Int.mul_ediv_add_emod a n
 constructor
 ·intro h
  rw [<- e]
  exact Int.dvd_add (Int.dvd_mul_of_dvd_left dn) h
 ·intro h
  have:a%n=a-n*(a/n):=by omega
  rw [this]
  exact Int.dvd_sub h (Int.dvd_mul_of_dvd_left dn)
theorem Gd.of {n a g u v:Int} (hn:0<n) (z:Gcd.xY (a%n) n g u v):Gd n a g:=by
 refine⟨?_,z.db,(kO z.db).mp z.da,λd h1 h2=>?_⟩
 ·have:=z.g0
  rcases (by omega:g=0∨0<g) with e | e
  ·have:=z.db
   rw [e] at this
   have:=Int.zero_dvd.mp this
   omega
  ·exact e
 ·rw [<- z.lin]
  exact Int.dvd_add (Int.dvd_mul_of_dvd_right ((kO h1).mpr h2)) (Int.dvd_mul_of_dvd_right h1)
theorem vF {n a u v:Int} (hn:0<n) (z:Gcd.xY (a%n) n 1 u v):n∣u%n*a-1:=by
 have e:=z.lin
 have e1:=Int.mul_ediv_add_emod a n
 have e2:=Int.mul_ediv_add_emod u n
 refine⟨u*(a/n)-v-u/n*a,?_⟩
 generalize a%n=x at *
 generalize u%n=y at *
 generalize a/n=s at *
 generalize u/n=t at *
 grind
section
variable {P:Program} {w:World} {K:PySem.W.Frag} {mg:Str->Option Value} {base:Heap}
def jA (C:Addr):Sp:=λvs H Q E=>∃ n a:Int,vs=[.int n,.int a]/\0<n/\n<=10^240/\∀ g,Gd n a g ->
 (g=1->∀ r H',0<=r->r<n->n∣r*a-1->ay H H'->Q (.int r) H') /\
 (1<g->∀ x dx H',ay H H'->H x=none->H' x=some (XO x C (some dx))->H' dx=some (.xd [("divisor",.int g)])->E (.ref C) (some x) H')
theorem iM:az ["n","a","g","u","v"] ["n","a"] (ai (top 16)):=fM
theorem mD {C:Addr} (D:aA K mg "inverse" (top 16)) (c_divisor:Callee P w K mg base a8 1 "divisor" ["a","b"] jz) (x_NoInverse:fh P w K mg base "NoInverse" C "divisor"):Callee P w K mg base (ft P w) 3 "inverse" ["n","a"] (jA C):=by
 refine cX D iM (λf cdv A outer s H vs Q E hr h=>?_)
 obtain⟨n,a,rfl,hn,hn1,q⟩:=h
 have nd:=iM.nd
 refine⟨_,(ae (rA (cm c_divisor hr aH (aa (ar aK (pv 1) (pv 0)) (aa (pv 0) ah))) (iD (n:=3) rfl (aI (aC (i:=2) nd rfl (Or.inl rfl) (.inr rfl)) (aI (aC (i:=3) nd rfl (Or.inl rfl) (.inr rfl)) (aI (aC (i:=4) nd rfl (Or.inl rfl) (.inr rfl)) b6))))) (ae (aZ (av cW (pv 2) af (aw _)) (aj (iH (fm x_NoInverse (hr.mono (by decide)) rfl (aa (pv 2) ah)))) aF) (fZ.jq (aj (aB (ar aK (pv 3) (pv 0))))))),?_⟩
 show bV _ _ _ [some (.int n),some (.int a),none,none,none] H
 k_data
 have r0:=Int.emod_nonneg a (show n≠0 by omega)
 have r1:=Int.emod_lt_of_pos a hn
 refine⟨hn,a%n,n,rfl,⟨by omega,by omega⟩,⟨by omega,by omega⟩,λg u v p H1 z hs hh=>?_⟩
 have G:=Gd.of hn z
 obtain⟨q1,q2⟩:=q g G
 refine⟨p,_,rfl,cF.of hh,rfl,?_⟩
 k_data
 refine bp (λc=>?_) (λc=>?_)
 ·intro x dx hx hdx ne
  have ne':dx≠x:=ne
  refine⟨C,some dx,ag,x_NoInverse.cls,?_,?_⟩
  ·cases e:H x with
   | none=>rfl
   | some o=>rw [hs _ _ e] at hx;cases hx
  ·refine q2 c x dx _ ?_ ?_ ag ?_
   ·intro b o e
    have e1:=hs _ _ e
    have bx:b≠x:=λy=>by rw [y,hx] at e1;cases e1
    have bd:b≠dx:=λy=>by rw [y,hdx] at e1;cases e1
    rw [ak bx,ak bx,ak bd,ak bx]
    exact e1
   ·cases e:H x with
    | none=>rfl
    | some o=>rw [hs _ _ e] at hx;cases hx
   ·rw [ak ne',ak ne',ag]
 ·have g1:g=1:=by have:=G.pos;omega
  subst g1
  exact⟨hn,q1 rfl _ _ (Int.emod_nonneg _ (by omega)) (Int.emod_lt_of_pos _ hn) (vF hn z) hs⟩
end
end K
namespace K
open PySem PySem.Spec PyProof.Rows L2
section
variable {P:Program} {w:World} {K:PySem.W.Frag} {mg:Str->Option Value} {base:Heap}
def gO (C:Addr):Sp:=λvs H Q E=>∃ n a e:Int,vs=[.int n,.int a,.int e]/\0<n/\n<=10^120 /\
 (0<=e->∀ H',ay H H'->Q (.int (a^e.toNat%n)) H') /\
 (e<0->∀ g,Gd n a g ->
  (g=1->∀ b H',0<=b->b<n->n∣b*a-1->ay H H'->Q (.int (b^(-e).toNat%n)) H') /\
  (1<g->∀ x dx H',ay H H'->H x=none->H' x=some (XO x C (some dx))->H' dx=some (.xd [("divisor",.int g)])->E (.ref C) (some x) H'))
theorem lM:az ["n","a","e","base","left","rest"] ["n","a","e"] (ai (top 21)):=fM
theorem qV {C:Addr} (D:aA K mg "power" (top 21)) (c_inverse:Callee P w K mg base (ft P w) 3 "inverse" ["n","a"] (jA C)) (n_abs:mg "abs"=none):Callee P w K mg base (ft P w) 4 "power" ["n","a","e"] (gO C):=by
 refine cX D lM (λf cdv A outer s H vs Q E hr h=>?_)
 obtain⟨n,a,e,rfl,hn,hn1,q1,q2⟩:=h
 have nd:=lM.nd
 refine⟨_,(ae (bw (i:=3) nd (ar aK (pv 1) (pv 0))) (ae (dj (aZ (av gy (pv 2) af (aw _)) (aj (bw (i:=3) nd (cm c_inverse hr iy (aa (pv 0) (aa (pv 1) ah))))) aF)) (fZ.jq (ae (bw (i:=4) nd (aE gR rfl n_abs L2.boot_abs (aa (pv 2) ah))) (ae (bw (i:=5) nd (ar aK af (pv 0))) (ae (bh PassesOwn.never (av cW (pv 4) af (aw _)) (ae (dj (aZ (av bK (ar aK (pv 4) af) af (aw _)) (aj (bw (i:=5) nd (ar aK (ar aV (pv 5) (pv 3)) (pv 0)))) aF)) (ae (bw (i:=3) nd (ar aK (ar aV (pv 3) (pv 3)) (pv 0))) (aj (iG (i:=4) nd rfl (Or.inl rfl) af (k4 qH)))))) (aj (aB (pv 5))))))))),?_⟩
 show bV _ _ _ [some (.int n),some (.int a),some (.int e),none,none,none] H
 k_data
 refine⟨hn,λσ' H'=>ay H H'/\∃ b:Int,σ'=[some (.int n),some (.int a),some (.int e),some (.int b),none,none]/\0<=b/\b<n/\Q (.int (b^e.natAbs%n)) H',?_,?_⟩
 ·k_data
  refine bp (λc=>?_) (λc=>?_)
  ·refine⟨n,a,rfl,hn,by omega,λg G=>⟨λe1 r H' r0 r1 r2 hs=>?_,λg1 x dx H' hs hx hX hd=>?_⟩⟩
   ·have:=(q2 c g G).1 e1 r H' r0 r1 r2 hs
    rw [show (-e).toNat=e.natAbs by omega] at this
    exact⟨hs,r,rfl,r0,r1,this⟩
   ·exact (q2 c g G).2 g1 x dx H' hs hx hX hd
  ·have:=q1 (by omega) H (ay.refl _)
   rw [show e.toNat=e.natAbs by omega,<- Pw.fJ] at this
   exact⟨ay.refl _,Int.emod_nonneg _ (by omega),Int.emod_lt_of_pos _ hn,this⟩
 ·rintro σ' H' ⟨hs,b,rfl,hb0,hb1,q⟩
  k_data
  refine⟨hn,?_⟩
  have ee:(if e<0 then -e else e)=(e.natAbs:Int):=by split<;>omega
  rw [ee]
  refine bj (α:=Int × Nat × Int) (λx=>[some (.int n),some (.int a),some (.int e),some (.int x.1),some (.int x.2.1),some (.int x.2.2)]) (λx H1=>H1=H'/\0<=x.1/\x.1<n/\0<=x.2.2/\x.2.2<n/\x.2.2*x.1^x.2.1%n=b^e.natAbs%n) (λx=>x.2.1) (b,e.natAbs,1%n) rfl ⟨rfl,hb0,hb1,Int.emod_nonneg _ (by omega),Int.emod_lt_of_pos _ hn,?_⟩ ?_
  ·show 1%n*b^e.natAbs%n=_
   rw [Pw.uP,Int.one_mul]
  rintro⟨b',l,r⟩ H1 ⟨rfl,h1,h2,h3,h4,h5⟩
  replace h1:0<=b':=h1
  replace h2:b'<n:=h2
  replace h3:0<=r:=h3
  replace h4:r<n:=h4
  replace h5:r*b'^l%n=b^e.natAbs%n:=h5
  k_data
  refine bp (λc=>?_) (λc=>?_)
  ·refine⟨_,λ_ _ z=>z,λσ' H2=>H2=H1/\σ'=[some (.int n),some (.int a),some (.int e),some (.int b'),some (.int l),some (.int (if l%2=1 then r*b'%n else r))],?_,?_⟩
   ·k_data
    refine bp (λc=>?_) (λc=>?_)
    ·exact⟨Bd.of (by omega) (by omega),Bd.of (by omega) (by omega),hn,by rw [if_pos (by omega)]⟩
    ·rw [if_neg (by omega)]
   rintro σ' H2 ⟨rfl,rfl⟩
   k_data
   have r0:0<=(if l%2=1 then r*b'%n else r)/\(if l%2=1 then r*b'%n else r)<n:=by
    split
    ·exact⟨Int.emod_nonneg _ (by omega),Int.emod_lt_of_pos _ hn⟩
    ·exact⟨h3,h4⟩
   refine⟨Bd.of (by omega) (by omega),Bd.of (by omega) (by omega),hn,pW (by decide),(b'*b'%n,l/2,if l%2=1 then r*b'%n else r),rfl,(by show (l:Int)/2=((l/2:Nat):Int);omega),rfl,Int.emod_nonneg _ (by omega),Int.emod_lt_of_pos _ hn,r0.1,r0.2,?_,?_⟩
   ·show (if l%2=1 then r*b'%n else r)*(b'*b'%n)^(l/2)%n=_
    rw [Pw.step]
    exact h5
   ·show l/2<l
    omega
  ·have l0:l=0:=by omega
   subst l0
   rw [Int.pow_zero,Int.mul_one] at h5
   have h6:r%n=r:=Int.emod_eq_of_lt h3 h4
   rw [<- h5,h6] at q
   exact q
end
end K
namespace L2
open PySem PySem.Spec PyProof.Rows
theorem cG {X:Cx} (K:PySem.W.Frag) (h:X.K=K):x4 X (v8 K):=h▸aU
theorem dZ {X:Cx} {pos:Pos} {es:List Expr} {k:Nat} {t:uv} {n:Nat} (K:PySem.W.Frag) (e:X.K=K) (hc:X.calm=true) (h:wK X es t)
  (hn:(assignEach es X.env).length=n:=by rfl) (hst:(assignEach es X.env).findIdx? (·.1)=none:=by rfl):PG X (.Tuple es k pos) (mf K n t):=e▸iD hc h hn hst
end L2
namespace K
open PySem PySem.Spec PyProof.Rows L2
section
variable {P:Program} {w:World} {K:PySem.W.Frag} {mg:Str->Option Value} {base:Heap}
theorem fj {X:Cx}:Passes (ft P w) X E0:=by
 intro pins σ H1 s1 e s' I hq
 obtain⟨x,C,T,dd,H',_,_,_,_,_,_,_,_,_,_,z⟩:=hq
 exact z.elim
theorem bY {H:Hp} {q:Addr} {xs:List V} {k:Int} {v:V} {Q:VK} (t:cF K H q xs) (e:kF xs k=some v) (h:Q v H):v8 K (.ref q) (.int k) H Q:=⟨q,xs,k,v,rfl,rfl,t,e,h⟩
theorem pO {x:V} {r:List V}:kF (x::r) 0=some x:=by
 unfold kF qJ
 simp
def yN (n a e:Int) (qs:List Int):Prop:=a^e.toNat%n=1/\∀ q∈qs,a^(e/q).toNat%n≠1
theorem cw {n x:Int} (hn:2<=n):x%n=1↔Num.Al n x 1:=by
 constructor
 ·intro h
  refine⟨x/n,?_⟩
  have:=Int.emod_add_mul_ediv x n
  omega
 ·rintro⟨k,hk⟩
  rw [show x=1+n*k by omega,Int.add_mul_emod_self_left]
  exact Int.emod_eq_of_lt (by omega) (by omega)
theorem tL {n a e:Int} {ps:List (Int × Int)} (hn:2<=n) (h:Num.Part e ps) (he:1<=e):yN n a e (ps.map (·.1))↔Num.Ord n a e.toNat:=by
 rw [<- Num.rh h he]
 unfold yN
 rw [cw hn]
 constructor
 ·exact fun⟨h1,h2⟩=>⟨h1,λq hq z=>h2 q hq ((cw hn).mpr z)⟩
 ·exact fun⟨h1,h2⟩=>⟨h1,λq hq z=>h2 q hq ((cw hn).mp z)⟩
theorem dH (P:Int->Prop) {g:Int} (h1:1<=g) (h:P g):∃ m,1<=m/\m<=g/\P m/\∀ a,1<=a->a<m->¬P a:=by
 have:∀(k:Nat) (g:Int),g.toNat=k->1<=g->P g->∃ m,1<=m/\m<=g/\P m/\∀ a,1<=a->a<m->¬P a:=by
  intro k
  induction k using Nat.strongRecOn with
  | ind k ih =>
   intro g hk h1 hg
   by_cases c:∃ a,1<=a/\a<g/\P a
   ·obtain⟨a,a1,a2,a3⟩:=c
    obtain⟨m,m1,m2,m3,m4⟩:=ih a.toNat (by omega) a rfl a1 a3
    exact⟨m,m1,by omega,m3,m4⟩
   ·exact⟨g,h1,Int.le_refl _,hg,λa a1 a2 a3=>c ⟨a,a1,a2,a3⟩⟩
 exact this _ g rfl h1 h
theorem xj {p:Int} (hp:Num.Pm p):∃ g,Num.LF p g:=by
 obtain⟨g,g1,g2,g3⟩:=Num.tf hp
 obtain⟨m,m1,m2,m3,m4⟩:=dH (λa=>Num.Ord p a (p-1).toNat) g1 g3
 exact⟨m,m1,by omega,m3,m4⟩
theorem tV {n:Int} {ps:List (Int × Int)} (h:Num.Part n ps) (hn:1<=n):∀ q∈ps.map (·.1),2<=q/\q<=n:=λq hq=>by
 obtain⟨x,hx,rfl⟩:=List.mem_map.mp hq
 obtain⟨o1,o2,_⟩:=h.ok x hx
 have:=Num.cV hx o2
 rw [h.prod] at this
 exact⟨o1.two,Int.le_of_dvd (by omega) this⟩
def dR:Sp:=λvs H Q _=>∃(n a:Int) (e:Int),vs=[.int n,.int a,.int e]/\0<n/\n<=10^100/\0<=e/\Q (.int (a^e.toNat%n)) H
theorem eQ:az ["_law_n","_law_a","_law_e","_law_found","_law_base"] ["_law_n","_law_a","_law_e"] (ai (top 37)):=fM
theorem oW (D:aA K mg "_law_power" (top 37)):Callee P w K mg base a8 1 "_law_power" ["_law_n","_law_a","_law_e"] dR:=by
 refine cO D eQ (λf cdv A outer s H vs Q E hr h=>?_)
 obtain⟨n,a,e,rfl,hn,hn1,he,q⟩:=h
 have nd:=eQ.nd
 refine⟨_,(ae (bw (i:=3) nd (ar aK af (pv 0))) (ae (bw (i:=4) nd (ar aK (pv 1) (pv 0))) (ae (bh PassesOwn.never (av cW (pv 2) af (aw _)) (ae (dj (aZ (av bK (ar aK (pv 2) af) af (aw _)) (aj (bw (i:=3) nd (ar aK (ar aV (pv 3) (pv 4)) (pv 0)))) aF)) (ae (bw (i:=4) nd (ar aK (ar aV (pv 4) (pv 4)) (pv 0))) (aj (bw (i:=2) nd (ar bG (pv 2) af)))))) (aj (aB (pv 3)))))),?_⟩
 show bV _ _ _ [some (.int n),some (.int a),some (.int e),none,none] H
 k_data
 refine⟨hn,hn,?_⟩
 have r0:=λx:Int=>Int.emod_nonneg x (show n≠0 by omega)
 have r1:=λx:Int=>Int.emod_lt_of_pos x hn
 refine bj (α:=Nat × Int × Int) (λx=>[some (.int n),some (.int a),some (.int (x.1:Int)),some (.int x.2.1),some (.int x.2.2)]) (λx H1=>H1=H/\0<=x.2.2/\x.2.2<n/\0<=x.2.1/\x.2.1<n/\x.2.1*x.2.2^x.1%n=a^e.toNat%n) (λx=>x.1) (e.toNat,1%n,a%n) (by rw [show ((e.toNat:Nat):Int)=e by omega]) ⟨rfl,r0 a,r1 a,r0 1,r1 1,?_⟩ ?_
 ·show 1%n*(a%n)^e.toNat%n=_
  rw [Pw.uP,Int.one_mul,Pw.fJ]
 rintro⟨l,r,b⟩ H1 ⟨rfl,h1,h2,h3,h4,h5⟩
 replace h1:0<=b:=h1
 replace h2:b<n:=h2
 replace h3:0<=r:=h3
 replace h4:r<n:=h4
 replace h5:r*b^l%n=a^e.toNat%n:=h5
 k_data
 refine bp (λc=>?_) (λc=>?_)
 ·refine⟨_,λ_ _ z=>z,λσ' H2=>H2=H1/\σ'=[some (.int n),some (.int a),some (.int (l:Int)),some (.int (if l%2=1 then r*b%n else r)),some (.int b)],?_,?_⟩
  ·k_data
   refine bp (λc=>?_) (λc=>?_)
   ·exact⟨Bd.of (by omega) (by omega),Bd.of (by omega) (by omega),hn,by rw [if_pos (by omega)]⟩
   ·rw [if_neg (by omega)]
  rintro σ' H2 ⟨rfl,rfl⟩
  k_data
  have z0:0<=(if l%2=1 then r*b%n else r)/\(if l%2=1 then r*b%n else r)<n:=by
   split
   ·exact⟨r0 _,r1 _⟩
   ·exact⟨h3,h4⟩
  refine⟨Bd.of (by omega) (by omega),Bd.of (by omega) (by omega),hn,pW (by decide),(l/2,(if l%2=1 then r*b%n else r),b*b%n),(by show (l:Int)/2=((l/2:Nat):Int);omega),rfl,rfl,r0 _,r1 _,z0.1,z0.2,?_,?_⟩
  ·show (if l%2=1 then r*b%n else r)*(b*b%n)^(l/2)%n=_
   rw [Pw.step]
   exact h5
  ·show l/2<l
   omega
 ·have l0:l=0:=by omega
  subst l0
  rw [Int.pow_zero,Int.mul_one,Int.emod_eq_of_lt h3 h4] at h5
  rw [h5]
  exact q
def pQ (p:Int × Int):PyData:=.tuple [.int p.1,.int p.2]
def gj (K:PySem.W.Frag):Sp:=λvs H Q _=>∃ n:Int,vs=[.int n]/\1<=n/\n<=10^9/\∀ ps us p H',Num.Part n ps->ps.length<=29->ay H H'->H p=none->H' p=some (.lst us)->aX K H' (ps.map pQ) us->Q (.ref p) H'
theorem ja {n d:Int} (h:Ld.Inv n d) (hk:¬d∣n):Ld.Inv n (d+1+d%2):=by
 have:=h.step hk
 rcases h.odd with z | z
 ·rw [if_pos z] at this
  rwa [show d+1+d%2=d+1 by omega]
 ·rw [if_neg (by omega)] at this
  rwa [show d+1+d%2=d+2 by omega]
theorem dO:az ["_law_n","_law_found","_law_d","_law_many"] ["_law_n"] (ai (top 38)):=fM
theorem mG (D:aA K mg "_law_parted" (top 38)):Callee P w K mg base a8 1 "_law_parted" ["_law_n"] (gj K):=by
 refine cO D dO (λf cdv A outer s H vs Q E hr h=>?_)
 obtain⟨n,rfl,n1,n9,q⟩:=h
 have nd:=dO.nd
 refine⟨_,(ae (bw (i:=1) nd (bo ah)) (ae (bw (i:=2) nd af) (ae (bh PassesOwn.never (av cW (pv 0) af (aw _)) (ae (dj (aZ (av cW (ar aV (pv 2) (pv 2)) (pv 0) (aw _)) (aj (bw (i:=2) nd (pv 0))) aF)) (ae (bw (i:=3) nd af) (ae (bh PassesOwn.never (av bK (ar aK (pv 0) (pv 2)) af (aw _)) (ae (bw (i:=0) nd (ar bG (pv 0) (pv 2))) (aj (bw (i:=3) nd (ar b3 (pv 3) af))))) (ae (dj (aZ (av cW (pv 3) af (aw _)) (aj (gM (nE PySem.F.plainAttrs_list PySem.F.slot_list_append PySem.F.type_list_append dY (pv 1) (aa (cD (aa (pv 2) (aa (pv 3) ah))) ah)))) aF)) (aj (bw (i:=2) nd (ar b3 (ar b3 (pv 2) af) (ar aK (pv 2) af))))))))) (aj (aB (pv 1)))))),?_⟩
 show bV _ _ _ [some (.int n),none,none,none] H
 k_data
 refine⟨by decide,λpp hpp=>?_⟩
 refine bj (α:=Int × Int × Option V) (λx=>[some (.int x.1),some (.ref pp),some (.int x.2.1),x.2.2]) (λx H1=>ay H H1/\∃(ps:List (Int × Int)) (us:List V) (pr:Int),H1 pp=some (.lst us)/\aX K H1 (ps.map pQ) us/\Num.Way n ps x.1 pr/\Ld.Inv x.1 x.2.1/\x.2.1<=10^9+10) (λx=>(10^9+20-x.2.1).toNat+x.1.toNat*10^10) (n,2,none) rfl ⟨ao hpp,[],[],2,ag,rfl,.start (by omega),⟨by show (2:Int)<=2;decide,.inl rfl,λd d0 (d1:d<2)=>by omega⟩,by show (2:Int)<=10^9+10;decide⟩ ?_
 rintro⟨left,d,o⟩ H1 ⟨hs,ps,us,pr,epp,hd,W,I,d9⟩
 replace W:Num.Way n ps left pr:=W
 replace I:Ld.Inv left d:=I
 replace d9:d<=10^9+10:=d9
 have l1:=W.pos
 have d2:=I.two
 have ln:left<=n:=by
  have z:=W.two
  have p0:=Num.bf (show (0:Int)<2 by decide) ps.length
  have:=Int.mul_le_mul_of_nonneg_right (show (1:Int)<=2^ps.length by omega) (show 0<=left by omega)
  omega
 k_data
 refine bp (λc3=>?_) (λc3=>?_)
 ·have dl:d<=left:=by
   rcases (by omega:d<=left∨left<d) with z | z
   ·exact z
   ·exact absurd (Int.dvd_refl left) (I.no left (by omega) z)
  refine⟨_,λ_ _ z=>z,λσ' H2=>H2=H1/\∃ e:Int,σ'=[some (.int left),some (.ref pp),some (.int e),o]/\d<=e/\e<=left/\Ld.Inv left e,?_,?_⟩
  ·k_data
   refine⟨Bd.of (by omega) (by omega),Bd.of (by omega) (by omega),?_⟩
   refine bp (λc4=>?_) (λc4=>?_)
   ·have hL:=I.done (by omega) c4
    refine⟨dl,Int.le_refl _,⟨by omega,?_,hL.no⟩⟩
    rcases (by omega:left=2∨left%2=1∨(left%2=0/\2<left)) with z | z | z
    ·exact .inl z
    ·exact .inr z
    ·exact absurd (Int.dvd_of_emod_eq_zero z.1) (hL.no 2 (by decide) z.2)
   ·exact⟨Int.le_refl _,dl,I⟩
  rintro σ' H2 ⟨rfl,e,rfl,de,el,Ie⟩
  have e2:=Ie.two
  k_data
  refine bj (α:=Int × Nat) (λx=>[some (.int x.1),some (.ref pp),some (.int e),some (.int (x.2:Int))]) (λx H3=>H3=H2/\left=e^x.2*x.1/\1<=x.1/\x.1<=left) (λx=>x.1.toNat) (left,0) rfl ⟨rfl,by rw [Int.pow_zero,Int.one_mul],by omega,Int.le_refl _⟩ ?_
  rintro⟨lf,k⟩ H3 ⟨rfl,f1,f2,f3⟩
  replace f1:left=e^k*lf:=f1
  replace f2:1<=lf:=f2
  replace f3:lf<=left:=f3
  k_data
  refine⟨by omega,?_⟩
  refine bp (λc4=>?_) (λc4=>?_)
  ·obtain⟨y,hy⟩:=Int.dvd_of_emod_eq_zero c4
   have ey:lf/e=y:=by rw [hy];exact Int.mul_ediv_cancel_left _ (by omega)
   have y1:1<=y:=by
    rcases (by omega:y<=0∨1<=y) with z | z
    ·have:=Int.mul_nonpos_of_nonneg_of_nonpos (show 0<=e by omega) z
     omega
    ·exact z
   have yl:y<lf:=by
    rw [hy]
    have:=Int.mul_le_mul_of_nonneg_right e2 (show 0<=y by omega)
    omega
   refine⟨_,λ_ _ z=>z,by omega,Bd.of (by omega) (by omega),(y,k+1),?_,rfl,?_,y1,by show y<=left;omega,by show y.toNat<lf.toNat;omega⟩
   ·rw [ey];rfl
   ·show left=e^(k+1)*y
    rw [f1,hy,Int.pow_succ,Int.mul_assoc]
  ·have ng:¬e∣lf:=λz=>c4 (Int.emod_eq_zero_of_dvd z)
   refine⟨λσ' H4=>ay H H4/\σ'=[some (.int lf),some (.ref pp),some (.int e),some (.int (k:Int))]/\∃(ps:List (Int × Int)) (us:List V) (pr:Int),H4 pp=some (.lst us)/\aX K H4 (ps.map pQ) us/\Num.Way n ps lf pr/\Ld.Inv lf (e+1+e%2)/\(k=0->lf=left)/\(0<k->lf<left),?_,?_⟩
   ·k_data
    refine bp (λc5=>?_) (λc5=>?_)
    ·have k1:1<=k:=by omega
     have hL:Ld.eI left e:=Ie.found (by
      obtain⟨k',rfl⟩:∃ k',k=k'+1:=⟨k-1,by omega⟩
      rw [f1,Int.pow_succ]
      exact Int.dvd_mul_of_dvd_left ⟨e^k',Int.mul_comm _ _⟩)
     have W2:=W.step n9 c3 hL f1 f2 k1 ng
     have len:=W.len n9
     have ul:us.length=ps.length:=by rw [hd.length,List.length_map]
     have lt:lf<left:=by
      obtain⟨k',rfl⟩:∃ k',k=k'+1:=⟨k-1,by omega⟩
      have p0:=Num.bf (show 0<e by omega) k'
      have h1:e<=e^(k'+1):=by
       rw [Int.pow_succ]
       have:=Int.mul_le_mul_of_nonneg_right (show 1<=e^k' by omega) (show 0<=e by omega)
       omega
      have:=Int.mul_le_mul_of_nonneg_right (show 2<=e^(k'+1) by omega) (show 0<=lf by omega)
      omega
     refine⟨.inl ⟨rfl,_,aW.of epp⟩,by show 2<=sizeLine;decide,λpt hpt=>?_⟩
     have s2:=ao (o:=.tup [V.int e,V.int (k:Int)]) hpt
     have npt:pp≠pt:=λz=>by rw [<- z,epp] at hpt;cases hpt
     have el':=s2 _ _ epp
     have et:upd H3 pt (.tup [V.int e,V.int (k:Int)]) pt=some (.tup [V.int e,V.int (k:Int)]):=ag
     have hd2:=aX.same s2 _ hd
     have S2:=hs.trans s2
     generalize upd H3 pt _=H4 at *
     refine⟨pp,us,.ref pt,rfl,rfl,el',Nat.lt_of_le_of_lt (show us.length<=29 by omega) (by decide),S2.upd hpp,ps++[(e,(k:Int))],us++[.ref pt],ag,?_,e,W2,ja W2.inv ng,λz=>absurd z (by omega),λ_=>lt⟩
     rw [List.map_append]
     refine aX.append (aX.but el' (λb o ne h=>by rw [ak ne];exact h) _ (lh (λ_=>rfl) ps) hd2) (.one (dv.tup (xs:=[V.int e,V.int (k:Int)]) ?_ ⟨_,_,rfl,rfl,.one rfl⟩))
     rw [ak (Ne.symm npt)]
     exact et
    ·have k0:k=0:=by omega
     subst k0
     rw [Int.pow_zero,Int.one_mul] at f1
     subst f1
     exact⟨hs,ps,us,epp,hd,pr,W,ja Ie ng,λ_=>rfl,λz=>absurd z (by omega)⟩
   ·rintro σ' H4 ⟨S4,rfl,ps',us',pr',g1,g2,g3,g4,g5,g6⟩
    k_data
    refine⟨(lf,e+1+e%2,some (.int (k:Int))),rfl,rfl,rfl,S4,⟨ps',us',g1,g2,pr',g3,g4,by show e+1+e%2<=10^9+10;omega⟩,?_⟩
    show (10^9+20-(e+1+e%2)).toNat+lf.toNat*10^10<(10^9+20-d).toNat+left.toNat*10^10
    rcases Nat.eq_zero_or_pos k with z | z
    ·have:=g5 z
     omega
    ·have:=g6 z
     omega
 ·have z:left=1:=by omega
  subst z
  exact q ps us pp H1 W.done (W.len n9) hs hpp epp hd
theorem lK {ps:List (Int × Int)} {p:Int × Int} {ds ds':Nat->PyData} (h:∀ j,j<ps.length->ds' j=ds j):Num.rowsOf (ps++[p]) ds'=Num.rowsOf ps ds++[.tuple [ds' ps.length,.int p.2]]:=by
 unfold Num.rowsOf
 rw [List.length_append,List.length_singleton,List.range_succ,List.map_append]
 congr 1
 ·refine List.map_congr_left λj hj=>?_
  have:=List.mem_range.mp hj
  rw [h j this,List.getD_eq_getElem?_getD,List.getD_eq_getElem?_getD,List.getElem?_append_left this]
 ·simp
theorem gW {H:Hp} {q k:Int} {v:V} (h:dv K H (pQ (q,k)) v):∃ p,v=.ref p/\cF K H p [.int q,.int k]:=by
 obtain⟨p,xs,rfl,h1,x,r,rfl,d1,y,r',rfl,d2,h4⟩:=h
 cases h4
 cases d1
 cases d2
 exact⟨p,rfl,h1⟩
theorem tj {x:Int} {zs:List Int} {H:Hp} {p:Addr} {Q:VK} (h:aW K H p (zs.map V.int)) (q:Q (.bl (decide (x∈zs))) H):yT K false (.int x) (.ref p) H Q:=by
 refine⟨p,_,rfl,.inl h,rfl,by simp [dG],?_⟩
 have:x8 (.int x) (zs.map V.int)=decide (x∈zs):=by
  unfold x8
  rw [Bool.eq_iff_iff,List.any_eq_true,decide_eq_true_iff]
  constructor
  ·rintro⟨v,hv,e⟩
   obtain⟨y,hy,rfl⟩:=List.mem_map.mp hv
   have:y=x:=by simpa [qw] using e
   rw [<- this];exact hy
  ·intro hx
   exact⟨.int x,List.mem_map.mpr ⟨x,hx,rfl⟩,by simp [qw]⟩
 rw [if_neg (by decide),this]
 exact q
theorem qB {n x:Int} {ps:List (Int × Int)} (hp:Num.Pm n) (hP:Num.Part (n-1) ps) (x1:1<=x) (x2:x<n):(1∉ps.map λp=>x^((n-1)/p.1).toNat%n)↔Num.Ord n x (n-1).toNat:=by
 have n2:=hp.two
 rw [<- tL n2 hP (by omega)]
 have f:=(cw n2).mpr (Num.gY hp (a:=x) λz=>by have:=Int.le_of_dvd (by omega) z;omega)
 constructor
 ·intro h
  refine⟨f,λq hq z=>?_⟩
  obtain⟨p,hp',rfl⟩:=List.mem_map.mp hq
  exact h (List.mem_map.mpr ⟨p,hp',z⟩)
 ·rintro⟨_,h⟩ z
  obtain⟨p,hp',e⟩:=List.mem_map.mp z
  exact h p.1 (List.mem_map.mpr ⟨p,hp',rfl⟩) e
def dQ (K:PySem.W.Frag) (L:Nat):Sp:=λvs H Q _=>∃ n:Int,vs=[.int n]/\Num.Pm n/\n<=10^9/\Num.Ht L n/\∀ d v H',Num.gG n d->ay H H'->dv K H' d v->Q v H'
theorem cU:az ["_law_p","_law_some","_law_full"] ["_law_p"] (ai (top 39)):=fM
theorem mF {L:Nat} (D:aA K mg "_law_paper" (top 39)) (c__law_parted:Callee P w K mg base a8 1 "_law_parted" ["_law_n"] (gj K)) (c__law_power:Callee P w K mg base a8 1 "_law_power" ["_law_n","_law_a","_law_e"] dR) (c__law_paper:Callee P w K mg base a8 (L+2) "_law_paper" ["_law_p"] (dQ K L)) (n_tuple:mg "tuple"=none):Callee P w K mg base a8 (L+3) "_law_paper" ["_law_p"] (dQ K (L+1)):=by
 refine cO D cU (λf cdv A outer s H vs Q E hr h=>?_)
 obtain⟨n,rfl,hp,hn,hH,q⟩:=h
 have n2:=hp.two
 obtain⟨g,G⟩:=xj hp
 have g1:=G.one
 have g2:=G.lt
 have nd:=cU.nd
 refine⟨_,(ae (bw (i:=1) nd (bS c__law_parted (hr.mono (by omega)) rfl aH (aa (ar cS (pv 0) af) ah))) (ae (j7 (i:=2) nd rfl (Or.inr rfl) af) (ae (bh PassesOwn.never (av jt af (iz rfl (sk (N':=["_law_q","_law_many","_law_p","_law_full"]) (js:=[none,none,some 0,some 2]) rfl rfl) (cn (pv 1)) (λ_ _ _ _=>(dZ K rfl (n:=2) rfl (aI (aC (i:=0) (show List.Nodup [("_law_q":Str),("_law_many":Str),("_law_p":Str),("_law_full":Str)] from by decide +kernel) rfl (Or.inl rfl) (.inr rfl)) (aI (aC (i:=1) (show List.Nodup [("_law_q":Str),("_law_many":Str),("_law_p":Str),("_law_full":Str)] from by decide +kernel) rfl (Or.inl rfl) (.inr rfl)) b6)))) (λ_ _ _ _=>cj) (λ_ _ _ _=>(bS c__law_power (hr.mono (by omega)) rfl aH (aa (pv 2) (aa (pv 3) (aa (ar bG (ar cS (pv 2) af) (pv 0)) ah)))))) (by with_unfolding_all rfl)) (aj (j7 (i:=2) nd rfl (Or.inr rfl) (ar b3 (pv 2) af)))) (aj (aB (cD (aa (pv 0) (aa (pv 2) (aa (cq eJ rfl n_tuple L2.boot_tuple (aa (iz rfl (sk (N':=["_law_q","_law_many"]) (js:=[none,none]) rfl rfl) (cn (pv 1)) (λ_ _ _ _=>(dZ K rfl (n:=2) rfl (aI (aC (i:=0) (show List.Nodup [("_law_q":Str),("_law_many":Str)] from by decide +kernel) rfl (Or.inl rfl) (.inr rfl)) (aI (aC (i:=1) (show List.Nodup [("_law_q":Str),("_law_many":Str)] from by decide +kernel) rfl (Or.inl rfl) (.inr rfl)) b6)))) (λ_ _ _ _=>cj) (λ_ _ _ _=>(cD (aa (bS c__law_paper (hr.mono (by omega)) rfl aH (aa (pv 0) ah)) (aa (pv 1) ah))))) ah)) ah))))))))),?_⟩
 show bV _ _ _ [some (.int n),none,none] H
 k_data
 refine⟨n-1,rfl,by omega,by omega,λps us p H1 hP hl s1 f1 h1 hd=>?_⟩
 have ul:us.length=ps.length:=by rw [hd.length,List.length_map]
 refine bj (α:=Int) (λx=>[some (.int n),some (.ref p),some (.int x)]) (λx H2=>ay H1 H2/\1<=x/\x<=g) (λx=>(g-x).toNat) 1 rfl ⟨ay.refl _,Int.le_refl _,g1⟩ ?_
 rintro x H2 ⟨s2,x1,x2⟩
 replace x1:1<=x:=x1
 replace x2:x<=g:=x2
 k_data
 refine⟨⟨_,aW.of (s2 _ _ h1)⟩,?_⟩
 have at_:∀{i:Nat} {v:V},us[i]?=some v->∃ q' k',ps[i]?=some (q',k')/\(Num.Pm q'/\1<=k')/\q'∣n-1/\q'<=n-1/\∃ pt,v=.ref pt/\cF K H1 pt [.int q',.int k']:=by
  intro i v hx
  obtain⟨d,hd',hv⟩:=hd.get hx
  rw [List.getElem?_map] at hd'
  obtain⟨⟨q',k'⟩,hy,rfl⟩:=Option.map_eq_some_iff.mp hd'
  have hok:=hP.ok _ (List.mem_of_getElem? hy)
  have hdv:q'∣n-1:=by
   have:=Num.cV (List.mem_of_getElem? hy) hok.2.1
   rwa [hP.prod] at this
  exact⟨q',k',hy,⟨hok.1,hok.2.1⟩,hdv,Int.le_of_dvd (by omega) hdv,gW hv⟩
 refine bX (xs:=us) (λi zs H3=>H3=H2/\zs=((ps.take i).map λy=>x^((n-1)/y.1).toNat%n).map V.int) ⟨rfl,rfl⟩ (by rw [ul];exact Nat.le_trans hl (by decide)) (λi zs H3 hi ⟨z1,z2⟩=>⟨by rw [z1];exact aW.of (s2 _ _ h1),by rw [z2,List.length_map,List.length_map,List.length_take];omega⟩) ?_ ?_
 ·rintro i v zs H3 hx ⟨rfl,rfl⟩
  obtain⟨q',k',hy,hok,hdv,ql,pt,rfl,tt⟩:=at_ hx
  have q2:=hok.1.two
  show mf K 2 _ _ [none,none,some (.int n),some (.int x)] _ _
  refine⟨pt,_,rfl,tt.same s2,rfl,?_⟩
  k_data
  refine⟨⟨rfl,rfl,True.intro⟩,by omega,Bd.of (by omega) (by omega),n,x,(n-1)/q',rfl,by omega,by omega,Int.ediv_nonneg (by omega) (by omega),rfl,?_⟩
  rw [List.take_add_one,hy,List.map_append,List.map_append]
  rfl
 ·rintro zs H3 p3 ⟨rfl,rfl⟩ hp3
  rw [ul,List.take_length]
  have s3:=ao (o:=.lst ((ps.map λy=>x^((n-1)/y.1).toNat%n).map V.int)) hp3
  refine tj (aW.of ag) ⟨_,rfl,?_⟩
  have S3:=s2.trans s3
  generalize upd H3 p3 _=H4 at *
  have hf:=qB hp hP x1 (by omega)
  refine bp (λc=>?_) (λc=>?_)
  ·have hin:=of_decide_eq_true c
   have ne:x≠g:=λz=>(hf.mpr (z▸G.ord)) hin
   exact⟨_,λ_ _ z=>z,x+1,rfl,S3,by omega,by omega,by omega⟩
  ·have o:=hf.mp λz=>c (decide_eq_true z)
   have xg:x=g:=by
    rcases (by omega:x=g∨x<g) with z | z
    ·exact z
    ·exact absurd o (G.no x x1 z)
   subst xg
   refine⟨⟨_,aW.of (S3 _ _ h1)⟩,?_⟩
   refine bX (xs:=us) (λi zs H5=>ay H4 H5/\∃ ds,(∀ j q k,(ps.take i)[j]?=some (q,k)->Num.gG q (ds j))/\aX K H5 (Num.rowsOf (ps.take i) ds) zs) ⟨ay.refl _,λ_=>.none,λj q k z=>by simp at z,rfl⟩ (by rw [ul];exact Nat.le_trans hl (by decide)) (λi zs H5 hi ⟨e1,ds,e2,e3⟩=>⟨aW.of (e1 _ _ (S3 _ _ h1)),by rw [e3.length,Num.bC,List.length_take];omega⟩) ?_ ?_
   ·rintro i v zs H5 hx ⟨s5,ds,hds,hz⟩
    obtain⟨q',k',hy,hok,hdv,ql,pt,rfl,tt⟩:=at_ hx
    show mf K 2 _ _ [none,none] _ _
    refine⟨pt,_,rfl,tt.same (S3.trans s5),rfl,?_⟩
    k_data
    refine⟨True.intro,q',rfl,hok.1,by omega,hH q' hok.1 hdv,λd v H6 hp6 s6 hv6=>⟨by show 2<=sizeLine;decide,λp7 hp7=>?_⟩⟩
    have s7:=ao (o:=.tup [v,V.int k']) hp7
    have tk:ps.take (i+1)=ps.take i++[(q',k')]:=by rw [List.take_add_one,hy];rfl
    have il:i<ps.length:=(List.getElem?_eq_some_iff.mp hy).1
    have tl:(ps.take i).length=i:=by rw [List.length_take];omega
    refine⟨(s5.trans s6).trans s7,λj=>if j=i then d else ds j,λj q k hj=>?_,?_⟩
    ·rw [tk] at hj
     rcases (by omega:j<i∨j=i∨i<j) with z | z | z
     ·rw [List.getElem?_append_left (by omega)] at hj
      show Num.gG q (if j=i then d else ds j)
      rw [if_neg (by omega)]
      exact hds j q k hj
     ·subst z
      rw [List.getElem?_append_right (by omega),tl,Nat.sub_self] at hj
      show Num.gG q (if j=j then d else ds j)
      rw [if_pos rfl]
      cases hj
      exact hp6
     ·rw [List.getElem?_eq_none (by simp;omega)] at hj
      cases hj
    ·rw [tk,lK (ds:=ds) (λj hj=>if_neg (by omega)),tl,if_pos rfl]
     exact aX.append (aX.same (s6.trans s7) _ hz) (.one (dv.tup ag ⟨_,_,rfl,dv.same s7 _ hv6,.one rfl⟩))
   ·rintro zs H5 p5 ⟨s5,ds,hds,hz⟩ hp5
    rw [ul,List.take_length] at hds hz
    have s6:=ao (o:=.lst zs) hp5
    refine⟨p5,rfl,zs,.inl ⟨aW.of ag,λl hl'=>⟨by show 3<=sizeLine;decide,λp8 hp8=>?_⟩⟩⟩
    generalize upd H5 p5 _=H6 at *
    have s7:=ao (o:=.tup zs) hl'
    have e7:upd H6 l (.tup zs) l=some (.tup zs):=ag
    generalize upd H6 l _=H7 at *
    have s8:=ao (o:=.tup [V.int n,V.int x,V.ref l]) hp8
    refine q _ _ _ (.mk n x ps ds hp hn G hP hl hds) (((((s1.trans S3).trans s5).trans s6).trans s7).trans s8) (dv.tup ag ⟨_,_,rfl,rfl,_,_,rfl,rfl,.one (dv.tup (s8 _ _ e7) (aX.same ((s6.trans s7).trans s8) _ hz))⟩)
theorem mE (D:aA K mg "_law_paper" (top 39)):Callee P w K mg base a8 2 "_law_paper" ["_law_p"] (dQ K 0):=by
 refine cO D cU (λf cdv A outer s H vs Q E hr h=>?_)
 obtain⟨n,rfl,hp,hn,hH,q⟩:=h
 exact hH.elim
theorem iq (D:aA K mg "_law_paper" (top 39)) (c__law_parted:Callee P w K mg base a8 1 "_law_parted" ["_law_n"] (gj K)) (c__law_power:Callee P w K mg base a8 1 "_law_power" ["_law_n","_law_a","_law_e"] dR) (n_tuple:mg "tuple"=none):∀ L:Nat,Callee P w K mg base a8 (L+2) "_law_paper" ["_law_p"] (dQ K L)
 | 0=>mE D
 | L+1=>(mF D c__law_parted c__law_power (iq D c__law_parted c__law_power n_tuple L) n_tuple).mono (by omega)
def jC (K:PySem.W.Frag):Sp:=λvs H Q _=>∃ n:Int,vs=[.int n]/\Num.Pm n/\n<=10^9/\∀ d v H',Num.gG n d->ay H H'->dv K H' d v->Q v H'
theorem tJ (h:Callee P w K mg base a8 (30+2) "_law_paper" ["_law_p"] (dQ K 30)):Callee P w K mg base a8 32 "_law_paper" ["_law_p"] (jC K) :=
 Callee.imp h λvs H Q E z=>by
  obtain⟨n,h1,h2,h3,q⟩:=z
  exact⟨n,h1,h2,h3,Num.vE h2 h3,q⟩
theorem j4 {n:Int} {d:PyData} (h:Num.gG n d):∃ g ps ds,d=.tuple [.int n,.int g,.tuple (Num.rowsOf ps ds)]/\Num.LF n g/\Num.Part (n-1) ps/\ps.length<=29/\∀ i q k,ps[i]?=some (q,k)->Num.gG q (ds i):=by
 cases h with
 | mk _ g ps ds h1 h2 h3 h4 h5 h6=>exact⟨g,ps,ds,rfl,h3,h4,h5,h6⟩
theorem ju {n:Int} {d:PyData} (h:Num.gG n d):Num.Pm n/\n<=10^9:=by
 cases h with
 | mk _ _ _ _ a b=>exact⟨a,b⟩
theorem vC {H:Hp} {d1 d2 d3:PyData} {v:V} (h:dv K H (.tuple [d1,d2,d3]) v):∃ p x1 x2 x3,v=.ref p/\cF K H p [x1,x2,x3]/\dv K H d1 x1/\dv K H d2 x2/\dv K H d3 x3:=by
 obtain⟨p,xs,rfl,h1,x1,r1,rfl,e1,x2,r2,rfl,e2,x3,r3,rfl,e3,z⟩:=h
 cases z
 exact⟨p,x1,x2,x3,rfl,h1,e1,e2,e3⟩
theorem uR {n d:Int} (hn:1<n) (d2:2<=d) (no:∀ k,2<=k->k<d->¬k∣n) (h:n<d*d):Num.Pm n:=⟨by omega,λe e2 en hd=>by
 rcases (by omega:e<d∨d<=e) with z | z
 ·exact no e e2 z hd
 ·obtain⟨c,hc⟩:=hd
  have c2:2<=c:=by
   rcases (by omega:c<=0∨c=1∨2<=c) with y | y | y
   ·have:=Int.mul_nonpos_of_nonneg_of_nonpos (show 0<=e by omega) y
    omega
   ·rw [y] at hc
    omega
   ·exact y
  have cd:c<d:=by
   rcases (by omega:c<d∨d<=c) with y | y
   ·exact y
   ·have:=Int.mul_le_mul z y (by omega) (by omega)
    omega
  exact no c c2 cd ⟨e,by rw [hc,Int.mul_comm]⟩⟩
def yu (n:Nat):Bool:=(List.range 126).all λi=>(List.range 126).all λj=>!decide (n%(2*(126*i+j)+3)=0)
theorem ro:Num.Pm 999999937:=by
 have h:yu 999999937=true:=by decide +kernel
 refine uR (d:=31625) (by decide) (by decide) (λk k2 kd hd=>?_) (by decide)
 obtain⟨c,hc⟩:=hd
 rcases (by omega:k%2=0∨k%2=1) with z | z
 ·have e:k=2*(k/2):=by omega
  rw [e,Int.mul_assoc] at hc
  omega
 ·have hk:((k.toNat-3)/2/126)<126:=by omega
  have h1:=List.all_eq_true.mp h ((k.toNat-3)/2/126) (List.mem_range.mpr hk)
  have h2:=List.all_eq_true.mp h1 ((k.toNat-3)/2%126) (List.mem_range.mpr (Nat.mod_lt _ (by decide)))
  have e:2*(126*((k.toNat-3)/2/126)+(k.toNat-3)/2%126)+3=k.toNat:=by omega
  rw [e] at h2
  have hd:k.toNat∣999999937:=by
   have:((k.toNat:Nat):Int)∣((999999937:Nat):Int):=⟨c,by rw [show ((k.toNat:Nat):Int)=k by omega];exact hc⟩
   exact Int.natCast_dvd_natCast.mp this
  rw [Nat.mod_eq_zero_of_dvd hd] at h2
  simp at h2
def jB:Sp:=λvs H Q _=>∃ n:Int,vs=[.int n]/\0<=n/\n<=10^60/\∀ b:Bool,(b=true↔Num.Pm n)->Q (.bl b) H
theorem cZ:az ["_law_n","_law_d"] ["_law_n"] (ai (top 40)):=fM
theorem oX (D:aA K mg "_law_is_prime" (top 40)):Callee P w K mg base a8 1 "_law_is_prime" ["_law_n"] jB:=by
 refine cO D cZ (λf cdv A outer s H vs Q E hr h=>?_)
 obtain⟨n,rfl,n0,hn,q⟩:=h
 have nd:=cZ.nd
 refine⟨_,(ae (aZ (av bK (ar aK (pv 0) af) af (aw _)) (aj (aB (bN bK (pv 0) af (aw _)))) aF) (ae (bw (i:=1) nd af) (ae (bh PassesOwn.never (av xt (ar aV (pv 1) (pv 1)) (pv 0) (aw _)) (ae (aZ (av bK (ar aK (pv 0) (pv 1)) af (aw _)) (aj (aB cM)) aF) (aj (bw (i:=1) nd (ar b3 (pv 1) af))))) (aj (aB (bN cW (pv 0) af (aw _))))))),?_⟩
 show bV _ _ _ [some (.int n),none] H
 k_data
 refine bp (λc=>?_) (λc=>?_)
 ·refine q _ ?_
  rw [decide_eq_true_iff]
  constructor
  ·intro z
   rw [z]
   exact⟨by decide,λd d2 dn=>by omega⟩
  ·intro z
   have n2:=z.two
   rcases (by omega:n=2∨2<n) with y | y
   ·exact y
   ·exact absurd (Int.dvd_of_emod_eq_zero c) (z.no 2 (by decide) y)
 refine bj (α:=Int) (λx=>[some (.int n),some (.int x)]) (λx H1=>H1=H/\3<=x/\x<=10^60+3/\x%2=1/\∀ k,2<=k->k<x->¬k∣n) (λx=>(n+3-x).toNat) 3 rfl ⟨rfl,by decide,by omega,by decide,λk k1 (k2:k<3) hk=>?_⟩ ?_
 ·have:k=2:=by omega
  rw [this] at hk
  omega
 rintro x H1 ⟨rfl,x2,x3,xo,no⟩
 replace x2:3<=x:=x2
 replace x3:x<=10^60+3:=x3
 replace xo:x%2=1:=xo
 replace no:∀ k,2<=k->k<x->¬k∣n:=no
 k_data
 refine⟨Bd.of (by omega) (by omega),Bd.of (by omega) (by omega),?_⟩
 refine bp (λc3=>?_) (λc3=>?_)
 ·have xn:x<n:=by
   have:=Int.mul_le_mul_of_nonneg_left x2 (show 0<=x by omega)
   omega
  refine⟨_,λ_ _ z=>z,by omega,?_⟩
  refine bp (λc2=>?_) (λc2=>?_)
  ·exact q false ⟨λz=>(by cases z),λz=>absurd (Int.dvd_of_emod_eq_zero c2) (z.no x (by omega) xn)⟩
  ·refine⟨x+2,rfl,rfl,by omega,by omega,by omega,λk k1 k2 hk=>?_,by omega⟩
   rcases (by omega:k<x∨k=x∨k=x+1) with z | z | z
   ·exact no k k1 z hk
   ·rw [z] at hk
    exact c2 (Int.emod_eq_zero_of_dvd hk)
   ·refine no 2 (by decide) (by omega) (Int.dvd_trans ⟨(x+1)/2,?_⟩ hk)
    omega
 ·refine q _ ⟨λz=>?_,λz=>?_⟩
  ·exact uR (of_decide_eq_true z) (by omega) no (by omega)
  ·exact decide_eq_true (show 1<n by have:=z.two;omega)
def lO:Sp:=λvs H Q _=>∃(p:Addr) (l:Int) (b:Bool),vs=[.ref p]/\H p=some (pG l b)/\tP l b/\∀ n H',Num.Pm n->n<=999999937->Us p b H H'->Q (.int n) H'
theorem eR:az ["_law_state_here","_law_way","_law_n"] ["_law_state_here"] (ai (top 41)):=fM
theorem qW (D:aA K mg "_law_prime" (top 41)) (c__law_take:Callee P w K mg base a8 1 "_law_take" ["_law_state_here","_law_many"] kq) (c__law_is_prime:Callee P w K mg base a8 1 "_law_is_prime" ["_law_n"] jB) (n_int:mg "int"=none):Callee P w K mg base a8 2 "_law_prime" ["_law_state_here"] lO:=by
 refine cO D eR (λf cdv A outer s H vs Q E hr h=>?_)
 obtain⟨p,l,b,rfl,hp,hl,q⟩:=h
 have nd:=eR.nd
 refine⟨_,(ae (bw (i:=1) nd (cm c__law_take hr aH (aa (pv 0) (aa af ah)))) (ae (bw (i:=2) nd (ar b3 af (cm c__law_take hr aH (aa (pv 0) (aa (aG aO (bo (aa af (aa af (aa af ah)))) (ar b3 (cq i6 rfl n_int L2.boot_int (aa (bN cW (pv 1) af (aw _)) ah)) (cq i6 rfl n_int L2.boot_int (aa (bN bK (pv 1) af (aw _)) ah))) (λ_ _=>rfl)) ah))))) (ae (bh PassesOwn.never (b4 (a4 (cm c__law_is_prime hr aH (aa (pv 2) ah)) (λ_=>rfl))) (aj (bw (i:=2) nd (ar b3 (pv 2) af)))) (aj (aB (pv 2)))))),?_⟩
 show bV _ _ _ [some (.ref p),none,none] H
 k_data
 refine⟨p,16,l,b,rfl,hp,hl,by decide,by decide,λr H1 r0 r1 u1=>?_⟩
 k_data
 refine⟨by show 3<=sizeLine;decide,λp4 hp4=>?_⟩
 have hix:0<=(if 7<r then (1:Int) else 0)+(if r=15 then 1 else 0)/\(if 7<r then (1:Int) else 0)+(if r=15 then 1 else 0)<3:=by
  split<;>split<;>omega
 refine fG (aW.of ag) hix.1 (by show _<(3:Int);exact hix.2) λv hv=>?_
 obtain⟨m,rfl,m0,m1⟩:∃ m,v=.int m/\0<m/\m<=999999936:=by
  simp only [List.mem_cons,List.not_mem_nil,or_false] at hv
  rcases hv with rfl | rfl | rfl<;>exact⟨_,rfl,by omega,by omega⟩
 have u2:=u1.us.lay (o:=.lst [V.int 999,V.int 99998,V.int 999999936]) hp4
 generalize upd H1 p4 _=H2 at *
 obtain⟨l2,k2,e2⟩:=u2.1
 refine⟨p,m,l2,b,rfl,e2,k2,m0,by omega,λr' H3 r0' r1' u3=>⟨r',rfl,?_⟩⟩
 refine bj (α:=Int) (λx=>[some (.ref p),some (.int r),some (.int x)]) (λx H4=>Us p b H H4/\2<=x/\x<=999999937) (λx=>(999999937-x).toNat) (2+r') rfl ⟨u2.trans u3.us,by omega,by omega⟩ ?_
 rintro n H4 ⟨u4,n2,n3⟩
 replace n2:2<=n:=n2
 replace n3:n<=999999937:=n3
 k_data
 refine⟨n,rfl,by omega,by omega,λb' hb=>⟨b',ba.mpr rfl,?_⟩⟩
 cases b'
 ·have:n≠999999937:=λz=>by have:=hb.mpr (z▸ro);cases this
  exact⟨_,λ_ _ z=>z,n+1,rfl,u4,by omega,by omega,by omega⟩
 ·exact q n H4 (hb.mp rfl) n3 u4
def zo (row:PyData) (y:Int × Int):Prop:=∃ ds,row=.tuple [.tuple (.int y.1::ds),.int y.2]
def sq (rows:List PyData) (ps:List (Int × Int)):Prop:=rows.length=ps.length/\∀(i:Nat) (row:PyData),rows[i]?=some row->∃ y,ps[i]?=some y/\zo row y
def nQ (K:PySem.W.Frag):Sp:=λvs H Q _=>∃(v:V) (rows:List PyData) (ps:List (Int × Int)),vs=[v]/\dv K H (.tuple rows) v/\sq rows ps/\rows.length<=10^6/\∀ p us H',ay H H'->H p=none->H' p=some (.lst us)->aX K H' (ps.map pQ) us->Q (.ref p) H'
theorem jS {H:Hp} {rows:List PyData} {ps:List (Int × Int)} {xs:List V} (hd:aX K H rows xs) (h:sq rows ps) {i:Nat} {x:V} (hx:xs[i]?=some x):∃ q k pt pq r,ps[i]?=some (q,k)/\x=.ref pt/\cF K H pt [.ref pq,.int k]/\cF K H pq (.int q::r):=by
 obtain⟨d,hd',hv⟩:=hd.get hx
 obtain⟨⟨q,k⟩,hy,ds,rfl⟩:=h.2 i d hd'
 obtain⟨pt,ys,rfl,h1,x1,r1,rfl,e1,x2,r2,rfl,e2,z⟩:=hv
 cases z
 obtain⟨pq,zs,rfl,h2,y1,r3,rfl,f1,f2⟩:=e1
 cases f1
 cases e2
 exact⟨q,k,pt,pq,r3,hy,rfl,h1,h2⟩
theorem b8:az ["parts"] ["parts"] (ai (top 19)):=fM
theorem qU (D:aA K mg "parting_in" (top 19)):Callee P w K mg base a8 1 "parting_in" ["parts"] (nQ K):=by
 refine cO D b8 (λf cdv A outer s H vs Q E hr h=>?_)
 obtain⟨v,rows,ps,rfl,hd,hh,h6,q⟩:=h
 have nd:=b8.nd
 refine⟨_,(aj (aB (iz rfl (sk (N':=["row"]) (js:=[none]) rfl rfl) (mK (pv 0)) (λ_ _ _ _=>(aC (i:=0) (show List.Nodup [("row":Str)] from by decide +kernel) rfl (Or.inl rfl) (.inr rfl))) (λ_ _ _ _=>cj) (λ_ _ _ _=>(cD (aa (aG (cG K rfl) (aG (cG K rfl) (pv 0) af (λ_ _=>rfl)) af (λ_ _=>rfl)) (aa (aG (cG K rfl) (pv 0) af (λ_ _=>rfl)) ah))))))),?_⟩
 show pJ _ _ [some v] H
 obtain⟨p,xs,rfl,hS,ht⟩:=hd
 have xl:=ht.length
 have rl:=hh.1
 k_data
 refine⟨⟨_,hS⟩,?_⟩
 refine ou (xs:=xs) (λi zs H3=>ay H H3/\aX K H3 ((ps.take i).map pQ) zs) ⟨ay.refl _,rfl⟩ (Nat.le_trans (by omega) (show 10^6<=sizeLine by decide)) (λi zs H3 hi ⟨e1,e2⟩=>⟨hS.same e1,by rw [e2.length,List.length_map,List.length_take];omega⟩) ?_ ?_
 ·rintro i x zs H3 hx ⟨s3,hz⟩
  obtain⟨q',k',pt,pq,r,hy,rfl,t1,t2⟩:=jS ht hh hx
  show fC 0 _ [none] _ _
  k_data
  refine⟨True.intro,bY (t1.same s3) pO (bY (t2.same s3) pO (bY (t1.same s3) rfl ⟨by show 2<=sizeLine;decide,λp4 hp4=>?_⟩))⟩
  have s4:=ao (o:=.tup [V.int q',V.int k']) hp4
  refine⟨s3.trans s4,?_⟩
  rw [List.take_add_one,hy,List.map_append]
  exact aX.append (aX.same s4 _ hz) (.one (dv.tup ag ⟨_,_,rfl,rfl,.one rfl⟩))
 ·rintro zs H3 p3 ⟨s3,hz⟩ hp3
  rw [show xs.length=ps.length by omega,List.take_length] at hz
  exact q p3 zs _ (s3.trans (ao hp3)) (s3.free hp3) ag (aX.same (ao hp3) _ hz)
def rN:Sp:=λvs H Q _=>∃ n q:Int,vs=[.int n,.int q]/\0<=n/\n<=10^50/\2<=q/\q<=10^50/\∀ t:Nat,n<=q^(t+1)->Q (.int t) H
theorem eV:az ["n","prime","times","product"] ["n","prime"] (ai (top 24)):=fM
theorem tR (D:aA K mg "most_times" (top 24)):Callee P w K mg base a8 1 "most_times" ["n","prime"] rN:=by
 refine cO D eV (λf cdv A outer s H vs Q E hr h=>?_)
 obtain⟨n,q',rfl,n0,n9,q2,q9,q⟩:=h
 have nd:=eV.nd
 refine⟨_,(ae (bw (i:=2) nd af) (ae (bw (i:=3) nd (pv 1)) (ae (bh PassesOwn.never (av gy (pv 3) (pv 0) (aw _)) (ae (iG (i:=3) nd rfl (Or.inl rfl) (pv 1) (k4 kZ)) (aj (iG (i:=2) nd rfl (Or.inl rfl) af (k4 nt))))) (aj (aB (pv 2)))))),?_⟩
 show bV _ _ _ [some (.int n),some (.int q'),none,none] H
 k_data
 refine bj (α:=Nat) (λt=>[some (.int n),some (.int q'),some (.int (t:Int)),some (.int (q'^(t+1)))]) (λt H1=>H1=H/\(t=0∨q'^t<n)) (λt=>(n-q'^(t+1)).toNat) 0 (by rw [Int.pow_succ,Int.pow_zero,Int.one_mul];rfl) ⟨rfl,.inl rfl⟩ ?_
 rintro t H1 ⟨rfl,ht⟩
 replace ht:t=0∨q'^t<n:=ht
 have p0:0<q'^(t+1):=Num.bf (by omega) _
 k_data
 refine bp (λc=>?_) (λc=>?_)
 ·have up:q'^(t+1)*2<=q'^(t+1)*q':=Int.mul_le_mul_of_nonneg_left q2 (by omega)
  refine⟨_,λ_ _ z=>z,Bd.of (by omega) (by omega),Bd.of (by omega) (by omega),t+1,?_,rfl,.inr c,?_⟩
  ·rw [Int.pow_succ q' (t+1)];rfl
  ·show (n-q'^(t+1+1)).toNat<(n-q'^(t+1)).toNat
   rw [Int.pow_succ q' (t+1)]
   omega
 ·exact q t (by omega)
def fU (K:PySem.W.Frag):Sp:=λvs H Q _=>∃(n a:Int) (p:Addr) (us:List V) (ps:List (Int × Int)),vs=[.int n,.int a,.ref p]/\0<n/\n<=10^60/\0<=a/\a<n/\H p=some (.lst us)/\aX K H (ps.map pQ) us/\(∀ y∈ps,2<=y.1/\0<=y.2/\y.2<=10^6)/\∀ H',ay H H'->Q (.int (a^Num.eN ps%n)) H'
theorem gK (ps:List (Int × Int)) (q k:Int):Num.eN (ps++[(q,k)])=Num.eN ps*q.toNat^k.toNat:=by
 rw [Num.bO]
 show Num.eN ps*(q.toNat^k.toNat*1)=_
 rw [Nat.mul_one]
theorem qu:∀{ps:List (Int × Int)},(∀ y∈ps,2<=y.1)->Num.eN ps≠0
 | [],_=>by decide
 | p::r,h=>by
  have:=h p (List.mem_cons_self ..)
  exact Nat.mul_ne_zero (Nat.ne_of_gt (Nat.pow_pos (by omega))) (qu λy z=>h y (List.mem_cons_of_mem _ z))
theorem pow_step {n a q:Int} {M j:Nat} (n0:0<n):(a^(M*q.toNat^j)%n)^q.toNat%n=a^(M*q.toNat^(j+1))%n:=by
 rw [Num.Al.iff.mp ((Num.Al.rest n (a^(M*q.toNat^j))).pow q.toNat),Num.b7,Nat.pow_succ,Nat.mul_assoc]
theorem jy:az ["n","a","parting","rest","prime","many","turn"] ["n","a","parting"] (ai (top 25)):=fM
theorem oZ {C:Addr} (D:aA K mg "raised" (top 25)) (c_power:Callee P w K mg base (ft P w) 4 "power" ["n","a","e"] (gO C)) (n_range:mg "range"=none):Callee P w K mg base a8 5 "raised" ["n","a","parting"] (fU K):=by
 refine cO D jy (λf cdv A outer s H vs Q E hr h=>?_)
 obtain⟨n,a,p,us,ps,rfl,n0,n9,a0,a1,hp,hd,hok,q⟩:=h
 have nd:=jy.nd
 refine⟨_,(ae (bw (i:=3) nd (pv 1)) (ae (cT PassesOwn.never rfl (cn (pv 2)) (iD (n:=2) rfl (aI (aC (i:=4) nd rfl (Or.inl rfl) (.inr rfl)) (aI (aC (i:=5) nd rfl (Or.inl rfl) (.inr rfl)) b6))) (aj (cT PassesOwn.never rfl (cu rfl n_range (aa (pv 5) ah)) (aC (i:=6) nd rfl (Or.inl rfl) (.inr rfl)) (aj (bw (i:=3) nd (cm c_power hr fj (aa (pv 0) (aa (pv 3) (aa (pv 4) ah))))))))) (aj (aB (pv 3))))),?_⟩
 show bV _ _ _ [some (.int n),some (.int a),some (.ref p),none,none,none,none] H
 have ul:us.length=ps.length:=by rw [hd.length,List.length_map]
 k_data
 refine⟨⟨_,aW.of hp⟩,?_⟩
 refine gi (xs:=us) (λi σ' H'=>ay H H'/\∃ o4 o5 o6,σ'=[some (.int n),some (.int a),some (.ref p),some (.int (a^Num.eN (ps.take i)%n)),o4,o5,o6]) ⟨ay.refl _,none,none,none,?_⟩ (λi σ' H' _ h=>aW.of (h.1 _ _ hp)) ?_ ?_
 ·show _=[_,_,_,some (V.int (a^1%n)),none,none,none]
  rw [Int.pow_one,Int.emod_eq_of_lt a0 a1]
 ·rintro i x σ' H' hx ⟨s',o4,o5,o6,rfl⟩
  obtain⟨d,hd',hv⟩:=hd.get hx
  rw [List.getElem?_map] at hd'
  obtain⟨⟨q',k'⟩,hy,rfl⟩:=Option.map_eq_some_iff.mp hd'
  obtain⟨q2,k0,k6⟩:=hok _ (List.mem_of_getElem? hy)
  replace q2:2<=q':=q2
  replace k0:0<=k':=k0
  replace k6:k'<=10^6:=k6
  obtain⟨pt,rfl,tt⟩:=gW hv
  refine⟨pt,_,rfl,tt.same s',rfl,?_⟩
  k_data
  refine⟨by omega,by omega,?_⟩
  refine cz (λj σ2 H2=>ay H H2/\∃ o6,σ2=[some (.int n),some (.int a),some (.ref p),some (.int (a^(Num.eN (ps.take i)*q'.toNat^j)%n)),some (.int q'),some (.int k'),o6]) ⟨s',o6,by rw [Nat.pow_zero,Nat.mul_one]⟩ ?_ ?_
  ·rintro j σ2 H2 hj ⟨s2,o6,rfl⟩
   k_data
   refine⟨n,_,q',rfl,n0,by omega,λ_ H3 s3=>⟨s2.trans s3,?_⟩,λz=>absurd z (by omega)⟩
   rw [pow_step n0]
  ·rintro σ2 H2 ⟨s2,o6,rfl⟩
   refine⟨s2,some (.int q'),some (.int k'),o6,?_⟩
   rw [List.take_add_one,hy]
   show _=[_,_,_,some (V.int (a^Num.eN (ps.take i++[(q',k')])%n)),_,_,_]
   rw [gK]
 ·rintro σ' H' ⟨s',o4,o5,o6,rfl⟩
  rw [ul,List.take_length]
  k_data
  exact q H' s'
def kr:Sp:=λvs H Q _=>∃(n a q:Int) (k:Nat),vs=[.int n,.int a,.int q]/\2<=n/\n<=10^60/\0<=a/\a<n/\2<=q/\a^q.toNat^k%n=1/\∀(t:Nat) H',t<=k->a^q.toNat^t%n=1->(∀ j,j<t->a^q.toNat^j%n≠1)->ay H H'->Q (.int t) H'
theorem dA:az ["n","a","prime","times","rest"] ["n","a","prime"] (ai (top 27)):=fM
theorem q5 {C:Addr} (D:aA K mg "times_to_one" (top 27)) (c_power:Callee P w K mg base (ft P w) 4 "power" ["n","a","e"] (gO C)):Callee P w K mg base a8 5 "times_to_one" ["n","a","prime"] kr:=by
 refine cO D dA (λf cdv A outer s H vs Q E hr h=>?_)
 obtain⟨n,a,q',k,rfl,n2,n9,a0,a1,q2,hk,q⟩:=h
 have nd:=dA.nd
 refine⟨_,(ae (bw (i:=3) nd af) (ae (bw (i:=4) nd (pv 1)) (ae (bh PassesOwn.never (av nB (pv 4) af (aw _)) (ae (bw (i:=4) nd (cm c_power hr fj (aa (pv 0) (aa (pv 4) (aa (pv 2) ah))))) (aj (iG (i:=3) nd rfl (Or.inl rfl) af (k4 nt))))) (aj (aB (pv 3)))))),?_⟩
 show bV _ _ _ [some (.int n),some (.int a),some (.int q'),none,none] H
 k_data
 refine bj (α:=Nat) (λt=>[some (.int n),some (.int a),some (.int q'),some (.int (t:Int)),some (.int (a^q'.toNat^t%n))]) (λt H1=>ay H H1/\t<=k/\∀ j,j<t->a^q'.toNat^j%n≠1) (λt=>k-t) 0 (by rw [Nat.pow_zero,Int.pow_one,Int.emod_eq_of_lt a0 a1];rfl) ⟨ay.refl _,Nat.zero_le _,λj hj=>absurd hj (Nat.not_lt_zero _)⟩ ?_
 rintro t H1 ⟨s1,tk,no⟩
 replace tk:t<=k:=tk
 replace no:∀ j,j<t->a^q'.toNat^j%n≠1:=no
 k_data
 refine bp (λc=>?_) (λc=>?_)
 ·have tk':t≠k:=λz=>c (z▸hk)
  refine⟨_,λ_ _ z=>z,n,_,q',rfl,by omega,by omega,λ_ H2 s2=>⟨t+1,?_,s1.trans s2,by omega,λj hj=>?_,?_⟩,λz=>absurd z (by omega)⟩
  ·have:=pow_step (n:=n) (a:=a) (M:=1) (q:=q') (j:=t) (by omega)
   rw [Nat.one_mul,Nat.one_mul] at this
   rw [this]
   rfl
  ·rcases (by omega:j<t∨j=t) with z | z
   ·exact no j z
   ·rw [z];exact c
  ·show k-(t+1)<k-t
   omega
 ·exact q t H1 tk (by simpa using c) no s1
def nV (K:PySem.W.Frag):Sp:=λvs H Q _=>∃(p:Addr) (us:List V) (ps:List (Int × Int)),vs=[.ref p]/\H p=some (.lst us)/\aX K H (ps.map pQ) us/\(∀ y∈ps,2<=y.1/\0<=y.2/\y.2<=10^6)/\Num.eN ps<=10^100/\∀ H',ay H H'->Q (.int (Num.eN ps)) H'
theorem qr {ps:List (Int × Int)} (h:∀ y∈ps,2<=y.1) {i:Nat} {q k:Int} (hy:ps[i]?=some (q,k)) {j:Nat} (hj:j<=k.toNat):Num.eN (ps.take i)*q.toNat^j<=Num.eN ps/\q.toNat<=Num.eN (ps.take i)*q.toNat^k.toNat*Num.eN (ps.drop (i+1))*q.toNat:=by
 have pos:∀ l:List (Int × Int),(∀ y∈l,2<=y.1)->0<Num.eN l:=by
  intro l
  induction l with
  | nil=>intro _;exact Nat.one_pos
  | cons p r ih =>
   intro hl
   have:=hl p (List.mem_cons_self ..)
   exact Nat.mul_pos (Nat.pow_pos (by omega)) (ih λy z=>hl y (List.mem_cons_of_mem _ z))
 have q2:2<=q:=h _ (List.mem_of_getElem? hy)
 have e:ps=ps.take i++[(q,k)]++ps.drop (i+1):=by
  have h1:ps.take (i+1)=ps.take i++[(q,k)]:=by rw [List.take_add_one,hy];rfl
  rw [<- h1,List.take_append_drop]
 have p1:=pos (ps.take i) λy z=>h y (List.mem_of_mem_take z)
 have p2:=pos (ps.drop (i+1)) λy z=>h y (List.mem_of_mem_drop z)
 have e2:Num.eN ps=Num.eN (ps.take i)*q.toNat^k.toNat*Num.eN (ps.drop (i+1)):=by
  have:Num.eN ps=Num.eN (ps.take i++[(q,k)]++ps.drop (i+1)):=congrArg _ e
  rw [this,Num.bO,gK]
 have p3:0<q.toNat^k.toNat:=Nat.pow_pos (by omega)
 constructor
 ·rw [e2]
  refine Nat.le_trans (Nat.mul_le_mul_left _ (Nat.pow_le_pow_right (by omega) hj)) ?_
  exact Nat.le_mul_of_pos_right _ p2
 ·exact Nat.le_mul_of_pos_left _ (Nat.mul_pos (Nat.mul_pos p1 p3) p2)
theorem gA:az ["parting","whole","prime","many","turn"] ["parting"] (ai (top 13)):=fM
theorem rf (D:aA K mg "whole_of" (top 13)) (n_range:mg "range"=none):Callee P w K mg base a8 1 "whole_of" ["parting"] (nV K):=by
 refine cO D gA (λf cdv A outer s H vs Q E hr h=>?_)
 obtain⟨p,us,ps,rfl,hp,hd,hok,h100,q⟩:=h
 have nd:=gA.nd
 refine⟨_,(ae (bw (i:=1) nd af) (ae (cT PassesOwn.never rfl (cn (pv 0)) (iD (n:=2) rfl (aI (aC (i:=2) nd rfl (Or.inl rfl) (.inr rfl)) (aI (aC (i:=3) nd rfl (Or.inl rfl) (.inr rfl)) b6))) (aj (cT PassesOwn.never rfl (cu rfl n_range (aa (pv 3) ah)) (aC (i:=4) nd rfl (Or.inl rfl) (.inr rfl)) (aj (iG (i:=1) nd rfl (Or.inl rfl) (pv 2) (k4 kZ)))))) (aj (aB (pv 1))))),?_⟩
 show bV _ _ _ [some (.ref p),none,none,none,none] H
 have ul:us.length=ps.length:=by rw [hd.length,List.length_map]
 k_data
 refine⟨⟨_,aW.of hp⟩,?_⟩
 refine gi (xs:=us) (λi σ' H'=>ay H H'/\∃ o4 o5 o6,σ'=[some (.ref p),some (.int (Num.eN (ps.take i))),o4,o5,o6]) ⟨ay.refl _,none,none,none,rfl⟩ (λi σ' H' _ h=>aW.of (h.1 _ _ hp)) ?_ ?_
 ·rintro i x σ' H' hx ⟨s',o4,o5,o6,rfl⟩
  obtain⟨d,hd',hv⟩:=hd.get hx
  rw [List.getElem?_map] at hd'
  obtain⟨⟨q',k'⟩,hy,rfl⟩:=Option.map_eq_some_iff.mp hd'
  obtain⟨q2,k0,k6⟩:=hok _ (List.mem_of_getElem? hy)
  replace q2:2<=q':=q2
  replace k0:0<=k':=k0
  replace k6:k'<=10^6:=k6
  obtain⟨pt,rfl,tt⟩:=gW hv
  refine⟨pt,_,rfl,tt.same s',rfl,?_⟩
  k_data
  refine⟨by omega,by omega,?_⟩
  refine cz (λj σ2 H2=>H2=H'/\∃ o6,σ2=[some (.ref p),some (.int ((Num.eN (ps.take i)*q'.toNat^j:Nat):Int)),some (.int q'),some (.int k'),o6]) ⟨rfl,o6,by rw [Nat.pow_zero,Nat.mul_one]⟩ ?_ ?_
  ·rintro j σ2 H2 hj ⟨rfl,o6,rfl⟩
   have g1:=(qr (λy z=>(hok y z).1) hy (j:=j) (by omega)).1
   have g2:=(qr (λy z=>(hok y z).1) hy (j:=1) (by omega)).1
   have qb:q'.toNat<=10^100:=by
    rw [Nat.pow_one] at g2
    have:0<Num.eN (ps.take i):=by
     rcases Nat.eq_zero_or_pos (Num.eN (ps.take i)) with z | z
     ·exact absurd z (qu λy z=>(hok y (List.mem_of_mem_take z)).1)
     ·exact z
    have:=Nat.le_mul_of_pos_left q'.toNat this
    omega
   k_data
   refine⟨Bd.of (by omega) (by omega),Bd.of (by omega) (by omega),?_⟩
   rw [Nat.pow_succ,<- Nat.mul_assoc,Int.natCast_mul _ q'.toNat,show (q'.toNat:Int)=q' by omega]
  ·rintro σ2 H2 ⟨rfl,o6,rfl⟩
   refine⟨s',some (.int q'),some (.int k'),o6,?_⟩
   rw [List.take_add_one,hy]
   show _=[_,some (V.int (Num.eN (ps.take i++[(q',k')]):Nat)),_,_,_]
   rw [gK]
 ·rintro σ' H' ⟨s',o4,o5,o6,rfl⟩
  rw [ul,List.take_length]
  k_data
  exact q H' s'
theorem aX.ve {H:Hp}:∀(m:Nat) {ds:List PyData} {us:List V},aX K H ds us->aX K H (ds.take m) (us.take m)/\aX K H (ds.drop m) (us.drop m)
 | 0,ds,us,h=>⟨by simp only [List.take_zero];exact rfl,by simpa using h⟩
 | m+1,[],us,h=>by cases h;exact⟨rfl,rfl⟩
 | m+1,d::ds,us,h=>by
  obtain⟨x,r,rfl,h1,h2⟩:=h
  have ih:=ve m h2
  exact⟨⟨x,_,rfl,h1,ih.1⟩,ih.2⟩
theorem qe {us:List V} {m:Nat} (h:m<=us.length):dF us none (some (m:Int))=us.take m:=by
 unfold dF
 have e1:HT.iV us.length 0 none=0:=rfl
 have e2:HT.iV us.length us.length (some (m:Int))=m:=by
  simp only [HT.iV]
  split<;>omega
 rw [e1,e2,List.drop_zero,Nat.sub_zero]
theorem qd {us:List V} {m:Nat} (h:m<=us.length):dF us (some (m:Int)) none=us.drop m:=by
 unfold dF
 have e1:HT.iV us.length us.length none=us.length:=rfl
 have e2:HT.iV us.length 0 (some (m:Int))=m:=by
  simp only [HT.iV]
  split<;>omega
 rw [e1,e2]
 exact List.take_of_length_le (by rw [List.length_drop];omega)
def fV (K:PySem.W.Frag) (L:Nat):Sp:=λvs H Q _=>∃(n a:Int) (p:Addr) (us:List V) (ps:List (Int × Int)),vs=[.int n,.int a,.ref p]/\(1<=L/\ps.length<=2^(L-1))/\ps.length<=10^6/\2<=n/\n<=10^60/\0<=a/\a<n/\H p=some (.lst us)/\aX K H (ps.map pQ) us/\(∀ y∈ps,Num.Pm y.1/\0<=y.2/\y.2<=10^6)/\ps.Pairwise (λx y=>y.1≠x.1)/\a^Num.eN ps%n=1 /\
 ∀ pt ts H',Num.TO n a ps ts->ay H H'->H pt=none->H' pt=some (.lst (ts.map V.int))->Q (.ref pt) H'
theorem bT:az ["n","a","parting","half","ahead","behind"] ["n","a","parting"] (ai (top 26)):=fM
theorem pd (D:aA K mg "times_in_order" (top 26)):Callee P w K mg base a8 6 "times_in_order" ["n","a","parting"] (fV K 0):=by
 refine cO D bT (λf cdv A outer s H vs Q E hr h=>?_)
 obtain⟨n,a,p,us,ps,rfl,hL,_⟩:=h
 exact absurd hL.1 (by decide)
theorem pe {L:Nat} (D:aA K mg "times_in_order" (top 26)) (c_raised:Callee P w K mg base a8 5 "raised" ["n","a","parting"] (fU K)) (c_times_to_one:Callee P w K mg base a8 5 "times_to_one" ["n","a","prime"] kr) (c_times_in_order:Callee P w K mg base a8 (L+6) "times_in_order" ["n","a","parting"] (fV K L)) (n_len:mg "len"=none):Callee P w K mg base a8 (L+7) "times_in_order" ["n","a","parting"] (fV K (L+1)):=by
 refine cO D bT (λf cdv A outer s H vs Q E hr h=>?_)
 obtain⟨n,a,p,us,ps,rfl,hL,h6,n2,n9,a0,a1,hp,hd,hok,pw,h1,q⟩:=h
 have nd:=bT.nd
 refine⟨_,(ae (aZ (av bK (aE bW rfl n_len PySem.boot_len (aa (pv 2) ah)) af (aw _)) (aj (aB (bo ah))) aF) (ae (aZ (av bK (aE bW rfl n_len PySem.boot_len (aa (pv 2) ah)) af (aw _)) (aj (aB (bo (aa (bS c_times_to_one (hr.mono (by omega)) rfl aH (aa (pv 0) (aa (pv 1) (aa (aG aU (aG aO (pv 2) af (λ_ _=>rfl)) af (λ_ _=>rfl)) ah)))) ah)))) aF) (ae (bw (i:=3) nd (ar bG (aE bW rfl n_len PySem.boot_len (aa (pv 2) ah)) af)) (ae (bw (i:=4) nd (iB ki (pv 2) nG (gL (pv 3)))) (ae (bw (i:=5) nd (iB ki (pv 2) (gL (pv 3)) nG)) (aj (aB (ar ir (bS c_times_in_order (hr.mono (by omega)) rfl aH (aa (pv 0) (aa (bS c_raised (hr.mono (by omega)) rfl aH (aa (pv 0) (aa (pv 1) (aa (pv 5) ah)))) (aa (pv 4) ah)))) (bS c_times_in_order (hr.mono (by omega)) rfl aH (aa (pv 0) (aa (bS c_raised (hr.mono (by omega)) rfl aH (aa (pv 0) (aa (pv 1) (aa (pv 4) ah)))) (aa (pv 5) ah)))))))))))),?_⟩
 show bV _ _ _ [some (.int n),some (.int a),some (.ref p),none,none,none] H
 have ul:us.length=ps.length:=by rw [hd.length,List.length_map]
 k_data
 refine di (aW.of hp) ⟨rfl,?_⟩
 refine bp (λc=>?_) (λc=>?_)
 ·have e0:ps=[]:=List.eq_nil_of_length_eq_zero (by injection c;omega)
  subst e0
  refine⟨by show 0<=sizeLine;decide,λp1 hp1=>q p1 [] _ (.none ?_) (ao hp1) hp1 ag⟩
  have:a^1%n=1:=h1
  rw [Int.pow_one] at this
  exact Num.Al.iff.mpr (by rw [this];exact (Int.emod_eq_of_lt (by omega) (by omega)).symm)
 refine di (aW.of hp) ⟨rfl,?_⟩
 refine bp (λc1=>?_) (λc1=>?_)
 ·have l1:ps.length=1:=by injection c1;omega
  obtain⟨⟨q',k'⟩,rfl⟩:∃ y,ps=[y]:=by
   cases ps with
   | nil=>cases l1
   | cons y r=>cases r with
    | nil=>exact⟨y,rfl⟩
    | cons _ _=>simp at l1
  obtain⟨pq,k0,k6⟩:=hok (q',k') (List.mem_singleton.mpr rfl)
  replace pq:Num.Pm q':=pq
  obtain⟨u,r,rfl,hv,z⟩:=hd
  cases z
  obtain⟨pt,rfl,tt⟩:=gW hv
  refine fG (aW.of hp) (by omega) (by show (0:Int)<1;decide) λv hv=>?_
  have ev:v=V.ref pt:=List.mem_singleton.mp hv
  subst ev
  have h1':a^q'.toNat^k'.toNat%n=1:=by
   have:a^(q'.toNat^k'.toNat*1)%n=1:=h1
   rwa [Nat.mul_one] at this
  refine bY tt pO ⟨n,a,q',k'.toNat,rfl,n2,n9,a0,a1,pq.two,h1',λt H1 _ t1 t2 s1=>⟨by show 1<=sizeLine;decide,λp2 hp2=>?_⟩⟩
  refine q p2 [(t:Int)] _ (.one pq ((cw n2).mp t1) λj hj z=>t2 j hj ((cw n2).mpr z)) (s1.trans (ao hp2)) (s1.free hp2) ag
 have l2:2<=ps.length:=by
  have h0:us.length≠0:=λz=>c (by rw [z];rfl)
  have h1:us.length≠1:=λz=>c1 (by rw [z];rfl)
  omega
 refine di (aW.of hp) ⟨_,rfl,Bd.of (by omega) (by omega),?_⟩
 obtain⟨m,em,m1,m2⟩:∃ m:Nat,(us.length:Int)/2=m/\1<=m/\m=ps.length/2:=⟨us.length/2,by omega,by omega,by omega⟩
 rw [em]
 refine⟨p,us,rfl,aW.of hp,λpa hpa=>?_⟩
 rw [qe (by omega)]
 have s1:=ao (o:=.lst (us.take m)) hpa
 have ea:upd H pa (.lst (us.take m)) pa=some (.lst (us.take m)):=ag
 generalize upd H pa _=H1 at *
 refine⟨p,us,rfl,aW.of (s1 _ _ hp),λpb hpb=>?_⟩
 rw [qd (by omega)]
 have s2:=ao (o:=.lst (us.drop m)) hpb
 have eb:upd H1 pb (.lst (us.drop m)) pb=some (.lst (us.drop m)):=ag
 generalize upd H1 pb _=H2 at *
 have S2:=s1.trans s2
 have hT:=aX.ve m (aX.same S2 _ hd)
 rw [<- List.map_take,<- List.map_drop] at hT
 have okA:∀ y∈ps.take m,Num.Pm y.1/\0<=y.2/\y.2<=10^6:=λy z=>hok y (List.mem_of_mem_take z)
 have okB:∀ y∈ps.drop m,Num.Pm y.1/\0<=y.2/\y.2<=10^6:=λy z=>hok y (List.mem_of_mem_drop z)
 have ne:∀ x∈ps.take m,∀ y∈ps.drop m,y.1≠x.1:=by
  rw [<- List.take_append_drop m ps,List.pairwise_append] at pw
  exact pw.2.2
 have pwA:(ps.take m).Pairwise (λx y=>y.1≠x.1):=pw.sublist (List.take_sublist ..)
 have pwB:(ps.drop m).Pairwise (λx y=>y.1≠x.1):=pw.sublist (List.drop_sublist ..)
 have h1A:Num.Al n (a^(Num.eN (ps.take m)*Num.eN (ps.drop m))) 1:=by
  rw [<- Num.bO,List.take_append_drop]
  exact (cw n2).mp h1
 have lA:(ps.take m).length<=2^(L-1)/\(ps.drop m).length<=2^(L-1)/\1<=L:=by
  have hL2:ps.length<=2^L:=hL.2
  have L1:1<=L:=by
   rcases Nat.eq_zero_or_pos L with z | z
   ·subst z;simp at hL2;omega
   ·exact z
  obtain⟨L',rfl⟩:∃ L',L=L'+1:=⟨L-1,by omega⟩
  rw [Nat.pow_succ] at hL2
  rw [List.length_take,List.length_drop]
  refine⟨?_,?_,by omega⟩<;>(simp only [Nat.add_sub_cancel];omega)
 have md:∀ e:Nat,0<=a^e%n/\a^e%n<n:=λe=>⟨Int.emod_nonneg _ (by omega),Int.emod_lt_of_pos _ (by omega)⟩
 have p1:∀ e E:Nat,Num.Al n (a^(e*E)) 1->(a^e%n)^E%n=1:=λe E z=>by
  rw [Num.Al.iff.mp ((Num.Al.rest n (a^e)).pow E),Num.b7]
  exact (cw n2).mpr z
 refine⟨n,a,pb,_,ps.drop m,rfl,by omega,n9,a0,a1,eb,hT.2,λy z=>⟨(okB y z).1.two,(okB y z).2⟩,λH3 s3=>?_⟩
 refine⟨n,_,pa,_,ps.take m,rfl,⟨lA.2.2,lA.1⟩,by rw [List.length_take];omega,n2,n9,(md _).1,(md _).2,s3 _ _ (s2 _ _ ea),aX.same s3 _ hT.1,okA,pwA,p1 _ _ (by rw [Nat.mul_comm];exact h1A),λpt ts H4 hTO s4 f4 e4=>?_⟩
 have S4:=s3.trans s4
 refine⟨n,a,pa,_,ps.take m,rfl,by omega,n9,a0,a1,S4 _ _ (s2 _ _ ea),aX.same S4 _ hT.1,λy z=>⟨(okA y z).1.two,(okA y z).2⟩,λH5 s5=>?_⟩
 refine⟨n,_,pb,_,ps.drop m,rfl,⟨lA.2.2,lA.2.1⟩,by rw [List.length_drop];omega,n2,n9,(md _).1,(md _).2,s5 _ _ (S4 _ _ eb),aX.same (S4.trans s5) _ hT.2,okB,pwB,p1 _ _ h1A,λpt2 ts2 H6 hTO2 s6 f6 e6=>?_⟩
 have tl:(ts.map V.int).length+(ts2.map V.int).length<=10^6:=by
  rw [List.length_map,List.length_map,hTO.len,hTO2.len,List.length_take,List.length_drop]
  omega
 refine⟨pt,pt2,_,_,rfl,rfl,s6 _ _ (s5 _ _ e4),e6,Nat.le_trans tl (by decide),λpl hpl=>?_⟩
 have S6:=((S2.trans S4).trans s5).trans s6
 have:=Num.TO.two (λy z=>(okA y z).1) (λy z=>(okB y z).1) ne (by rw [Num.bO];exact h1A) (hTO.al (Num.Al.rest n _)) (hTO2.al (Num.Al.rest n _))
 rw [List.take_append_drop] at this
 refine q pl (ts++ts2) _ this (S6.trans (ao hpl)) (S6.free hpl) ?_
 rw [List.map_append]
 exact ag
theorem lq (D:aA K mg "times_in_order" (top 26)) (c_raised:Callee P w K mg base a8 5 "raised" ["n","a","parting"] (fU K)) (c_times_to_one:Callee P w K mg base a8 5 "times_to_one" ["n","a","prime"] kr) (n_len:mg "len"=none):∀ L:Nat,Callee P w K mg base a8 (L+6) "times_in_order" ["n","a","parting"] (fV K L)
 | 0=>pd D
 | L+1=>pe D c_raised c_times_to_one (lq D c_raised c_times_to_one n_len L) n_len
def nP (K:PySem.W.Frag):Sp:=λvs H Q _=>∃(p:Addr) (xs:List V) (rows:List PyData) (ps:List (Int × Int)),vs=[.ref p]/\H p=some (.lst xs)/\aX K H rows xs/\sq rows ps/\rows.length<=10^6/\∀ p us H',ay H H'->H p=none->H' p=some (.lst us)->aX K H' (ps.map pQ) us->Q (.ref p) H'
theorem qT (D:aA K mg "parting_in" (top 19)):Callee P w K mg base a8 1 "parting_in" ["parts"] (nP K):=by
 refine cO D b8 (λf cdv A outer s H vs Q E hr h=>?_)
 obtain⟨p,xs,rows,ps,rfl,hS,ht,hh,h6,q⟩:=h
 have nd:=b8.nd
 refine⟨_,(aj (aB (iz rfl (sk (N':=["row"]) (js:=[none]) rfl rfl) (cn (pv 0)) (λ_ _ _ _=>(aC (i:=0) (show List.Nodup [("row":Str)] from by decide +kernel) rfl (Or.inl rfl) (.inr rfl))) (λ_ _ _ _=>cj) (λ_ _ _ _=>(cD (aa (aG (cG K rfl) (aG (cG K rfl) (pv 0) af (λ_ _=>rfl)) af (λ_ _=>rfl)) (aa (aG (cG K rfl) (pv 0) af (λ_ _=>rfl)) ah))))))),?_⟩
 show pJ _ _ [some (.ref p)] H
 have xl:=ht.length
 have rl:=hh.1
 k_data
 refine⟨⟨_,aW.of hS⟩,?_⟩
 refine bX (xs:=xs) (λi zs H3=>ay H H3/\aX K H3 ((ps.take i).map pQ) zs) ⟨ay.refl _,rfl⟩ (Nat.le_trans (by omega) (show 10^6<=sizeLine by decide)) (λi zs H3 hi ⟨e1,e2⟩=>⟨aW.of (e1 _ _ hS),by rw [e2.length,List.length_map,List.length_take];omega⟩) ?_ ?_
 ·rintro i x zs H3 hx ⟨s3,hz⟩
  obtain⟨q',k',pt,pq,r,hy,rfl,t1,t2⟩:=jS ht hh hx
  show fC 0 _ [none] _ _
  k_data
  refine⟨True.intro,bY (t1.same s3) pO (bY (t2.same s3) pO (bY (t1.same s3) rfl ⟨by show 2<=sizeLine;decide,λp4 hp4=>?_⟩))⟩
  have s4:=ao (o:=.tup [V.int q',V.int k']) hp4
  refine⟨s3.trans s4,?_⟩
  rw [List.take_add_one,hy,List.map_append]
  exact aX.append (aX.same s4 _ hz) (.one (dv.tup ag ⟨_,_,rfl,rfl,.one rfl⟩))
 ·rintro zs H3 p3 ⟨s3,hz⟩ hp3
  rw [show xs.length=ps.length by omega,List.take_length] at hz
  exact q p3 zs _ (s3.trans (ao hp3)) (s3.free hp3) ag (aX.same (ao hp3) _ hz)
def mI (p a e:Int) (y:PyData × Int × Int):PyData:=.tuple [y.1,.int y.2.2,.int (a^(e/y.2.1).toNat%p)]
def kf (ps:List (Int × Int)) (ds:Nat->PyData) (ts:List Int) (i:Nat):Option (PyData × Int × Int):=match ps[i]?,ts[i]? with
 | some y,some t=>if 0<t then some (ds i,y.1,t) else none
 | _,_=>none
def bH (ps:List (Int × Int)) (ds:Nat->PyData) (ts:List Int) (n:Nat):List (PyData × Int × Int):=(List.range n).filterMap (kf ps ds ts)
def mq (ps:List (Int × Int)) (ds:Nat->PyData) (ts:List Int):List (PyData × Int × Int):=bH ps ds ts ps.length
theorem gw {ps:List (Int × Int)} {ds:Nat->PyData} {ts:List Int} {i:Nat} {q k t:Int} (hp:ps[i]?=some (q,k)) (ht:ts[i]?=some t):bH ps ds ts (i+1)=bH ps ds ts i++(if 0<t then [(ds i,q,t)] else []):=by
 unfold bH
 rw [List.range_succ,List.filterMap_append]
 congr 1
 have:kf ps ds ts i=if 0<t then some (ds i,q,t) else none:=by unfold kf;rw [hp,ht]
 by_cases c:0<t
 ·rw [if_pos c] at this ⊢
  simp [this]
 ·rw [if_neg c] at this ⊢
  simp [this]
theorem mr {ps:List (Int × Int)} {ds:Nat->PyData} {ts:List Int} {n:Nat} {y:PyData × Int × Int} (h:y∈bH ps ds ts n):∃ i k,ps[i]?=some (y.2.1,k)/\ts[i]?=some y.2.2/\0<y.2.2/\y.1=ds i:=by
 unfold bH at h
 obtain⟨i,_,e⟩:=List.mem_filterMap.mp h
 unfold kf at e
 cases hp:ps[i]? with
 | none=>rw [hp] at e;cases e
 | some z =>
  cases ht:ts[i]? with
  | none=>rw [hp,ht] at e;cases e
  | some t =>
   rw [hp,ht] at e
   by_cases c:0<t
   ·have e':(if 0<t then some (ds i,z.1,t) else none)=some y:=e
    rw [if_pos c] at e'
    cases e'
    exact⟨i,z.2,hp,ht,c,rfl⟩
   ·have e':(if 0<t then some (ds i,z.1,t) else none)=some y:=e
    rw [if_neg c] at e'
    cases e'
theorem hJ {ps:List (Int × Int)} {ds:Nat->PyData} {ts:List Int} {n:Nat}:(bH ps ds ts n).length<=n:=by
 unfold bH
 exact Nat.le_trans (List.length_filterMap_le ..) (by rw [List.length_range];exact Nat.le_refl _)
def kp (y:PyData × Int × Int):Int × Int:=(y.2.1,y.2.2)
def kD (y:PyData × Int × Int):PyData:=.tuple [y.1,.int y.2.2]
theorem jg {ps:List (Int × Int)} {ds:Nat->PyData} {ts:List Int} (hl:ts.length=ps.length) (h0:∀ t∈ts,0<=t):∀ n,n<=ps.length->Num.eN ((bH ps ds ts n).map kp)=Num.eN (((ps.map (·.1)).zip ts).take n)
 | 0,_=>rfl
 | n+1,h=>by
  have ih:=jg (ds:=ds) hl h0 n (by omega)
  have hp:ps[n]?=some (ps[n].1,ps[n].2):=List.getElem?_eq_getElem (by omega)
  have ht:ts[n]?=some ts[n]:=List.getElem?_eq_getElem (by omega)
  have hz:((ps.map (·.1)).zip ts)[n]?=some (ps[n].1,ts[n]):=by
   rw [List.getElem?_zip_eq_some]
   exact⟨by rw [List.getElem?_map,hp];rfl,ht⟩
  rw [gw hp ht,List.take_add_one,hz,List.map_append,Num.bO,ih]
  show _=Num.eN (((ps.map (·.1)).zip ts).take n++[(ps[n].1,ts[n])])
  rw [gK]
  have t0:=h0 ts[n] (List.getElem_mem _)
  by_cases c:0<ts[n]
  ·rw [if_pos c]
   show _*(ps[n].1.toNat^ts[n].toNat*1)=_
   rw [Nat.mul_one]
  ·rw [if_neg c,show ts[n].toNat=0 by omega,Nat.pow_zero]
   rfl
theorem qE {ps:List (Int × Int)} {ds:Nat->PyData} (h:∀ i q k,ps[i]?=some (q,k)->Num.gG q (ds i)):sq (Num.rowsOf ps ds) ps:=by
 refine⟨Num.bC,λi row hr=>?_⟩
 have hi:=(List.getElem?_eq_some_iff.mp hr).1
 rw [Num.bC] at hi
 have hg:ps[i]?=some (ps[i].1,ps[i].2):=List.getElem?_eq_getElem hi
 rw [Num.iK hg] at hr
 cases hr
 obtain⟨g,rows,e⟩:=(h i _ _ hg).head
 exact⟨_,hg,_,by rw [e]⟩
theorem t6 {H:Hp} {ps:List (Int × Int)} {ds:Nat->PyData} {xs:List V} (hd:aX K H (Num.rowsOf ps ds) xs) {i:Nat} {x:V} (hx:xs[i]?=some x):∃ q k pt u,ps[i]?=some (q,k)/\x=.ref pt/\cF K H pt [u,.int k]/\dv K H (ds i) u:=by
 obtain⟨d,hd',hv⟩:=hd.get hx
 have hi:=(List.getElem?_eq_some_iff.mp hd').1
 rw [Num.bC] at hi
 have hg:=List.getElem?_eq_getElem hi
 rw [Num.iK hg] at hd'
 cases hd'
 obtain⟨pt,ys,rfl,h1,x1,r1,rfl,e1,x2,r2,rfl,e2,z⟩:=hv
 cases z
 cases e2
 exact⟨ps[i].1,ps[i].2,pt,x1,hg,rfl,h1,e1⟩
def rO (K:PySem.W.Frag):Sp:=λvs H Q _=>∃(v:V) (p a g:Int) (ps:List (Int × Int)) (ds:Nat->PyData),vs=[.int p,.int a,v]/\dv K H (.tuple (Num.rowsOf ps ds)) v/\Num.gG p (.tuple [.int p,.int g,.tuple (Num.rowsOf ps ds)])/\Num.Part (p-1) ps/\ps.length<=29/\(∀ i q k,ps[i]?=some (q,k)->Num.gG q (ds i))/\¬p∣a /\ -(10^60)<=a/\a<=10^60 /\
 ∀(e:Int) (ts:List Int) (u:V) (H':Hp),1<=e->e<p->Num.Ord p a e.toNat->Num.TO p a ps ts->ay H H'->dv K H' (.tuple [.int e,.tuple ((mq ps ds ts).map (mI p a e))]) u->Q u H'
theorem eW:az ["n","a","parts","parting","times","kept","e"] ["n","a","parts"] (ai (top 23)):=fM
theorem jY {C:Addr} (D:aA K mg "order_from" (top 23)) (c_parting_in:Callee P w K mg base a8 1 "parting_in" ["parts"] (nQ K)) (c_parting_inL:Callee P w K mg base a8 1 "parting_in" ["parts"] (nP K)) (c_most_times:Callee P w K mg base a8 1 "most_times" ["n","prime"] rN) (c_raised:Callee P w K mg base a8 5 "raised" ["n","a","parting"] (fU K)) (c_times_in_order:Callee P w K mg base a8 12 "times_in_order" ["n","a","parting"] (fV K 6)) (c_whole_of:Callee P w K mg base a8 1 "whole_of" ["parting"] (nV K)) (c_power:Callee P w K mg base (ft P w) 4 "power" ["n","a","e"] (gO C)) (n_min:mg "min"=none) (n_zip:mg "zip"=none) (n_tuple:mg "tuple"=none):Callee P w K mg base a8 13 "order_from" ["n","a","parts"] (rO K):=by
 refine cO D eW (λf cdv A outer s H vs Q E hr h=>?_)
 obtain⟨v,p,a,g,ps,ds,rfl,hd,hp,hP,hl29,hds,na,a0,a1,q⟩:=h
 obtain⟨pm,p9⟩:=ju hp
 have p2:=pm.two
 have nd:=eW.nd
 refine⟨_,(ae (nK (i0:=3) nd rfl (Or.inl rfl) rfl (sk (N':=["prime","many","n"]) (js:=[none,none,some 0]) rfl rfl) (cn (cm c_parting_in hr aH (aa (pv 2) ah))) (λ_ _ _ _=>(dZ K rfl (n:=2) rfl (aI (aC (i:=0) (show List.Nodup [("prime":Str),("many":Str),("n":Str)] from by decide +kernel) rfl (Or.inl rfl) (.inr rfl)) (aI (aC (i:=1) (show List.Nodup [("prime":Str),("many":Str),("n":Str)] from by decide +kernel) rfl (Or.inl rfl) (.inr rfl)) b6)))) (λ_ _ _ _=>cj) (λ_ _ _ _=>(cD (aa (pv 0) (aa (aE (oq rfl) rfl n_min L2.boot_min (aa (pv 1) (aa (cm c_most_times hr aH (aa (pv 2) (aa (pv 0) ah))) ah))) ah)))) (by rfl) (by first | exact .inl rfl | exact .inr rfl)) (ae (aZ (av nB (cm c_raised hr aH (aa (pv 0) (aa (ar aK (pv 1) (pv 0)) (aa (pv 3) ah)))) af (aw _)) rD aF) (fZ.jq (ae (bw (i:=4) nd (cm c_times_in_order hr aH (aa (pv 0) (aa (ar aK (pv 1) (pv 0)) (aa (pv 3) ah))))) (ae (nK (i0:=5) nd rfl (Or.inl rfl) rfl (sk (N':=["row","many"]) (js:=[none,none]) rfl rfl) (vY .t .l rfl n_zip (aa (pv 2) (aa (pv 4) ah))) (λ_ _ _ _=>(dZ K rfl (n:=2) rfl (aI (aC (i:=0) (show List.Nodup [("row":Str),("many":Str)] from by decide +kernel) rfl (Or.inl rfl) (.inr rfl)) (aI (aC (i:=1) (show List.Nodup [("row":Str),("many":Str)] from by decide +kernel) rfl (Or.inl rfl) (.inr rfl)) b6)))) (λ_ _ _ _=>(lz (av cW (pv 1) af (aw _)))) (λ_ _ _ _=>(cD (aa (aG (cG K rfl) (pv 0) af (λ_ _=>rfl)) (aa (pv 1) ah)))) (by rfl) (by first | exact .inl rfl | exact .inr rfl)) (ae (j7 (i:=6) nd rfl (Or.inr rfl) (cm c_whole_of hr aH (aa (cm c_parting_inL hr aH (aa (pv 5) ah)) ah))) (aj (aB (cD (aa (pv 6) (aa (cq eJ rfl n_tuple L2.boot_tuple (aa (iz rfl (sk (N':=["paper","many","n","a","e"]) (js:=[none,none,some 0,some 1,some 6]) rfl rfl) (cn (pv 5)) (λ_ _ _ _=>(dZ K rfl (n:=2) rfl (aI (aC (i:=0) (show List.Nodup [("paper":Str),("many":Str),("n":Str),("a":Str),("e":Str)] from by decide +kernel) rfl (Or.inl rfl) (.inr rfl)) (aI (aC (i:=1) (show List.Nodup [("paper":Str),("many":Str),("n":Str),("a":Str),("e":Str)] from by decide +kernel) rfl (Or.inl rfl) (.inr rfl)) b6)))) (λ_ _ _ _=>cj) (λ_ _ _ _=>(cD (aa (pv 0) (aa (pv 1) (aa (cm c_power hr fj (aa (pv 2) (aa (pv 3) (aa (ar bG (pv 4) (aG (cG K rfl) (pv 0) af (λ_ _=>rfl))) ah)))) ah)))))) ah)) ah))))))))))),?_⟩
 show bV _ _ _ [some (.int p),some (.int a),some v,none,none,none,none] H
 obtain⟨pr,xs,rfl,hSr,hdr⟩:=hd
 have xl:xs.length=ps.length:=by rw [hdr.length,Num.bC]
 have eE:Num.eN ps=(p-1).toNat:=by
  have:=Num.jO ps λy z=>(hP.ok y z).1
  rw [hP.prod] at this
  omega
 have big:∀{zs:List (Int × Int)},(∀ y∈zs,2<=y.1)->Num.eN zs<=(p-1).toNat->∀{i:Nat} {q k:Int},zs[i]?=some (q,k)->q.toNat^k.toNat<=(p-1).toNat/\k<=29:=by
  intro zs h2 hz i q k hy
  have g1:=(qr h2 hy (j:=k.toNat) (Nat.le_refl _)).1
  have e0:Num.eN (zs.take i)≠0:=qu λy z=>h2 y (List.mem_of_mem_take z)
  have g2:q.toNat^k.toNat<=(p-1).toNat:=Nat.le_trans (Nat.le_mul_of_pos_left _ (Nat.pos_of_ne_zero e0)) (Nat.le_trans g1 hz)
  have q2:2<=q:=h2 _ (List.mem_of_getElem? hy)
  have g3:(2:Int)^k.toNat<=q^k.toNat:=Num.two_pow_le q2 _
  have g4:q^k.toNat=((q.toNat^k.toNat:Nat):Int):=by rw [Int.natCast_pow,show (q.toNat:Int)=q by omega]
  have g5:k.toNat<=29:=Num.two_le (by omega)
  exact⟨g2,by omega⟩
 have okP:∀ y∈ps,Num.Pm y.1/\0<=y.2/\y.2<=10^6:=λy hy=>by
  obtain⟨o1,o2,_⟩:=hP.ok y hy
  obtain⟨i,hi⟩:=List.mem_iff_getElem?.mp hy
  have:=(big (λy z=>(hP.ok y z).1.two) (Nat.le_of_eq eE) hi).2
  exact⟨o1,by omega,by omega⟩
 have pwP:ps.Pairwise (λx y=>y.1≠x.1):=hP.rise.imp λh=>by omega
 k_data
 refine⟨.ref pr,_,ps,rfl,⟨pr,xs,rfl,hSr,hdr⟩,qE hds,by rw [Num.bC];omega,λp1 us1 H1 s1 f1 e1 d1=>?_⟩
 refine⟨p1,rfl,⟨_,aW.of e1⟩,?_⟩
 have ul:us1.length=ps.length:=by rw [d1.length,List.length_map]
 refine bX (xs:=us1) (λi zs H3=>ay H1 H3/\aX K H3 ((ps.take i).map pQ) zs) ⟨ay.refl _,rfl⟩ (by rw [ul];exact Nat.le_trans hl29 (by decide)) (λi zs H3 hi ⟨z1,z2⟩=>⟨aW.of (z1 _ _ e1),by rw [z2.length,List.length_map,List.length_take];omega⟩) ?_ ?_
 ·rintro i x zs H3 hx ⟨s3,hz⟩
  obtain⟨d,hd',hv⟩:=d1.get hx
  rw [List.getElem?_map] at hd'
  obtain⟨⟨q',k'⟩,hy,rfl⟩:=Option.map_eq_some_iff.mp hd'
  obtain⟨pq,k0,k6⟩:=okP _ (List.mem_of_getElem? hy)
  replace pq:Num.Pm q':=pq
  replace k0:0<=k':=k0
  have q2:=pq.two
  obtain⟨pt,rfl,tt⟩:=gW hv
  have qb:=(big (λy z=>(okP y z).1.two) (Nat.le_of_eq eE) hy).1
  have q9:q'<=10^9:=by
   have:=(tV hP (by omega) q' (List.mem_map.mpr ⟨_,List.mem_of_getElem? hy,rfl⟩)).2
   omega
  show mf K 2 _ _ [none,none,some (.int p)] _ _
  refine⟨pt,_,rfl,tt.same s3,rfl,?_⟩
  k_data
  refine⟨⟨rfl,True.intro⟩,p,q',rfl,by omega,by omega,q2,by omega,λt ht=>⟨(t:Int),rfl,by show 2<=sizeLine;decide,λp4 hp4=>?_⟩⟩
  have em:(if (t:Int)<k' then (t:Int) else k')=k':=by
   rw [if_neg]
   intro z
   have g4:q'^(t+1)=((q'.toNat^(t+1):Nat):Int):=by rw [Int.natCast_pow,show (q'.toNat:Int)=q' by omega]
   have g5:q'.toNat^(t+1)<=q'.toNat^k'.toNat:=Nat.pow_le_pow_right (by omega) (by omega)
   omega
  rw [em]
  have s4:=ao (o:=.tup [V.int q',V.int k']) hp4
  refine⟨s3.trans s4,?_⟩
  rw [List.take_add_one,hy,List.map_append]
  exact aX.append (aX.same s4 _ hz) (.one (dv.tup ag ⟨_,_,rfl,rfl,.one rfl⟩))
 ·rintro zs H3 p3 ⟨s3,hz⟩ hp3
  rw [ul,List.take_length] at hz
  have s4:=ao (o:=.lst zs) hp3
  have e4:upd H3 p3 (.lst zs) p3=some (.lst zs):=ag
  generalize upd H3 p3 _=H4 at *
  have S4:=(s1.trans s3).trans s4
  have d4:=aX.same s4 _ hz
  have r0:=Int.emod_nonneg a (show p≠0 by omega)
  have r1:=Int.emod_lt_of_pos a (show 0<p by omega)
  have one:(a%p)^Num.eN ps%p=1:=by
   rw [eE]
   exact (cw p2).mpr (((Num.Al.rest p a).pow _).trans (Num.gY pm na))
  refine⟨by omega,p,a%p,p3,zs,ps,rfl,by omega,by omega,r0,r1,e4,d4,λy z=>⟨(okP y z).1.two,(okP y z).2⟩,λH5 s5=>⟨rfl,?_⟩⟩
  rw [one,if_neg (by intro z;exact z rfl)]
  refine⟨by omega,p,a%p,p3,zs,ps,rfl,⟨by decide,by show ps.length<=32;omega⟩,by omega,p2,by omega,r0,r1,s5 _ _ e4,aX.same s5 _ d4,okP,pwP,one,λp6 ts H6 hTO s6 f6 e6=>?_⟩
  have hTO':=hTO.al (Num.Al.rest p a)
  have S6:=(S4.trans s5).trans s6
  have tl:ts.length=ps.length:=hTO.len
  have eZ:Num.eN ((bH ps ds ts ps.length).map kp)=Num.eN ((ps.map (·.1)).zip ts):=by
   rw [jg tl hTO.nn _ (Nat.le_refl _),List.take_of_length_le]
   rw [List.length_zip,List.length_map]
   omega
  have oE:=hTO'.ord
  rw [<- eZ] at oE
  have eP:0<Num.eN ((bH ps ds ts ps.length).map kp)/\Num.eN ((bH ps ds ts ps.length).map kp)<=(p-1).toNat:=by
   refine⟨oE.pos,Nat.le_of_dvd (by omega) (oE.dv _ (Num.gY pm na))⟩
  k_data
  refine⟨⟨xs,hSr.same S6⟩,⟨_,aW.of e6⟩,?_⟩
  refine ow (xs:=xs) (ys:=ts.map V.int) (λi zs H7=>ay H6 H7/\aX K H7 ((bH ps ds ts i).map kD) zs) ⟨ay.refl _,rfl⟩ (by rw [List.length_map,tl,xl]) (by rw [xl];exact Nat.le_trans hl29 (by decide)) (λi zs H7 hi ⟨z1,z2⟩=>⟨hSr.same (S6.trans z1),aW.of (z1 _ _ e6),by rw [z2.length,List.length_map];exact hJ⟩) ?_ ?_
  ·rintro i x y zs H7 p7 hx hy ⟨s7,hz7⟩ hp7
   obtain⟨q',k',pt,u,hpi,rfl,t1,t2⟩:=t6 hdr hx
   rw [List.getElem?_map] at hy
   obtain⟨t,ht,rfl⟩:=Option.map_eq_some_iff.mp hy
   have s8:=ao (o:=.tup [V.ref pt,V.int t]) hp7
   show mf K 2 _ _ [none,none] _ _
   refine⟨p7,_,rfl,cF.of ag,rfl,?_⟩
   generalize upd H7 p7 _=H8 at *
   have S8:=(S6.trans s7).trans s8
   rw [gw hpi ht]
   k_data
   refine⟨True.intro,bp (λc=>?_) (λc=>?_)⟩
   ·rw [if_pos c]
    refine bY (t1.same S8) pO ⟨by show 2<=sizeLine;decide,λp9 hp9=>?_⟩
    have s9:=ao (o:=.tup [u,V.int t]) hp9
    refine⟨(s7.trans s8).trans s9,?_⟩
    rw [List.map_append]
    exact aX.append (aX.same (s8.trans s9) _ hz7) (.one (dv.tup ag ⟨_,_,rfl,dv.same (S8.trans s9) _ t2,.one rfl⟩))
   ·rw [if_neg c,List.append_nil]
    exact⟨s7.trans s8,aX.same s8 _ hz7⟩
  ·rintro zs H7 p7 ⟨s7,hz7⟩ hp7
   rw [xl] at hz7
   have s8:=ao (o:=.lst zs) hp7
   have e8:upd H7 p7 (.lst zs) p7=some (.lst zs):=ag
   generalize upd H7 p7 _=H8 at *
   have S8:=(S6.trans s7).trans s8
   have d8:=aX.same s8 _ hz7
   have kl:(bH ps ds ts ps.length).length<=29:=Nat.le_trans hJ hl29
   have kmem:∀ y∈bH ps ds ts ps.length,Num.Pm y.2.1/\0<y.2.2/\y.2.2<=29/\Num.gG y.2.1 y.1:=λy hy=>by
    obtain⟨i,k,h1,h2,h3,h4⟩:=mr hy
    have hz:((ps.map (·.1)).zip ts)[i]?=some (y.2.1,y.2.2):=by
     rw [List.getElem?_zip_eq_some]
     exact⟨by rw [List.getElem?_map,h1];rfl,h2⟩
    have h5:=(big (zs:=(ps.map (·.1)).zip ts) (λz hz=>by
     have:=(List.of_mem_zip (show (z.1,z.2)∈_ from hz)).1
     obtain⟨w',hw',e⟩:=List.mem_map.mp this
     rw [<- e]
     exact (okP w' hw').1.two) (by rw [<- eZ];exact eP.2) hz).2
    exact⟨(okP _ (List.mem_of_getElem? h1)).1,h3,h5,by rw [h4];exact hds i _ _ h1⟩
   obtain⟨ks,hks⟩:∃ ks,bH ps ds ts ps.length=ks:=⟨_,rfl⟩
   rw [hks] at eZ oE eP kl kmem d8
   have zl:zs.length=ks.length:=by rw [d8.length,List.length_map]
   refine⟨p7,zs,ks.map kD,ks.map kp,rfl,e8,d8,⟨by rw [List.length_map,List.length_map],λi row hr=>?_⟩,by rw [List.length_map];omega,λp9 us9 H9 s9 f9 e9 d9=>?_⟩
   ·rw [List.getElem?_map] at hr
    obtain⟨y,hy,rfl⟩:=Option.map_eq_some_iff.mp hr
    obtain⟨g',rows',e'⟩:=(kmem y (List.mem_of_getElem? hy)).2.2.2.head
    exact⟨kp y,by rw [List.getElem?_map,hy];rfl,_,by show PyData.tuple [y.1,.int y.2.2]=_;rw [e'];rfl⟩
   refine⟨p9,us9,_,rfl,e9,d9,λy hy=>?_,by omega,λH10 s10=>?_⟩
   ·obtain⟨z,hz,rfl⟩:=List.mem_map.mp hy
    obtain⟨m1,m2,m3,_⟩:=kmem z hz
    exact⟨m1.two,by show 0<=z.2.2;omega,by show z.2.2<=10^6;omega⟩
   have S10:=s9.trans s10
   refine⟨p7,rfl,⟨_,aW.of (S10 _ _ e8)⟩,?_⟩
   have eb:(1:Int)<=(Num.eN (ks.map kp):Int)/\(Num.eN (ks.map kp):Int)<p:=by omega
   have oE':Num.Ord p a ((Num.eN (ks.map kp):Int)).toNat:=by rw [Int.toNat_natCast];exact oE
   generalize (Num.eN (ks.map kp):Int)=e at *
   refine bX (xs:=zs) (λi rs H11=>ay H10 H11/\aX K H11 ((ks.take i).map (mI p a e)) rs) ⟨ay.refl _,rfl⟩ (by rw [zl];exact Nat.le_trans kl (by decide)) (λi rs H11 hi ⟨z1,z2⟩=>⟨aW.of (z1 _ _ (S10 _ _ e8)),by rw [z2.length,List.length_map,List.length_take];omega⟩) ?_ ?_
   ·rintro i x rs H11 hx ⟨s11,hr⟩
    obtain⟨d,hd',hv⟩:=(aX.same (S10.trans s11) _ d8).get hx
    rw [List.getElem?_map] at hd'
    obtain⟨y,hy,rfl⟩:=Option.map_eq_some_iff.mp hd'
    obtain⟨m1,m2,m3,m4⟩:=kmem y (List.mem_of_getElem? hy)
    obtain⟨pt,ys,rfl,h1,x1,r1,rfl,e1',x2,r2,rfl,e2',z⟩:=hv
    cases z
    cases e2'
    have e1d:=e1'
    obtain⟨g',rows',e'⟩:=m4.head
    rw [e'] at e1'
    obtain⟨pq,zs',rfl,h2,y1,r3,rfl,f1',f2⟩:=e1'
    cases f1'
    have q2:=m1.two
    have q9:=(ju m4).2
    show mf K 2 _ _ [none,none,some (.int p),some (.int a),some (.int e)] _ _
    refine⟨pt,_,rfl,h1,rfl,?_⟩
    k_data
    refine⟨⟨rfl,rfl,rfl,True.intro⟩,bY h2 pO ⟨y.2.1,rfl,by omega,Bd.of (by omega) (by omega),p,a,e/y.2.1,rfl,by omega,by omega,λ_ H12 s12=>⟨by show 3<=sizeLine;decide,λp13 hp13=>?_⟩,λz=>absurd z (by have:=Int.ediv_nonneg (show 0<=e by omega) (show 0<=y.2.1 by omega);omega)⟩⟩
    have s13:=ao (o:=.tup [V.ref pq,V.int y.2.2,V.int (a^(e/y.2.1).toNat%p)]) hp13
    refine⟨(s11.trans s12).trans s13,?_⟩
    rw [List.take_add_one,hy,List.map_append]
    exact aX.append (aX.same (s12.trans s13) _ hr) (.one (dv.tup ag ⟨_,_,rfl,dv.same (s12.trans s13) _ e1d,_,_,rfl,rfl,.one rfl⟩))
   ·rintro rs H11 p11 ⟨s11,hr⟩ hp11
    rw [zl,List.take_length] at hr
    have s12:=ao (o:=.lst rs) hp11
    refine⟨p11,rfl,rs,.inl ⟨aW.of ag,λl hl'=>⟨by show 2<=sizeLine;decide,λp13 hp13=>?_⟩⟩⟩
    generalize upd H11 p11 _=H12 at *
    have s13:=ao (o:=.tup rs) hl'
    have e13:upd H12 l (.tup rs) l=some (.tup rs):=ag
    generalize upd H12 l _=H13 at *
    have s14:=ao (o:=.tup [V.int e,V.ref l]) hp13
    have ek:mq ps ds ts=ks:=hks
    refine q e ts _ _ eb.1 eb.2 oE' hTO' (((((S8.trans S10).trans s11).trans s12).trans s13).trans s14) ?_
    rw [ek]
    exact dv.tup ag ⟨_,_,rfl,rfl,.one (dv.tup (s14 _ _ e13) (aX.same ((s12.trans s13).trans s14) _ hr))⟩
def vk (p a:Int) (rows:PyData) (r:PyData):Prop:=∃(e:Int) (ps:List (Int × Int)) (ds:Nat->PyData) (ts:List Int),rows=.tuple (Num.rowsOf ps ds)/\Num.Part (p-1) ps/\ps.length<=29/\(∀ i q k,ps[i]?=some (q,k)->Num.gG q (ds i))/\1<=e/\e<p/\Num.Ord p a e.toNat/\Num.TO p a ps ts/\r=.tuple [.int e,.tuple ((mq ps ds ts).map (mI p a e))]
def nO (K:PySem.W.Frag) (C:Addr):Sp:=λvs H Q E=>∃(v:V) (p a g:Int) (rows:PyData),vs=[v,.int a]/\dv K H (.tuple [.int p,.int g,rows]) v/\Num.gG p (.tuple [.int p,.int g,rows]) /\ -(10^60)<=a/\a<=10^60/\(p∣a->yb C H E) /\
 (¬p∣a->∀ r u H',vk p a rows r->ay H H'->dv K H' r u->Q u H')
theorem lL:az ["paper","a","p","full","parts"] ["paper","a"] (ai (top 28)):=fM
theorem qS {C:Addr} (D:aA K mg "order" (top 28)) (c_order_from:Callee P w K mg base a8 13 "order_from" ["n","a","parts"] (rO K)) (x_Nought:gd K mg "Nought" C):Callee P w K mg base (ft P w) 14 "order" ["paper","a"] (nO K C):=by
 refine cX D lL (λf cdv A outer s H vs Q E hr h=>?_)
 obtain⟨v,p,a,g,rows,rfl,hd,hp,a0,a1,q1,q2⟩:=h
 obtain⟨pm,p9⟩:=ju hp
 have p2:=pm.two
 have nd:=lL.nd
 refine⟨_,(ae (rA (pv 0) (iD (n:=3) rfl (aI (aC (i:=2) nd rfl (Or.inl rfl) (.inr rfl)) (aI (aC (i:=3) nd rfl (Or.inl rfl) (.inr rfl)) (aI (aC (i:=4) nd rfl (Or.inl rfl) (.inr rfl)) b6))))) (ae (aZ (av bK (ar aK (pv 1) (pv 2)) af (aw _)) (aj (iH (iC x_Nought rfl))) aF) (fZ.jq (aj (aB (cm c_order_from hr aH (aa (pv 2) (aa (pv 1) (aa (pv 4) ah))))))))),?_⟩
 show bV _ _ _ [some v,some (.int a),none,none,none] H
 obtain⟨g',ps,ds,eq,hg,hP,hl29,hds⟩:=j4 hp
 cases eq
 obtain⟨pp,y1,y2,vr,rfl,tS,e0,eg,dr⟩:=vC hd
 cases e0
 cases eg
 k_data
 refine⟨pp,_,rfl,tS,rfl,?_⟩
 k_data
 refine⟨by omega,bp (λc=>?_) (λc=>?_)⟩
 ·exact λx hx=>oF x_Nought.cls (ay.refl _) hx (q1 (Int.dvd_of_emod_eq_zero c))
 ·have na:¬p∣a:=λz=>c (Int.emod_eq_zero_of_dvd z)
  exact⟨vr,p,a,g,ps,ds,rfl,dr,hp,hP,hl29,hds,na,a0,a1,λe ts u H' e1 e2 o t s' hu=>q2 na _ u H' ⟨e,ps,ds,ts,rfl,hP,hl29,hds,e1,e2,o,t,rfl⟩ s' hu⟩
theorem rg {p a:Int} (hp:Num.Pm p) (na:¬p∣a):∃ m,Num.Ord p a m/\m<=(p-1).toNat:=Num.iw (by have:=hp.two;omega) (Num.gY hp na)
def PW (p a k y:Int):Prop:=∃ b:Int,(0<=k/\b=a∨k<0/\p∣b*a-1)/\y=b^k.natAbs%p
def fL (p b:Int) (e:Nat):List Int:=(List.range e).map λi=>b^i%p
theorem ei {p b:Int} {e:Nat}:(fL p b e).length=e:=by simp [fL]
theorem iI {p b:Int} {e:Nat}:fL p b (e+1)=fL p b e++[b^e%p]:=by simp [fL,List.range_succ]
theorem rG {p b:Int} {e i:Nat} (h:i<e):(fL p b e)[i]?=some (b^i%p):=by simp [fL,h]
theorem lH {p b:Int} {e:Nat} {f:Int->V}:kF ((fL p b (e+1)).map f) (-1)=some (f (b^e%p)):=by
 rw [iI,List.map_append]
 exact pV _ _
theorem nM {p b:Int} (p2:2<=p):fL p b 1=[1]:=by
 show [b^0%p]=[1]
 rw [Int.pow_zero,Int.emod_eq_of_lt (by decide) (by omega)]
def yg (C0 CM:Addr) (p b:Int) (H:Hp) (E:XK) (ok:Nat->Prop):Prop:=(p∣b->yb C0 H E)/\(¬p∣b->∀ e:Nat,Num.Ord p b e->(e:Int)<p->(400<e->yL CM "many" (.int (e:Int)) H E)/\(e<=400->ok e))
def iN (K:PySem.W.Frag) (C0 CM:Addr):Sp:=λvs H Q E=>∃(v:V) (p b g:Int) (rows:PyData),vs=[v,.int b]/\dv K H (.tuple [.int p,.int g,rows]) v/\Num.gG p (.tuple [.int p,.int g,rows]) /\ -(10^60)<=b/\b<=10^60/\yg C0 CM p b H E λe=>∀ a H',ay H H'->H a=none->H' a=some (.lst ((fL p b e).map V.int))->Q (.ref a) H'
theorem fS:az ["paper","b","p","many","found"] ["paper","b"] (ai (top 30)):=fM
theorem ll {C0 CM:Addr} (D:aA K mg "powers_of" (top 30)) (c_order:Callee P w K mg base (ft P w) 14 "order" ["paper","a"] (nO K C0)) (x_TooMany:fh P w K mg base "TooMany" CM "many") (g_MOST_TOLD:∃ t,mg "MOST_TOLD"=some (.int 400 t)) (n_len:mg "len"=none):Callee P w K mg base (ft P w) 15 "powers_of" ["paper","b"] (iN K C0 CM):=by
 refine cX D fS (λf cdv A outer s H vs Q E hr h=>?_)
 obtain⟨v,p,b,g,rows,rfl,hd,hp,b0,b1,q0,q⟩:=h
 obtain⟨t1,g_MOST_TOLD⟩:=g_MOST_TOLD
 obtain⟨pm,p9⟩:=ju hp
 have p2:=pm.two
 have nd:=fS.nd
 refine⟨_,(ae (bw (i:=2) nd (aG aU (pv 0) af (λ_ _=>rfl))) (ae (bw (i:=3) nd (aG aU (cm c_order hr iy (aa (pv 0) (aa (pv 1) ah))) af (λ_ _=>rfl))) (ae (aZ (av cW (pv 3) (bA (v:=.int 400) rfl g_MOST_TOLD ⟨_,rfl⟩) (aw _)) (aj (iH (fm x_TooMany (hr.mono (by decide)) rfl (aa (pv 3) ah)))) aF) (fZ.jq (ae (bw (i:=4) nd (bo (aa af ah))) (ae (bh PassesOwn.never (av gy (aE bW rfl n_len PySem.boot_len (aa (pv 4) ah)) (pv 3) (aw _)) (aj (gM (nE PySem.F.plainAttrs_list PySem.F.slot_list_append PySem.F.type_list_append dY (pv 4) (aa (ar aK (ar aV (aG aO (pv 4) (ly iO af) (λ_ _=>rfl)) (pv 1)) (pv 2)) ah))))) (aj (aB (pv 4))))))))),?_⟩
 show bV _ _ _ [some v,some (.int b),none,none,none] H
 k_data
 have hd':=hd
 obtain⟨pa,us,rfl,hSa,x1,r1,rfl,d1,x2,r2,rfl,d2,x3,r3,rfl,d3,z⟩:=hd
 cases z
 cases d1
 refine⟨pa,_,0,.int p,rfl,rfl,hSa,rfl,?_⟩
 refine⟨_,p,b,g,rows,rfl,hd',hp,b0,b1,q0,λnb r u H1 ho s1 hu=>?_⟩
 obtain⟨e,ps,ds,ts,_,hP,_,_,e1,e2,oe,hT,rfl⟩:=ho
 obtain⟨pu,ys,rfl,hSu,y2,s2,rfl,e2',y3,s3,rfl,_,z⟩:=hu
 cases z
 cases e2'
 refine⟨pu,_,0,.int e,rfl,rfl,hSu,rfl,?_⟩
 obtain⟨m,rfl⟩:∃ m:Nat,e=m:=⟨e.toNat,by omega⟩
 have om:Num.Ord p b m:=oe
 have Q1:=q nb m om e2
 refine⟨_,rfl,bp (λc=>?_) (λc=>?_)⟩
 ·exact λx dx hx hdx ne=>oG x_TooMany.cls s1 hx hdx ne (Q1.1 (by omega))
 have m4:m<=400:=by omega
 have m0:=om.pos
 refine⟨by show 1<=sizeLine;decide,λa ha=>?_⟩
 have fa:H a=none:=s1.free ha
 refine bj (α:=Nat) (λ_=>[some (V.ref pa),some (V.int b),some (V.int p),some (V.int (m:Int)),some (V.ref a)]) (λk H'=>1<=k/\k<=m/\ay H H'/\H' a=some (.lst ((fL p b k).map V.int))) (λk=>m-k) 1 rfl ⟨Nat.le_refl _,m0,s1.trans (ao ha),by rw [nM p2];exact ag⟩ ?_
 rintro k H' ⟨k1,km,s',ea⟩
 have lk:((fL p b k).map V.int).length=k:=by rw [List.length_map,ei]
 k_data
 refine di (aW.of ea) ⟨_,rfl,?_⟩
 rw [lk]
 refine bp (λc=>?_) (λc=>?_)
 ·refine⟨_,λ_ _ z=>z,.inl ⟨rfl,_,aW.of ea⟩,?_⟩
  obtain⟨j,rfl⟩:∃ j,k=j+1:=⟨k-1,by omega⟩
  have r0:=Int.emod_nonneg (b^j) (show p≠0 by omega)
  have r1:=Int.emod_lt_of_pos (b^j) (show 0<p by omega)
  refine⟨a,_,-1,V.int (b^j%p),rfl,rfl,aW.of ea,lH,_,rfl,Bd.of (by omega) (by omega),Bd.of (by omega) (by omega),by omega,?_⟩
  refine⟨a,_,_,rfl,rfl,ea,by rw [lk];exact Nat.lt_of_le_of_lt (show j+1<=400 by omega) (by decide),rfl,j+1+1,by omega,by omega,(λb' o e=>by rw [ak (λz=>by rw [z,fa] at e;cases e)];exact s' _ _ e),?_,by omega⟩
  rw [ag,iI (e:=j+1),List.map_append]
  have:b^j%p*b%p=b^(j+1)%p:=by rw [Int.pow_succ,Int.mul_emod,Int.emod_emod_of_dvd _ (Int.dvd_refl p),<- Int.mul_emod]
  rw [this]
  rfl
 ·obtain rfl:k=m:=by omega
  exact (Q1.2 m4) a H' s' fa ea
def mP (p b:Int) (e:Nat):List (Key × V):=(List.range e).map λi:Nat=>(Sum.inl (b^i%p),V.int (i:Int))
theorem lG {p b:Int} {e:Nat}:mP p b (e+1)=mP p b e++[(Sum.inl (b^e%p),V.int (e:Int))]:=by simp [mP,List.range_succ]
theorem j8 {p b:Int} {e:Nat}:(mP p b e).length=e:=by simp [mP]
theorem rE {p b:Int} {e:Nat}:(mP p b e).map (·.1)=(fL p b e).map Sum.inl:=by simp [mP,fL]
theorem rF {p b:Int} {e:Nat}:(mP p b e).map (·.2)=((List.range e).map λi:Nat=>(i:Int)).map V.int:=by simp [mP]
theorem gN {p b:Int} {m:Nat} (o:Num.Ord p b m):∀{e:Nat},e<=m->∀{i:Nat},i<m->cp (mP p b e) (Sum.inl (b^i%p))=if i<e then some (.int (i:Int)) else none
 | 0,_,i,_=>by rw [if_neg (by omega)];rfl
 | e+1,h,i,hi=>by
  have ih:=gN o (e:=e) (by omega) hi
  have hn:=gN o (e:=e) (by omega) (i:=e) (by omega)
  rw [if_neg (by omega)] at hn
  rw [lG,<- lD _ hn,sg,ih]
  by_cases c:i=e
  ·subst c
   rw [if_pos rfl,if_pos (by omega)]
  ·rw [if_neg (λz=>c ?_)]
   ·by_cases c2:i<e
    ·rw [if_pos c2,if_pos (by omega)]
    ·rw [if_neg c2,if_neg (by omega)]
   ·injection z with z
    exact o.inj o.co hi (by omega) (Num.Al.iff.mpr z)
def mR (K:PySem.W.Frag) (C0 CM:Addr):Sp:=λvs H Q E=>∃(v:V) (p b g:Int) (rows:PyData),vs=[v,.int b]/\dv K H (.tuple [.int p,.int g,rows]) v/\Num.gG p (.tuple [.int p,.int g,rows]) /\ -(10^60)<=b/\b<=10^60/\yg C0 CM p b H E λe=>∀ a H',ay H H'->H a=none->H' a=some (.dK (mP p b e))->Q (.ref a) H'
theorem fR:az ["paper","b"] ["paper","b"] (ai (top 31)):=fM
theorem lj {C0 CM:Addr} (D:aA K mg "places_of" (top 31)) (c_powers_of:Callee P w K mg base (ft P w) 15 "powers_of" ["paper","b"] (iN K C0 CM)) (n_enumerate:mg "enumerate"=none):Callee P w K mg base (ft P w) 16 "places_of" ["paper","b"] (mR K C0 CM):=by
 refine cX D fR (λf cdv A outer s H vs Q E hr h=>?_)
 obtain⟨v,p,b,g,rows,rfl,hd,hp,b0,b1,q0,q⟩:=h
 have nd:=fR.nd
 refine⟨_,(aj (aB (xu rfl (sk (N':=["place","number"]) (js:=[none,none]) rfl rfl) (tY rfl n_enumerate (aa (cm c_powers_of hr iy (aa (pv 0) (aa (pv 1) ah))) ah)) (λ_ _ _ _=>(dZ K rfl (n:=2) rfl (aI (aC (i:=0) (show List.Nodup [("place":Str),("number":Str)] from by decide +kernel) rfl (Or.inl rfl) (.inr rfl)) (aI (aC (i:=1) (show List.Nodup [("place":Str),("number":Str)] from by decide +kernel) rfl (Or.inl rfl) (.inr rfl)) b6)))) (λ_ _ _ _=>cj) (λ_ _ _ _=>(pv 1)) (λ_ _ _ _=>(pv 0))))),?_⟩
 show pJ _ _ [some v,some (.int b)] H
 k_data
 refine⟨v,p,b,g,rows,rfl,hd,hp,b0,b1,q0,λnb e oe e2=>⟨(q nb e oe e2).1,λe4 a H1 s1 fa ea=>?_⟩⟩
 have q:=(q nb e oe e2).2 e4
 refine⟨a,rfl,⟨_,aW.of ea⟩,?_⟩
 refine l8 (xs:=(fL p b e).map V.int) (λD i H'=>ay H H'/\H D=none/\H' D=some (.dK (mP p b i))/\H' a=some (.lst ((fL p b e).map V.int))) (λD hD=>⟨s1.trans (ao hD),s1.free hD,ag,ao hD _ _ ea⟩) (λD i H' _ h=>aW.of h.2.2.2) ?_ (λD H' h=>?_)
 ·rintro D i x H' pt hx ⟨s',fD,eD,eL⟩ hpt
  have il:i<e:=by
   have:=(List.getElem?_eq_some_iff.mp hx).1
   rwa [List.length_map,ei] at this
  rw [List.getElem?_map,rG il] at hx
  cases hx
  have s2:=ao (o:=.tup [V.int (i:Int),V.int (b^i%p)]) hpt
  have eD2:=s2 _ _ eD
  have eL2:=s2 _ _ eL
  have aD:a≠D:=λz=>by rw [z,eD] at eL;cases eL
  refine⟨pt,_,rfl,cF.of ag,rfl,?_⟩
  simp only [bc,List.map_nil,List.map_cons,Option.join]
  k_data
  refine⟨True.intro,?_⟩
  refine⟨_,⟨_,Sum.inl (b^i%p),eD2,rfl,by rw [j8];exact Nat.lt_of_le_of_lt (show i<=400 by omega) (by decide),rfl⟩,λb' o z=>?_,fD,?_,?_⟩
  ·rw [ak (λy=>by rw [y,fD] at z;cases z)]
   exact s2 _ _ (s' _ _ z)
  ·rw [ag,lG,lD]
   have:=gN oe (e:=i) (by omega) (i:=i) il
   rwa [if_neg (by omega)] at this
  ·rw [ak aD]
   exact eL2
 ·rw [List.length_map,ei] at h
  exact q D H' h.1 h.2.1 h.2.2.1
def nU (K:PySem.W.Frag):Sp:=λvs H Q _=>∃(v:V) (p b g:Int) (rows:PyData),vs=[v,.int b]/\dv K H (.tuple [.int p,.int g,rows]) v/\Num.gG p (.tuple [.int p,.int g,rows])/\¬p∣b/\∀ e:Nat,Num.Ord p b e->(e:Int)<p->Q (.int (e:Int)) H
structure wM (o N:Nat) (ps:List (Int × Int)) (i:Nat) (x:Nat):Prop where
 dv:o∣x
 le:x∣N
 pos:0<x
 no:∀(j:Nat) (y:Int × Int),j<i->ps[j]?=some y->¬(y.1.toNat*o∣x)
theorem wM.fin {o N:Nat} {ps:List (Int × Int)} {x:Nat} (h:wM o N ps ps.length x) (o0:0<o) (hq:∀ q:Nat,2<=q->(∀ d,d∣q->d=1∨d=q)->q∣N->∃(j:Nat) (y:Int × Int),ps[j]?=some y/\y.1.toNat=q):x=o:=by
 obtain⟨t,ht⟩:=h.dv
 have x0:=h.pos
 rcases (by omega:t=0∨t=1∨2<=t) with z | z | z
 ·rw [z] at ht;omega
 ·rw [z,Nat.mul_one] at ht;exact ht
 ·exfalso
  obtain⟨q,q2,qp,qt⟩:∃ q,2<=q/\(∀ d,d∣q->d=1∨d=q)/\q∣t:=by
   have:∀ n t:Nat,t<=n->2<=t->∃ q,2<=q/\(∀ d,d∣q->d=1∨d=q)/\q∣t:=by
    intro n
    induction n with
    | zero=>intro t h1 h2;omega
    | succ n ih =>
     intro t h1 h2
     by_cases c:∀ d,d∣t->d=1∨d=t
     ·exact⟨t,h2,c,Nat.dvd_refl _⟩
     ·obtain⟨d,hd⟩:=Classical.not_forall.mp c
      obtain⟨h3,h4⟩:=Classical.not_imp.mp hd
      have d0:0<d:=Nat.pos_of_dvd_of_pos h3 (by omega)
      have dl:=Nat.le_of_dvd (by omega) h3
      obtain⟨q,a1,a2,a3⟩:=ih d (by omega) (by omega)
      exact⟨q,a1,a2,Nat.dvd_trans a3 h3⟩
   exact this t t (Nat.le_refl _) z
  have qx:q*o∣x:=by rw [ht,Nat.mul_comm o t];exact Nat.mul_dvd_mul_right qt o
  obtain⟨j,y,e1,e2⟩:=hq q q2 qp (Nat.dvd_trans (Nat.dvd_trans (Nat.dvd_mul_right q o) qx) h.le)
  exact h.no j y (List.getElem?_eq_some_iff.mp e1).1 e1 (by rw [e2];exact qx)
theorem eU:az ["_law_paper_here","_law_b","_law_e","_law_part"] ["_law_paper_here","_law_b"] (ai (top 42)):=fM
theorem qZ (D:aA K mg "_law_steps" (top 42)) (c__law_power:Callee P w K mg base a8 1 "_law_power" ["_law_n","_law_a","_law_e"] dR):Callee P w K mg base a8 2 "_law_steps" ["_law_paper_here","_law_b"] (nU K):=by
 refine cO D eU (λf cdv A outer s H vs Q E hr h=>?_)
 obtain⟨v,p,b,g,rows,rfl,hd,hp,nb,q⟩:=h
 obtain⟨pm,p9⟩:=ju hp
 have p2:=pm.two
 have nd:=eU.nd
 refine⟨_,(ae (bw (i:=2) nd (ar cS (aG aU (pv 0) af (λ_ _=>rfl)) af)) (ae (cT PassesOwn.never rfl (mK (aG aU (pv 0) af (λ_ _=>rfl))) (aC (i:=3) nd rfl (Or.inl rfl) (.inr rfl)) (aj (bh PassesOwn.never (PW.pt (mQ (av bK (ar aK (pv 2) (aG aU (aG aU (pv 3) af (λ_ _=>rfl)) af (λ_ _=>rfl))) af (aw _)) (j9 (av bK (cm c__law_power hr aH (aa (aG aU (pv 0) af (λ_ _=>rfl)) (aa (pv 1) (aa (ar bG (pv 2) (aG aU (aG aU (pv 3) af (λ_ _=>rfl)) af (λ_ _=>rfl))) ah)))) af (aw _))))) (aj (bw (i:=2) nd (ar bG (pv 2) (aG aU (aG aU (pv 3) af (λ_ _=>rfl)) af (λ_ _=>rfl)))))))) (aj (aB (pv 2))))),?_⟩
 show bV _ _ _ [some v,some (.int b),none,none] H
 obtain⟨g',ps,ds,eq,hg,hP,hl29,hds⟩:=j4 hp
 cases eq
 obtain⟨pp,y1,y2,vr,rfl,tS,e0,eg,dr⟩:=vC hd
 cases e0
 cases eg
 obtain⟨pr,xs,rfl,hSr,hdr⟩:=dr
 have xl:xs.length=ps.length:=by rw [hdr.length,Num.bC]
 obtain⟨o,oo,ol⟩:=rg pm nb
 have o0:=oo.pos
 have q:=q o oo (by omega)
 have oN:o∣(p-1).toNat:=oo.dv _ (Num.gY pm nb)
 have isone:∀ k:Nat,b^k%p=1↔o∣k:=λk=>⟨λz=>oo.dv k ((cw p2).mp z),λz=>by
  obtain⟨t,rfl⟩:=z
  exact (cw p2).mpr (Num.aR oo.one)⟩
 k_data
 refine bY tS rfl ⟨p,rfl,bY tS rfl ⟨pr,rfl,⟨_,hSr⟩,?_⟩⟩
 refine k9 (xs:=xs) (λi σ' H'=>H'=H/\∃(x:Nat) (o3:Option V),σ'=[some (.ref pp),some (.int b),some (.int (x:Int)),o3]/\wM o (p-1).toNat ps i x) ⟨rfl,(p-1).toNat,none,by rw [show (((p-1).toNat:Nat):Int)=p-1 by omega],⟨oN,Nat.dvd_refl _,by omega,λj y z=>absurd z (Nat.not_lt_zero _)⟩⟩ (λi σ' H' _ h=>by rw [h.1];exact hSr) ?_ ?_
 ·rintro i z σ' H' hz ⟨rfl,x,o3,rfl,I⟩
  obtain⟨q',k',pt,pq,r',hy,rfl,t1,t2⟩:=jS hdr (qE hds) hz
  have q2:2<=q':=(hP.ok _ (List.mem_of_getElem? hy)).1.two
  obtain⟨r,rfl⟩:∃ r:Nat,q'=r:=⟨q'.toNat,by omega⟩
  k_data
  refine bj (α:=Nat) (λx=>[some (.ref pp),some (.int b),some (.int (x:Int)),some (.ref pt)]) (λx H2=>H2=H'/\wM o (p-1).toNat ps i x) (λx=>x) x rfl ⟨rfl,I⟩ ?_
  rintro x H2 ⟨rfl,I⟩
  have x0:=I.pos
  have xN:=Nat.le_of_dvd (by omega) I.le
  k_data
  have t1:=t1
  have rp:(0:Int)<(r:Int):=by omega
  have rx:((x:Int)%(r:Int)=0)↔r∣x:=by rw [<- Int.natCast_emod];exact⟨λz=>Nat.dvd_of_mod_eq_zero (by omega),λz=>by rw [Nat.mod_eq_zero_of_dvd z];rfl⟩
  have rb:r<=(p-1).toNat:=Nat.le_of_dvd (by omega) (by
   have:=Num.cV (List.mem_of_getElem? hy) (hP.ok _ (List.mem_of_getElem? hy)).2.1
   rw [hP.prod] at this
   have h3:((r:Nat):Int)∣(((p-1).toNat:Nat):Int):=by rw [show (((p-1).toNat:Nat):Int)=p-1 by omega];exact this
   exact Int.natCast_dvd_natCast.mp h3)
  have stop:¬(r*o∣x)->wM o (p-1).toNat ps (i+1) x:=λz=>⟨I.dv,I.le,I.pos,λj y hj e=>by
   rcases (by omega:j<i∨j=i) with h | h
   ·exact I.no j y h e
   ·rw [h,hy] at e
    cases e
    exact z⟩
  refine bY t1 rfl (bY t2 pO ⟨_,rfl,rp,bp (λc=>?_) (λc=>⟨rfl,x,rfl,stop λz=>c (rx.mpr (Nat.dvd_trans (Nat.dvd_mul_right r o) z))⟩)⟩)
  obtain⟨t,ht⟩:=rx.mp c
  have tq:(x:Int)/(r:Int)=(t:Int):=by rw [<- Int.natCast_ediv,ht,Nat.mul_div_cancel_left t (by omega)]
  have tx:t<x:=by
   have t0:0<t:=by rcases Nat.eq_zero_or_pos t with z | z;rw [z] at ht;omega;exact z
   have:=Nat.mul_le_mul_right t (show 2<=r by omega)
   omega
  refine bY tS rfl (bY t1 rfl (bY t2 pO ⟨_,rfl,rp,Bd.of (by omega) (by omega),p,b,_,rfl,by omega,by omega,by rw [tq];omega,rfl,?_⟩))
  rw [tq,Int.toNat_natCast]
  have inj:(V.int (b^t%p)=V.int 1)↔o∣t:=by rw [V.int.injEq];exact isone t
  refine bp (λc2=>?_) (λc2=>⟨rfl,x,rfl,stop λz=>c2 (inj.mpr ?_)⟩)
  ·refine⟨_,λ_ _ z=>z,bY t1 rfl (bY t2 pO ⟨_,rfl,rp,Bd.of (by omega) (by omega),t,by rw [tq],rfl,⟨inj.mp c2,Nat.dvd_trans ⟨r,by rw [ht,Nat.mul_comm]⟩ I.le,by rcases Nat.eq_zero_or_pos t with z | z;rw [z] at ht;omega;exact z,λj y hj e z=>I.no j y hj e (Nat.dvd_trans z ⟨r,by rw [ht,Nat.mul_comm]⟩)⟩,tx⟩)⟩
  ·rw [ht] at z
   exact Nat.dvd_of_mul_dvd_mul_left (by omega) z
 ·rintro σ' H' ⟨rfl,x,o3,rfl,I⟩
  rw [xl] at I
  have:=I.fin o0 λq hq2 hqp hqN=>by
   have hPq:Num.Pm (q:Int):=⟨by omega,λd d2 dq dd=>by
    obtain⟨m,rfl⟩:∃ m:Nat,d=m:=⟨d.toNat,by omega⟩
    rcases hqp m (Int.natCast_dvd_natCast.mp dd) with z | z<;>omega⟩
   obtain⟨y,hy,e⟩:=Num.cY (q:=(q:Int)) hPq (ps:=ps) (λp hp=>(hP.ok p hp).1) (by
    rw [hP.prod,show p-1=(((p-1).toNat:Nat):Int) by omega]
    exact Int.natCast_dvd_natCast.mpr hqN)
   obtain⟨j,hj,e2⟩:=List.mem_iff_getElem.mp hy
   exact⟨j,y,by rw [<- e2];exact List.getElem?_eq_getElem hj,by omega⟩
  subst this
  k_data
  exact q
def xE (K:PySem.W.Frag) (C0 CM:Addr) (ho:Int->Int->Nat->HO):Sp:=λvs H Q E=>∃(v:V) (p b g:Int) (rows:PyData),vs=[v,.int b]/\dv K H (.tuple [.int p,.int g,rows]) v/\Num.gG p (.tuple [.int p,.int g,rows]) /\ -(10^60)<=b/\b<=10^60/\yg C0 CM p b H E λe=>∀ a H',ay H H'->H a=none->H' a=some (ho p b e)->Q (.ref a) H'
def mS (K:PySem.W.Frag) (fn:Addr) (ho:Int->Int->Nat->HO):Sp:=λvs H Q _=>∃(v:V) (p b g:Int) (rows:PyData),vs=[.ref fn,v,.int b]/\dv K H (.tuple [.int p,.int g,rows]) v/\Num.gG p (.tuple [.int p,.int g,rows]) /\ -(10^60)<=b/\b<=10^60 /\
 (p∣b->∀ u H',ay H H'->dv K H' (.list [.none,.str "nought",.none]) u->Q u H') /\
 (¬p∣b->∀ e:Nat,Num.Ord p b e->(e:Int)<p->(400<e->∀ u H',ay H H'->dv K H' (.list [.none,.str "many",.int (e:Int)]) u->Q u H') /\
  (e<=400->∀ u a H',ay H H'->H u=none->H a=none->H' u=some (.lst [.ref a,.str "",.non])->H' a=some (ho p b e)->Q (.ref u) H'))
theorem fO:az ["_law_asked","_law_paper_here","_law_b","_law_found","_law_word","_law_many","_law_error"] ["_law_asked","_law_paper_here","_law_b"] (ai (top 43)):=fM
theorem nA {C0 CM fn:Addr} {fd:FuncData} {ho:Int->Int->Nat->HO} (D:aA K mg "_law_told" (top 43)) (f_F:bR P w K mg base (ft P w) 16 fn fd ["paper","b"] (xE K C0 CM ho)) (f_k:PySem.W.keepIn K (.ref fn)=true) (f_b:Binds K fd ["paper","b"] []) (x_Nought:gd K mg "Nought" C0) (x_TooMany:fh P w K mg base "TooMany" CM "many") (mN:PySem.W.mroIn K C0 (.ref C0)=some true) (mM:PySem.W.mroIn K CM (.ref CM)=some true) (mMN:PySem.W.mroIn K CM (.ref C0)=some false):Callee P w K mg base a8 17 "_law_told" ["_law_asked","_law_paper_here","_law_b"] (mS K fn ho):=by
 refine cO D fO (λf cdv A outer s H vs Q E hr h=>?_)
 obtain⟨v,p,b,g,rows,rfl,hd,hp,b0,b1,q0,q⟩:=h
 have nd:=fO.nd
 refine⟨_,(ae (bw (i:=3) nd iA) (ae (bw (i:=4) nd bI) (ae (bw (i:=5) nd iA) (ae (pB (i:=3) (j:=0) f_F f_k f_b (hr.mono (by decide)) (pv 0) rfl rfl nd rfl rfl (aa (pv 1) (aa (pv 2) ah)) (vX x_Nought.cls rfl x_Nought.at_ (λ_=>(aj (bw (i:=4) nd bI)))) (vW (i:=6) x_TooMany.cls rfl x_TooMany.at_ nd rfl rfl (λ_=>(ae (bw (i:=4) nd bI) (aj (bw (i:=5) nd (cf K rfl (pv 6)))))))) (aj (aB (bo (aa (pv 3) (aa (pv 4) (aa (pv 5) ah)))))))))),?_⟩
 show bV _ _ _ [some (.ref fn),some v,some (.int b),none,none,none,none] H
 k_data
 refine⟨v,p,b,g,rows,rfl,hd,hp,b0,b1,λh x H' s' fx ex=>?_,λnb e oe ep=>⟨λe4 x dx H' s' fx ex ed=>?_,λe4 a H' s' fa ea=>?_⟩⟩
 ·refine⟨C0,rfl,x,rfl,none,ex,x_Nought.cls,.inl ⟨mN,by show 3<=sizeLine;decide,λpr hpr=>?_⟩⟩
  exact q0 h _ _ (s'.trans (ao hpr)) (dv.lst ag ⟨_,_,rfl,rfl,_,_,rfl,rfl,.one rfl⟩)
 ·refine⟨CM,rfl,x,rfl,some dx,ex,x_TooMany.cls,.inr ⟨mMN,mM,CM,dx,.inl ex,x_TooMany.cls,x_TooMany.nof,_,ed,_,by rfl,by show 3<=sizeLine;decide,λpr hpr=>?_⟩⟩
  exact (q nb e oe ep).1 e4 _ _ (s'.trans (ao hpr)) (dv.lst ag ⟨_,_,rfl,rfl,_,_,rfl,rfl,.one rfl⟩)
 ·refine⟨by show 3<=sizeLine;decide,λpr hpr=>?_⟩
  exact (q nb e oe ep).2 e4 pr a _ (s'.trans (ao hpr)) (s'.free hpr) fa ag (ao hpr _ _ ea)
structure WK (K:PySem.W.Frag) (C:Addr) (cs:List Addr) (j:Nat):Prop where
 cls:aS K C
 kit:∀(i:Nat) c,cs[i]?=some c->PySem.W.kitOne K (.ref C) (.ref c)=some (decide (i=j))
def yq (j:Nat):List PyData:=(List.range 10).map λi=>.bool (decide (i=j))
def nN (K:PySem.W.Frag) (cs:List Addr):Sp:=λvs H Q _=>∃(x C:Addr) (dd:Option Addr) (j:Nat),vs=[.ref x]/\gc H x C dd/\(∀ dx,dd=some dx->∃ fs,H dx=some (.xd fs))/\WK K C cs j/\∀ u H',ay H H'->dv K H' (.list (yq j)) u->Q u H'
theorem eO:az ["_law_error","_law_found"] ["_law_error"] (ai (top 44)):=fM
theorem qR {c0 c1 c2 c3 c4 c5 c6 c7 c8 c9:Addr} (D:aA K mg "_law_kinds" (top 44)) (x_NoNumber:gd K mg "NoNumber" c0) (x_NoOrder:gd K mg "NoOrder" c1) (x_Nought:gd K mg "Nought" c2) (x_NoRow:gd K mg "NoRow" c3) (x_NoPrime:fh P w K mg base "NoPrime" c4 "divisor") (x_NoInverse:fh P w K mg base "NoInverse" c5 "divisor") (x_NoRoot:fh P w K mg base "NoRoot" c6 "rest") (x_TooMany:fh P w K mg base "TooMany" c7 "many") (x_TooFar:fh P w K mg base "TooFar" c8 "part") (x_NoText:sG P w K mg base "NoText" c9 "line" "word") (n_isinstance:mg "isinstance"=none):Callee P w K mg base a8 1 "_law_kinds" ["_law_error"] (nN K [c0,c1,c2,c3,c4,c5,c6,c7,c8,c9]):=by
 refine cO D eO (λf cdv A outer s H vs Q E hr h=>?_)
 obtain⟨x,C,dd,j,rfl,hx,hdd,wk,q⟩:=h
 have nd:=eO.nd
 refine⟨_,(ae (bw (i:=1) nd (bo (aa (aE (a7 K rfl) rfl n_isinstance PyProof.Rows.boot_isinstance (aa (pv 0) (aa (bA (v:=.ref _) rfl x_NoNumber.at_ rfl) ah))) (aa (aE (a7 K rfl) rfl n_isinstance PyProof.Rows.boot_isinstance (aa (pv 0) (aa (bA (v:=.ref _) rfl x_NoOrder.at_ rfl) ah))) (aa (aE (a7 K rfl) rfl n_isinstance PyProof.Rows.boot_isinstance (aa (pv 0) (aa (bA (v:=.ref _) rfl x_Nought.at_ rfl) ah))) ah))))) (ae (bw (i:=1) nd (ar ir (pv 1) (bo (aa (aE (a7 K rfl) rfl n_isinstance PyProof.Rows.boot_isinstance (aa (pv 0) (aa (bA (v:=.ref _) rfl x_NoRow.at_ rfl) ah))) (aa (aE (a7 K rfl) rfl n_isinstance PyProof.Rows.boot_isinstance (aa (pv 0) (aa (bA (v:=.ref _) rfl x_NoPrime.at_ rfl) ah))) (aa (aE (a7 K rfl) rfl n_isinstance PyProof.Rows.boot_isinstance (aa (pv 0) (aa (bA (v:=.ref _) rfl x_NoInverse.at_ rfl) ah))) ah)))))) (ae (bw (i:=1) nd (ar ir (pv 1) (bo (aa (aE (a7 K rfl) rfl n_isinstance PyProof.Rows.boot_isinstance (aa (pv 0) (aa (bA (v:=.ref _) rfl x_NoRoot.at_ rfl) ah))) (aa (aE (a7 K rfl) rfl n_isinstance PyProof.Rows.boot_isinstance (aa (pv 0) (aa (bA (v:=.ref _) rfl x_TooMany.at_ rfl) ah))) (aa (aE (a7 K rfl) rfl n_isinstance PyProof.Rows.boot_isinstance (aa (pv 0) (aa (bA (v:=.ref _) rfl x_TooFar.at_ rfl) ah))) ah)))))) (aj (aB (ar ir (pv 1) (bo (aa (aE (a7 K rfl) rfl n_isinstance PyProof.Rows.boot_isinstance (aa (pv 0) (aa (bA (v:=.ref _) rfl x_NoText.at_ rfl) ah))) ah)))))))),?_⟩
 show bV _ _ _ [some (.ref x),none] H
 k_data
 have step:∀{H':Hp} {c:V} {cv:Value} {b:Bool} {Q:VK},ay H H'->wN c=some cv->PySem.W.kitOne K (.ref C) cv=some b->Q (.bl b) H'->rJ K [.ref x,c] H' Q:=λs h1 h2 h3=>⟨x,C,dd,_,_,_,rfl,h1,hx.imp (s _ _) (s _ _),(λdx e=>let ⟨fs,z⟩:=hdd dx e;⟨fs,s _ _ z⟩),wk.cls,h2,h3⟩
 have r:=ay.refl H
 refine step r rfl (wk.kit 0 c0 rfl) (step r rfl (wk.kit 1 c1 rfl) (step r rfl (wk.kit 2 c2 rfl) ⟨by show 3<=sizeLine;decide,λp1 hp1=>?_⟩))
 have s1:=ao (o:=.lst [V.bl (decide (0=j)),V.bl (decide (1=j)),V.bl (decide (2=j))]) hp1
 have e1:=ag (H:=H) (a:=p1) (o:=.lst [V.bl (decide (0=j)),V.bl (decide (1=j)),V.bl (decide (2=j))])
 generalize upd H p1 _=H1 at *
 refine step s1 rfl (wk.kit 3 c3 rfl) (step s1 rfl (wk.kit 4 c4 rfl) (step s1 rfl (wk.kit 5 c5 rfl) ⟨by show 3<=sizeLine;decide,λp2 hp2=>?_⟩))
 have s2:=ao (o:=.lst [V.bl (decide (3=j)),V.bl (decide (4=j)),V.bl (decide (5=j))]) hp2
 have e2:=ag (H:=H1) (a:=p2) (o:=.lst [V.bl (decide (3=j)),V.bl (decide (4=j)),V.bl (decide (5=j))])
 generalize upd H1 p2 _=H2 at *
 refine⟨p1,p2,_,_,rfl,rfl,s2 _ _ e1,e2,by show 6<=sizeLine;decide,λp3 hp3=>?_⟩
 have s3:=ao (o:=.lst ([V.bl (decide (0=j)),V.bl (decide (1=j)),V.bl (decide (2=j))]++[V.bl (decide (3=j)),V.bl (decide (4=j)),V.bl (decide (5=j))])) hp3
 have e3:=ag (H:=H2) (a:=p3) (o:=.lst ([V.bl (decide (0=j)),V.bl (decide (1=j)),V.bl (decide (2=j))]++[V.bl (decide (3=j)),V.bl (decide (4=j)),V.bl (decide (5=j))]))
 generalize upd H2 p3 _=H3 at *
 have S3:=(s1.trans s2).trans s3
 refine step S3 rfl (wk.kit 6 c6 rfl) (step S3 rfl (wk.kit 7 c7 rfl) (step S3 rfl (wk.kit 8 c8 rfl) ⟨by show 3<=sizeLine;decide,λp4 hp4=>?_⟩))
 have s4:=ao (o:=.lst [V.bl (decide (6=j)),V.bl (decide (7=j)),V.bl (decide (8=j))]) hp4
 have e4:=ag (H:=H3) (a:=p4) (o:=.lst [V.bl (decide (6=j)),V.bl (decide (7=j)),V.bl (decide (8=j))])
 generalize upd H3 p4 _=H4 at *
 refine⟨p3,p4,_,_,rfl,rfl,s4 _ _ e3,e4,by show 9<=sizeLine;decide,λp5 hp5=>?_⟩
 have s5:=ao (o:=.lst ([V.bl (decide (0=j)),V.bl (decide (1=j)),V.bl (decide (2=j))]++[V.bl (decide (3=j)),V.bl (decide (4=j)),V.bl (decide (5=j))]++[V.bl (decide (6=j)),V.bl (decide (7=j)),V.bl (decide (8=j))])) hp5
 have e5:=ag (H:=H4) (a:=p5) (o:=.lst ([V.bl (decide (0=j)),V.bl (decide (1=j)),V.bl (decide (2=j))]++[V.bl (decide (3=j)),V.bl (decide (4=j)),V.bl (decide (5=j))]++[V.bl (decide (6=j)),V.bl (decide (7=j)),V.bl (decide (8=j))]))
 generalize upd H4 p5 _=H5 at *
 have S5:=S3.trans (s4.trans s5)
 refine step S5 rfl (wk.kit 9 c9 rfl) ⟨by show 1<=sizeLine;decide,λp6 hp6=>?_⟩
 have s6:=ao (o:=.lst [V.bl (decide (9=j))]) hp6
 refine⟨p5,p6,_,_,rfl,rfl,s6 _ _ e5,ag,by show 10<=sizeLine;decide,λp7 hp7=>?_⟩
 refine q _ _ (S5.trans (s6.trans (ao hp7))) (dv.lst ag ?_)
 exact⟨_,_,rfl,rfl,_,_,rfl,rfl,_,_,rfl,rfl,_,_,rfl,rfl,_,_,rfl,rfl,_,_,rfl,rfl,_,_,rfl,rfl,_,_,rfl,rfl,_,_,rfl,rfl,.one rfl⟩
end
end K
namespace L2
open PySem PySem.Spec PyProof.Rows
theorem kI {lo:Int} {n:Nat} {js:List (Option Nat)} {g:TG} {tt:TT} {te:TE} {σ:St} {Q:VK} {H1:Hp} (Pv:Nat->List V->Hp->Prop) (h0:Pv 0 [] H1) (hx:n<=sizeLine) (hl:∀ i ys H,i<=n->Pv i ys H->ys.length<=i)
  (hs:∀ i ys H,i<n->Pv i ys H->g (.int (lo+(i:Int))) (bc js σ) H λσ2 H2=>a6 (bc js σ) σ2/\tt σ2 H2 λb H3=>if b=true then te σ2 H3 λv H4=>Pv (i+1) (ys++[v]) H4 else Pv (i+1) ys H3)
  (hd:∀ ys H p,Pv n ys H->H p=none->Q (.ref p) (upd H p (.lst ys))):kz (sr lo n) js g tt te σ Q H1:=by
 refine⟨λi m ys H=>m=n-i/\i<=n/\Pv i ys H,⟨n,by simp,Nat.zero_le _,h0⟩,?_⟩
 rintro i m ys H ⟨rfl,hi,p⟩
 have hy:=hl i ys H hi p
 by_cases hlt:i<n
 ·refine .inr ⟨hlt,by omega,Pv (i+1),λys' H' p'=>⟨n-(i+1),by omega,rfl,by omega,p'⟩,?_⟩
  rintro x H' ⟨rfl,rfl⟩
  exact hs i ys H' hlt p
 ·have e:i=n:=by omega
  subst e
  exact .inl ⟨Nat.le_refl _,by omega,λq hq=>hd ys H q p hq⟩
end L2
namespace K
open PySem PySem.Spec PyProof.Rows L2
section
variable {P:Program} {w:World} {K:PySem.W.Frag} {mg:Str->Option Value} {base:Heap}
theorem xp {H:Hp} {C x dx:Addr} {f:Str} {v:V} (hx:H x=none) (hd:H dx=none) (ne:dx≠x):ay H (upd (upd (upd H x (XN x C none)) dx (.xd [(f,v)])) x (XN x C (some dx)))/\gc (upd (upd (upd H x (XN x C none)) dx (.xd [(f,v)])) x (XN x C (some dx))) x C (some dx)/\upd (upd (upd H x (XN x C none)) dx (.xd [(f,v)])) x (XN x C (some dx)) dx=some (.xd [(f,v)]):=by
 refine⟨λb o e=>?_,.inr ag,by rw [ak ne,ag]⟩
 have bx:b≠x:=λy=>by rw [y,hx] at e;cases e
 have bd:b≠dx:=λy=>by rw [y,hd] at e;cases e
 rw [ak bx,ak bd,ak bx]
 exact e
theorem zr {H:Hp} {C x dx:Addr} {f g:Str} {v u:V} (hx:H x=none) (hd:H dx=none) (ne:dx≠x):ay H (upd (upd (upd H x (XN x C none)) dx (.xd [(g,u),(f,v)])) x (XN x C (some dx)))/\gc (upd (upd (upd H x (XN x C none)) dx (.xd [(g,u),(f,v)])) x (XN x C (some dx))) x C (some dx)/\upd (upd (upd H x (XN x C none)) dx (.xd [(g,u),(f,v)])) x (XN x C (some dx)) dx=some (.xd [(g,u),(f,v)]):=by
 refine⟨λb o e=>?_,.inr ag,by rw [ak ne,ag]⟩
 have bx:b≠x:=λy=>by rw [y,hx] at e;cases e
 have bd:b≠dx:=λy=>by rw [y,hd] at e;cases e
 rw [ak bx,ak bd,ak bx]
 exact e
theorem gc.same {H H':Hp} {x C:Addr} {dd:Option Addr} (h:gc H x C dd) (s:ay H H'):gc H' x C dd:=h.imp (s _ _) (s _ _)
theorem wR:∀{ds:List PyData},(∀ d∈ds,d.depth=0)->PyData.depthAll ds=0
 | [],_=>rfl
 | d::ds,h=>by
  simp only [PyData.depthAll,h d List.mem_cons_self,wR λe he=>h e (List.mem_cons_of_mem _ he)]
  rfl
theorem sQ {ds:List PyData} (h:∀ d∈ds,d.depth=0):(PyData.list ds).depth<=60:=by
 simp only [PyData.depth,wR h]
 decide
theorem ig {H:Hp} {d:PyData} {u v:V} {Q:VK} (hu:dv K H d u) (hv:dv K H d v) (c:d.canLay0=true) (dp:d.depth<=60) (q:Q (.bl false) H):t4 K true u v H Q:=⟨d,d,hu,hv,c,c,by omega,by rw [eqv_refl d c];exact q⟩
theorem fz {H:Hp} {d:PyData} {u v:V} {Q:VK} (hu:dv K H d u) (hv:dv K H d v) (c:d.canLay0=true) (dp:d.depth<=60) (q:Q (.bl true) H):t4 K false u v H Q:=⟨d,d,hu,hv,c,c,by omega,by rw [eqv_refl d c];exact q⟩
def rM:Sp:=λvs H Q _=>∃ n:Int,vs=[.int n]/\0<=n/\n<10^9/\∀ H',ay H H'->Q (.bl true) H'
theorem dy:az ["_law_number_here","_law_prime_here","_law_lone","_law_root","_law_many","_law_far","_law_text","_law_errors","_law_k"] ["_law_number_here"] (ai (top 45)):=fM
theorem tQ {cP c0 c1 c2 c3 c4 c5 c6 c7 c8 c9:Addr} (D:aA K mg "_law_by_hand" (top 45)) (c__law_kinds:Callee P w K mg base a8 1 "_law_kinds" ["_law_error"] (nN K [c0,c1,c2,c3,c4,c5,c6,c7,c8,c9])) (x_NoNumber:gd K mg "NoNumber" c0) (x_NoOrder:gd K mg "NoOrder" c1) (x_Nought:gd K mg "Nought" c2) (x_NoRow:gd K mg "NoRow" c3) (x_NoPrime:fh P w K mg base "NoPrime" c4 "divisor") (x_NoInverse:fh P w K mg base "NoInverse" c5 "divisor") (x_NoRoot:fh P w K mg base "NoRoot" c6 "rest") (x_TooMany:fh P w K mg base "TooMany" c7 "many") (x_TooFar:fh P w K mg base "TooFar" c8 "part") (x_NoText:sG P w K mg base "NoText" c9 "line" "word") (x_PrimeError:gd K mg "PrimeError" cP) (wk:∀ j c,[c0,c1,c2,c3,c4,c5,c6,c7,c8,c9][j]?=some c->WK K c [c0,c1,c2,c3,c4,c5,c6,c7,c8,c9] j/\PySem.W.kitOne K (.ref c) (.ref cP)=some true/\PySem.W.kitOne K (.ref c) (.type "ValueError")=some true) (n_isinstance:mg "isinstance"=none) (n_ValueError:mg "ValueError"=none) (n_range:mg "range"=none):Callee P w K mg base a8 3 "_law_by_hand" ["_law_number_here"] rM:=by
 refine cO D dy (λf cdv A outer s H vs Q E hr h=>?_)
 obtain⟨n,rfl,n0,n9,q⟩:=h
 have nd:=dy.nd
 refine⟨_,(ae (bw (i:=1) nd (fm x_NoPrime (hr.mono (by decide)) rfl (aa (pv 0) ah))) (ae (bw (i:=2) nd (fm x_NoInverse (hr.mono (by decide)) rfl (aa (pv 0) ah))) (ae (bw (i:=3) nd (fm x_NoRoot (hr.mono (by decide)) rfl (aa (pv 0) ah))) (ae (bw (i:=4) nd (fm x_TooMany (hr.mono (by decide)) rfl (aa (pv 0) ah))) (ae (bw (i:=5) nd (fm x_TooFar (hr.mono (by decide)) rfl (aa (pv 0) ah))) (ae (bw (i:=6) nd (vV x_NoText (hr.mono (by decide)) rfl (aa (pv 0) (aa (ar b3 (pv 0) af) ah)))) (ae (aZ (av (mH hr.units) (bo (aa (cf K rfl (pv 1)) (aa (cf K rfl (pv 2)) (aa (cf K rfl (pv 3)) (aa (cf K rfl (pv 4)) (aa (cf K rfl (pv 5)) (aa (cf K rfl (pv 6)) ah))))))) (ar vR (bo (aa (pv 0) ah)) af) (aw _)) (aj (aB cM)) aF) (ae (bw (i:=7) nd (bo (aa (iC x_NoNumber rfl) (aa (iC x_NoOrder rfl) (aa (iC x_Nought rfl) (aa (iC x_NoRow rfl) (aa (pv 1) (aa (pv 2) (aa (pv 3) (aa (pv 4) (aa (pv 5) (aa (pv 6) ah)))))))))))) (ae (cT PassesOwn.never rfl (cu rfl n_range (aa af ah)) (aC (i:=8) nd rfl (Or.inr rfl) (.inl rfl)) (ae (aZ (av (mH hr.units) (cm c__law_kinds hr aH (aa (aG aO (pv 7) (pv 8) (λ_ _=>rfl)) ah)) (iz rfl (sk (N':=["_law_j","_law_k"]) (js:=[none,some 8]) rfl rfl) (cu rfl n_range (aa af ah)) (λ_ _ _ _=>(aC (i:=0) (show List.Nodup [("_law_j":Str),("_law_k":Str)] from by decide +kernel) rfl (Or.inl rfl) (.inr rfl))) (λ_ _ _ _=>cj) (λ_ _ _ _=>(bN bK (pv 0) (pv 1) (aw _)))) (aw _)) (aj (aB cM)) aF) (aj (aZ (PW.pt (gz (b4 (a4 (aE (a7 K rfl) rfl n_isinstance PyProof.Rows.boot_isinstance (aa (aG aO (pv 7) (pv 8) (λ_ _=>rfl)) (aa (bA (v:=.ref _) rfl x_PrimeError.at_ rfl) ah))) (λ_=>rfl))) (iJ (b4 (a4 (aE (a7 K rfl) rfl n_isinstance PyProof.Rows.boot_isinstance (aa (aG aO (pv 7) (pv 8) (λ_ _=>rfl)) (aa (fH (v:=.ty "ValueError") rfl n_ValueError L2.gB rfl) ah))) (λ_=>rfl)))))) (aj (aB cM)) aF)))) (aj (aB (bN bK (cf K rfl (pv 6)) (ar b3 (pv 0) af) (aw _))))))))))))),?_⟩
 show bV _ _ _ [some (.int n),none,none,none,none,none,none,none,none] H
 k_data
 intro xa da ha hda na
 obtain⟨sa,ea,fa⟩:=xp (C:=c4) (f := "divisor") (v:=V.int n) ha hda na
 generalize upd (upd (upd H xa (XN xa c4 none)) da _) xa _=Ha at *
 intro xb db hb hdb nb
 obtain⟨sb,eb,fb⟩:=xp (C:=c5) (f := "divisor") (v:=V.int n) hb hdb nb
 generalize upd (upd (upd Ha xb (XN xb c5 none)) db _) xb _=Hb at *
 intro xc dc hc hdc nc
 obtain⟨sc,ec,fc⟩:=xp (C:=c6) (f := "rest") (v:=V.int n) hc hdc nc
 generalize upd (upd (upd Hb xc (XN xc c6 none)) dc _) xc _=Hc at *
 intro xd dd hd hdd ndd
 obtain⟨sd,ed,fd⟩:=xp (C:=c7) (f := "many") (v:=V.int n) hd hdd ndd
 generalize upd (upd (upd Hc xd (XN xd c7 none)) dd _) xd _=Hd at *
 intro xe de he hde nee
 obtain⟨se,ee,fe⟩:=xp (C:=c8) (f := "part") (v:=V.int n) he hde nee
 generalize upd (upd (upd Hd xe (XN xe c8 none)) de _) xe _=He at *
 intro xf df hf hdf nf
 obtain⟨sf,ef,ff⟩:=zr (C:=c9) (f := "line") (g := "word") (v:=V.int n) (u:=V.int (n+1)) hf hdf nf
 generalize upd (upd (upd He xf (XN xf c9 none)) df _) xf _=Hf at *
 have S5:ay He Hf:=sf
 have S4:=se.trans S5
 have S3:=sd.trans S4
 have S2:=sc.trans S3
 have S1:=sb.trans S2
 have SA:ay H Hf:=sa.trans S1
 replace ea:=gc.same ea S1
 replace eb:=gc.same eb S2
 replace ec:=gc.same ec S3
 replace ed:=gc.same ed S4
 replace ee:=gc.same ee S5
 replace fa:=S1 _ _ fa
 replace fb:=S2 _ _ fb
 replace fc:=S3 _ _ fc
 replace fd:=S4 _ _ fd
 replace fe:=S5 _ _ fe
 refine⟨c4,da,ea,x_NoPrime.cls,x_NoPrime.nof,_,fa,V.int n,by rfl,?_⟩
 refine⟨c5,db,eb,x_NoInverse.cls,x_NoInverse.nof,_,fb,V.int n,by rfl,?_⟩
 refine⟨c6,dc,ec,x_NoRoot.cls,x_NoRoot.nof,_,fc,V.int n,by rfl,?_⟩
 refine⟨c7,dd,ed,x_TooMany.cls,x_TooMany.nof,_,fd,V.int n,by rfl,?_⟩
 refine⟨c8,de,ee,x_TooFar.cls,x_TooFar.nof,_,fe,V.int n,by rfl,?_⟩
 refine⟨c9,df,ef,x_NoText.cls,x_NoText.nof,_,ff,V.int n,by rfl,?_⟩
 refine⟨by show 6<=sizeLine;decide,λp1 hp1=>⟨by show 1<=sizeLine;decide,λp2 hp2=>?_⟩⟩
 have u1:=ao (o:=.lst [V.int n,V.int n,V.int n,V.int n,V.int n,V.int n]) hp1
 have g1:=ag (H:=Hf) (a:=p1) (o:=.lst [V.int n,V.int n,V.int n,V.int n,V.int n,V.int n])
 generalize upd Hf p1 _=Hg at *
 have u2:=ao (o:=.lst [V.int n]) hp2
 refine⟨p2,6,_,rfl,rfl,ag,by decide,by decide,by show 1*6<=sizeLine;decide,λp3 hp3=>?_⟩
 have u3:=ao (o:=.lst (List.replicate (6:Int).toNat [V.int n]).flatten) hp3
 have UU:=u2.trans u3
 have d6:∀{H':Hp} {p:Addr},H' p=some (.lst [V.int n,V.int n,V.int n,V.int n,V.int n,V.int n])->dv K H' (.list [.int n,.int n,.int n,.int n,.int n,.int n]) (.ref p):=λe=>dv.lst e ⟨_,_,rfl,rfl,_,_,rfl,rfl,_,_,rfl,rfl,_,_,rfl,rfl,_,_,rfl,rfl,.one rfl⟩
 have g3:upd (upd Hg p2 (.lst [V.int n])) p3 (.lst (List.replicate (6:Int).toNat [V.int n]).flatten) p3=some (.lst [V.int n,V.int n,V.int n,V.int n,V.int n,V.int n]):=ag
 generalize upd (upd Hg p2 (.lst [V.int n])) p3 _=Hh at *
 refine ig (d6 (UU _ _ g1)) (d6 g3) rfl (sQ λd hd=>by simp only [List.mem_cons,List.not_mem_nil,or_false,or_self] at hd;rw [hd];rfl) ?_
 refine⟨false,rfl,?_⟩
 rw [if_neg (by decide)]
 intro x0 h0 x1 h1 x2 h2 x3 h3
 have z0:=ao (o:=XN x0 c0 none) h0
 have w0:=ag (H:=Hh) (a:=x0) (o:=XN x0 c0 none)
 generalize upd Hh x0 (XN x0 c0 none)=K0 at *
 have z1:=ao (o:=XN x1 c1 none) h1
 have w1:=ag (H:=K0) (a:=x1) (o:=XN x1 c1 none)
 generalize upd K0 x1 (XN x1 c1 none)=K1 at *
 have z2:=ao (o:=XN x2 c2 none) h2
 have w2:=ag (H:=K1) (a:=x2) (o:=XN x2 c2 none)
 generalize upd K1 x2 (XN x2 c2 none)=K2 at *
 have z3:=ao (o:=XN x3 c3 none) h3
 have w3:=ag (H:=K2) (a:=x3) (o:=XN x3 c3 none)
 generalize upd K2 x3 (XN x3 c3 none)=K3 at *
 refine⟨by show 10<=sizeLine;decide,λp hp=>?_⟩
 have z4:=ao (o:=.lst [V.ref x0,V.ref x1,V.ref x2,V.ref x3,V.ref xa,V.ref xb,V.ref xc,V.ref xd,V.ref xe,V.ref xf]) hp
 have ep:=ag (H:=K3) (a:=p) (o:=.lst [V.ref x0,V.ref x1,V.ref x2,V.ref x3,V.ref xa,V.ref xb,V.ref xc,V.ref xd,V.ref xe,V.ref xf])
 generalize upd K3 p _=K4 at *
 have T3:=z4
 have T2:=z3.trans T3
 have T1:=z2.trans T2
 have T0:=z1.trans T1
 have TT:=(u1.trans UU).trans (z0.trans T0)
 have errs:∀(j:Nat) c,[c0,c1,c2,c3,c4,c5,c6,c7,c8,c9][j]?=some c->∃ x dd,[V.ref x0,V.ref x1,V.ref x2,V.ref x3,V.ref xa,V.ref xb,V.ref xc,V.ref xd,V.ref xe,V.ref xf][j]?=some (.ref x)/\gc K4 x c dd/\(∀ dx,dd=some dx->∃ fs,K4 dx=some (.xd fs)):=λj c h=>by
  match j,h with
  | 0,h=>cases h;exact⟨_,none,rfl,.inr (T0 _ _ w0),λ_ z=>by cases z⟩
  | 1,h=>cases h;exact⟨_,none,rfl,.inr (T1 _ _ w1),λ_ z=>by cases z⟩
  | 2,h=>cases h;exact⟨_,none,rfl,.inr (T2 _ _ w2),λ_ z=>by cases z⟩
  | 3,h=>cases h;exact⟨_,none,rfl,.inr (T3 _ _ w3),λ_ z=>by cases z⟩
  | 4,h=>cases h;exact⟨_,some da,rfl,gc.same ea TT,λ_ z=>by cases z;exact⟨_,TT _ _ fa⟩⟩
  | 5,h=>cases h;exact⟨_,some db,rfl,gc.same eb TT,λ_ z=>by cases z;exact⟨_,TT _ _ fb⟩⟩
  | 6,h=>cases h;exact⟨_,some dc,rfl,gc.same ec TT,λ_ z=>by cases z;exact⟨_,TT _ _ fc⟩⟩
  | 7,h=>cases h;exact⟨_,some dd,rfl,gc.same ed TT,λ_ z=>by cases z;exact⟨_,TT _ _ fd⟩⟩
  | 8,h=>cases h;exact⟨_,some de,rfl,gc.same ee TT,λ_ z=>by cases z;exact⟨_,TT _ _ fe⟩⟩
  | 9,h=>cases h;exact⟨_,some df,rfl,gc.same ef TT,λ_ z=>by cases z;exact⟨_,TT _ _ ff⟩⟩
  | j+10,h=>simp at h
 replace ef:=gc.same ef TT
 replace ff:=TT _ _ ff
 have SK:ay H K4:=SA.trans TT
 clear ea eb ec ed ee fa fb fc fd fe
 refine cz (λi σ' H'=>ay K4 H'/\∃ o8:Option V,σ'=[some (V.int n),some (V.ref xa),some (V.ref xb),some (V.ref xc),some (V.ref xd),some (V.ref xe),some (V.ref xf),some (V.ref p),o8]) ⟨ay.refl _,none,rfl⟩ ?_ ?_
 ·rintro i σ' H' hi ⟨s',o8,rfl⟩
  have hi:i<10:=by simpa using hi
  obtain⟨c,hc⟩:∃ c,[c0,c1,c2,c3,c4,c5,c6,c7,c8,c9][i]?=some c:=⟨_,List.getElem?_eq_getElem (by simpa using hi)⟩
  obtain⟨x,dd',hx,X1,X2⟩:=errs i c hc
  obtain⟨k1,k2,k3⟩:=wk i c hc
  have atx:kF [V.ref x0,V.ref x1,V.ref x2,V.ref x3,V.ref xa,V.ref xb,V.ref xc,V.ref xd,V.ref xe,V.ref xf] (i:Int)=some (V.ref x):=by
   unfold kF qJ
   rw [if_pos (by omega),if_pos (by simp;omega)]
   simpa using hx
  k_data
  refine⟨p,_,(i:Int),V.ref x,rfl,by simp,aW.of (s' _ _ ep),atx,?_⟩
  refine⟨x,c,dd',i,rfl,gc.same X1 s',(λdx z=>let ⟨fs,y⟩:=X2 dx z;⟨fs,s' _ _ y⟩),k1,λu H2 s2 hu=>?_⟩
  refine kI (λk ys H3=>H3=H2/\ys=(List.range k).map λj=>V.bl (decide (j=i))) ⟨rfl,rfl⟩ (by decide) (λk ys H3 _ h=>by rw [h.2,List.length_map,List.length_range];exact Nat.le_refl _) ?_ ?_
  ·rintro k ys H3 hk ⟨rfl,rfl⟩
   simp only [bc,List.map_nil,List.map_cons,Option.join]
   k_data
   refine⟨⟨rfl,True.intro⟩,V.int (i:Int),rfl,rfl,?_⟩
   rw [List.range_succ,List.map_append]
   congr 1
   show [V.bl (decide (V.int (k:Int)=V.int (i:Int)))]=[V.bl (decide (k=i))]
   congr 2
   by_cases c:k=i
   ·rw [decide_eq_true c,decide_eq_true (by rw [c])]
   ·rw [decide_eq_false c,decide_eq_false (λz=>c (by injection z with z;omega))]
  ·rintro ys H3 pl ⟨rfl,rfl⟩ hpl
   have s3:=ao (o:=.lst ((List.range 10).map λj=>V.bl (decide (j=i)))) hpl
   have dk:dv K (upd H3 pl (.lst ((List.range 10).map λj=>V.bl (decide (j=i))))) (.list (yq i)) (.ref pl):=dv.lst ag ⟨_,_,rfl,rfl,_,_,rfl,rfl,_,_,rfl,rfl,_,_,rfl,rfl,_,_,rfl,rfl,_,_,rfl,rfl,_,_,rfl,rfl,_,_,rfl,rfl,_,_,rfl,rfl,.one rfl⟩
   have cl:PyData.canLay0 (.list (yq i))=true:=rfl
   refine ig (dv.same s3 _ hu) dk cl (sQ λd hd=>by obtain⟨y,_,rfl⟩:=List.mem_map.mp hd;rfl) ⟨false,rfl,?_⟩
   rw [if_neg (by decide)]
   have S3:=s'.trans (s2.trans s3)
   refine⟨p,_,(i:Int),V.ref x,rfl,rfl,aW.of (S3 _ _ ep),atx,?_⟩
   refine⟨x,c,dd',_,_,_,rfl,rfl,gc.same X1 S3,(λdx z=>let ⟨fs,y⟩:=X2 dx z;⟨fs,S3 _ _ y⟩),k1.cls,k2,true,ba.mpr rfl,?_⟩
   rw [if_neg (by decide)]
   refine⟨p,_,(i:Int),V.ref x,rfl,rfl,aW.of (S3 _ _ ep),atx,?_⟩
   refine⟨x,c,dd',_,_,_,rfl,rfl,gc.same X1 S3,(λdx z=>let ⟨fs,y⟩:=X2 dx z;⟨fs,S3 _ _ y⟩),k1.cls,k3,true,ba.mpr rfl,?_⟩
   rw [if_neg (by decide)]
   exact S3
 ·rintro σ' H' ⟨s',o8,rfl⟩
  k_data
  refine⟨c9,df,gc.same ef s',x_NoText.cls,x_NoText.nog,_,s' _ _ ff,V.int (n+1),by rfl,rfl,?_⟩
  rw [decide_eq_true rfl]
  exact q H' (SK.trans s')
theorem kR {H:Hp}:∀(ns:List Int),aX K H (ns.map PyData.int) (ns.map V.int)
 | []=>rfl
 | n::ns=>⟨_,_,rfl,rfl,kR ns⟩
theorem lay_ints:∀(ns:List Int),PyData.canLayAll0 (ns.map PyData.int)=true
 | []=>rfl
 | n::ns=>by
  show (true && PyData.canLayAll0 (ns.map PyData.int))=true
  rw [lay_ints ns]
  rfl
def lQ (K:PySem.W.Frag):Sp:=λvs H Q _=>∃(a:Addr) (ns:List Int),vs=[.ref a]/\aW K H a (ns.map V.int)/\ns.length<=400/\∀ H',ay H H'->Q (.bl true) H'
theorem dP:az ["_law_things"] ["_law_things"] (ai (top 46)):=fM
theorem pf (D:aA K mg "_law_wholes" (top 46)) (n_isinstance:mg "isinstance"=none) (n_int:mg "int"=none) (n_bool:mg "bool"=none) (n_len:mg "len"=none):Callee P w K mg base a8 1 "_law_wholes" ["_law_things"] (lQ K):=by
 refine cO D dP (λf cdv A outer s H vs Q E hr h=>?_)
 obtain⟨a,ns,rfl,hS,n4,q⟩:=h
 have nd:=dP.nd
 refine⟨_,(aj (aB (bN bK (aE bW rfl n_len PySem.boot_len (aa (iz rfl (sk (N':=["_law_one"]) (js:=[none]) rfl rfl) (cn (pv 0)) (λ_ _ _ _=>(aC (i:=0) (show List.Nodup [("_law_one":Str)] from by decide +kernel) rfl (Or.inl rfl) (.inr rfl))) (λ_ _ _ _=>(lz (PW.pt (gz (b4 (jw K rfl (aE (gS K rfl) rfl n_isinstance PyProof.Rows.boot_isinstance (aa (pv 0) (aa (fH (v:=.ty "int") rfl n_int L2.boot_int rfl) ah))) (λ_=>rfl))) (iJ (jw K rfl (aE (gS K rfl) rfl n_isinstance PyProof.Rows.boot_isinstance (aa (pv 0) (aa (fH (v:=.ty "bool") rfl n_bool L2.boot_bool rfl) ah))) (λ_=>rfl))))))) (λ_ _ _ _=>(pv 0))) ah)) af (aw _)))),?_⟩
 show pJ _ _ [some (.ref a)] H
 k_data
 refine⟨⟨_,hS⟩,?_⟩
 refine bX (xs:=ns.map V.int) (λi ys H'=>H'=H/\ys=[]) ⟨rfl,rfl⟩ (by rw [List.length_map];exact Nat.le_trans n4 (by decide)) (λi ys H' _ h=>⟨by rw [h.1];exact hS,by rw [h.2];exact Nat.zero_le _⟩) ?_ ?_
 ·rintro i x ys H' hx ⟨rfl,rfl⟩
  rw [List.getElem?_map] at hx
  obtain⟨n,hn,rfl⟩:=Option.map_eq_some_iff.mp hx
  simp only [bc,List.map_nil,List.map_cons,Option.join]
  k_data
  refine⟨True.intro,tD (d:=.int n) rfl ⟨true,ba.mpr rfl,?_⟩⟩
  rw [if_neg (by decide)]
  refine qI (d:=.int n) rfl ⟨false,ba.mpr rfl,?_⟩
  rw [if_neg (by decide)]
 ·rintro ys H' p ⟨rfl,rfl⟩ hp
  refine di (aW.of ag) ⟨rfl,?_⟩
  exact q _ (ao hp)
def nR (K:PySem.W.Frag):Sp:=λvs H Q _=>∃(v:V) (p b g:Int) (rows:PyData),vs=[v,.int b]/\dv K H (.tuple [.int p,.int g,rows]) v/\Num.gG p (.tuple [.int p,.int g,rows]) /\ -(10^60)<=b/\b<=10^60/\∀ H',ay H H'->Q (.bl true) H'
theorem eS:az ["_law_paper_here","_law_b","_law_one","_law_other","_law_e","_law_due","_law_k"] ["_law_paper_here","_law_b"] (ai (top 47)):=fM
theorem qX {fP fQ:Addr} (D:aA K mg "_law_right" (top 47)) (a_powers_of:mg "powers_of"=some (.ref fP)) (a_places_of:mg "places_of"=some (.ref fQ)) (c__law_toldP:Callee P w K mg base a8 17 "_law_told" ["_law_asked","_law_paper_here","_law_b"] (mS K fP λp b e=>.lst ((fL p b e).map V.int))) (c__law_toldQ:Callee P w K mg base a8 17 "_law_told" ["_law_asked","_law_paper_here","_law_b"] (mS K fQ λp b e=>.dK (mP p b e))) (c__law_steps:Callee P w K mg base a8 2 "_law_steps" ["_law_paper_here","_law_b"] (nU K)) (c__law_wholes:Callee P w K mg base a8 1 "_law_wholes" ["_law_things"] (lQ K)) (n_isinstance:mg "isinstance"=none) (n_list:mg "list"=none) (n_dict:mg "dict"=none) (n_len:mg "len"=none) (n_range:mg "range"=none):Callee P w K mg base a8 18 "_law_right" ["_law_paper_here","_law_b"] (nR K):=by
 refine cO D eS (λf cdv A outer s H vs Q E hr h=>?_)
 obtain⟨v,p,b,g,rows,rfl,hd,hp,b0,b1,q⟩:=h
 obtain⟨pm,p9⟩:=ju hp
 have p2:=pm.two
 have nd:=eS.nd
 refine⟨_,(ae (bw (i:=2) nd (cm c__law_toldP hr aH (aa (bA (v:=.ref _) rfl a_powers_of rfl) (aa (pv 0) (aa (pv 1) ah))))) (ae (bw (i:=3) nd (cm c__law_toldQ hr aH (aa (bA (v:=.ref _) rfl a_places_of rfl) (aa (pv 0) (aa (pv 1) ah))))) (ae (aZ (av bK (ar aK (pv 1) (aG aU (pv 0) af (λ_ _=>rfl))) af (aw _)) (aj (aB (ri (bN (jZ hr.units) (pv 2) (bo (aa iA (aa bI (aa iA ah)))) (aw _)) (rm (bN (jZ hr.units) (pv 3) (pv 2) (aw _)))))) aF) (ae (bw (i:=4) nd (cm c__law_steps hr aH (aa (pv 0) (aa (pv 1) ah)))) (ae (aZ (av cW (pv 4) af (aw _)) (aj (aB (ri (bN (jZ hr.units) (pv 2) (bo (aa iA (aa bI (aa (pv 4) ah)))) (aw _)) (rm (bN (jZ hr.units) (pv 3) (pv 2) (aw _)))))) aF) (ae (bw (i:=5) nd (bo (aa af ah))) (ae (bh PassesOwn.never (av gy (aE bW rfl n_len PySem.boot_len (aa (pv 5) ah)) (pv 4) (aw _)) (aj (gM (nE PySem.F.plainAttrs_list PySem.F.slot_list_append PySem.F.type_list_append dY (pv 5) (aa (ar aK (ar aV (aG aO (pv 5) (ly iO af) (λ_ _=>rfl)) (pv 1)) (aG aU (pv 0) af (λ_ _=>rfl))) ah))))) (ae (aZ (PW.pt (gz (b4 (a4 (aE i7 rfl n_isinstance PyProof.Rows.boot_isinstance (aa (aG aO (pv 2) af (λ_ _=>rfl)) (aa (fH (v:=.ty "list") rfl n_list L2.boot_list rfl) ah))) (λ_=>rfl))) (gz (av (mH hr.units) (aG aO (pv 2) af (λ_ _=>rfl)) (pv 5) (aw _)) (gz (b4 (a4 (cm c__law_wholes hr aH (aa (aG aO (pv 2) af (λ_ _=>rfl)) ah)) (λ_=>rfl))) (iJ (b4 (a4 (aE jJ rfl n_isinstance PyProof.Rows.boot_isinstance (aa (aG aO (pv 3) af (λ_ _=>rfl)) (aa (fH (v:=.ty "dict") rfl n_dict L2.lY rfl) ah))) (λ_=>rfl)))))))) (aj (aB cM)) aF) (ae (aZ (PW.pt (gz (av nB (aE oj rfl n_len PySem.boot_len (aa (aG aO (pv 3) af (λ_ _=>rfl)) ah)) (pv 4) (aw _)) (gz (b4 (a4 (cm c__law_wholes hr aH (aa (cq (l5 rfl) rfl n_list L2.boot_list (aa (vU PySem.F.plainAttrs_dict PySem.F.slot_dict_values PySem.F.type_dict_values tM (aG aO (pv 3) af (λ_ _=>rfl))) ah)) ah)) (λ_=>rfl))) (iJ (b4 (a4 (cm c__law_wholes hr aH (aa (cq (lZ rfl) rfl n_list L2.boot_list (aa (aG aO (pv 3) af (λ_ _=>rfl)) ah)) ah)) (λ_=>rfl))))))) (aj (aB cM)) aF) (ae (cT PassesOwn.never rfl (cu rfl n_range (aa (pv 4) ah)) (aC (i:=6) nd rfl (Or.inl rfl) (.inr rfl)) (aj (aZ (av nB (rj (fF hr) (aG aO (pv 3) af (λ_ _=>rfl)) (aG aO (pv 5) (pv 6) (λ_ _=>rfl)) ⟨rfl,rfl,rfl,rfl⟩) (pv 6) (aw _)) (aj (aB cM)) aF))) (ae (gM (nE PySem.F.plainAttrs_list PySem.F.slot_list_append PySem.F.type_list_append dY (aG aO (pv 2) af (λ_ _=>rfl)) (aa af ah))) (ae (j6 (fF hr) (aG aO (pv 3) af (λ_ _=>rfl)) (ly iO af) af rfl) (aj (aB cM)))))))))))))),?_⟩
 show bV _ _ _ [some v,some (.int b),none,none,none,none,none] H
 have hd':=hd
 obtain⟨pa,us,rfl,hSa,x1,r1,rfl,d1,x2,r2,rfl,d2,x3,r3,rfl,d3,z⟩:=hd
 cases z
 cases d1
 k_data
 have pb:b%p=0↔p∣b:=⟨λz=>Int.dvd_of_emod_eq_zero z,λz=>Int.emod_eq_zero_of_dvd z⟩
 have p0:0<p:=by omega
 refine⟨_,p,b,g,rows,rfl,hd',hp,b0,b1,λhb u H1 s1 hu=>?_,λnb e oe ep=>⟨λe4 u H1 s1 hu=>?_,λe4 u a H1 s1 fu fa eu ea=>?_⟩⟩
 ·refine⟨_,p,b,g,rows,rfl,dv.same s1 _ hd',hp,b0,b1,λ_ u2 H2 s2 hu2=>?_,λnb=>absurd hb nb⟩
  refine⟨pa,_,0,.int p,rfl,rfl,(hSa.same s1).same s2,rfl,p,rfl,p0,?_⟩
  rw [if_pos (pb.mpr hb)]
  refine⟨by show 3<=sizeLine;decide,λpl hpl=>?_⟩
  have s3:=ao (o:=.lst [V.non,V.str (Str.ofString "nought"),V.non]) hpl
  refine fz (dv.same (s2.trans s3) _ hu) (dv.lst ag ⟨_,_,rfl,rfl,_,_,rfl,rfl,.one rfl⟩) (by decide +kernel) (by decide +kernel) ⟨true,rfl,?_⟩
  rw [if_pos rfl]
  exact fz (dv.same s3 _ hu2) (dv.same (s2.trans s3) _ hu) (by decide +kernel) (by decide +kernel) (q _ (s1.trans (s2.trans s3)))
 ·refine⟨_,p,b,g,rows,rfl,dv.same s1 _ hd',hp,b0,b1,λhb=>absurd hb nb,λ_ e' oe' ep'=>?_⟩
  obtain rfl:e'=e:=Nat.dvd_antisymm (oe'.dv _ oe.one) (oe.dv _ oe'.one)
  refine⟨λ_ u2 H2 s2 hu2=>?_,λz=>absurd z (by omega)⟩
  refine⟨pa,_,0,.int p,rfl,rfl,(hSa.same s1).same s2,rfl,p,rfl,p0,?_⟩
  rw [if_neg (λz=>nb (pb.mp z))]
  refine⟨_,p,b,g,rows,rfl,dv.same (s1.trans s2) _ hd',hp,nb,λe'' oe'' ep''=>?_⟩
  obtain rfl:e''=e':=Nat.dvd_antisymm (oe''.dv _ oe.one) (oe.dv _ oe''.one)
  refine⟨_,rfl,?_⟩
  rw [if_pos (by omega)]
  refine⟨by show 3<=sizeLine;decide,λpl hpl=>?_⟩
  have s3:=ao (o:=.lst [V.non,V.str (Str.ofString "many"),V.int (e'':Int)]) hpl
  have cl:PyData.canLay0 (.list [.none,.str "many",.int (e'':Int)])=true:=by
   have:PyData.canLay0 (.str "many")=true:=by decide +kernel
   simp only [PyData.canLay0,PyData.canLayAll0] at this ⊢
   rw [this]
   rfl
  have dp:(PyData.list [.none,.str "many",.int (e'':Int)]).depth<=60:=sQ λd hd=>by
   simp only [List.mem_cons,List.not_mem_nil,or_false] at hd
   rcases hd with rfl | rfl | rfl<;>rfl
  refine fz (dv.same (s2.trans s3) _ hu) (dv.lst ag ⟨_,_,rfl,rfl,_,_,rfl,rfl,.one rfl⟩) cl dp ⟨true,rfl,?_⟩
  rw [if_pos rfl]
  exact fz (dv.same s3 _ hu2) (dv.same (s2.trans s3) _ hu) cl dp (q _ (s1.trans (s2.trans s3)))
 ·refine⟨_,p,b,g,rows,rfl,dv.same s1 _ hd',hp,b0,b1,λhb=>absurd hb nb,λ_ e' oe' ep'=>?_⟩
  obtain rfl:e'=e:=Nat.dvd_antisymm (oe'.dv _ oe.one) (oe.dv _ oe'.one)
  refine⟨λz=>absurd z (by omega),λ_ u2 a2 H2 s2 fu2 fa2 eu2 ea2=>?_⟩
  have S2:=s1.trans s2
  refine⟨pa,_,0,.int p,rfl,rfl,hSa.same S2,rfl,p,rfl,p0,?_⟩
  rw [if_neg (λz=>nb (pb.mp z))]
  refine⟨_,p,b,g,rows,rfl,dv.same S2 _ hd',hp,nb,λe'' oe'' ep''=>?_⟩
  obtain rfl:e''=e':=Nat.dvd_antisymm (oe''.dv _ oe.one) (oe.dv _ oe''.one)
  refine⟨_,rfl,?_⟩
  rw [if_neg (by omega)]
  refine⟨by show 1<=sizeLine;decide,λl hl=>?_⟩
  have s3:=ao (o:=.lst [V.int 1]) hl
  have m0:=oe.pos
  have fl2:H2 l=none:=hl
  refine bj (α:=Nat) (λ_=>[some (V.ref pa),some (V.int b),some (V.ref u),some (V.ref u2),some (V.int (e'':Int)),some (V.ref l),none]) (λk H'=>1<=k/\k<=e''/\ay H2 H'/\H' l=some (.lst ((fL p b k).map V.int))) (λk=>e'' - k) 1 rfl ⟨Nat.le_refl _,m0,s3,by rw [nM p2];exact ag⟩ ?_
  rintro k H' ⟨k1,km,s',el⟩
  have lk:((fL p b k).map V.int).length=k:=by rw [List.length_map,ei]
  k_data
  refine di (aW.of el) ⟨_,rfl,?_⟩
  rw [lk]
  refine bp (λc=>?_) (λc=>?_)
  ·refine⟨_,λ_ _ z=>z,.inl ⟨rfl,_,aW.of el⟩,?_⟩
   obtain⟨j,rfl⟩:∃ j,k=j+1:=⟨k-1,by omega⟩
   have r0:=Int.emod_nonneg (b^j) (show p≠0 by omega)
   have r1:=Int.emod_lt_of_pos (b^j) p0
   refine⟨l,_,-1,V.int (b^j%p),rfl,rfl,aW.of el,lH,_,rfl,Bd.of (by omega) (by omega),Bd.of (by omega) (by omega),?_⟩
   refine⟨pa,_,0,.int p,rfl,rfl,hSa.same (S2.trans s'),rfl,p,rfl,p0,?_⟩
   refine⟨l,_,_,rfl,rfl,el,by rw [lk];exact Nat.lt_of_le_of_lt (show j+1<=400 by omega) (by decide),rfl,j+1+1,by omega,by omega,(λb' o z=>by rw [ak (λy=>by rw [y,fl2] at z;cases z)];exact s' _ _ z),?_,by omega⟩
   rw [ag,iI (e:=j+1),List.map_append]
   have:b^j%p*b%p=b^(j+1)%p:=by rw [Int.pow_succ,Int.mul_emod,Int.emod_emod_of_dvd _ (Int.dvd_refl p),<- Int.mul_emod]
   rw [this]
   rfl
  obtain rfl:k=e'':=by omega
  have eu':=s' _ _ (s2 _ _ eu)
  have ea':=s' _ _ (s2 _ _ ea)
  have eu2':=s' _ _ eu2
  have ea2':=s' _ _ ea2
  have ix:∀{Hx:Hp} {r x:Addr} {Q':VK},Hx r=some (.lst [.ref x,.str "",.non])->Q' (.ref x) Hx->v7 K (.ref r) (.int 0) Hx Q':=λe h=>⟨_,_,0,_,rfl,rfl,aW.of e,rfl,h⟩
  have dL:∀{Hx:Hp} {r:Addr},Hx r=some (.lst ((fL p b k).map V.int))->dv K Hx (.list ((fL p b k).map PyData.int)) (.ref r):=λe=>dv.lst e (kR _)
  have cL:PyData.canLay0 (.list ((fL p b k).map PyData.int))=true:=by
   simp only [PyData.canLay0]
   exact lay_ints _
  have pL:(PyData.list ((fL p b k).map PyData.int)).depth<=60:=sQ λd hd=>by obtain⟨y,_,rfl⟩:=List.mem_map.mp hd;rfl
  refine ix eu' (tE (dL ea') ⟨true,ba.mpr rfl,?_⟩)
  rw [if_neg (by decide)]
  refine ix eu' (ig (dL ea') (dL el) cL pL ⟨false,rfl,?_⟩)
  rw [if_neg (by decide)]
  refine ix eu' ⟨a,fL p b k,rfl,aW.of ea',by rw [ei];exact e4,λH5 s5=>⟨true,ba.mpr rfl,?_⟩⟩
  rw [if_neg (by decide)]
  refine ix (s5 _ _ eu2') ⟨a2,_,rfl,s5 _ _ ea2',true,ba.mpr rfl,?_⟩
  rw [if_neg (by decide)]
  refine ix (s5 _ _ eu2') ⟨a2,k,rfl,.inr ⟨_,s5 _ _ ea2',j8.symm⟩,rfl,?_⟩
  rw [if_neg (by simp)]
  refine ix (s5 _ _ eu2') ⟨?_,a2,_,rfl,rfl,s5 _ _ ea2',λv6 h6=>?_⟩
  ·exact .inr (.inr (.inl ⟨rfl,.inl ⟨_,s5 _ _ ea2'⟩⟩))
  have s6:=ao (o:=pU v6 a2) h6
  refine⟨v6,a2,_,rfl,ag,s6 _ _ (s5 _ _ ea2'),λp7 h7=>?_⟩
  have s7:=ao (o:=.lst ((mP p b k).map (·.2))) h7
  refine⟨p7,(List.range k).map λi:Nat=>(i:Int),rfl,aW.of (by rw [ag,rF]),by rw [List.length_map,List.length_range];exact e4,λH8 s8=>⟨true,ba.mpr rfl,?_⟩⟩
  rw [if_neg (by decide)]
  have S8:=s5.trans (s6.trans (s7.trans s8))
  refine ix (S8 _ _ eu2') ⟨a2,_,fL p b k,rfl,S8 _ _ ea2',rE,λp9 h9=>?_⟩
  have s9:=ao (o:=.lst ((fL p b k).map V.int)) h9
  refine⟨p9,_,rfl,aW.of ag,by rw [ei];exact e4,λHA sA=>⟨true,ba.mpr rfl,?_⟩⟩
  rw [if_neg (by decide)]
  have SA:=S8.trans (s9.trans sA)
  refine⟨by omega,by omega,?_⟩
  rw [Int.toNat_natCast]
  refine cz (λi σ' HB=>ay HA HB/\∃ o6:Option V,σ'=[some (V.ref pa),some (V.int b),some (V.ref u),some (V.ref u2),some (V.int (k:Int)),some (V.ref l),o6]) ⟨ay.refl _,none,rfl⟩ ?_ ?_
  ·rintro i σ' HB hi ⟨sB,o6,rfl⟩
   have SB:=SA.trans sB
   have ati:kF ((fL p b k).map V.int) (i:Int)=some (V.int (b^i%p)):=by
    unfold kF qJ
    rw [if_pos (by omega),lk,if_pos (by omega)]
    show ((fL p b k).map V.int)[(i:Int).toNat]?=_
    rw [Int.toNat_natCast,List.getElem?_map,rG hi]
    rfl
   k_data
   refine ix (SB _ _ eu2') ⟨a2,rfl,.inl ⟨_,.inl (SB _ _ ea2')⟩,?_⟩
   refine⟨l,_,(i:Int),V.int (b^i%p),rfl,by simp,aW.of (SB _ _ el),ati,?_⟩
   refine⟨some (.int (i:Int)),.inl ⟨_,Sum.inl (b^i%p),.inl (SB _ _ ea2'),rfl,?_⟩,?_⟩
   ·have:=gN oe (e:=k) (Nat.le_refl _) (i:=i) hi
    rw [if_pos hi] at this
    exact this.symm
   refine⟨rfl,?_⟩
   rw [if_neg (λz=>z rfl)]
   exact sB
  ·rintro σ' HB ⟨sB,o6,rfl⟩
   have SB:=SA.trans sB
   k_data
   refine ix (SB _ _ eu') ⟨.inl ⟨rfl,_,aW.of (SB _ _ ea')⟩,?_⟩
   refine⟨a,_,_,rfl,rfl,SB _ _ ea',by rw [lk];exact Nat.lt_of_le_of_lt e4 (by decide),?_⟩
   have eu2B:=SB _ _ eu2'
   have ea2B:=SB _ _ ea2'
   have n1:u2≠a:=λz=>by rw [z,ea] at fu2;cases fu2
   have n2:a2≠a:=λz=>by rw [z,ea] at fa2;cases fa2
   have fa2':H a2=none:=s1.free fa2
   refine ix (by rw [ak n1];exact eu2B) ⟨a2,rfl,_,.inl ⟨_,Sum.inl (-1),by rw [ak n2];exact ea2B,rfl,by rw [j8];exact Nat.lt_of_le_of_lt e4 (by decide),rfl⟩,?_⟩
   refine q _ λb' o z=>?_
   rw [ak (λy=>by rw [y,fa2'] at z;cases z),ak (λy=>by rw [y,fa] at z;cases z)]
   exact SB _ _ (s' _ _ (S2 _ _ z))
end
end K
namespace K
open PySem PySem.Spec PyProof.Rows L2
def uV (K:PySem.W.Frag):Sp:=λvs H Q _=>∃(a:Addr) (ns:List Int),vs=[.ref a]/\aW K H a (ns.map V.int)/\ns.length<=63/\∀ H',Q (.bl true) H'
end K
namespace K
open PySem PySem.Spec PyProof.Rows L2
section
variable {P:Program} {w:World} {K:PySem.W.Frag} {mg:Str->Option Value} {base:Heap}
theorem mL {n:Nat} (h2:2<=n) (h:∀ d:Nat,d<n->2<=d->¬d∣n):Num.Pm (n:Int):=⟨by omega,λd d2 dn dd=>by
 obtain⟨m,rfl⟩:∃ m:Nat,d=m:=⟨d.toNat,by omega⟩
 exact h m (by omega) (by omega) (Int.natCast_dvd_natCast.mp dd)⟩
theorem xx:Num.Pm 401:=mL (n:=401) (by decide) (by decide +kernel)
theorem vZ:Num.Pm 1201:=mL (n:=1201) (by decide) (by decide +kernel)
theorem v3:Num.Pm 3209:=mL (n:=3209) (by decide) (by decide +kernel)
def zi (H0:Hp) (s:Addr) (b:Bool) (j:Nat) (m l:Int) (H':Hp):Prop:=ay H0 H'/\1<=m/\m<=(30:Int)^j/\H' s=some (pG l b)/\tP l b
def zh (H0:Hp) (sc pp q1:Addr) (fb:Bool) (p nr c:Int) (σ':L2.St) (H':Hp):Prop:=ay H0 H'/\∃(b:Int) (o8 o9:Option V),(-(10^60)<=b/\b<=10^60)/\σ'=[some (.ref sc),some (.bl fb),some (.int p),some (.int nr),some (.ref pp),some (.int c),some (.ref q1),some (.int b),o8,o9]
theorem rL:az ["_law_script","_law_free","_law_p","_law_near","_law_paper_here","_law_cell","_law_state_here","_law_b","_law_many","_law_part"] ["_law_script"] (ai (top 48)):=fM
theorem vO {fl:Addr} {fdl:FuncData} (F:pR K "law" "law" (top 48) fl fdl) (c__law_by_hand:Callee P w K mg base a8 3 "_law_by_hand" ["_law_number_here"] rM) (c__law_cell_at:Callee P w K mg base a8 1 "_law_cell_at" ["_law_script","_law_k"] (lN K)) (c__law_prime:Callee P w K mg base a8 2 "_law_prime" ["_law_state_here"] lO) (c__law_paper:Callee P w K mg base a8 32 "_law_paper" ["_law_p"] (jC K)) (c__law_state:Callee P w K mg base a8 1 "_law_state" ["_law_cell","_law_free"] nS) (c__law_take:Callee P w K mg base a8 1 "_law_take" ["_law_state_here","_law_many"] kq) (c__law_number:Callee P w K mg base a8 2 "_law_number" ["_law_state_here"] lP) (c__law_power:Callee P w K mg base a8 1 "_law_power" ["_law_n","_law_a","_law_e"] dR) (c__law_right:Callee P w K mg base a8 18 "_law_right" ["_law_paper_here","_law_b"] (nR K)):bR P w K mg base a8 33 fl fdl ["_law_script"] (uV K):=by
 refine sY F rL (λvs H Q E h=>by obtain⟨a,b,rfl,_⟩:=h;rfl) (λcdv A outer s H vs Q E hr h=>?_)
 obtain⟨sc,ns,rfl,hS,h63,q⟩:=h
 have nd:=rL.nd
 refine⟨_,(ae (dj (aZ (b4 (a4 (cm c__law_by_hand hr aH (aa (ar aK (cm c__law_cell_at hr aH (aa (pv 0) (aa af ah))) (ar iu af af)) ah)) (λ_=>rfl))) (aj (aB cM)) aF)) (ae (bw (i:=1) nd (bN bK (ar aK (cm c__law_cell_at hr aH (aa (pv 0) (aa af ah))) af) af (aw _))) (ae (bw (i:=2) nd (cm c__law_prime hr aH (aa (cm c__law_state hr aH (aa (cm c__law_cell_at hr aH (aa (pv 0) (aa af ah))) (aa (pv 1) ah))) ah))) (ae (bw (i:=3) nd (ar aK (ar bG (cm c__law_cell_at hr aH (aa (pv 0) (aa af ah))) af) af)) (ae (dj (aZ (av bK (ar aK (ar bG (cm c__law_cell_at hr aH (aa (pv 0) (aa af ah))) af) af) af (aw _)) (aj (bw (i:=2) nd (aG aO (bo (aa af (aa af (aa af ah)))) (pv 3) (λ_ _=>rfl)))) aF)) (ae (bw (i:=4) nd (cm c__law_paper hr aH (aa (pv 2) ah))) (ae (dj (aZ (PW.pt (mQ (av jt (pv 2) (cD (aa af (aa af (aa af ah)))) (by with_unfolding_all rfl)) (j9 (b4 (a4 (cm c__law_right hr aH (aa (pv 4) (aa (cm c__law_power hr aH (aa (pv 2) (aa (aG aU (pv 4) af (λ_ _=>rfl)) (aa (aG aO (bo (aa af (aa af (aa af ah)))) (pv 3) (λ_ _=>rfl)) ah)))) ah))) (λ_=>rfl)))))) (aj (aB cM)) aF)) (ae (cT PassesOwn.never rfl (cn (ar ir (iB ki (pv 0) (gL af) (gL af)) (bo (aa af ah)))) (aC (i:=5) nd rfl (Or.inl rfl) (.inr rfl)) (ae (bw (i:=6) nd (cm c__law_state hr aH (aa (pv 5) (aa (pv 1) ah)))) (ae (bw (i:=7) nd (cm c__law_number hr aH (aa (pv 6) ah))) (ae (dj (aZ (av bK (cm c__law_take hr aH (aa (pv 6) (aa af ah))) af (aw _)) (ae (bw (i:=8) nd af) (ae (cT PassesOwn.never rfl (mK (aG aU (pv 4) af (λ_ _=>rfl))) (aC (i:=9) nd rfl (Or.inl rfl) (.inr rfl)) (aj (aZ (PW.pt (mQ (av gy (aG aU (aG aU (pv 9) af (λ_ _=>rfl)) af (λ_ _=>rfl)) af (aw _)) (j9 (av cW (cm c__law_take hr aH (aa (pv 6) (aa af ah))) af (aw _))))) (aj (bw (i:=8) nd (ar aV (pv 8) (aG aU (aG aU (pv 9) af (λ_ _=>rfl)) af (λ_ _=>rfl))))) aF))) (aj (bw (i:=7) nd (cm c__law_power hr aH (aa (aG aU (pv 4) af (λ_ _=>rfl)) (aa (aG aU (pv 4) af (λ_ _=>rfl)) (aa (ar aV (ar bG (ar cS (aG aU (pv 4) af (λ_ _=>rfl)) af) (pv 8)) (ar b3 af (cm c__law_take hr aH (aa (pv 6) (aa af ah))))) ah)))))))) aF)) (aj (aZ (PW.pt (gz (b4 (a4 (cm c__law_right hr aH (aa (pv 4) (aa (pv 7) ah))) (λ_=>rfl))) (iJ (b4 (a4 (cm c__law_right hr aH (aa (pv 4) (aa (pv 7) ah))) (λ_=>rfl)))))) (aj (aB cM)) aF)))))) (aj (aB cM)))))))))),?_⟩
 show bV _ _ _ [some (.ref sc),none,none,none,none,none,none,none,none,none] H
 k_data
 refine⟨λσ' H'=>ay H H'/\σ'=[some (.ref sc),none,none,none,none,none,none,none,none,none],?_,?_⟩
 ·k_data
  refine⟨sc,ns,2,rfl,hS,λc2=>⟨c2,rfl,c2%1000000000,rfl,Int.emod_nonneg _ (by decide),Int.emod_lt_of_pos _ (by decide),λH1 s1=>⟨true,ba.mpr rfl,?_⟩⟩⟩
  rw [if_neg (by decide)]
  exact s1
 rintro σ' H1 ⟨s1,rfl⟩
 k_data
 refine⟨sc,ns,1,rfl,hS.same s1,λc1=>⟨c1,rfl,?_⟩⟩
 generalize decide (c1%2=0)=fb
 refine⟨sc,ns,0,rfl,hS.same s1,λc0=>⟨c0,fb,rfl,λp1 l1 H2 s2 f2 e2 k2=>⟨p1,l1,fb,rfl,e2,k2,λn H3 hn n9 u3=>?_⟩⟩⟩
 have S3:ay H H3:=s1.trans (u3.same s2 f2)
 refine⟨sc,ns,1,rfl,hS.same S3,λc1'=>⟨c1',rfl,pW (by decide),?_⟩⟩
 have nr0:0<=c1' / 16%3:=Int.emod_nonneg _ (by decide)
 have nr1:c1' / 16%3<3:=Int.emod_lt_of_pos _ (by decide)
 generalize c1' / 16%3=nr at *
 refine⟨λσ' H'=>ay H3 H'/\∃ p:Int,(Num.Pm p/\p<=10^9)/\σ'=[some (.ref sc),some (.bl fb),some (.int p),some (.int nr),none,none,none,none,none,none],?_,?_⟩
 ·k_data
  refine⟨sc,ns,1,rfl,hS.same S3,λc=>⟨c,rfl,pW (by decide),?_⟩⟩
  refine bp (λ_=>?_) (λ_=>⟨ay.refl _,n,hn,by omega,rfl⟩)
  refine⟨by show 3<=sizeLine;decide,λp hp=>?_⟩
  refine fG (aW.of ag) nr0 (by show nr<3;exact nr1) λv hv=>?_
  simp only [List.mem_cons,List.not_mem_nil,or_false] at hv
  rcases hv with rfl | rfl | rfl
  ·exact⟨ao hp,401,xx,by decide,rfl⟩
  ·exact⟨ao hp,1201,vZ,by decide,rfl⟩
  ·exact⟨ao hp,3209,v3,by decide,rfl⟩
 rintro σ' H4 ⟨s4,p,⟨pm,p9⟩,rfl⟩
 have S4:=S3.trans s4
 have p2:=pm.two
 have pow:∀(x:Int) (k:Nat),-(10^60)<=x^k%p/\x^k%p<=10^60:=λx k=>by
  have h0:=Int.emod_nonneg (x^k) (show p≠0 by omega)
  have h1:=Int.emod_lt_of_pos (x^k) (show 0<p by omega)
  omega
 k_data
 refine⟨p,rfl,pm,p9,λd v H5 hp s5 hd=>?_⟩
 have S5:=S4.trans s5
 have hp':=hp
 obtain⟨g,ps,ds,rfl,hg,hP,hl29,hds⟩:=j4 hp
 have hd':=hd
 obtain⟨pp,y1,y2,vr,rfl,tS,e0,eg,dr⟩:=vC hd
 cases e0
 cases eg
 obtain⟨pr,xs,rfl,hSr,hdr⟩:=dr
 have xl:xs.length=ps.length:=by rw [hdr.length,Num.bC]
 refine⟨λσ' H'=>ay H5 H'/\σ'=[some (.ref sc),some (.bl fb),some (.int p),some (.int nr),some (.ref pp),none,none,none,none,none],?_,?_⟩
 ·k_data
  refine⟨by show 3<=sizeLine;decide,λpt hpt=>?_⟩
  have st:=ao (o:=.tup [V.int 401,V.int 1201,V.int 3209]) hpt
  refine⟨pt,_,rfl,.inr (cF.of ag),rfl,rfl,_,rfl,?_⟩
  refine bp (λ_=>?_) (λ_=>st)
  refine bY (tS.same st) rfl ⟨by show 3<=sizeLine;decide,λpl hpl=>?_⟩
  have sl:=ao (o:=.lst [V.int 1,V.int 3,V.int 8]) hpl
  refine fG (aW.of ag) nr0 (by show nr<3;exact nr1) λv hv=>?_
  obtain⟨m,rfl⟩:∃ m:Nat,v=.int (m:Int):=by
   simp only [List.mem_cons,List.not_mem_nil,or_false] at hv
   rcases hv with rfl | rfl | rfl
   ·exact⟨1,rfl⟩
   ·exact⟨3,rfl⟩
   ·exact⟨8,rfl⟩
  refine⟨p,g,_,rfl,by omega,by omega,by omega,?_⟩
  refine⟨_,p,_,g,_,rfl,dv.same (st.trans sl) _ hd',hp',(pow _ _).1,(pow _ _).2,λH6 s6=>⟨true,ba.mpr rfl,?_⟩⟩
  rw [if_neg (by decide)]
  exact st.trans (sl.trans s6)
 rintro σ' H6 ⟨s6,rfl⟩
 have S6:=S5.trans s6
 k_data
 refine⟨sc,_,rfl,hS.same S6,λpc hpc=>⟨by show 1<=sizeLine;decide,λpz hpz=>?_⟩⟩
 have z4:=ao (o:=.lst (dF (ns.map V.int) (some 2) (some 22))) hpc
 have z5:=ao (o:=.lst [V.int 0]) hpz
 have e4:upd (upd H6 pc (.lst (dF (ns.map V.int) (some 2) (some 22)))) pz (.lst [V.int 0]) pc=some (.lst (dF (ns.map V.int) (some 2) (some 22))):=z5 _ _ ag
 have e5:upd (upd H6 pc (.lst (dF (ns.map V.int) (some 2) (some 22)))) pz (.lst [V.int 0]) pz=some (.lst [V.int 0]):=ag
 have Z5:=z4.trans z5
 generalize upd (upd H6 pc _) pz _=H7 at *
 have cl:(dF (ns.map V.int) (some 2) (some 22)).length<=63:=by
  unfold dF
  rw [List.length_take,List.length_drop,List.length_map]
  omega
 have hin:∀ x∈dF (ns.map V.int) (some 2) (some 22)++[V.int 0],∃ c,x=.int c:=by
  intro x hx
  rcases List.mem_append.mp hx with y | y
  ·unfold dF at y
   have:=List.mem_of_mem_drop (List.mem_of_mem_take y)
   obtain⟨c,_,e⟩:=List.mem_map.mp this
   exact⟨c,e.symm⟩
  ·exact⟨0,List.mem_singleton.mp y⟩
 refine⟨pc,pz,_,_,rfl,rfl,e4,e5,Nat.le_trans (show _+1<=64 by omega) (by decide),λpl hpl=>⟨pl,rfl,⟨_,aW.of ag⟩,?_⟩⟩
 generalize dF (ns.map V.int) (some 2) (some 22)++[V.int 0]=L at *
 have Z6:=Z5.trans (ao (o:=.lst L) hpl)
 have e6:upd H7 pl (.lst L) pl=some (.lst L):=ag
 generalize upd H7 pl _=H8 at *
 have P8:=s6.trans Z6
 refine gi (xs:=L) (λi σ' H'=>(∃ o5 o6 o7 o8 o9,σ'=[some (.ref sc),some (.bl fb),some (.int p),some (.int nr),some (.ref pp),o5,o6,o7,o8,o9])/\ay H8 H') ⟨⟨_,_,_,_,_,rfl⟩,ay.refl _⟩ (λi σ' H' _ h=>aW.of (h.2 _ _ e6)) ?_ ?_
 ·rintro i x σ' H9 hx ⟨⟨o5,o6,o7,o8,o9,rfl⟩,s9⟩
  obtain⟨c,rfl⟩:=hin x (List.mem_of_getElem? hx)
  have P9:=P8.trans s9
  k_data
  refine⟨c,fb,rfl,λq1 l1 HA sA fA eA kA=>⟨q1,l1,fb,rfl,eA,kA,λb HB b0 b1 uB=>?_⟩⟩
  have SB:ay H9 HB:=uB.us.same sA fA
  obtain⟨lB,kB,eB⟩:=uB.at
  refine⟨λσ' H'=>zh H9 sc pp q1 fb p nr c σ' H',?_,?_⟩
  ·k_data
   refine⟨q1,2,lB,fb,rfl,eB,kB,by decide,by decide,λr HC r0 r1 uC=>⟨rfl,?_⟩⟩
   have SC:ay H9 HC:=uC.us.same SB fA
   obtain⟨lC,kC,eC⟩:=uC.at
   refine bp (λ_=>?_) (λ_=>⟨SC,b,_,_,⟨by omega,by omega⟩,rfl⟩)
   refine bY (tS.same (P9.trans SC)) rfl ⟨pr,rfl,⟨_,hSr.same (P9.trans SC)⟩,?_⟩
   refine k9 (xs:=xs) (λj σ' H'=>∃(m:Int) (o9:Option V) (l:Int),σ'=[some (.ref sc),some (.bl fb),some (.int p),some (.int nr),some (.ref pp),some (.int c),some (.ref q1),some (.int b),some (.int m),o9]/\zi H9 q1 fb j m l H') ⟨1,_,lC,rfl,SC,by decide,by decide,eC,kC⟩ (λj σ' H' _ h=>by obtain⟨_,_,_,_,h⟩:=h;exact hSr.same (P9.trans h.1)) ?_ ?_
   ·rintro j z σ' HD hz ⟨m,o9,l,rfl,SD,m1,m2,eD,kD⟩
    obtain⟨q',k',pt,pq,r',hy,rfl,t1,t2⟩:=jS hdr (qE hds) hz
    have q2:2<=q':=(hP.ok _ (List.mem_of_getElem? hy)).1.two
    have j29:j<29:=by
     have:=(List.getElem?_eq_some_iff.mp hy).1
     omega
    have m9:m<=30^29:=Int.le_trans m2 (by
     have:=Nat.pow_le_pow_right (show 0<30 by decide) (show j<=29 by omega)
     exact_mod_cast this)
    have T:=P9.trans SD
    k_data
    refine bY (t1.same T) rfl (bY (t2.same T) pO ⟨_,rfl,bp (λc3=>?_) (λc3=>?_)⟩)
    ·refine⟨q1,3,l,fb,rfl,eD,kD,by decide,by decide,λr HE r0 r1 uE=>⟨r,rfl,?_⟩⟩
     have SE:ay H9 HE:=uE.us.same SD fA
     obtain⟨lE,kE,eE⟩:=uE.at
     have TE:=P9.trans SE
     have q30:m*q'<=m*30:=Int.mul_le_mul_of_nonneg_left (by omega) (by omega)
     have q1':m*1<=m*q':=Int.mul_le_mul_of_nonneg_left (by omega) (by omega)
     refine bp (λ_=>bY (t1.same TE) rfl (bY (t2.same TE) pO ⟨_,rfl,Bd.of (by omega) (by omega),Bd.of (by omega) (by omega),?_⟩)) (λ_=>?_)
     ·refine⟨lE,SE,by omega,?_,eE,kE⟩
      rw [Int.pow_succ]
      exact Int.le_trans q30 (Int.mul_le_mul_of_nonneg_right m2 (by decide))
     ·refine⟨lE,SE,m1,Int.le_trans m2 ?_,eE,kE⟩
      exact_mod_cast Nat.pow_le_pow_right (show 0<30 by decide) (Nat.le_succ j)
    ·refine⟨l,SD,m1,Int.le_trans m2 ?_,eD,kD⟩
     exact_mod_cast Nat.pow_le_pow_right (show 0<30 by decide) (Nat.le_succ j)
   ·rintro σ' HD ⟨m,o9,l,rfl,SD,m1,m2,eD,kD⟩
    have m9:m<=30^29:=Int.le_trans m2 (by
     have:=Nat.pow_le_pow_right (show 0<30 by decide) (show xs.length<=29 by omega)
     exact_mod_cast this)
    have T:=P9.trans SD
    have d0:0<=(p-1)/m:=Int.ediv_nonneg (by omega) (by omega)
    have d1:(p-1)/m<=p-1:=Int.ediv_le_self _ (by omega)
    k_data
    refine bY (tS.same T) rfl (bY (tS.same T) rfl (bY (tS.same T) rfl ⟨_,rfl,by omega,Bd.of (by omega) (by omega),?_⟩))
    refine⟨q1,20,l,fb,rfl,eD,kD,by decide,by decide,λr HE r0 r1 uE=>⟨r,rfl,Bd.of (by omega) (by omega),Bd.of (by omega) (by omega),?_⟩⟩
    have SE:ay H9 HE:=uE.us.same SD fA
    refine⟨p,g,_,rfl,by omega,by omega,Int.mul_nonneg d0 (by omega),?_⟩
    exact⟨SE,_,_,_,pow _ _,rfl⟩
  ·rintro σ' HC ⟨SC,b,o8,o9,⟨b0,b1⟩,rfl⟩
   have T:=P9.trans SC
   k_data
   refine⟨_,p,b,g,_,rfl,dv.same T _ hd',hp',b0,b1,λHD sD=>⟨true,ba.mpr rfl,?_⟩⟩
   rw [if_neg (by decide)]
   refine⟨_,p,b,g,_,rfl,dv.same (T.trans sD) _ hd',hp',b0,b1,λHE sE=>⟨true,ba.mpr rfl,?_⟩⟩
   rw [if_neg (by decide)]
   exact s9.trans (SC.trans (sD.trans sE))
 ·rintro σ' H9 ⟨⟨o5,o6,o7,o8,o9,rfl⟩,s9⟩
  k_data
  exact q _
end
end K
namespace K
open PySem PySem.Spec PyProof.Rows L2
section
variable {K:PySem.W.Frag} {C cP d0 d1 d2 d3 d4 d5 d6 d7 d8 d9:Addr}
theorem cR (j:Nat) (c:aS K C) (h0:PySem.W.kitOne K (.ref C) (.ref d0)=some (decide (0=j))) (h1:PySem.W.kitOne K (.ref C) (.ref d1)=some (decide (1=j))) (h2:PySem.W.kitOne K (.ref C) (.ref d2)=some (decide (2=j))) (h3:PySem.W.kitOne K (.ref C) (.ref d3)=some (decide (3=j))) (h4:PySem.W.kitOne K (.ref C) (.ref d4)=some (decide (4=j))) (h5:PySem.W.kitOne K (.ref C) (.ref d5)=some (decide (5=j))) (h6:PySem.W.kitOne K (.ref C) (.ref d6)=some (decide (6=j))) (h7:PySem.W.kitOne K (.ref C) (.ref d7)=some (decide (7=j))) (h8:PySem.W.kitOne K (.ref C) (.ref d8)=some (decide (8=j))) (h9:PySem.W.kitOne K (.ref C) (.ref d9)=some (decide (9=j))) (kp:PySem.W.kitOne K (.ref C) (.ref cP)=some true) (kv:PySem.W.kitOne K (.ref C) (.type "ValueError")=some true):WK K C [d0,d1,d2,d3,d4,d5,d6,d7,d8,d9] j/\PySem.W.kitOne K (.ref C) (.ref cP)=some true/\PySem.W.kitOne K (.ref C) (.type "ValueError")=some true:=⟨⟨c,λi x h=>by
 match i,h with
 | 0,h=>cases h;exact h0
 | 1,h=>cases h;exact h1
 | 2,h=>cases h;exact h2
 | 3,h=>cases h;exact h3
 | 4,h=>cases h;exact h4
 | 5,h=>cases h;exact h5
 | 6,h=>cases h;exact h6
 | 7,h=>cases h;exact h7
 | 8,h=>cases h;exact h8
 | 9,h=>cases h;exact h9
 | i+10,h=>simp at h⟩,kp,kv⟩
def Row (K:PySem.W.Frag) (cP:Addr) (cs:List Addr) (j:Nat) (C:Addr):Prop:=WK K C cs j/\PySem.W.kitOne K (.ref C) (.ref cP)=some true/\PySem.W.kitOne K (.ref C) (.type "ValueError")=some true
theorem yK (r0:Row K cP [d0,d1,d2,d3,d4,d5,d6,d7,d8,d9] 0 d0) (r1:Row K cP [d0,d1,d2,d3,d4,d5,d6,d7,d8,d9] 1 d1) (r2:Row K cP [d0,d1,d2,d3,d4,d5,d6,d7,d8,d9] 2 d2) (r3:Row K cP [d0,d1,d2,d3,d4,d5,d6,d7,d8,d9] 3 d3) (r4:Row K cP [d0,d1,d2,d3,d4,d5,d6,d7,d8,d9] 4 d4) (r5:Row K cP [d0,d1,d2,d3,d4,d5,d6,d7,d8,d9] 5 d5) (r6:Row K cP [d0,d1,d2,d3,d4,d5,d6,d7,d8,d9] 6 d6) (r7:Row K cP [d0,d1,d2,d3,d4,d5,d6,d7,d8,d9] 7 d7) (r8:Row K cP [d0,d1,d2,d3,d4,d5,d6,d7,d8,d9] 8 d8) (r9:Row K cP [d0,d1,d2,d3,d4,d5,d6,d7,d8,d9] 9 d9):∀ j c,[d0,d1,d2,d3,d4,d5,d6,d7,d8,d9][j]?=some c->WK K c [d0,d1,d2,d3,d4,d5,d6,d7,d8,d9] j/\PySem.W.kitOne K (.ref c) (.ref cP)=some true/\PySem.W.kitOne K (.ref c) (.type "ValueError")=some true:=λj c h=>by
 match j,h with
 | 0,h=>cases h;exact r0
 | 1,h=>cases h;exact r1
 | 2,h=>cases h;exact r2
 | 3,h=>cases h;exact r3
 | 4,h=>cases h;exact r4
 | 5,h=>cases h;exact r5
 | 6,h=>cases h;exact r6
 | 7,h=>cases h;exact r7
 | 8,h=>cases h;exact r8
 | 9,h=>cases h;exact r9
 | j+10,h=>simp at h
end
end K
namespace PySem.W.Fast
def tw10907936379679960972:=0
def tw7204353974198102144:=0
def tw1946520608897916192:=0
def tw2117136000418734688:=0
def tw1782588999384076992:=0
def tw1305332537577032640:=0
def tw2305209558750183425:=0
def tw11768972234720111617:=0
def tw2752235003321323585:=0
def tw14371181374996712577:=0
def tw16794354088471594273:=0
def tw17727146758122018081:=0
def tw13790588074758913473:=0
def tw3419541919196855841:=0
def tw9126445032772868737:=0
def tw14343196340635311841:=0
def tw29325416512490401:=0
def tw6200251406588610497:=0
def tw8524208403606376514:=0
def tw10398545590702361762:=0
def tw7473875869058855138:=0
def tw11776547754780290434:=0
def tw10815352845212200354:=0
def tw6952186010607445474:=0
def tw8559127474972554882:=0
def tw9837927856102175522:=0
def tw11617286024838738786:=0
def tw13853742594434146178:=0
def tw6256518586029088674:=0
def tw4868004721192952835:=0
def tw17287694267215706115:=0
def tw591252431907257347:=0
def tw16607750070746802275:=0
def tw17306540029419137443:=0
def tw17697379171199021507:=0
def tw13708258861566242339:=0
def tw3757885189638110883:=0
def tw13047598507048790691:=0
def tw542278660951552771:=0
def tw11109107818870705955:=0
def tw3973404798931111715:=0
def tw5849903765065530147:=0
def tw11159289389788532579:=0
def tw12007222125415179203:=0
def tw6282622350347904164:=0
def tw6692351337837317540:=0
def tw7690963335246659364:=0
def tw11916085750097376196:=0
def tw16172872473413973061:=0
def tw17261291890973015269:=0
def tw16630733910937036165:=0
def tw1170309911469887909:=0
def tw1255978034767333029:=0
def tw7990911420193274565:=0
def tw16321143307622386405:=0
def tw8207381633910638982:=0
def tw5705715132821122694:=0
def tw17061860480549086854:=0
def tw9900311255415465638:=0
def tw18123699421179705062:=0
def tw6586964268414204710:=0
def tw17945813059532068774:=0
def tw2190489516295899078:=0
def tw11539311136051407846:=0
def tw14091498692504148007:=0
def tw13478791499817690471:=0
def tw10337843266158177703:=0
def tw13846347898873183655:=0
def tw2793346613958099687:=0
def tw14468224016029284167:=0
def tw13957954883468778471:=0
def tw3041567212860888072:=0
def tw10920357935265862888:=0
def tw12876597192485523720:=0
def tw17012228277051570568:=0
def tw5150231612403503560:=0
def tw14308759868009429608:=0
def tw1704931649069228680:=0
def tw14658745260346486440:=0
def tw16145693994330804936:=0
def tw8592804478299959112:=0
def tw11532878710597284969:=0
def tw5635194390674710729:=0
def tw45043588237199625:=0
def tw12537991484907013449:=0
def tw6668508718472593801:=0
def tw8620848307043532393:=0
def tw14964003365660437289:=0
def tw13286911833860534282:=0
def tw12595417308945662090:=0
def tw6158907120447537322:=0
def tw2915859220192052458:=0
def tw4530472545936373194:=0
def tw2101785412760710219:=0
def tw11096339818535447819:=0
def tw16029735462451387755:=0
def tw14670629521902038635:=0
def tw18411547498299687627:=0
def tw15793134868585939723:=0
def tw988744613613211435:=0
def tw3524324210369364875:=0
def tw11023361937163768715:=0
def tw11653957811320325196:=0
def tw10724738118385340652:=0
def tw3386252793184826604:=0
def tw5239642274857901388:=0
def tw3022447980313849324:=0
def tw5968674029759191532:=0
def tw11717030794793650764:=0
def tw12526550129107233837:=0
def tw15946900983584246925:=0
def tw9574972651651892493:=0
def tw13094626538271817197:=0
def tw3504771433653463949:=0
def tw9467210506933942382:=0
def tw16917527058460298510:=0
def tw4597854223610479022:=0
def tw11645240245877100174:=0
def tw13585828284929957550:=0
def tw18222558837082259182:=0
def tw2812321353806713614:=0
def tw11836057100725565422:=0
def tw10696608345742461967:=0
def tw3036204782146428975:=0
def tw6688261229116342415:=0
def tw2396785870934666383:=0
def tw9790235561100281167:=0
def tw5107351449672848911:=0
def tw7525436026083139279:=0
def tw3781967810354862863:=0
def tw6384681116090189840:=0
def tw10415539767314371696:=0
def tw5577511314551895216:=0
def tw7619835978811371728:=0
def tw14536842534640955888:=0
def tw5968647954569837136:=0
def tw15510594586353850128:=0
def tw15302410635096421136:=0
def tw7140961548330177360:=0
def tw16115766667404608496:=0
def tw12821432281905503345:=0
def tw6263450347977230673:=0
def tw18017974093036963217:=0
def tw16964203084754950577:=0
def tw4987850123101563345:=0
def tw10321614301248068081:=0
def tw350862032319618545:=0
def tw11402343433524657681:=0
def tw6682186918066277905:=0
def tw9103666587205683761:=0
def tw5807413134499516049:=0
def tw8539138526405803665:=0
def tw6340716258671130385:=0
def tw15845429139550716785:=0
def tw14575577299005474737:=0
def tw14838817823851400113:=0
def tw10005165011314388977:=0
def tw6659578760566829138:=0
def tw17253126242356833426:=0
def tw3399354756984717554:=0
def tw16755287861196607794:=0
def tw1024993491963761970:=0
def tw14394378852794061234:=0
def tw8712797255122219570:=0
def tw9622901016267258674:=0
def tw9478472030004707250:=0
def tw5523725785422370770:=0
def tw9441517079524073555:=0
def tw3577349728362505363:=0
def tw11276620306023453939:=0
def tw2880438590288325011:=0
def tw16357722073675096819:=0
def tw18131065837185086291:=0
def tw11396394012223053811:=0
def tw14987098386110566420:=0
def tw4882886748660072628:=0
def tw3316135975776522420:=0
def tw9484288561527477620:=0
def tw8428521923960000116:=0
def tw5694494172031908500:=0
def tw1559163436078745364:=0
def tw15038030650363345973:=0
def tw16466530598698825941:=0
def tw14495857167182104917:=0
def tw1892564720599528917:=0
def tw7822717778840189397:=0
def tw2336971309459382805:=0
def tw10847242640507069077:=0
def tw6232233215918273173:=0
def tw17087713526176627381:=0
def tw17469049643634006741:=0
def tw16916395562939566837:=0
def tw8273934619982797589:=0
def tw5422732174370532245:=0
def tw921008055060664854:=0
def tw3015040104572646998:=0
def tw11620327046814562966:=0
def tw1350241510215675606:=0
def tw12649507300564790134:=0
def tw12724060550507210742:=0
def tw13964193797298753911:=0
def tw3413924533445034807:=0
def tw11012697945249967095:=0
def tw8051362364668418168:=0
def tw15756308635895857304:=0
def tw13983854973388783896:=0
def tw18133029986476029240:=0
def tw11451487869186358072:=0
def tw11784165347820220793:=0
def tw1519348019618074297:=0
def tw14556281329604404985:=0
def tw11782873383420783674:=0
def tw9323858153934301370:=0
def tw2801762742937776538:=0
def tw509838355664093850:=0
def tw18045256403748527930:=0
def tw11931884777691508634:=0
def tw593000711296119963:=0
def tw13584372791875889339:=0
def tw4842397526864381179:=0
def tw5078435596194544955:=0
def tw7531283766927156763:=0
def tw18393386665394711163:=0
def tw229352533368677051:=0
def tw5629798079252751227:=0
def tw9866275410883844348:=0
def tw12694007864575292700:=0
def tw13040670176170981724:=0
def tw9860236021779378588:=0
def tw3581935821189519036:=0
def tw1541090624082157404:=0
def tw1261360635001594748:=0
def tw12107442881657660348:=0
def tw12881800738348879868:=0
def tw5899710746502110333:=0
def tw3698378868562230589:=0
def tw17797262102522736093:=0
def tw1381972262630353533:=0
def tw1710164832234678973:=0
def tw13452083760286431037:=0
def tw12249327967151021981:=0
def tw17062292895373131838:=0
def tw7324285597240905790:=0
def tw14130086665870784670:=0
def tw17882166346737770654:=0
def tw13132777909616846046:=0
def tw15430703682251208062:=0
def tw16969696839881828894:=0
def tw106747231179804350:=0
def tw2111379708778275518:=0
def tw9832464007051743966:=0
def tw1167243651286055742:=0
def tw17295491559286120318:=0
def tw18280554869869613247:=0
def tw16763368132616032479:=0
def tw9813162908796971423:=0
def tw6302005161662994943:=0
def tw2598024596943171327:=0
def tw15679729617294064511:=0
end PySem.W.Fast
namespace K
open PySem PySem.Spec PyProof.Rows L2
theorem oP:gb "TooFar.__init__" "part" "part" (inClass (top 5) 0):=⟨⟨rfl,rfl,rfl,by decide +kernel,rfl,by decide +kernel,by decide +kernel⟩,⟨_,_,_,_,rfl,λ_=>rfl,λ_=>rfl⟩,rfl,rfl,by decide,by decide,λ_ _ _ _ _ _ us hl=>match us,hl with | [_,_],_=>rfl⟩
theorem mj:gb "NoPrime.__init__" "divisor" "divisor" (inClass (top 6) 0):=⟨⟨rfl,rfl,rfl,by decide +kernel,rfl,by decide +kernel,by decide +kernel⟩,⟨_,_,_,_,rfl,λ_=>rfl,λ_=>rfl⟩,rfl,rfl,by decide,by decide,λ_ _ _ _ _ _ us hl=>match us,hl with | [_,_],_=>rfl⟩
theorem jU:gb "NoInverse.__init__" "divisor" "divisor" (inClass (top 7) 0):=⟨⟨rfl,rfl,rfl,by decide +kernel,rfl,by decide +kernel,by decide +kernel⟩,⟨_,_,_,_,rfl,λ_=>rfl,λ_=>rfl⟩,rfl,rfl,by decide,by decide,λ_ _ _ _ _ _ us hl=>match us,hl with | [_,_],_=>rfl⟩
theorem oM:gb "NoRoot.__init__" "rest" "rest" (inClass (top 8) 0):=⟨⟨rfl,rfl,rfl,by decide +kernel,rfl,by decide +kernel,by decide +kernel⟩,⟨_,_,_,_,rfl,λ_=>rfl,λ_=>rfl⟩,rfl,rfl,by decide,by decide,λ_ _ _ _ _ _ us hl=>match us,hl with | [_,_],_=>rfl⟩
theorem ml:gb "TooMany.__init__" "many" "many" (inClass (top 9) 0):=⟨⟨rfl,rfl,rfl,by decide +kernel,rfl,by decide +kernel,by decide +kernel⟩,⟨_,_,_,_,rfl,λ_=>rfl,λ_=>rfl⟩,rfl,rfl,by decide,by decide,λ_ _ _ _ _ _ us hl=>match us,hl with | [_,_],_=>rfl⟩
theorem oO:mX "NoText.__init__" "line" "word" "line" "word" (inClass (top 10) 0):=⟨⟨rfl,rfl,rfl,by decide +kernel,rfl,by decide +kernel,by decide +kernel⟩,⟨_,_,_,_,_,_,_,_,rfl,λ_=>rfl,λ_=>rfl⟩,rfl,rfl,rfl,by decide,by decide,by decide,by decide,λ_ _ _ _ _ _ us hl=>match us,hl with | [_,_,_],_=>rfl⟩
end K
open PySem PySem.W PyProof.Rows L2
set_option maxHeartbeats 0 in
theorem PySem.Challenge.cw_rootprime_k77_tables_of_powers_holds : PySem.Challenge.rw_rootprime_k77_tables_of_powers.Holds := by
 w_on;o_law;k_head;(case hw=>w_witness2)
 k_fill
 refine L2.sh (l:=PySem.Challenge.rw_rootprime_k77_tables_of_powers) (n:=63) (k:=33) (x := "_law_script") (CX:=L2.a8) (sp:=K.uV) rfl (by decide) rfl ⟨rfl,by decide,by decide,rfl⟩ (λw h Y=>PySem.W.kIn_of Y) ?F ?S ?C
 case F =>
  intro w mg fa h KX G hmg
  have d_whole_of:L2.aA (L2.eG KX) mg "whole_of" (K.top 13):=K.fw KX G
  have d_divisor:L2.aA (L2.eG KX) mg "divisor" (K.top 15):=K.fw KX G
  have d_inverse:L2.aA (L2.eG KX) mg "inverse" (K.top 16):=K.fw KX G
  have d_parting_in:L2.aA (L2.eG KX) mg "parting_in" (K.top 19):=K.fw KX G
  have d_power:L2.aA (L2.eG KX) mg "power" (K.top 21):=K.fw KX G
  have d_order_from:L2.aA (L2.eG KX) mg "order_from" (K.top 23):=K.fw KX G
  have d_most_times:L2.aA (L2.eG KX) mg "most_times" (K.top 24):=K.fw KX G
  have d_raised:L2.aA (L2.eG KX) mg "raised" (K.top 25):=K.fw KX G
  have d_times_in_order:L2.aA (L2.eG KX) mg "times_in_order" (K.top 26):=K.fw KX G
  have d_times_to_one:L2.aA (L2.eG KX) mg "times_to_one" (K.top 27):=K.fw KX G
  have d_order:L2.aA (L2.eG KX) mg "order" (K.top 28):=K.fw KX G
  have d_powers_of:L2.aA (L2.eG KX) mg "powers_of" (K.top 30):=K.fw KX G
  have d_places_of:L2.aA (L2.eG KX) mg "places_of" (K.top 31):=K.fw KX G
  have d__law_cell_at:L2.aA (L2.eG KX) mg "_law_cell_at" (K.top 33):=K.fw KX G
  have d__law_state:L2.aA (L2.eG KX) mg "_law_state" (K.top 34):=K.fw KX G
  have d__law_take:L2.aA (L2.eG KX) mg "_law_take" (K.top 35):=K.fw KX G
  have d__law_number:L2.aA (L2.eG KX) mg "_law_number" (K.top 36):=K.fw KX G
  have d__law_power:L2.aA (L2.eG KX) mg "_law_power" (K.top 37):=K.fw KX G
  have d__law_parted:L2.aA (L2.eG KX) mg "_law_parted" (K.top 38):=K.fw KX G
  have d__law_paper:L2.aA (L2.eG KX) mg "_law_paper" (K.top 39):=K.fw KX G
  have d__law_is_prime:L2.aA (L2.eG KX) mg "_law_is_prime" (K.top 40):=K.fw KX G
  have d__law_prime:L2.aA (L2.eG KX) mg "_law_prime" (K.top 41):=K.fw KX G
  have d__law_steps:L2.aA (L2.eG KX) mg "_law_steps" (K.top 42):=K.fw KX G
  have d__law_told:L2.aA (L2.eG KX) mg "_law_told" (K.top 43):=K.fw KX G
  have d__law_kinds:L2.aA (L2.eG KX) mg "_law_kinds" (K.top 44):=K.fw KX G
  have d__law_by_hand:L2.aA (L2.eG KX) mg "_law_by_hand" (K.top 45):=K.fw KX G
  have d__law_wholes:L2.aA (L2.eG KX) mg "_law_wholes" (K.top 46):=K.fw KX G
  have d__law_right:L2.aA (L2.eG KX) mg "_law_right" (K.top 47):=K.fw KX G
  have d_law:L2.aA (L2.eG KX) mg "law" (K.top 48):=K.fw KX G
  have n_abs:mg "abs"=none:=PySem.W.mg_none_of KX G (by k_is)
  have n_int:mg "int"=none:=PySem.W.mg_none_of KX G (by k_is)
  have n_bool:mg "bool"=none:=PySem.W.mg_none_of KX G (by k_is)
  have n_list:mg "list"=none:=PySem.W.mg_none_of KX G (by k_is)
  have n_dict:mg "dict"=none:=PySem.W.mg_none_of KX G (by k_is)
  have n_isinstance:mg "isinstance"=none:=PySem.W.mg_none_of KX G (by k_is)
  have n_range:mg "range"=none:=PySem.W.mg_none_of KX G (by k_is)
  have n_tuple:mg "tuple"=none:=PySem.W.mg_none_of KX G (by k_is)
  have n_len:mg "len"=none:=PySem.W.mg_none_of KX G (by k_is)
  have n_min:mg "min"=none:=PySem.W.mg_none_of KX G (by k_is)
  have n_zip:mg "zip"=none:=PySem.W.mg_none_of KX G (by k_is)
  have n_enumerate:mg "enumerate"=none:=PySem.W.mg_none_of KX G (by k_is)
  have n_ValueError:mg "ValueError"=none:=PySem.W.mg_none_of KX G (by k_is)
  refine' L2.au (PySem.W.mg_of (n := "PrimeError") KX G ?xa) (λa_PrimeError=>?g1)
  (case xa=>k_is)
  refine' L2.au (L2.bU KX a_PrimeError ?l ?c2 ?c3 ?e1 ?e2 ?e3 ?e4 ?e5 ?e6 ?ob ?kp) (λc_PrimeError=>?g2)
  (case l=>k_is);(case c2=>rfl);(case c3=>rfl);(case e1=>k_is);(case e2=>k_is);(case e3=>k_is);(case e4=>k_is);(case e5=>k_is);(case e6=>k_is);(case ob=>exact⟨_,_,_,_,_,_,_,_,_,_,_,_,_,_,_,_,rfl,rfl,rfl,rfl⟩);(case kp=>k_is)
  refine' L2.au (L2.fX a_PrimeError c_PrimeError.2 c_PrimeError.1 ?i) (λx_PrimeError=>?g3)
  (case i=>k_is)
  refine' L2.au (PySem.W.mg_of (n := "NoNumber") KX G ?xa) (λa_NoNumber=>?g4)
  (case xa=>k_is)
  refine' L2.au (L2.bU KX a_NoNumber ?l ?c2 ?c3 ?e1 ?e2 ?e3 ?e4 ?e5 ?e6 ?ob ?kp) (λc_NoNumber=>?g5)
  (case l=>k_is);(case c2=>rfl);(case c3=>rfl);(case e1=>k_is);(case e2=>k_is);(case e3=>k_is);(case e4=>k_is);(case e5=>k_is);(case e6=>k_is);(case ob=>exact⟨_,_,_,_,_,_,_,_,_,_,_,_,_,_,_,_,rfl,rfl,rfl,rfl⟩);(case kp=>k_is)
  refine' L2.au (L2.fX a_NoNumber c_NoNumber.2 c_NoNumber.1 ?i) (λx_NoNumber=>?g6)
  (case i=>k_is)
  refine' L2.au (PySem.W.mg_of (n := "Nought") KX G ?xa) (λa_Nought=>?g7)
  (case xa=>k_is)
  refine' L2.au (L2.bU KX a_Nought ?l ?c2 ?c3 ?e1 ?e2 ?e3 ?e4 ?e5 ?e6 ?ob ?kp) (λc_Nought=>?g8)
  (case l=>k_is);(case c2=>rfl);(case c3=>rfl);(case e1=>k_is);(case e2=>k_is);(case e3=>k_is);(case e4=>k_is);(case e5=>k_is);(case e6=>k_is);(case ob=>exact⟨_,_,_,_,_,_,_,_,_,_,_,_,_,_,_,_,rfl,rfl,rfl,rfl⟩);(case kp=>k_is)
  refine' L2.au (L2.fX a_Nought c_Nought.2 c_Nought.1 ?i) (λx_Nought=>?g9)
  (case i=>k_is)
  refine' L2.au (PySem.W.mg_of (n := "NoOrder") KX G ?xa) (λa_NoOrder=>?g10)
  (case xa=>k_is)
  refine' L2.au (L2.bU KX a_NoOrder ?l ?c2 ?c3 ?e1 ?e2 ?e3 ?e4 ?e5 ?e6 ?ob ?kp) (λc_NoOrder=>?g11)
  (case l=>k_is);(case c2=>rfl);(case c3=>rfl);(case e1=>k_is);(case e2=>k_is);(case e3=>k_is);(case e4=>k_is);(case e5=>k_is);(case e6=>k_is);(case ob=>exact⟨_,_,_,_,_,_,_,_,_,_,_,_,_,_,_,_,rfl,rfl,rfl,rfl⟩);(case kp=>k_is)
  refine' L2.au (L2.fX a_NoOrder c_NoOrder.2 c_NoOrder.1 ?i) (λx_NoOrder=>?g12)
  (case i=>k_is)
  refine' L2.au (PySem.W.mg_of (n := "TooFar") KX G ?xa) (λa_TooFar=>?g13)
  (case xa=>k_is)
  refine' L2.au (L2.bU KX a_TooFar ?l ?c2 ?c3 ?e1 ?e2 ?e3 ?e4 ?e5 ?e6 ?ob ?kp) (λc_TooFar=>?g14)
  (case l=>k_is);(case c2=>rfl);(case c3=>rfl);(case e1=>k_is);(case e2=>k_is);(case e3=>k_is);(case e4=>k_is);(case e5=>k_is);(case e6=>k_is);(case ob=>exact⟨_,_,_,_,_,_,_,_,_,_,_,_,_,_,_,_,rfl,rfl,rfl,rfl⟩);(case kp=>k_is)
  refine' L2.au (L2.fY K.oP a_TooFar c_TooFar.2 c_TooFar.1 ?nf ?i ?fn ?l ?cc ?kk) (λx_TooFar=>?g15)
  (case nf=>k_is);(case i=>k_is);(case fn=>k_is);(case l=>k_is);(case cc=>k_is);(case kk=>k_is)
  refine' L2.au (PySem.W.mg_of (n := "NoPrime") KX G ?xa) (λa_NoPrime=>?g16)
  (case xa=>k_is)
  refine' L2.au (L2.bU KX a_NoPrime ?l ?c2 ?c3 ?e1 ?e2 ?e3 ?e4 ?e5 ?e6 ?ob ?kp) (λc_NoPrime=>?g17)
  (case l=>k_is);(case c2=>rfl);(case c3=>rfl);(case e1=>k_is);(case e2=>k_is);(case e3=>k_is);(case e4=>k_is);(case e5=>k_is);(case e6=>k_is);(case ob=>exact⟨_,_,_,_,_,_,_,_,_,_,_,_,_,_,_,_,rfl,rfl,rfl,rfl⟩);(case kp=>k_is)
  refine' L2.au (L2.fY K.mj a_NoPrime c_NoPrime.2 c_NoPrime.1 ?nf ?i ?fn ?l ?cc ?kk) (λx_NoPrime=>?g18)
  (case nf=>k_is);(case i=>k_is);(case fn=>k_is);(case l=>k_is);(case cc=>k_is);(case kk=>k_is)
  refine' L2.au (PySem.W.mg_of (n := "NoInverse") KX G ?xa) (λa_NoInverse=>?g19)
  (case xa=>k_is)
  refine' L2.au (L2.bU KX a_NoInverse ?l ?c2 ?c3 ?e1 ?e2 ?e3 ?e4 ?e5 ?e6 ?ob ?kp) (λc_NoInverse=>?g20)
  (case l=>k_is);(case c2=>rfl);(case c3=>rfl);(case e1=>k_is);(case e2=>k_is);(case e3=>k_is);(case e4=>k_is);(case e5=>k_is);(case e6=>k_is);(case ob=>exact⟨_,_,_,_,_,_,_,_,_,_,_,_,_,_,_,_,rfl,rfl,rfl,rfl⟩);(case kp=>k_is)
  refine' L2.au (L2.fY K.jU a_NoInverse c_NoInverse.2 c_NoInverse.1 ?nf ?i ?fn ?l ?cc ?kk) (λx_NoInverse=>?g21)
  (case nf=>k_is);(case i=>k_is);(case fn=>k_is);(case l=>k_is);(case cc=>k_is);(case kk=>k_is)
  refine' L2.au (PySem.W.mg_of (n := "NoRoot") KX G ?xa) (λa_NoRoot=>?g22)
  (case xa=>k_is)
  refine' L2.au (L2.bU KX a_NoRoot ?l ?c2 ?c3 ?e1 ?e2 ?e3 ?e4 ?e5 ?e6 ?ob ?kp) (λc_NoRoot=>?g23)
  (case l=>k_is);(case c2=>rfl);(case c3=>rfl);(case e1=>k_is);(case e2=>k_is);(case e3=>k_is);(case e4=>k_is);(case e5=>k_is);(case e6=>k_is);(case ob=>exact⟨_,_,_,_,_,_,_,_,_,_,_,_,_,_,_,_,rfl,rfl,rfl,rfl⟩);(case kp=>k_is)
  refine' L2.au (L2.fY K.oM a_NoRoot c_NoRoot.2 c_NoRoot.1 ?nf ?i ?fn ?l ?cc ?kk) (λx_NoRoot=>?g24)
  (case nf=>k_is);(case i=>k_is);(case fn=>k_is);(case l=>k_is);(case cc=>k_is);(case kk=>k_is)
  refine' L2.au (PySem.W.mg_of (n := "TooMany") KX G ?xa) (λa_TooMany=>?g25)
  (case xa=>k_is)
  refine' L2.au (L2.bU KX a_TooMany ?l ?c2 ?c3 ?e1 ?e2 ?e3 ?e4 ?e5 ?e6 ?ob ?kp) (λc_TooMany=>?g26)
  (case l=>k_is);(case c2=>rfl);(case c3=>rfl);(case e1=>k_is);(case e2=>k_is);(case e3=>k_is);(case e4=>k_is);(case e5=>k_is);(case e6=>k_is);(case ob=>exact⟨_,_,_,_,_,_,_,_,_,_,_,_,_,_,_,_,rfl,rfl,rfl,rfl⟩);(case kp=>k_is)
  refine' L2.au (L2.fY K.ml a_TooMany c_TooMany.2 c_TooMany.1 ?nf ?i ?fn ?l ?cc ?kk) (λx_TooMany=>?g27)
  (case nf=>k_is);(case i=>k_is);(case fn=>k_is);(case l=>k_is);(case cc=>k_is);(case kk=>k_is)
  refine' L2.au (PySem.W.mg_of (n := "NoText") KX G ?xa) (λa_NoText=>?g28)
  (case xa=>k_is)
  refine' L2.au (L2.bU KX a_NoText ?l ?c2 ?c3 ?e1 ?e2 ?e3 ?e4 ?e5 ?e6 ?ob ?kp) (λc_NoText=>?g29)
  (case l=>k_is);(case c2=>rfl);(case c3=>rfl);(case e1=>k_is);(case e2=>k_is);(case e3=>k_is);(case e4=>k_is);(case e5=>k_is);(case e6=>k_is);(case ob=>exact⟨_,_,_,_,_,_,_,_,_,_,_,_,_,_,_,_,rfl,rfl,rfl,rfl⟩);(case kp=>k_is)
  refine' L2.au (L2.um K.oO a_NoText c_NoText.2 c_NoText.1 ?nf ?ng ?i ?fn ?l ?cc ?kk) (λx_NoText=>?g30)
  (case nf=>k_is);(case ng=>k_is);(case i=>k_is);(case fn=>k_is);(case l=>k_is);(case cc=>k_is);(case kk=>k_is)
  refine' L2.au (PySem.W.mg_of (n := "NoRow") KX G ?xa) (λa_NoRow=>?g31)
  (case xa=>k_is)
  refine' L2.au (L2.bU KX a_NoRow ?l ?c2 ?c3 ?e1 ?e2 ?e3 ?e4 ?e5 ?e6 ?ob ?kp) (λc_NoRow=>?g32)
  (case l=>k_is);(case c2=>rfl);(case c3=>rfl);(case e1=>k_is);(case e2=>k_is);(case e3=>k_is);(case e4=>k_is);(case e5=>k_is);(case e6=>k_is);(case ob=>exact⟨_,_,_,_,_,_,_,_,_,_,_,_,_,_,_,_,rfl,rfl,rfl,rfl⟩);(case kp=>k_is)
  refine' L2.au (L2.fX a_NoRow c_NoRow.2 c_NoRow.1 ?i) (λx_NoRow=>?g33)
  (case i=>k_is)
  refine' L2.au (L2.my c_Nought c_Nought ?xa) (λmN=>?g34)
  (case xa=>k_is)
  refine' L2.au (L2.my c_TooMany c_TooMany ?xa) (λmM=>?g35)
  (case xa=>k_is)
  refine' L2.au (L2.my c_TooMany c_Nought ?xa) (λmMN=>?g36)
  (case xa=>k_is)
  refine' L2.au (L2.aq c_NoNumber c_NoOrder ?xn ?xa) (λk_0_1=>?g37)
  (case xn=>rfl);(case xa=>k_is)
  refine' L2.au (L2.aq c_NoNumber c_Nought ?xn ?xa) (λk_0_2=>?g38)
  (case xn=>rfl);(case xa=>k_is)
  refine' L2.au (L2.aq c_NoNumber c_NoRow ?xn ?xa) (λk_0_3=>?g39)
  (case xn=>rfl);(case xa=>k_is)
  refine' L2.au (L2.aq c_NoNumber c_NoPrime ?xn ?xa) (λk_0_4=>?g40)
  (case xn=>rfl);(case xa=>k_is)
  refine' L2.au (L2.aq c_NoNumber c_NoInverse ?xn ?xa) (λk_0_5=>?g41)
  (case xn=>rfl);(case xa=>k_is)
  refine' L2.au (L2.aq c_NoNumber c_NoRoot ?xn ?xa) (λk_0_6=>?g42)
  (case xn=>rfl);(case xa=>k_is)
  refine' L2.au (L2.aq c_NoNumber c_TooMany ?xn ?xa) (λk_0_7=>?g43)
  (case xn=>rfl);(case xa=>k_is)
  refine' L2.au (L2.aq c_NoNumber c_TooFar ?xn ?xa) (λk_0_8=>?g44)
  (case xn=>rfl);(case xa=>k_is)
  refine' L2.au (L2.aq c_NoNumber c_NoText ?xn ?xa) (λk_0_9=>?g45)
  (case xn=>rfl);(case xa=>k_is)
  refine' L2.au (L2.aq c_NoNumber c_PrimeError ?xn ?xa) (λkp_0=>?g46)
  (case xn=>rfl);(case xa=>k_is)
  refine' L2.au (L2.b5 c_NoNumber ?xa) (λkv_0=>?g47)
  (case xa=>k_is)
  refine' L2.au (L2.aq c_NoOrder c_NoNumber ?xn ?xa) (λk_1_0=>?g48)
  (case xn=>rfl);(case xa=>k_is)
  refine' L2.au (L2.aq c_NoOrder c_Nought ?xn ?xa) (λk_1_2=>?g49)
  (case xn=>rfl);(case xa=>k_is)
  refine' L2.au (L2.aq c_NoOrder c_NoRow ?xn ?xa) (λk_1_3=>?g50)
  (case xn=>rfl);(case xa=>k_is)
  refine' L2.au (L2.aq c_NoOrder c_NoPrime ?xn ?xa) (λk_1_4=>?g51)
  (case xn=>rfl);(case xa=>k_is)
  refine' L2.au (L2.aq c_NoOrder c_NoInverse ?xn ?xa) (λk_1_5=>?g52)
  (case xn=>rfl);(case xa=>k_is)
  refine' L2.au (L2.aq c_NoOrder c_NoRoot ?xn ?xa) (λk_1_6=>?g53)
  (case xn=>rfl);(case xa=>k_is)
  refine' L2.au (L2.aq c_NoOrder c_TooMany ?xn ?xa) (λk_1_7=>?g54)
  (case xn=>rfl);(case xa=>k_is)
  refine' L2.au (L2.aq c_NoOrder c_TooFar ?xn ?xa) (λk_1_8=>?g55)
  (case xn=>rfl);(case xa=>k_is)
  refine' L2.au (L2.aq c_NoOrder c_NoText ?xn ?xa) (λk_1_9=>?g56)
  (case xn=>rfl);(case xa=>k_is)
  refine' L2.au (L2.aq c_NoOrder c_PrimeError ?xn ?xa) (λkp_1=>?g57)
  (case xn=>rfl);(case xa=>k_is)
  refine' L2.au (L2.b5 c_NoOrder ?xa) (λkv_1=>?g58)
  (case xa=>k_is)
  refine' L2.au (L2.aq c_Nought c_NoNumber ?xn ?xa) (λk_2_0=>?g59)
  (case xn=>rfl);(case xa=>k_is)
  refine' L2.au (L2.aq c_Nought c_NoOrder ?xn ?xa) (λk_2_1=>?g60)
  (case xn=>rfl);(case xa=>k_is)
  refine' L2.au (L2.aq c_Nought c_NoRow ?xn ?xa) (λk_2_3=>?g61)
  (case xn=>rfl);(case xa=>k_is)
  refine' L2.au (L2.aq c_Nought c_NoPrime ?xn ?xa) (λk_2_4=>?g62)
  (case xn=>rfl);(case xa=>k_is)
  refine' L2.au (L2.aq c_Nought c_NoInverse ?xn ?xa) (λk_2_5=>?g63)
  (case xn=>rfl);(case xa=>k_is)
  refine' L2.au (L2.aq c_Nought c_NoRoot ?xn ?xa) (λk_2_6=>?g64)
  (case xn=>rfl);(case xa=>k_is)
  refine' L2.au (L2.aq c_Nought c_TooMany ?xn ?xa) (λk_2_7=>?g65)
  (case xn=>rfl);(case xa=>k_is)
  refine' L2.au (L2.aq c_Nought c_TooFar ?xn ?xa) (λk_2_8=>?g66)
  (case xn=>rfl);(case xa=>k_is)
  refine' L2.au (L2.aq c_Nought c_NoText ?xn ?xa) (λk_2_9=>?g67)
  (case xn=>rfl);(case xa=>k_is)
  refine' L2.au (L2.aq c_Nought c_PrimeError ?xn ?xa) (λkp_2=>?g68)
  (case xn=>rfl);(case xa=>k_is)
  refine' L2.au (L2.b5 c_Nought ?xa) (λkv_2=>?g69)
  (case xa=>k_is)
  refine' L2.au (L2.aq c_NoRow c_NoNumber ?xn ?xa) (λk_3_0=>?g70)
  (case xn=>rfl);(case xa=>k_is)
  refine' L2.au (L2.aq c_NoRow c_NoOrder ?xn ?xa) (λk_3_1=>?g71)
  (case xn=>rfl);(case xa=>k_is)
  refine' L2.au (L2.aq c_NoRow c_Nought ?xn ?xa) (λk_3_2=>?g72)
  (case xn=>rfl);(case xa=>k_is)
  refine' L2.au (L2.aq c_NoRow c_NoPrime ?xn ?xa) (λk_3_4=>?g73)
  (case xn=>rfl);(case xa=>k_is)
  refine' L2.au (L2.aq c_NoRow c_NoInverse ?xn ?xa) (λk_3_5=>?g74)
  (case xn=>rfl);(case xa=>k_is)
  refine' L2.au (L2.aq c_NoRow c_NoRoot ?xn ?xa) (λk_3_6=>?g75)
  (case xn=>rfl);(case xa=>k_is)
  refine' L2.au (L2.aq c_NoRow c_TooMany ?xn ?xa) (λk_3_7=>?g76)
  (case xn=>rfl);(case xa=>k_is)
  refine' L2.au (L2.aq c_NoRow c_TooFar ?xn ?xa) (λk_3_8=>?g77)
  (case xn=>rfl);(case xa=>k_is)
  refine' L2.au (L2.aq c_NoRow c_NoText ?xn ?xa) (λk_3_9=>?g78)
  (case xn=>rfl);(case xa=>k_is)
  refine' L2.au (L2.aq c_NoRow c_PrimeError ?xn ?xa) (λkp_3=>?g79)
  (case xn=>rfl);(case xa=>k_is)
  refine' L2.au (L2.b5 c_NoRow ?xa) (λkv_3=>?g80)
  (case xa=>k_is)
  refine' L2.au (L2.aq c_NoPrime c_NoNumber ?xn ?xa) (λk_4_0=>?g81)
  (case xn=>rfl);(case xa=>k_is)
  refine' L2.au (L2.aq c_NoPrime c_NoOrder ?xn ?xa) (λk_4_1=>?g82)
  (case xn=>rfl);(case xa=>k_is)
  refine' L2.au (L2.aq c_NoPrime c_Nought ?xn ?xa) (λk_4_2=>?g83)
  (case xn=>rfl);(case xa=>k_is)
  refine' L2.au (L2.aq c_NoPrime c_NoRow ?xn ?xa) (λk_4_3=>?g84)
  (case xn=>rfl);(case xa=>k_is)
  refine' L2.au (L2.aq c_NoPrime c_NoInverse ?xn ?xa) (λk_4_5=>?g85)
  (case xn=>rfl);(case xa=>k_is)
  refine' L2.au (L2.aq c_NoPrime c_NoRoot ?xn ?xa) (λk_4_6=>?g86)
  (case xn=>rfl);(case xa=>k_is)
  refine' L2.au (L2.aq c_NoPrime c_TooMany ?xn ?xa) (λk_4_7=>?g87)
  (case xn=>rfl);(case xa=>k_is)
  refine' L2.au (L2.aq c_NoPrime c_TooFar ?xn ?xa) (λk_4_8=>?g88)
  (case xn=>rfl);(case xa=>k_is)
  refine' L2.au (L2.aq c_NoPrime c_NoText ?xn ?xa) (λk_4_9=>?g89)
  (case xn=>rfl);(case xa=>k_is)
  refine' L2.au (L2.aq c_NoPrime c_PrimeError ?xn ?xa) (λkp_4=>?g90)
  (case xn=>rfl);(case xa=>k_is)
  refine' L2.au (L2.b5 c_NoPrime ?xa) (λkv_4=>?g91)
  (case xa=>k_is)
  refine' L2.au (L2.aq c_NoInverse c_NoNumber ?xn ?xa) (λk_5_0=>?g92)
  (case xn=>rfl);(case xa=>k_is)
  refine' L2.au (L2.aq c_NoInverse c_NoOrder ?xn ?xa) (λk_5_1=>?g93)
  (case xn=>rfl);(case xa=>k_is)
  refine' L2.au (L2.aq c_NoInverse c_Nought ?xn ?xa) (λk_5_2=>?g94)
  (case xn=>rfl);(case xa=>k_is)
  refine' L2.au (L2.aq c_NoInverse c_NoRow ?xn ?xa) (λk_5_3=>?g95)
  (case xn=>rfl);(case xa=>k_is)
  refine' L2.au (L2.aq c_NoInverse c_NoPrime ?xn ?xa) (λk_5_4=>?g96)
  (case xn=>rfl);(case xa=>k_is)
  refine' L2.au (L2.aq c_NoInverse c_NoRoot ?xn ?xa) (λk_5_6=>?g97)
  (case xn=>rfl);(case xa=>k_is)
  refine' L2.au (L2.aq c_NoInverse c_TooMany ?xn ?xa) (λk_5_7=>?g98)
  (case xn=>rfl);(case xa=>k_is)
  refine' L2.au (L2.aq c_NoInverse c_TooFar ?xn ?xa) (λk_5_8=>?g99)
  (case xn=>rfl);(case xa=>k_is)
  refine' L2.au (L2.aq c_NoInverse c_NoText ?xn ?xa) (λk_5_9=>?g100)
  (case xn=>rfl);(case xa=>k_is)
  refine' L2.au (L2.aq c_NoInverse c_PrimeError ?xn ?xa) (λkp_5=>?g101)
  (case xn=>rfl);(case xa=>k_is)
  refine' L2.au (L2.b5 c_NoInverse ?xa) (λkv_5=>?g102)
  (case xa=>k_is)
  refine' L2.au (L2.aq c_NoRoot c_NoNumber ?xn ?xa) (λk_6_0=>?g103)
  (case xn=>rfl);(case xa=>k_is)
  refine' L2.au (L2.aq c_NoRoot c_NoOrder ?xn ?xa) (λk_6_1=>?g104)
  (case xn=>rfl);(case xa=>k_is)
  refine' L2.au (L2.aq c_NoRoot c_Nought ?xn ?xa) (λk_6_2=>?g105)
  (case xn=>rfl);(case xa=>k_is)
  refine' L2.au (L2.aq c_NoRoot c_NoRow ?xn ?xa) (λk_6_3=>?g106)
  (case xn=>rfl);(case xa=>k_is)
  refine' L2.au (L2.aq c_NoRoot c_NoPrime ?xn ?xa) (λk_6_4=>?g107)
  (case xn=>rfl);(case xa=>k_is)
  refine' L2.au (L2.aq c_NoRoot c_NoInverse ?xn ?xa) (λk_6_5=>?g108)
  (case xn=>rfl);(case xa=>k_is)
  refine' L2.au (L2.aq c_NoRoot c_TooMany ?xn ?xa) (λk_6_7=>?g109)
  (case xn=>rfl);(case xa=>k_is)
  refine' L2.au (L2.aq c_NoRoot c_TooFar ?xn ?xa) (λk_6_8=>?g110)
  (case xn=>rfl);(case xa=>k_is)
  refine' L2.au (L2.aq c_NoRoot c_NoText ?xn ?xa) (λk_6_9=>?g111)
  (case xn=>rfl);(case xa=>k_is)
  refine' L2.au (L2.aq c_NoRoot c_PrimeError ?xn ?xa) (λkp_6=>?g112)
  (case xn=>rfl);(case xa=>k_is)
  refine' L2.au (L2.b5 c_NoRoot ?xa) (λkv_6=>?g113)
  (case xa=>k_is)
  refine' L2.au (L2.aq c_TooMany c_NoNumber ?xn ?xa) (λk_7_0=>?g114)
  (case xn=>rfl);(case xa=>k_is)
  refine' L2.au (L2.aq c_TooMany c_NoOrder ?xn ?xa) (λk_7_1=>?g115)
  (case xn=>rfl);(case xa=>k_is)
  refine' L2.au (L2.aq c_TooMany c_Nought ?xn ?xa) (λk_7_2=>?g116)
  (case xn=>rfl);(case xa=>k_is)
  refine' L2.au (L2.aq c_TooMany c_NoRow ?xn ?xa) (λk_7_3=>?g117)
  (case xn=>rfl);(case xa=>k_is)
  refine' L2.au (L2.aq c_TooMany c_NoPrime ?xn ?xa) (λk_7_4=>?g118)
  (case xn=>rfl);(case xa=>k_is)
  refine' L2.au (L2.aq c_TooMany c_NoInverse ?xn ?xa) (λk_7_5=>?g119)
  (case xn=>rfl);(case xa=>k_is)
  refine' L2.au (L2.aq c_TooMany c_NoRoot ?xn ?xa) (λk_7_6=>?g120)
  (case xn=>rfl);(case xa=>k_is)
  refine' L2.au (L2.aq c_TooMany c_TooFar ?xn ?xa) (λk_7_8=>?g121)
  (case xn=>rfl);(case xa=>k_is)
  refine' L2.au (L2.aq c_TooMany c_NoText ?xn ?xa) (λk_7_9=>?g122)
  (case xn=>rfl);(case xa=>k_is)
  refine' L2.au (L2.aq c_TooMany c_PrimeError ?xn ?xa) (λkp_7=>?g123)
  (case xn=>rfl);(case xa=>k_is)
  refine' L2.au (L2.b5 c_TooMany ?xa) (λkv_7=>?g124)
  (case xa=>k_is)
  refine' L2.au (L2.aq c_TooFar c_NoNumber ?xn ?xa) (λk_8_0=>?g125)
  (case xn=>rfl);(case xa=>k_is)
  refine' L2.au (L2.aq c_TooFar c_NoOrder ?xn ?xa) (λk_8_1=>?g126)
  (case xn=>rfl);(case xa=>k_is)
  refine' L2.au (L2.aq c_TooFar c_Nought ?xn ?xa) (λk_8_2=>?g127)
  (case xn=>rfl);(case xa=>k_is)
  refine' L2.au (L2.aq c_TooFar c_NoRow ?xn ?xa) (λk_8_3=>?g128)
  (case xn=>rfl);(case xa=>k_is)
  refine' L2.au (L2.aq c_TooFar c_NoPrime ?xn ?xa) (λk_8_4=>?g129)
  (case xn=>rfl);(case xa=>k_is)
  refine' L2.au (L2.aq c_TooFar c_NoInverse ?xn ?xa) (λk_8_5=>?g130)
  (case xn=>rfl);(case xa=>k_is)
  refine' L2.au (L2.aq c_TooFar c_NoRoot ?xn ?xa) (λk_8_6=>?g131)
  (case xn=>rfl);(case xa=>k_is)
  refine' L2.au (L2.aq c_TooFar c_TooMany ?xn ?xa) (λk_8_7=>?g132)
  (case xn=>rfl);(case xa=>k_is)
  refine' L2.au (L2.aq c_TooFar c_NoText ?xn ?xa) (λk_8_9=>?g133)
  (case xn=>rfl);(case xa=>k_is)
  refine' L2.au (L2.aq c_TooFar c_PrimeError ?xn ?xa) (λkp_8=>?g134)
  (case xn=>rfl);(case xa=>k_is)
  refine' L2.au (L2.b5 c_TooFar ?xa) (λkv_8=>?g135)
  (case xa=>k_is)
  refine' L2.au (L2.aq c_NoText c_NoNumber ?xn ?xa) (λk_9_0=>?g136)
  (case xn=>rfl);(case xa=>k_is)
  refine' L2.au (L2.aq c_NoText c_NoOrder ?xn ?xa) (λk_9_1=>?g137)
  (case xn=>rfl);(case xa=>k_is)
  refine' L2.au (L2.aq c_NoText c_Nought ?xn ?xa) (λk_9_2=>?g138)
  (case xn=>rfl);(case xa=>k_is)
  refine' L2.au (L2.aq c_NoText c_NoRow ?xn ?xa) (λk_9_3=>?g139)
  (case xn=>rfl);(case xa=>k_is)
  refine' L2.au (L2.aq c_NoText c_NoPrime ?xn ?xa) (λk_9_4=>?g140)
  (case xn=>rfl);(case xa=>k_is)
  refine' L2.au (L2.aq c_NoText c_NoInverse ?xn ?xa) (λk_9_5=>?g141)
  (case xn=>rfl);(case xa=>k_is)
  refine' L2.au (L2.aq c_NoText c_NoRoot ?xn ?xa) (λk_9_6=>?g142)
  (case xn=>rfl);(case xa=>k_is)
  refine' L2.au (L2.aq c_NoText c_TooMany ?xn ?xa) (λk_9_7=>?g143)
  (case xn=>rfl);(case xa=>k_is)
  refine' L2.au (L2.aq c_NoText c_TooFar ?xn ?xa) (λk_9_8=>?g144)
  (case xn=>rfl);(case xa=>k_is)
  refine' L2.au (L2.aq c_NoText c_PrimeError ?xn ?xa) (λkp_9=>?g145)
  (case xn=>rfl);(case xa=>k_is)
  refine' L2.au (L2.b5 c_NoText ?xa) (λkv_9=>?g146)
  (case xa=>k_is)
  refine' L2.au (PySem.W.mg_of (n := "MOST_TOLD") KX G ?xa) (λg_MOST_TOLD=>?g147)
  (case xa=>k_is)
  have wk:=K.yK (K.cR 0 c_NoNumber.1 L2.bJ k_0_1 k_0_2 k_0_3 k_0_4 k_0_5 k_0_6 k_0_7 k_0_8 k_0_9 kp_0 kv_0) (K.cR 1 c_NoOrder.1 k_1_0 L2.bJ k_1_2 k_1_3 k_1_4 k_1_5 k_1_6 k_1_7 k_1_8 k_1_9 kp_1 kv_1) (K.cR 2 c_Nought.1 k_2_0 k_2_1 L2.bJ k_2_3 k_2_4 k_2_5 k_2_6 k_2_7 k_2_8 k_2_9 kp_2 kv_2) (K.cR 3 c_NoRow.1 k_3_0 k_3_1 k_3_2 L2.bJ k_3_4 k_3_5 k_3_6 k_3_7 k_3_8 k_3_9 kp_3 kv_3) (K.cR 4 c_NoPrime.1 k_4_0 k_4_1 k_4_2 k_4_3 L2.bJ k_4_5 k_4_6 k_4_7 k_4_8 k_4_9 kp_4 kv_4) (K.cR 5 c_NoInverse.1 k_5_0 k_5_1 k_5_2 k_5_3 k_5_4 L2.bJ k_5_6 k_5_7 k_5_8 k_5_9 kp_5 kv_5) (K.cR 6 c_NoRoot.1 k_6_0 k_6_1 k_6_2 k_6_3 k_6_4 k_6_5 L2.bJ k_6_7 k_6_8 k_6_9 kp_6 kv_6) (K.cR 7 c_TooMany.1 k_7_0 k_7_1 k_7_2 k_7_3 k_7_4 k_7_5 k_7_6 L2.bJ k_7_8 k_7_9 kp_7 kv_7) (K.cR 8 c_TooFar.1 k_8_0 k_8_1 k_8_2 k_8_3 k_8_4 k_8_5 k_8_6 k_8_7 L2.bJ k_8_9 kp_8 kv_8) (K.cR 9 c_NoText.1 k_9_0 k_9_1 k_9_2 k_9_3 k_9_4 k_9_5 k_9_6 k_9_7 k_9_8 L2.bJ kp_9 kv_9)
  refine L2.tH hmg d_law (λ_ _ _ _ _ _ _=>rfl) λbase f fd kb F=>?_
  have inv:=λP w=>K.mD (P:=P) (w:=w) (base:=base) d_inverse (K.mC d_divisor n_abs) (x_NoInverse _ _ _)
  have pw:=λP w=>K.qV (P:=P) (w:=w) (base:=base) d_power (inv P w) n_abs
  have st:=λP w=>K.qY (P:=P) (w:=w) (base:=base) d__law_state
  have tk:=λP w=>K.tT (P:=P) (w:=w) (base:=base) d__law_take
  have lp:=λP w=>K.oW (P:=P) (w:=w) (base:=base) d__law_power
  have ra:=λP w=>K.oZ (P:=P) (w:=w) (base:=base) d_raised (pw P w) n_range
  have od:=λP w=>K.qS (P:=P) (w:=w) (base:=base) d_order (K.jY d_order_from (K.qU d_parting_in) (K.qT d_parting_in) (K.tR d_most_times) (ra P w) (K.lq d_times_in_order (ra P w) (K.q5 d_times_to_one (pw P w)) n_len 6) (K.rf d_whole_of n_range) (pw P w) n_min n_zip n_tuple) x_Nought
  have po:=λP w=>K.ll (P:=P) (w:=w) (base:=base) d_powers_of (od P w) (x_TooMany _ _ _) ⟨_,g_MOST_TOLD⟩ n_len
  have pl:=λP w=>K.lj (P:=P) (w:=w) (base:=base) d_places_of (po P w) n_enumerate
  obtain⟨fP,fdP,FP,aP,kP,bP⟩:=((po _ _).mono (show 15<=16 by decide)).ex
  obtain⟨fQ,fdQ,FQ,aQ,kQ,bQ⟩:=(pl _ _).ex
  exact K.vO F (K.tQ d__law_by_hand (K.qR d__law_kinds x_NoNumber x_NoOrder x_Nought x_NoRow (x_NoPrime _ _ _) (x_NoInverse _ _ _) (x_NoRoot _ _ _) (x_TooMany _ _ _) (x_TooFar _ _ _) (x_NoText _ _ _) n_isinstance) x_NoNumber x_NoOrder x_Nought x_NoRow (x_NoPrime _ _ _) (x_NoInverse _ _ _) (x_NoRoot _ _ _) (x_TooMany _ _ _) (x_TooFar _ _ _) (x_NoText _ _ _) x_PrimeError wk n_isinstance n_ValueError n_range) (K.oV d__law_cell_at n_len) (K.qW d__law_prime (tk _ _) (K.oX d__law_is_prime) n_int) (K.tJ (K.iq d__law_paper (K.mG d__law_parted) (lp _ _) n_tuple 30)) (st _ _) (tk _ _) (K.oY d__law_number (tk _ _) n_range) (lp _ _)
   (K.qX d__law_right aP aQ (K.nA (ho:=λp b e=>.lst ((K.fL p b e).map V.int)) d__law_told FP kP bP x_Nought (x_TooMany _ _ _) mN mM mMN) (K.nA (ho:=λp b e=>.dK (K.mP p b e)) d__law_told FQ kQ bQ x_Nought (x_TooMany _ _ _) mN mM mMN) (K.qZ d__law_steps (lp _ _)) (K.pf d__law_wholes n_isinstance n_int n_bool n_len) n_isinstance n_list n_dict n_len n_range)
 case S=>exact λK H a ns hl hO hS=>⟨a,ns,rfl,hS,hl,λ_=>rfl⟩
 case C=>exact λ_ _ _ _ z=>z
