import PyProof.Rows.All
import Wide.All
import OpenK.AllK
import Wide.FinOn
import Lean
import PyProof.EqAt
import PyProof.EqKinds
import PyProof.TupleCall
import KE.KRevSl
import PyProof.NeData
import PyProof.P3Eq
import PyProof.Rows.Range3
import PyProof.EnumMake
import PyProof.Draws
import PyProof.ZipIter
import PyProof.Rows.SortShell
import PyProof.SetKind
import PyProof.DictKinds
import PyProof.CollectWalk
import PyProof.Rows.SetFrom
import KE.KDictSum
import PySem.Challenge.RW_rootprime_k31_orders_by_what_lies_beside
set_option Elab.async false
local macro_rules | `(tactic| omega) => `(tactic| lia)
set_option linter.all false
set_option maxRecDepth 100000
namespace L2
open PySem PySem.Spec PyProof.Rows
abbrev Key:=Sum Int Str
def gi:Key->Value->Bool
 | .inl k,v=>Value.isInt k v
 | .inr x,v=>Value.isStrOf x v
def Aw (w:World):Key->Int
 | .inl k=>hashInt k
 | .inr x=>hashStr w x
theorem bb:∀{k:Key} {v:Value},gi k v=true->(∃ i t,k=Sum.inl i/\v=Value.int i t)∨(∃ x t,k=Sum.inr x/\v=Value.str x t)
 | .inl i,v,h=>by
  obtain⟨t,e⟩:=Value.isInt_shape (k:=i) (v:=v) h
  exact .inl ⟨i,t,rfl,e⟩
 | .inr x,v,h=>by
  obtain⟨t,e⟩:=Value.isStrOf_shape (x:=x) (v:=v) h
  exact .inr ⟨x,t,rfl,e⟩
theorem kg (i:Int) (t:Tok):gi (.inl i) (.int i t)=true:=by simp [gi,Value.isInt]
theorem qT (x:Str) (t:Tok):gi (.inr x) (.str x t)=true:=by simp [gi,Value.isStrOf]
theorem xO (a b:Int):decide ((Sum.inl a:Key)=Sum.inl b)=(a==b):=by
 by_cases e:a=b
 ·subst e;simp
 ·have h:¬(Sum.inl a:Key)=Sum.inl b:=λq=>e (Sum.inl.inj q)
  rw [decide_eq_false h]
  exact (beq_eq_false_iff_ne.mpr e).symm
theorem xR (a b:Str):decide ((Sum.inr a:Key)=Sum.inr b)=decide (a=b):=by
 by_cases e:a=b
 ·subst e;simp
 ·have h:¬(Sum.inr a:Key)=Sum.inr b:=λq=>e (Sum.inr.inj q)
  rw [decide_eq_false h,decide_eq_false e]
theorem xP (a:Int) (b:Str):decide ((Sum.inl a:Key)=Sum.inr b)=false:=decide_eq_false (λq=>nomatch q)
theorem xQ (a:Str) (b:Int):decide ((Sum.inr a:Key)=Sum.inl b)=false:=decide_eq_false (λq=>nomatch q)
def aI (prog:Program) (w:World):PySem.KeyKind prog w Key where
 is:=gi
 hash:=Aw w
 inj:=λv a b ha hb=>by
  rcases bb ha with⟨i,t,rfl,rfl⟩|⟨x,t,rfl,rfl⟩
  ·rcases bb hb with⟨j,u,rfl,e⟩|⟨y,u,rfl,e⟩
   ·injection e with e1 _;rw [e1]
   ·exact nomatch e
  ·rcases bb hb with⟨j,u,rfl,e⟩|⟨y,u,rfl,e⟩
   ·exact nomatch e
   ·injection e with e1 _;rw [e1]
 byValue:=λk v h=>by
  rcases bb h with⟨i,t,rfl,rfl⟩|⟨x,t,rfl,rfl⟩<;>rfl
 pyHash:=λhv h=>by
  rcases bb hv with⟨i,t,rfl,rfl⟩|⟨x,t,rfl,rfl⟩
  ·exact wpAny_pyHash_int h
  ·exact wpAny_pyHash_str h
 eqBool:=λhu hv h=>by
  rcases bb hu with⟨i,t,rfl,rfl⟩|⟨x,t,rfl,rfl⟩
  ·rcases bb hv with⟨j,u,rfl,rfl⟩|⟨y,u,rfl,rfl⟩
   ·rw [xO] at h;exact wpAny_eqBool_int h
   ·rw [xP] at h;exact SeqAt.EqAt.int_str i t y u _ _ _ _ h
  ·rcases bb hv with⟨j,u,rfl,rfl⟩|⟨y,u,rfl,rfl⟩
   ·rw [xQ] at h;exact SeqAt.EqAt.str_int x t j u _ _ _ _ h
   ·rw [xR] at h;exact wpAny_eqBool_str h
 «strs»:=λk x t v h=>by
  rcases bb h with⟨i,u,rfl,e⟩|⟨y,u,rfl,e⟩
  ·exact nomatch e
  ·injection e with e1 _
   subst e1
   cases v<;>rfl
theorem mZ (prog:Program) (w:World) (i:Int) (t:Tok):(aI prog w).is (.inl i) (.int i t)=true:=kg i t
theorem m6 (prog:Program) (w:World) (x:Str) (t:Tok):(aI prog w).is (.inr x) (.str x t)=true:=qT x t
inductive V where
 | non | bl (b:Bool) | int (i:Int) | str (x:Str) | byt (b:Array UInt8) | flt (b:UInt64) | ref (a:Addr) | ty (n:String)
 deriving DecidableEq
def RelV:V->Value->Prop
 | .non,u=>u=Value.none
 | .bl b,u=>u=Value.bool b
 | .int i,u=>∃ t,u=Value.int i t
 | .str x,u=>∃ t,u=Value.str x t
 | .byt b,u=>∃ t,u=Value.bytes b t
 | .flt b,u=>∃ t,u=Value.float b t
 | .ref a,u=>u=Value.ref a
 | .ty n,u=>u=Value.type n
abbrev Vals:List V->List Value->Prop:=Paired RelV
theorem Vals.length {xs:List V} {us:List Value} (r:Vals xs us):xs.length=us.length:=Paired.length r
theorem Vals.get:∀{xs:List V} {us:List Value} {i:Nat} {x:V},Vals xs us->xs[i]?=some x->∃ u,us[i]?=some u/\RelV x u
 | _,_,_,_,.nil,e=>by simp at e
 | _,_,0,_,.cons r _,e=>by simp at e;subst e;exact⟨_,rfl,r⟩
 | _,_,i+1,x,.cons _ t,e=>by
  obtain⟨u,h1,h2⟩:=Vals.get (i:=i) (x:=x) t (by simpa using e)
  exact⟨u,by simpa using h1,h2⟩
theorem Vals.set {x:V} {u:Value} (r:RelV x u):∀{xs:List V} {us:List Value} (i:Nat),Vals xs us->Vals (xs.set i x) (us.set i u)
 | _,_,_,.nil=>.nil
 | _,_,0,.cons _ t=>.cons r t
 | _,_,i+1,.cons q t=>.cons q (Vals.set r i t)
theorem Vals.append:∀{xs ys:List V} {us ws:List Value},Vals xs us->Vals ys ws->Vals (xs++ys) (us++ws)
 | _,_,_,_,.nil,s=>s
 | _,_,_,_,.cons r t,s=>.cons r (Vals.append t s)
theorem Vals.take:∀{xs:List V} {us:List Value} (n:Nat),Vals xs us->Vals (xs.take n) (us.take n)
 | _,_,0,_=>.nil
 | _,_,_+1,.nil=>.nil
 | _,_,n+1,.cons r t=>.cons r (Vals.take n t)
theorem Vals.drop:∀{xs:List V} {us:List Value} (n:Nat),Vals xs us->Vals (xs.drop n) (us.drop n)
 | _,_,0,r=>r
 | _,_,_+1,.nil=>.nil
 | _,_,n+1,.cons _ t=>Vals.drop n t
def fW:Option V->Option Value->Prop
 | some v,some u=>RelV v u
 | none,none=>True
 | _,_=>False
def KV {κ:Type}:List (κ × V)->List (κ × Value)->Prop:=Paired fun(p:κ × V) (q:κ × Value)=>p.1=q.1/\RelV p.2 q.2
def kV:Key->V
 | .inl i=>.int i
 | .inr x=>.str x
inductive HO where
  | lst (xs:List V)
  | tup (xs:List V)
  | dK (kvs:List (Key × V)) | dT (kvs:List (List Key × V))
  | set (S:Int->Bool) (n:Nat)
  | ins (C dx:Addr) (fs:List (Str × V))
  | own (x:Addr)
  | xd (fs:List (Str × V))
  | met (f x:Addr)
  | rng (lo hi:Int)
  | frz (o:Obj) (u:HO)
  | tbl (ps:Array Value)
  | ext (φ:Heap->Prop)
abbrev Hp:=Addr->Option HO
def upd (H:Hp) (a:Addr) (o:HO):Hp:=λb=>if b=a then some o else H b
theorem ah {H:Hp} {a:Addr} {o:HO}:upd H a o a=some o:=by unfold upd;rw [if_pos rfl]
theorem ao {H:Hp} {a b:Addr} {o:HO} (h:b≠a):upd H a o b=H b:=by unfold upd;rw [if_neg h]
theorem zo {H:Hp} {a b:Addr} {o u:HO} (h:H a=some o) (h':H b=some u) (d:o≠u):a≠b:=by
 intro e;subst e;rw [h] at h';exact d (Option.some.inj h')
theorem aT {H:Hp} {a b:Addr} {o:HO} (h:H a=some o) (h':H b=none):a≠b:=by
 intro e;subst e;rw [h] at h';cases h'
section
variable (P:Program) (w:World)
def ba (H:Hp) (h:Heap) (a:Addr):HO->Prop
 | .lst xs=>xs.length<=sizeLine/\∃(its:List Value) (n:Nat),Vals xs its/\h.get? a=some { cls:=.type "list",data:=.seq its.toArray n }
 | .tup xs=>xs.length<=sizeLine/\∃ its:List Value,Vals xs its/\IsTup h a its.toArray
 | .dK kvs=>kvs.length<=sizeLine/\(a==sysModules)=false/\∃ vs,KV kvs vs/\h.DictOf (aI P w) a vs
 | .dT kvs=>kvs.length<=sizeLine/\(a==sysModules)=false/\∃ xs:List (List Key × Addr × Value),
   Paired (fun(p:List Key × V) (q:List Key × Addr × Value)=>p.1=q.1/\H q.2.1=some (.tup (p.1.map kV))/\RelV p.2 q.2.2) kvs xs /\
   ∃ o es ep,h.get? a=some o/\o.ExactDict/\o.data=.dict es ep/\es.toList=xs.map (entryOfKey (tupleKind (aI P w)))/\(xs.map (·.1)).Nodup
 | .set S n=>h.SetOf (intKind P w) a S n
 | .ins C dx fs=>H dx=some (.own a)/\fs.length<=1000/\dx≠a/\h.get? a=some (PySem.W.instObj C dx) /\
   ∃ mA,h.Ns1 dx mA/\(∀ f,fW (fs.lookup f) (mA f))/\PySem.Within mA (fs.map (·.1))
 | .own _=>∃ o,h.get? a=some o
 | .xd fs=>∃ mA,h.Ns1 a mA/\∀ f,fW (fs.lookup f) (mA f)
 | .rng lo hi=>∃ t u v,h.get? a=some { cls:=.type "range",data:=.fields #[.int lo t,.int hi u,.int 1 v] }
 | .frz o u=>h.get? a=some o/\ba H h a u
 | .tbl ps=>h.get? a=some { cls:=.none,data:=.fields ps }
 | .met f x=>h.get? a=some (PySem.W.methodObj (.ref f) (.ref x))
 | .ext φ=>φ h/\(∃ o,h.get? a=some o)/\∀ h1 h2:Heap,φ h1->(∀ o,h1.get? a=some o->h2.get? a=some o)->φ h2
def ef (H:Hp) (h:Heap):Prop:=∀ a o,H a=some o->ba P w H h a o
end
section
variable {P:Program} {w:World} {H H':Hp} {h h':Heap} {a:Addr} {o:HO}
theorem ba.lt (x:ba P w H h a o):a<h.objs.size:=by
 cases o with
 | lst xs=>obtain⟨_,_,_,_,e⟩:=x;exact Heap.lt_size e
 | tup xs=>obtain⟨_,_,_,p⟩:=x;exact p.lt
 | dK kvs=>obtain⟨_,_,_,_,o,_,_,e,_⟩:=x;exact Heap.lt_size e
 | dT kvs=>obtain⟨_,_,_,_,o,_,_,e,_⟩:=x;exact Heap.lt_size e
 | set S n=>obtain⟨o,_,_,_,e,_⟩:=x;exact Heap.lt_size e
 | ins C dx fs=>obtain⟨_,_,_,e,_⟩:=x;exact Heap.lt_size e
 | own y=>obtain⟨_,e⟩:=x;exact Heap.lt_size e
 | xd fs=>obtain⟨_,⟨_,_,_,e,_⟩,_⟩:=x;exact Heap.lt_size e
 | rng lo hi=>obtain⟨_,_,_,e⟩:=x;exact Heap.lt_size e
 | frz ob u=>obtain⟨e,_⟩:=x;exact Heap.lt_size e
 | tbl ps=>exact Heap.lt_size (show h.get? a=some _ from x)
 | met f y=>exact Heap.lt_size (show h.get? a=some _ from x)
 | ext φ=>obtain⟨_,⟨_,e⟩,_⟩:=x;exact Heap.lt_size e
theorem Paired.xU {α β:Type} {F G:α->β->Prop}:∀{l₁:List α} {l₂:List β},Paired F l₁ l₂->(∀ a b,F a b->G a b)->Paired G l₁ l₂
 | _,_,.nil,_=>.nil
 | _,_,.cons r t,f=>.cons (f _ _ r) (Paired.xU t f)
theorem ba.jH (x:ba P w H h a o) (k:∀ b u,(b=a∨H b=some (.own a))->h.get? b=some u->h'.get? b=some u)
  (ho:∀ b,H b=some (.own a)->H' b=some (.own a)) (ht:∀ b xs,H b=some (.tup xs)->H' b=some (.tup xs)):ba P w H' h' a o:=by
 induction o with
 | lst xs=>obtain⟨z,its,n,r,e⟩:=x;exact⟨z,its,n,r,k _ _ (.inl rfl) e⟩
 | tup xs=>obtain⟨z,its,r,ob,e,c⟩:=x;exact⟨z,its,r,ob,k _ _ (.inl rfl) e,c⟩
 | dK kvs=>obtain⟨z,y,vs,r,ob,es,ep,e,c⟩:=x;exact⟨z,y,vs,r,ob,es,ep,k _ _ (.inl rfl) e,c⟩
 | dT kvs =>
  obtain⟨z,y,xs,r,ob,es,ep,e,c⟩:=x
  exact⟨z,y,xs,Paired.xU r λp q z=>⟨z.1,ht _ _ z.2.1,z.2.2⟩,ob,es,ep,k _ _ (.inl rfl) e,c⟩
 | set S n=>obtain⟨ob,es,ep,t,e,c⟩:=x;exact⟨ob,es,ep,t,k _ _ (.inl rfl) e,c⟩
 | ins C dx fs =>
  obtain⟨d,z,ne,e,mA,⟨od,es,ep,e2,c⟩,r⟩:=x
  exact⟨ho _ d,z,ne,k _ _ (.inl rfl) e,mA,⟨od,es,ep,k _ _ (.inr d) e2,c⟩,r⟩
 | own y=>obtain⟨ob,e⟩:=x;exact⟨ob,k _ _ (.inl rfl) e⟩
 | xd fs=>obtain⟨mA,⟨od,es,ep,e,c⟩,r⟩:=x;exact⟨mA,⟨od,es,ep,k _ _ (.inl rfl) e,c⟩,r⟩
 | rng lo hi=>obtain⟨t,u,v,e⟩:=x;exact⟨t,u,v,k _ _ (.inl rfl) e⟩
 | frz ob u ih=>obtain⟨e,q⟩:=x;exact⟨k _ _ (.inl rfl) e,ih q⟩
 | tbl ps =>
  have e:h.get? a=some { cls:=.none,data:=.fields ps }:=x
  show h'.get? a=some { cls:=.none,data:=.fields ps }
  exact k a _ (.inl rfl) e
 | met f y =>
  have e:h.get? a=some (PySem.W.methodObj (.ref f) (.ref y)):=x
  show h'.get? a=some (PySem.W.methodObj (.ref f) (.ref y))
  exact k a _ (.inl rfl) e
 | ext φ=>obtain⟨p,⟨o,e⟩,st⟩:=x;exact⟨st _ _ p λo q=>k _ _ (.inl rfl) q,⟨o,k _ _ (.inl rfl) e⟩,st⟩
theorem ef.lt (x:ef P w H h) (e:H a=some o):a<h.objs.size:=(x a o e).lt
theorem ef.fresh (x:ef P w H h) (e:h.objs.size<=a):H a=none:=by
 cases q:H a with
 | none=>rfl
 | some u=>exact absurd (Nat.lt_of_lt_of_le (x.lt q) e) (Nat.lt_irrefl _)
theorem ef.kept (x:ef P w H h) (k:∀ b u,h.get? b=some u->h'.get? b=some u):ef P w H h':=λa o e =>
 (x a o e).jH (λb u _ q=>k b u q) (λ_ q=>q) λ_ _ q=>q
theorem ef.laid (x:ef P w H h) (k:∀ b u,h.get? b=some u->h'.get? b=some u) (hp:h.objs.size<=a) (new:ba P w (upd H a o) h' a o):ef P w (upd H a o) h':=λb u e=>by
 have hn:=x.fresh hp
 by_cases hb:b=a
 ·subst hb;rw [ah] at e;cases e;exact new
 ·rw [ao hb] at e
  exact (x b u e).jH (λc v _ q=>k c v q) (λc q=>by rw [ao (aT q hn)];exact q) λc xs q=>by rw [ao (aT q hn)];exact q
end
def Rd (H:Hp) (a:Addr) (u:HO):Prop:=H a=some u∨∃ o,H a=some (.frz o u)
theorem Rd.of {H:Hp} {a:Addr} {u:HO} (h:H a=some u):Rd H a u:=.inl h
theorem Rd.ok {P:Program} {w:World} {H:Hp} {h:Heap} {a:Addr} {u:HO} (r:Rd H a u) (x:ef P w H h):ba P w H h a u:=by
 rcases r with r | ⟨o,r⟩
 ·exact x a u r
 ·obtain⟨_,q⟩:=x a _ r
  exact q
def yO:Option HO->Prop
 | some (.lst _)=>True
 | some (.dK _)=>True
 | some (.dT _)=>True
 | some (.set _ _)=>True
 | some (.ins _ _ _)=>True
 | some (.ext _)=>True
 | _=>False
section
variable {P:Program} {w:World} {H:Hp} {h h':Heap} {x e:Addr} {o':HO}
theorem ef.write (ok:ef P w H h) (mu:yO (H x)) (he:e=x∨H e=some (.own x)) (k:∀ b u,b≠e->h.get? b=some u->h'.get? b=some u) (heo:∃ u,h'.get? e=some u)
  (new:ba P w (upd H x o') h' x o'):ef P w (upd H x o') h':=λb u q=>by
 have nown:∀ c y,H c=some (.own y)->c≠x:=λc y r z=>by subst z;rw [r] at mu;exact mu
 have ntup:∀ c xs,H c=some (.tup xs)->c≠x:=λc xs r z=>by subst z;rw [r] at mu;exact mu
 by_cases hb:b=x
 ·subst hb;rw [ah] at q;cases q;exact new
 ·rw [ao hb] at q
  by_cases hbe:b=e
  ·have q':H b=some (.own x):=by
    rcases he with z | z
    ·exact absurd (hbe.trans z) hb
    ·rw [hbe];exact z
   rw [q] at q';cases q'
   obtain⟨v,hv⟩:=heo
   exact⟨v,by rw [hbe];exact hv⟩
  ·refine (ok b u q).jH (λc v hc r=>k c v ?_ r) (λc r=>by rw [ao (nown c b r)];exact r) λc xs r=>by rw [ao (ntup c xs r)];exact r
   rcases hc with rfl | hc
   ·exact hbe
   ·rintro rfl
    rcases he with z | z
    ·exact nown c b hc z
    ·rw [hc] at z;cases z;exact hb rfl
end
structure Un (fs ex:List Addr) (H H':Hp) (h h':Heap):Prop where
 keep:∀ b o,h.get? b=some o->H b=none->b∉fs->b∉ex->h'.get? b=some o
 slot:∀ b o,h.get? b=some o->H b=none->b∈fs->b∉ex->∃ sl,h'.get? b=some { o with slots:=sl }
 free:∀ b o,h.get? b=some o->H b=none->b∉ex->H' b=none
 there:∀ b o,h.get? b=some o->b∉ex->∃ o',h'.get? b=some o'
 tups:∀ b xs,H b=some (.tup xs)->H' b=some (.tup xs)
 frzs:∀ b o u,H b=some (.frz o u)->H' b=some (.frz o u)
 tbls:∀ b ps,H b=some (.tbl ps)->∃ more,H' b=some (.tbl (ps++more))
section
variable {fs fs' ex ex':List Addr} {H H1 H2:Hp} {h h1 h2 h':Heap} {a x e:Addr} {o:HO}
theorem Un.any (u:Un fs ex H H1 h h1) {b:Addr} {ob:Obj} (q:h.get? b=some ob) (n:H b=none) (hx:b∉ex):∃ sl,h1.get? b=some { ob with slots:=sl }:=by
 by_cases hb:b∈fs
 ·exact u.slot b ob q n hb hx
 ·exact⟨ob.slots,u.keep b ob q n hb hx⟩
theorem Un.trans (a:Un fs ex H H1 h h1) (b:Un fs ex H1 H2 h1 h2):Un fs ex H H2 h h2 where
 keep:=λc ob q n hc hx=>b.keep c ob (a.keep c ob q n hc hx) (a.free c ob q n hx) hc hx
 slot:=λc ob q n hc hx=>by
  obtain⟨sl,e1⟩:=a.slot c ob q n hc hx
  obtain⟨sl',e2⟩:=b.slot c _ e1 (a.free c ob q n hx) hc hx
  exact⟨sl',e2⟩
 free:=λc ob q n hx=>by
  obtain⟨o',e1⟩:=a.there c ob q hx
  exact b.free c o' e1 (a.free c ob q n hx) hx
 there:=λc ob q hx=>by
  obtain⟨o',e1⟩:=a.there c ob q hx
  exact b.there c o' e1 hx
 tups:=λc xs q=>b.tups c xs (a.tups c xs q)
 frzs:=λc ob xs q=>b.frzs c ob xs (a.frzs c ob xs q)
 tbls:=λc ps q=>by
  obtain⟨m1,e1⟩:=a.tbls c ps q
  obtain⟨m2,e2⟩:=b.tbls c _ e1
  exact⟨m1++m2,by rw [e2,Array.append_assoc]⟩
theorem Un.kept (k:∀ b u,h.get? b=some u->h'.get? b=some u):Un fs ex H H h h' :=
 ⟨λb ob q _ _ _=>k b ob q,λb ob q _ _ _=>⟨ob.slots,k b ob q⟩,λ_ _ _ n _=>n,λb ob q _=>⟨ob,k b ob q⟩,λ_ _ q=>q,λ_ _ _ q=>q,λ_ ps q=>⟨#[],by rw [q];simp⟩⟩
theorem Un.refl:Un fs ex H H h h:=Un.kept λ_ _ q=>q
theorem Un.laid (k:∀ b u,h.get? b=some u->h'.get? b=some u) (hp:h.objs.size<=a) (hn:H a=none):Un fs ex H (upd H a o) h h' where
 keep:=λb u q _ _ _=>k b u q
 slot:=λb u q _ _ _=>⟨u.slots,k b u q⟩
 free:=λb u q n _=>by rw [ao (Nat.ne_of_lt (Nat.lt_of_lt_of_le (Heap.lt_size q) hp))];exact n
 there:=λb u q _=>⟨u,k b u q⟩
 tups:=λb xs q=>by rw [ao (aT q hn)];exact q
 frzs:=λb u xs q=>by rw [ao (aT q hn)];exact q
 tbls:=λb ps q=>⟨#[],by rw [ao (aT q hn),q];simp⟩
theorem Un.write (mu:yO (H x)) (he:e=x∨H e=some (.own x)) (k:∀ b u,b≠e->h.get? b=some u->h'.get? b=some u) (heo:∃ u,h'.get? e=some u):Un fs ex H (upd H x o) h h':=by
 have hx:∀ b,H b=none->b≠x:=λb n z=>by subst z;rw [n] at mu;exact mu
 have hb:∀ b,H b=none->b≠e:=λb n z=>by
  subst z
  rcases he with r | r
  ·exact hx b n r
  ·rw [n] at r;cases r
 have hm:∀ b u,H b=some u->¬yO (some u)->b≠x:=λb u q nm z=>by subst z;rw [q] at mu;exact nm mu
 refine⟨λb u q n _ _=>k b u (hb b n) q,λb u q n _ _=>⟨u.slots,k b u (hb b n) q⟩,λb u q n _=>by rw [ao (hx b n)];exact n,λb u q _=>?_,
  λb xs q=>by rw [ao (hm b _ q λz=>z)];exact q,λb u xs q=>by rw [ao (hm b _ q λz=>z)];exact q,λb ps q=>⟨#[],by rw [ao (hm b _ q λz=>z),q];simp⟩⟩
 by_cases hbe:b=e
 ·subst hbe;exact heo
 ·exact⟨u,k b u hbe q⟩
theorem Un.mono (u:Un fs ex H H1 h h1) (hs:∀ b∈fs,b∈fs') (hx:∀ b∈ex,b∈ex'):Un fs' ex' H H1 h h1 :=
 ⟨λb ob q n hb he=>u.keep b ob q n (λz=>hb (hs b z)) λz=>he (hx b z),λ_ _ q n _ he=>u.any q n λz=>he (hx _ z),λb ob q n he=>u.free b ob q n λz=>he (hx b z),λb ob q he=>u.there b ob q λz=>he (hx b z),u.tups,u.frzs,u.tbls⟩
end
def Ad (h:Heap) (H:Hp):List Addr:=(List.range h.objs.size).filter λa=>(H a).isSome
def lh (h:Heap) (H:Hp):Heap:=PySem.W.hideAll h (Ad h H)
theorem qQ (h:Heap) (H:Hp):(lh h H).objs.size=h.objs.size:=PySem.W.hideAll_size _ _
theorem sL {h:Heap} {H:Hp} {b:Addr} {o:Obj} (e:h.get? b=some o) (n:H b=none):(lh h H).get? b=some o :=
 PySem.W.hideAll_get _ e λhm=>by
  have q:(H b).isSome=true:=(List.mem_filter.mp hm).2
  rw [n] at q;simp at q
theorem vt {h:Heap} {H:Hp} {b:Addr} {o:Obj} (e:(lh h H).get? b=some o):h.get? b=some o/\H b=none:=by
 have e':h.get? b=some o:=PySem.W.of_hideAll (Ad h H) e
 refine⟨e',?_⟩
 cases q:H b with
 | none=>rfl
 | some x =>
  have hm:b∈Ad h H:=List.mem_filter.mpr ⟨List.mem_range.mpr (Heap.lt_size e'),by simp [q]⟩
  have z:(lh h H).get? b=none:=PySem.W.hideAll_none (Ad h H) hm
  rw [z] at e;cases e
def uO (g h:Heap) (L:Addr):List (Addr × Obj):=(List.range h.objs.size).filterMap λa=>if a=L∨(g.get? a).isSome=true then none else (h.get? a).map λo=>(a,o)
def rest (g h:Heap) (L d:Addr):List (Addr × Obj):=(uO g h L).filter λp=>decide (p.1≠d)
structure Mod (K:PySem.W.Frag) (mg:Str->Option Value) (base:Heap):Prop where
 kin:K.In base
 glob:base.Ns mainGlobals mg
 blt:∃ mb,base.Ns builtinsNs mb/\∀ x:Str,x ≠ "__name__"->mb x=bootBuiltins x
 nolimit:base.NoLimit
structure Cx where
 prog:Program
 w:World
 K:PySem.W.Frag
 mg:Str->Option Value
 base:Heap
 A:Around
 N:List Str
 s₀:Shared
 H₀:Hp
 env:Env
 outer:List Env
 stack:List Env
 ex:List Addr
 fn:Str->Bool
 calm:Bool
 pn:List (Addr × Obj)
 xe:Value->Shared->Prop
def fu (l:List Env):List Addr:=l.filterMap (·.frame)
abbrev Cx.fs (X:Cx):List Addr:=fu X.outer
def yF (sc:Scope) (x:Str):Prop:=sc.names.lookup x=some .local∨sc.names.lookup x=some .cell∨sc.names.lookup x=some .free
def Loc (sc:Scope) (x:Str):Prop:=sc.names.lookup x=some .local∨sc.names.lookup x=some .cell
def Look (env:Env) (h:Heap) (m:Str->Option Value) (x:Str) (u:Value):Prop :=
 (env.kindOf x=some .local/\m x=some u)∨((env.kindOf x=some .cell∨env.kindOf x=some .free)/\∃ c,env.cells.lookup x=some c/\h.IsCell c (some u))
structure Cx.Ok (X:Cx):Prop where
 mod:Mod X.K X.mg X.base
 kind:X.env.scope.kind=.function
 glob:X.env.globals=mainGlobals
 blt:X.env.builtins=builtinsNs
 above:X.s₀.heap.objs.size<=X.env.locals
 inj:∀ x y c,X.env.cells.lookup x=some c->X.env.cells.lookup y=some c->x=y
 has:∀ x,(X.env.kindOf x=some .cell∨X.env.kindOf x=some .free)->∃ c,X.env.cells.lookup x=some c
 cab:∀ x c,X.fn x=true->X.env.cells.lookup x=some c->X.s₀.heap.objs.size<=c
 hd:X.calm=true->X.A.handled=none
 frames:X.A.frames=some X.stack
 stk:X.stack=X.outer∨(X.stack=X.env::X.outer/\X.env.frame=some X.env.locals)
 exf:∀ b∈X.ex,b≠X.env.locals/\∀ x c,X.env.cells.lookup x=some c->c≠b
 bs:∀ b o,X.base.get? b=some o->X.s₀.heap.get? b=some o/\X.H₀ b=none
 bsz:X.base.objs.size<=X.s₀.heap.objs.size
 noex:∀ b o,X.base.get? b=some o->b∉X.ex
 exfs:∀ b∈X.ex,b∉X.fs
 iA:X.s₀.heap.FunFrames X.base X.outer
 frf:∀ b∈X.fs,X.H₀ b=none
structure Inv (X:Cx) (pins:List (Addr × Obj)) (σ:List (Option V)) (H:Hp) (s:Shared):Prop where
 ok:X.Ok
 os:s.os=X.s₀.os
 bare:AllBare s.gens
 base:Un X.fs X.ex X.H₀ H X.s₀.heap s.heap
 loc:∃ m,s.heap.Ns X.env.locals m/\∀(i:Nat) (x:Str) (v:V),X.N[i]?=some x->σ[i]?=some (some v)->yF X.env.scope x->∃ u,RelV v u/\Look X.env s.heap m x u
 cell:∀ x c,X.env.cells.lookup x=some c->∃ v,s.heap.IsCell c v
 free:H X.env.locals=none
 freeC:∀ x c,X.env.cells.lookup x=some c->H c=none
 pin:∀ p∈X.pn++pins,s.heap.get? p.1=some p.2/\H p.1=none/\p.1≠X.env.locals/\p.1∉X.fs/\∀ v,p.2.data≠.cell v
 hok:ef X.prog X.w H s.heap
 len:σ.length=X.N.length
section
variable {X:Cx} {pins:List (Addr × Obj)} {σ:List (Option V)} {H H':Hp} {s:Shared} {h':Heap}
theorem Cx.Ok.Az (ok:X.Ok) {b:Addr} {o:Obj} (e:X.base.get? b=some o):b∉X.fs:=λhb=>by
 have:=(ok.iA.mem hb).1
 rw [e] at this;cases this
theorem Inv.bs (I:Inv X pins σ H s):∀ b o,X.base.get? b=some o->s.heap.get? b=some o/\H b=none:=λb o e =>
 ⟨I.base.keep b o (I.ok.bs b o e).1 (I.ok.bs b o e).2 (I.ok.Az e) (I.ok.noex b o e),I.base.free b o (I.ok.bs b o e).1 (I.ok.bs b o e).2 (I.ok.noex b o e)⟩
theorem Inv.bk (I:Inv X pins σ H s):∀ b o,X.base.get? b=some o->s.heap.get? b=some o:=λb o e=>(I.bs b o e).1
theorem Inv.mod (I:Inv X pins σ H s):Mod X.K X.mg X.base:=I.ok.mod
theorem Inv.eA (I:Inv X pins σ H s):X.K.In s.heap:=I.ok.mod.kin.keeps I.bk
theorem Inv.fr (I:Inv X pins σ H s):∃ m,Fr X.base X.env.locals s.heap m :=
 let ⟨m,hn,_⟩:=I.loc
 ⟨m,hn,I.bk,Nat.le_trans I.ok.bsz I.ok.above⟩
theorem Inv.lt (I:Inv X pins σ H s):X.env.locals<s.heap.objs.size:=let ⟨_,hn,_⟩:=I.loc;hn.lt
theorem Inv.sz (I:Inv X pins σ H s):X.s₀.heap.objs.size<=s.heap.objs.size:=Nat.le_trans I.ok.above (Nat.le_of_lt I.lt)
theorem Inv.vq (I:Inv X pins σ H s) {a:Addr} (h:s.heap.objs.size<=a):a∉X.fs:=λhb=>by
 obtain⟨_,o,ho,_⟩:=I.ok.iA.mem hb
 exact absurd (Nat.lt_of_lt_of_le (Heap.lt_size ho) (Nat.le_trans I.sz h)) (Nat.lt_irrefl _)
theorem Inv.xC (I:Inv X pins σ H s):∀ x c,X.env.cells.lookup x=some c->c≠X.env.locals:=λx c e z=>by
 obtain⟨v,o,ho,hd⟩:=I.cell x c e
 obtain⟨m,⟨o',es,ep,ho',hd',_⟩,_⟩:=I.loc
 rw [z,ho'] at ho;cases ho;rw [hd'] at hd;cases hd
theorem Inv.iA (I:Inv X pins σ H s):s.heap.FunFrames X.base X.outer:=by
 have all:∀(l:List Env),(∀ b∈fu l,b∈X.fs)->X.s₀.heap.FunFrames X.base l->s.heap.FunFrames X.base l:=by
  intro l
  induction l with
  | nil=>intro _ _;trivial
  | cons env r ih =>
   intro hs hl
   obtain⟨hk,⟨L,o,hf,hn,ho,hd⟩,hr⟩:=hl
   have hL:L∈X.fs:=hs L (by unfold fu;rw [List.filterMap_cons,hf];exact List.mem_cons_self)
   obtain⟨sl,e⟩:=I.base.slot L o ho (I.ok.frf L hL) hL λz=>I.ok.exfs L z hL
   exact⟨hk,⟨L,_,hf,hn,e,hd⟩,ih (λb hb=>hs b (by unfold fu;rw [List.filterMap_cons,hf];exact List.mem_cons_of_mem _ hb)) hr⟩
 exact all X.outer (λ_ hb=>hb) I.ok.iA
theorem Inv.stack (I:Inv X pins σ H s):s.heap.FunFrames X.base X.stack:=by
 rcases I.ok.stk with e | ⟨e,hf⟩
 ·rw [e];exact I.iA
 ·rw [e]
  obtain⟨m,hn,_⟩:=I.loc
  refine .cons (by rw [I.ok.kind];decide) hf hn ?_ I.iA
  exact Heap.get?_none_of_le (Nat.le_trans I.ok.bsz I.ok.above)
theorem Inv.eV (I:Inv X pins σ H s):∀ b∈fu X.stack,b∈X.env.locals::X.fs:=λb hb=>by
 rcases I.ok.stk with e | ⟨e,hf⟩
 ·rw [e] at hb;exact List.mem_cons_of_mem _ hb
 ·rw [e] at hb
  unfold fu at hb
  rw [List.filterMap_cons,hf] at hb
  exact hb
theorem Inv.gI (I:Inv X pins σ H s):∀ b∈fu X.stack,H b=none:=λb hb=>by
 rcases List.mem_cons.mp (I.eV b hb) with e | hb
 ·rw [e];exact I.free
 ·obtain⟨_,o,ho,_⟩:=I.ok.iA.mem hb
  exact I.base.free b o ho (I.ok.frf b hb) λz=>I.ok.exfs b z hb
theorem Inv.step {g':Array GenState} {t':Nat} {d':Drawn} {ch:List Addr} (I:Inv X pins σ H s)
  (hch:∀ b∈ch,(b∈X.ex∨X.s₀.heap.objs.size<=b)/\b≠X.env.locals/\(∀ x c,X.env.cells.lookup x=some c->c≠b)/\∀ p∈X.pn++pins,p.1≠b)
  (keep:∀ b o,b≠X.env.locals->b∉X.fs->b∉ch->s.heap.get? b=some o->H b=none->h'.get? b=some o)
  (slot:∀ b o,b≠X.env.locals->b∈X.fs->b∉ch->s.heap.get? b=some o->H b=none->∃ sl,h'.get? b=some { o with slots:=sl }) (free:∀ b o,b∉ch->s.heap.get? b=some o->H b=none->H' b=none)
  (there:∀ b o,b∉ch->s.heap.get? b=some o->∃ o',h'.get? b=some o')
  (tups:∀ b xs,H b=some (.tup xs)->H' b=some (.tup xs)) (frzs:∀ b o u,H b=some (.frz o u)->H' b=some (.frz o u)) (tbls:∀ b ps,H b=some (.tbl ps)->∃ more,H' b=some (.tbl (ps++more)))
  (ns:∀ m,s.heap.Ns X.env.locals m->h'.Ns X.env.locals m) (hok:ef X.prog X.w H' h') (hg:AllBare g') :
  Inv X pins σ H' { s with heap:=h',gens:=g',drawn:=d',toks:=t' }:=by
 have neL:∀ b o,X.s₀.heap.get? b=some o->b≠X.env.locals:=λb o e=>Nat.ne_of_lt (Nat.lt_of_lt_of_le (Heap.lt_size e) I.ok.above)
 have neC:∀ b o,X.s₀.heap.get? b=some o->b∉X.ex->b∉ch:=λb o e hx hb=>by
  rcases (hch b hb).1 with z | z
  ·exact hx z
  ·exact absurd (Nat.lt_of_lt_of_le (Heap.lt_size e) z) (Nat.lt_irrefl _)
 have cellK:∀ x c,X.env.cells.lookup x=some c->∀ v,s.heap.IsCell c v->h'.IsCell c v:=λx c e v ⟨o,ho,hd⟩=>by
  have nch:c∉ch:=λz=>(hch c z).2.2.1 x c e rfl
  by_cases hc:c∈X.fs
  ·obtain⟨sl,q⟩:=slot c o (I.xC x c e) hc nch ho (I.freeC x c e)
   exact⟨_,q,hd⟩
  ·exact⟨o,keep c o (I.xC x c e) hc nch ho (I.freeC x c e),hd⟩
 refine⟨I.ok,I.os,hg,⟨λb o e n hb hx=>?_,λb o e n hb hx=>?_,λb o e n hx=>?_,λb o e hx=>?_,λb xs e=>tups b xs (I.base.tups b xs e),λb o xs e=>frzs b o xs (I.base.frzs b o xs e),λb ps e=>?_⟩,?_,λx c e=>?_,?_,λx c e=>?_,λp hp=>?_,hok,I.len⟩
 ·exact keep b o (neL b o e) hb (neC b o e hx) (I.base.keep b o e n hb hx) (I.base.free b o e n hx)
 ·obtain⟨sl,e1⟩:=I.base.slot b o e n hb hx
  obtain⟨sl',e2⟩:=slot b _ (neL b o e) hb (neC b o e hx) e1 (I.base.free b o e n hx)
  exact⟨sl',e2⟩
 ·obtain⟨o',e1⟩:=I.base.there b o e hx
  exact free b o' (neC b o e hx) e1 (I.base.free b o e n hx)
 ·obtain⟨o',e1⟩:=I.base.there b o e hx
  exact there b o' (neC b o e hx) e1
 ·obtain⟨m1,e1⟩:=I.base.tbls b ps e
  obtain⟨m2,e2⟩:=tbls b _ e1
  exact⟨m1++m2,by rw [e2,Array.append_assoc]⟩
 ·obtain⟨m,hn,hl⟩:=I.loc
  refine⟨m,ns m hn,λi x v e1 e2 e3=>?_⟩
  obtain⟨u,r,l⟩:=hl i x v e1 e2 e3
  refine⟨u,r,?_⟩
  rcases l with l | ⟨k,c,e,z⟩
  ·exact .inl l
  ·exact .inr ⟨k,c,e,cellK x c e _ z⟩
 ·obtain⟨v,z⟩:=I.cell x c e
  exact⟨v,cellK x c e v z⟩
 ·obtain⟨m,⟨o,_,_,ho,_⟩,_⟩:=I.loc
  exact free _ o (λz=>(hch _ z).2.1 rfl) ho I.free
 ·obtain⟨v,o,ho,hd⟩:=I.cell x c e
  exact free c o (λz=>(hch c z).2.2.1 x c e rfl) ho (I.freeC x c e)
 ·obtain⟨e,n,ne,nf,d⟩:=I.pin p hp
  have nch:p.1∉ch:=λz=>(hch p.1 z).2.2.2 p hp rfl
  exact⟨keep p.1 p.2 ne nf nch e n,free p.1 p.2 nch e n,ne,nf,d⟩
theorem Inv.un {t':Nat} (I:Inv X pins σ H s) (u:Un X.fs [] H H' s.heap h') (hok:ef X.prog X.w H' h'):Inv X pins σ H' { s with heap:=h',toks:=t' }:=by
 obtain⟨m,⟨o,es,ep,ho,r⟩,_⟩:=id I.loc
 obtain⟨sl,hL⟩:=u.any ho I.free (by simp)
 exact I.step (g':=s.gens) (d':=s.drawn) (ch:=[]) (λ_ z=>nomatch z) (λb o _ hb _ e n=>u.keep b o e n hb (by simp)) (λb o _ hb _ e n=>u.slot b o e n hb (by simp)) (λb o _ e n=>u.free b o e n (by simp)) (λb o _ e=>u.there b o e (by simp)) u.tups u.frzs u.tbls (λm' hm=>by
  obtain⟨o',es',ep',ho',r'⟩:=hm
  rw [ho] at ho';cases ho'
  exact⟨_,es',ep',hL,r'⟩) hok I.bare
theorem Inv.call {g':Array GenState} {t':Nat} {d':Drawn} {ch:List Addr} (I:Inv X pins σ H s) (u:Un (fu X.stack) ch H H' s.heap h') (hok:ef X.prog X.w H' h') (hg:AllBare g')
  (hch:∀ b∈ch,(b∈X.ex∨X.s₀.heap.objs.size<=b)/\b≠X.env.locals/\(∀ x c,X.env.cells.lookup x=some c->c≠b)/\∀ p∈X.pn++pins,p.1≠b) :
  Inv X pins σ H' { s with heap:=h',gens:=g',drawn:=d',toks:=t' }:=by
 obtain⟨m,⟨o,es,ep,ho,r⟩,_⟩:=id I.loc
 obtain⟨sl,hL⟩:=u.any ho I.free λz=>(hch _ z).2.1 rfl
 exact I.step (ch:=ch) hch (λb o hL hb hc e n=>u.keep b o e n (λz=>(List.mem_cons.mp (I.eV b z)).elim hL hb) hc) (λb o _ _ hc e n=>u.any e n hc) (λb o hc e n=>u.free b o e n hc) (λb o hc e=>u.there b o e hc) u.tups u.frzs u.tbls (λm' hm=>by
  obtain⟨o',es',ep',ho',r'⟩:=hm
  rw [ho] at ho';cases ho'
  exact⟨_,es',ep',hL,r'⟩) hok hg
theorem Inv.turned {t':Nat} {it:Addr} (I:Inv X pins σ H s) (k:∀ b o,b≠it->s.heap.get? b=some o->h'.get? b=some o) (hn:H it=none) (hL:it≠X.env.locals)
  (h1:it∈X.ex∨X.s₀.heap.objs.size<=it) (h2:∀ x c,X.env.cells.lookup x=some c->c≠it) (h3:∀ p∈X.pn++pins,p.1≠it):Inv X pins σ H { s with heap:=h',toks:=t' }:=by
 have nit:∀ b u,H b=some u->b≠it:=λb u e z=>by rw [z,hn] at e;cases e
 refine I.step (g':=s.gens) (d':=s.drawn) (ch:=[it]) (λb hb=>?_) (λb o _ _ hc e _=>k b o (λz=>hc (by simp [z])) e) (λb o _ _ hc e _=>⟨o.slots,k b o (λz=>hc (by simp [z])) e⟩) (λ_ _ _ _ n=>n)
  (λb o hc e=>⟨o,k b o (λz=>hc (by simp [z])) e⟩) (λ_ _ e=>e) (λ_ _ _ e=>e) (λb ps e=>⟨#[],by rw [e];simp⟩) (λm hm=>?_) (λb u e=>?_) I.bare
 ·have e:b=it:=by simpa using hb
  subst e
  exact⟨h1,hL,h2,h3⟩
 ·obtain⟨o,es,ep,ho,r⟩:=hm
  exact⟨o,es,ep,k _ o (Ne.symm hL) ho,r⟩
 ·refine (I.hok b u e).jH (λc v hc q=>k c v ?_ q) (λ_ q=>q) λ_ _ q=>q
  rcases hc with z | z
  ·rw [z];exact nit b u e
  ·exact nit c _ z
theorem Inv.tok (I:Inv X pins σ H s) (t:Nat):Inv X pins σ H { s with toks:=t }:=I.un (h':=s.heap) (t':=t) Un.refl I.hok
theorem Inv.kept {t':Nat} (I:Inv X pins σ H s) (k:∀ b u,s.heap.get? b=some u->h'.get? b=some u):Inv X pins σ H { s with heap:=h',toks:=t' }:=I.un (Un.kept k) (I.hok.kept k)
theorem Inv.laid {a:Addr} {o:HO} {t':Nat} (I:Inv X pins σ H s) (k:∀ b u,s.heap.get? b=some u->h'.get? b=some u) (hp:s.heap.objs.size<=a) (new:ba X.prog X.w (upd H a o) h' a o) :
  Inv X pins σ (upd H a o) { s with heap:=h',toks:=t' }:=I.un (Un.laid k hp (I.hok.fresh hp)) (I.hok.laid k hp new)
theorem Inv.write {x e:Addr} {o:HO} {t':Nat} (I:Inv X pins σ H s) (mu:yO (H x)) (he:e=x∨H e=some (.own x)) (k:∀ b u,b≠e->s.heap.get? b=some u->h'.get? b=some u) (heo:∃ u,h'.get? e=some u)
  (new:ba X.prog X.w (upd H x o) h' x o):Inv X pins σ (upd H x o) { s with heap:=h',toks:=t' }:=I.un (Un.write mu he k heo) (I.hok.write mu he k heo new)
theorem Inv.weak {σ':List (Option V)} (I:Inv X pins σ H s) (hl:σ'.length=σ.length) (w:∀(i:Nat) v,σ'[i]?=some (some v)->σ[i]?=some (some v)):Inv X pins σ' H s :=
 ⟨I.ok,I.os,I.bare,I.base,let ⟨m,hn,hl'⟩:=I.loc;⟨m,hn,λi x v e1 e2 e3=>hl' i x v e1 (w i v e2) e3⟩,I.cell,I.free,I.freeC,I.pin,I.hok,hl.trans I.len⟩
theorem Inv.fj {pins':List (Addr × Obj)} (I:Inv X pins σ H s) (h:∀ p∈pins',s.heap.get? p.1=some p.2/\H p.1=none/\p.1≠X.env.locals/\p.1∉X.fs/\∀ v,p.2.data≠.cell v):Inv X pins' σ H s :=
 ⟨I.ok,I.os,I.bare,I.base,I.loc,I.cell,I.free,I.freeC,λp hp=>(List.mem_append.mp hp).elim (λz=>I.pin p (List.mem_append_left _ z)) (h p),I.hok,I.len⟩
theorem m9 {N:List Str} (hN:N.Nodup) {i j:Nat} {x:Str} (a:N[i]?=some x) (b:N[j]?=some x):i=j:=by
 obtain⟨h1,e1⟩:=List.getElem?_eq_some_iff.mp a
 obtain⟨h2,e2⟩:=List.getElem?_eq_some_iff.mp b
 exact (List.getElem_inj hN).mp (e1.trans e2.symm)
theorem rK {M:Model} {A:Around} {E:Value->Shared->Prop} {i:Nat} {x:Str} {v:V} {u:Value} {Q:Unit->Shared->Prop} (I:Inv X pins σ H s) (hN:X.N.Nodup) (hi:X.N[i]?=some x) (hx:Loc X.env.scope x) (r:RelV v u)
  (h:∀ s',Inv X pins (σ.set i (some v)) H s'->(∃ a,Heap.SameBut a s.heap s'.heap/\(a=X.env.locals∨X.env.cells.lookup x=some a))->Q () s') (hf:X.fn x=true∨X.env.scope.names.lookup x=some .local:=by first | exact .inl rfl | exact .inr rfl | assumption):wpAny M A (storeName X.env x u) Q E s:=by
 obtain⟨m,hn,hl⟩:=id I.loc
 have hcls:(X.env.scope.kind==.class || (X.env.scope.kind==.module && X.env.locals != X.env.globals))=false:=by rw [I.ok.kind];rfl
 have hiσ:i<σ.length:=by rw [I.len];exact (List.getElem?_eq_some_iff.mp hi).1
 have xC:=I.xC
 have tracked:∀{a:Addr} {h':Heap},(∃ o,s.heap.get? a=some o/\H a=none)->Heap.SameBut a s.heap h'->ef X.prog X.w H h':=λ{a h'} ha hs b ob e=>by
  obtain⟨_,_,hfree⟩:=ha
  refine (I.hok b ob e).jH (λc w' hc q=>(hs.2 c ?_).trans q) (λ_ q=>q) λ_ _ q=>q
  rintro rfl
  rcases hc with rfl | hc
  ·rw [hfree] at e;cases e
  ·rw [hfree] at hc;cases hc
 rcases hx with hk | hk
 ·refine wpAny_storeName_local hk hn (λh' hn' hs=>?_) hcls
  obtain⟨oL,_,_,hoL,_⟩:=id hn
  refine h _ ⟨I.ok,I.os,I.bare,⟨λb o e n hb hx=>?_,λb o e n hb hx=>?_,I.base.free,λb o e hx=>?_,I.base.tups,I.base.frzs,I.base.tbls⟩,⟨_,hn',λj y v' e1 e2 e3=>?_⟩,λy c e=>?_,I.free,I.freeC,λp hp=>?_,tracked ⟨oL,hoL,I.free⟩ hs,by simpa using I.len⟩ ⟨_,hs,.inl rfl⟩
  ·exact (hs.2 b (Nat.ne_of_lt (Nat.lt_of_lt_of_le (Heap.lt_size e) I.ok.above))).trans (I.base.keep b o e n hb hx)
  ·obtain⟨sl,e1⟩:=I.base.slot b o e n hb hx
   exact⟨sl,(hs.2 b (Nat.ne_of_lt (Nat.lt_of_lt_of_le (Heap.lt_size e) I.ok.above))).trans e1⟩
  ·obtain⟨o',e1⟩:=I.base.there b o e hx
   exact⟨o',(hs.2 b (Nat.ne_of_lt (Nat.lt_of_lt_of_le (Heap.lt_size e) I.ok.above))).trans e1⟩
  ·by_cases hj:j=i
   ·subst hj
    rw [hi] at e1;cases e1
    rw [List.getElem?_set_self hiσ] at e2
    cases e2
    exact⟨u,r,.inl ⟨hk,by simp⟩⟩
   ·rw [List.getElem?_set_ne (Ne.symm hj)] at e2
    obtain⟨u',r',q⟩:=hl j y v' e1 e2 e3
    refine⟨u',r',?_⟩
    rcases q with⟨k,e⟩|⟨k,c,e,z⟩
    ·refine .inl ⟨k,?_⟩
     have:y≠x:=λe=>hj (m9 hN e1 (e▸hi))
     simp [this,e]
    ·exact .inr ⟨k,c,e,z.sameBut hs (xC y c e)⟩
  ·obtain⟨w',z⟩:=I.cell y c e
   exact⟨w',z.sameBut hs (xC y c e)⟩
  ·obtain⟨e,n,ne,nf,d⟩:=I.pin p hp
   exact⟨(hs.2 p.1 ne).trans e,n,ne,nf,d⟩
 ·have hfn:X.fn x=true:=by
   rcases hf with z | z
   ·exact z
   ·rw [z] at hk;cases hk
  obtain⟨c,hc⟩:=I.ok.has x (.inl hk)
  obtain⟨w',z⟩:=I.cell x c hc
  refine wpAny_storeName_cell I.ok.kind hk hc z (λh' hc' hs=>?_)
  obtain⟨oc,hoc,hocd⟩:=id z
  refine h { s with heap:=h' } ⟨I.ok,I.os,I.bare,⟨λb o e n hb hx=>?_,λb o e n hb hx=>?_,I.base.free,λb o e hx=>?_,I.base.tups,I.base.frzs,I.base.tbls⟩,⟨m,hn.sameBut hs (Ne.symm (xC x c hc)),λj y v' e1 e2 e3=>?_⟩,λy c' e=>?_,I.free,I.freeC,λp hp=>?_,tracked ⟨oc,hoc,I.freeC x c hc⟩ hs,by simpa using I.len⟩ ⟨c,hs,.inr hc⟩
  ·exact (hs.2 b (Nat.ne_of_lt (Nat.lt_of_lt_of_le (Heap.lt_size e) (I.ok.cab x c hfn hc)))).trans (I.base.keep b o e n hb hx)
  ·obtain⟨sl,e1⟩:=I.base.slot b o e n hb hx
   exact⟨sl,(hs.2 b (Nat.ne_of_lt (Nat.lt_of_lt_of_le (Heap.lt_size e) (I.ok.cab x c hfn hc)))).trans e1⟩
  ·obtain⟨o',e1⟩:=I.base.there b o e hx
   exact⟨o',(hs.2 b (Nat.ne_of_lt (Nat.lt_of_lt_of_le (Heap.lt_size e) (I.ok.cab x c hfn hc)))).trans e1⟩
  ·by_cases hj:j=i
   ·subst hj
    rw [hi] at e1;cases e1
    rw [List.getElem?_set_self hiσ] at e2
    cases e2
    exact⟨u,r,.inr ⟨.inl hk,c,hc,hc'⟩⟩
   ·rw [List.getElem?_set_ne (Ne.symm hj)] at e2
    obtain⟨u',r',q⟩:=hl j y v' e1 e2 e3
    refine⟨u',r',?_⟩
    rcases q with q | ⟨k,c',e,z'⟩
    ·exact .inl q
    ·refine .inr ⟨k,c',e,z'.sameBut hs ?_⟩
     rintro rfl
     exact hj (m9 hN e1 (I.ok.inj _ _ _ e hc▸hi))
  ·by_cases hcc:c'=c
   ·subst hcc;exact⟨_,hc'⟩
   ·obtain⟨w2,z2⟩:=I.cell y c' e
    exact⟨w2,z2.sameBut hs hcc⟩
  ·obtain⟨e,n,ne,nf,d⟩:=I.pin p hp
   refine⟨(hs.2 p.1 ?_).trans e,n,ne,nf,d⟩
   intro q
   rw [q,hoc] at e
   have q':oc=p.2:=Option.some.inj e
   exact d w' (by rw [<- q'];exact hocd)
theorem cm {M:Model} {A:Around} {E:Value->Shared->Prop} {i:Nat} {x:Str} {v:V} {u:Value} {Q:Unit->Shared->Prop} (I:Inv X pins σ H s) (hN:X.N.Nodup) (hi:X.N[i]?=some x) (hx:Loc X.env.scope x) (r:RelV v u)
  (h:∀ s',Inv X pins (σ.set i (some v)) H s'->Q () s') (hf:X.fn x=true∨X.env.scope.names.lookup x=some .local:=by first | exact .inl rfl | exact .inr rfl | assumption):wpAny M A (storeName X.env x u) Q E s :=
 rK I hN hi hx r (λs' I' _=>h s' I') hf
theorem Inv.yR {s':Shared} {ch:List Addr} (I:Inv X pins σ H s) (ho:s'.os=s.os) (u:Un (fu X.stack) ch H H' s.heap s'.heap) (hok:ef X.prog X.w H' s'.heap) (hg:AllBare s'.gens)
  (hch:∀ b∈ch,(b∈X.ex∨X.s₀.heap.objs.size<=b)/\b≠X.env.locals/\(∀ x c,X.env.cells.lookup x=some c->c≠b)/\∀ p∈X.pn++pins,p.1≠b):Inv X pins σ H' s':=by
 obtain⟨h',g',d',t',o'⟩:=s'
 have e:o'=s.os:=ho
 subst e
 exact I.call (g':=g') (t':=t') (d':=d') u hok hg hch
end
abbrev XK:=Value->Option Addr->Hp->Prop
abbrev St:=List (Option V)
abbrev VK:=V->Hp->Prop
abbrev TE:=St->Hp->VK->Prop
abbrev TT:=St->Hp->(Bool->Hp->Prop)->Prop
abbrev TA:=St->Hp->(List V->Hp->Prop)->Prop
structure Ends where
 nx:St->Hp->Prop
 rt:VK
 bk:St->Hp->Prop:=λ_ _=>False
 ct:St->Hp->Prop:=λ_ _=>False
abbrev TS:=Ends->St->Hp->Prop
def EP (X:Cx) (pins:List (Addr × Obj)) (σ:St) (Q:VK) (u:Value) (s':Shared):Prop:=∃ v H',Inv X pins σ H' s'/\RelV v u/\Q v H'
def TP (X:Cx) (pins:List (Addr × Obj)) (σ:St) (Q:Bool->Hp->Prop) (b:Bool) (s':Shared):Prop:=∃ H',Inv X pins σ H' s'/\Q b H'
def AP (X:Cx) (pins:List (Addr × Obj)) (σ:St) (Q:List V->Hp->Prop) (us:List Value) (s':Shared):Prop:=∃ vs H',Inv X pins σ H' s'/\Vals vs us/\Q vs H'
def SP (X:Cx) (pins:List (Addr × Obj)) (D:Ends) (f:Flow) (s':Shared):Prop :=
 match f with
 | .next=>∃ σ' H',Inv X pins σ' H' s'/\D.nx σ' H'
 | .brk=>∃ σ' H',Inv X pins σ' H' s'/\D.bk σ' H'
 | .cont=>∃ σ' H',Inv X pins σ' H' s'/\D.ct σ' H'
 | .ret u=>∃ v σ' H',Inv X pins σ' H' s'/\RelV v u/\D.rt v H'
def PE (X:Cx) (e:Expr) (t:TE):Prop :=
 ∀(pins:List (Addr × Obj)) (s:Shared) (σ:St) (H:Hp) (Q:VK),Inv X pins σ H s->t σ H Q->wpAny (model X.prog X.w) X.A (eval e X.env) (EP X pins σ Q) X.xe s
def PT (X:Cx) (e:Expr) (t:TT):Prop :=
 ∀(pins:List (Addr × Obj)) (s:Shared) (σ:St) (H:Hp) (Q:Bool->Hp->Prop),Inv X pins σ H s->t σ H Q->wpAny (model X.prog X.w) X.A (isTrue e X.env (eval e X.env)) (TP X pins σ Q) X.xe s
def PW (X:Cx) (e:Expr) (t:TT):Prop :=
 ∀(whole:Sem Value) (pins:List (Addr × Obj)) (s:Shared) (σ:St) (H:Hp) (Q:Bool->Hp->Prop),Inv X pins σ H s->t σ H Q->wpAny (model X.prog X.w) X.A (isTrue e X.env whole) (TP X pins σ Q) X.xe s
theorem PW.pt {X:Cx} {e:Expr} {t:TT} (h:PW X e t):PT X e t:=h _
def PA (X:Cx) (es:List Expr) (t:TA):Prop :=
 ∀(pos:Pos) (pins:List (Addr × Obj)) (s:Shared) (σ:St) (H:Hp) (Q:List V->Hp->Prop),Inv X pins σ H s->t σ H Q->wpAny (model X.prog X.w) X.A (spliced (backTo pos (starEach es X.env))) (AP X pins σ Q) X.xe s
def PS (X:Cx) (st:Stmt) (t:TS):Prop :=
 ∀(pins:List (Addr × Obj)) (s:Shared) (σ:St) (H:Hp) (D:Ends),Inv X pins σ H s->t D σ H->wpAny (model X.prog X.w) X.A (exec st X.env) (SP X pins D) X.xe s
def jL (X:Cx) (st:List Stmt) (t:TS):Prop :=
 ∀(pins:List (Addr × Obj)) (s:Shared) (σ:St) (H:Hp) (D:Ends),Inv X pins σ H s->t D σ H->wpAny (model X.prog X.w) X.A (execs st X.env) (SP X pins D) X.xe s
theorem br {α:Type} {t:Sem α} {Q Q':α->Shared->Prop} {M:Model} {A:Around} {E:Value->Shared->Prop} {s:Shared} (h:wpAny M A t Q E s) (hQ:∀ a s,Q a s->Q' a s):wpAny M A t Q' E s:=wpAny_mono h hQ λ_ _ x=>x
section
variable {X:Cx}
theorem bin {a b:Expr} {ta tb:TE} (ha:PE X a ta) (hb:PE X b tb) {pins:List (Addr × Obj)} {s:Shared} {σ:St} {H:Hp} {R:V->V->Hp->Prop} (I:Inv X pins σ H s) (h:ta σ H λx H1=>tb σ H1 λy H2=>R x y H2)
  {α:Type} {Q:α->Shared->Prop} {f:Value->Value->Sem α}
  (hf:∀ v u s2 x y H2,Inv X pins σ H2 s2->RelV x v->RelV y u->R x y H2->wpAny (model X.prog X.w) X.A (f v u) Q X.xe s2) :
  wpAny (model X.prog X.w) X.A (eval a X.env) (λv s₁=>wpAny (model X.prog X.w) X.A (eval b X.env) (λu s₂=>wpAny (model X.prog X.w) X.A (f v u) Q X.xe s₂) X.xe s₁) X.xe s:=by
 refine br (ha pins s σ H _ I h) λv s1 ⟨x,H1,I1,r1,q1⟩=>?_
 refine br (hb pins s1 σ H1 _ I1 q1) λu s2 ⟨y,H2,I2,r2,q2⟩=>?_
 exact hf v u s2 x y H2 I2 r1 r2 q2
def rM (i:Nat):TE:=λσ H Q=>∃ v,σ[i]?=some (some v)/\Q v H
def tC (v:V):TE:=λ_ H Q=>Q v H
theorem oU {i:Nat} {x:Str} {pos:Pos} (hN:X.N[i]?=some x) (hv:yF X.env.scope x) (hd:(x==("__debug__":Str))=false:=by decide) (hcd:(x==("__classdict__":Str))=false:=by decide):PE X (.Name x pos) (rM i):=by
 intro pins s σ H Q I h
 obtain⟨v,e,h⟩:=h
 obtain⟨m,hn,hl⟩:=I.loc
 obtain⟨u,r,l⟩:=hl i x v hN e hv
 have fin:EP X pins σ Q u s:=⟨v,H,I,r,h⟩
 rcases l with⟨hk,hm⟩|⟨hk,c,hc,hcell⟩
 ·exact wpAny_Name (wpAny_loadName_local I.ok.kind hk hn hm fin) hd
 ·rcases hk with hk | hk
  ·exact wpAny_Name (wpAny_loadName_cell I.ok.kind hk hc hcell fin) hd
  ·exact wpAny_Name (wpAny_loadName_free I.ok.kind hk hc hcell fin hcd) hd
theorem ag {i j pos}:PE X (.Constant (.int i) j pos) (tC (.int i)):=λ_ _ _ H _ I h=>wpAny_Constant_int ⟨.int i,H,I.tok _,⟨_,rfl⟩,h⟩
theorem bU {b j pos}:PE X (.Constant (.bool b) j pos) (tC (.bl b)):=λ_ _ _ H _ I h=>Constant_bool ⟨.bl b,H,I,rfl,h⟩
theorem tT {j pos}:PE X (.Constant .none j pos) (tC .non):=λ_ _ _ H _ I h=>Constant_none ⟨.non,H,I,rfl,h⟩
theorem cW {x j pos}:PE X (.Constant (.str x) j pos) (tC (.str x)):=λ_ _ _ H _ I h=>Calls.Constant_str ⟨.str x,H,I.tok _,⟨_,rfl⟩,h⟩
def Gl (X:Cx) (x:Str):Prop:=X.env.kindOf x=some .globalImplicit
theorem lz {E:Value->Shared->Prop} {pins:List (Addr × Obj)} {s:Shared} {σ:St} {H:Hp} {x:Str} {u:Value} {pos:Pos} {Q:Value->Shared->Prop} (I:Inv X pins σ H s) (hg:Gl X x) (hm:X.mg x=some u) (h:Q u s)
  (hd:(x==("__debug__":Str))=false:=by decide):wpAny (model X.prog X.w) X.A (eval (.Name x pos) X.env) Q E s :=
 Calls.Name_function_global I.ok.kind hg (Calls.loadGlobal_global (by rw [I.ok.glob];exact I.mod.glob.keeps I.bk) hm h) hd
theorem gS {E:Value->Shared->Prop} {pins:List (Addr × Obj)} {s:Shared} {σ:St} {H:Hp} {x:Str} {u:Value} {pos:Pos} {Q:Value->Shared->Prop} (I:Inv X pins σ H s) (hg:Gl X x) (hm:X.mg x=none) (hv:bootBuiltins x=some u) (h:Q u s)
  (hn:x ≠ "__name__":=by decide) (hd:(x==("__debug__":Str))=false:=by decide):wpAny (model X.prog X.w) X.A (eval (.Name x pos) X.env) Q E s:=by
 obtain⟨mb,h1,h2⟩:=I.mod.blt
 exact Calls.Name_function_global I.ok.kind hg (Calls.loadGlobal_builtin (by rw [I.ok.glob];exact I.mod.glob.keeps I.bk) hm (by rw [I.ok.blt];exact h1.keeps I.bk) ((h2 x hn).trans hv) h) hd
theorem bz {x:Str} {v:V} {u:Value} {pos:Pos} (hg:Gl X x) (hm:X.mg x=none) (hv:bootBuiltins x=some u) (r:RelV v u) (hn:x ≠ "__name__":=by decide) (hd:(x==("__debug__":Str))=false:=by decide):PE X (.Name x pos) (tC v) :=
 λ_ _ _ H _ I h=>gS I hg hm hv ⟨v,H,I,r,h⟩ hn hd
variable {a b:Expr} {ta tb:TE} {pos:Pos}
def tB (t:TE):TT:=λσ H Q=>t σ H λx H1=>∃ c,x=.bl c/\Q c H1
variable {tA tB':TT} {rest:List Expr}
def zN (t u:TT):TT:=λσ H Q=>t σ H λc H1=>if c=true then u σ H1 Q else Q false H1
def A4 (t u:TT):TT:=λσ H Q=>t σ H λc H1=>if c=true then Q true H1 else u σ H1 Q
def zT (t:TT):TT:=λσ H Q=>t σ H λc H1=>Q (!c) H1
theorem lO (ha:PT X a tA):PW X (.BoolOp .And [a] pos) tA:=by
 intro wh pins s σ H Q I h
 refine isTrue_and (br (ha pins s σ H Q I h) λc s1 e=>?_)
 cases c with
 | true=>exact isTrue_and_nil e
 | false=>exact e
theorem gZ (ha:PT X a tA):PW X (.BoolOp .Or [a] pos) tA:=by
 intro wh pins s σ H Q I h
 refine isTrue_or (br (ha pins s σ H Q I h) λc s1 e=>?_)
 cases c with
 | false=>exact isTrue_or_nil e
 | true=>exact e
theorem lN (ha:PT X a tA) (hb:PW X (.BoolOp .And (b::rest) pos) tB'):PW X (.BoolOp .And (a::b::rest) pos) (zN tA tB'):=by
 intro wh pins s σ H Q I h
 refine isTrue_and (br (ha pins s σ H _ I h) λc s1 ⟨H1,I1,q1⟩=>?_)
 cases c with
 | true=>exact hb wh pins s1 σ H1 Q I1 q1
 | false=>exact⟨H1,I1,q1⟩
theorem jj (ha:PT X a tA) (hb:PW X (.BoolOp .Or (b::rest) pos) tB'):PW X (.BoolOp .Or (a::b::rest) pos) (A4 tA tB'):=by
 intro wh pins s σ H Q I h
 refine isTrue_or (br (ha pins s σ H _ I h) λc s1 ⟨H1,I1,q1⟩=>?_)
 cases c with
 | true=>exact⟨H1,I1,q1⟩
 | false=>exact hb wh pins s1 σ H1 Q I1 q1
theorem df (ha:PT X a tA):PT X (.UnaryOp .Not a pos) (zT tA):=by
 intro pins s σ H Q I h
 exact isTrue_not (ha pins s σ H (λc H1=>Q (!c) H1) I h)
def wZ (ta tb:TE):TE:=λσ H Q=>ta σ H λx H1=>∃ c,x=.bl c/\if c=true then tb σ H1 Q else Q (.bl false) H1
def AL (ta tb:TE):TE:=λσ H Q=>ta σ H λx H1=>∃ c,x=.bl c/\if c=true then Q (.bl true) H1 else tb σ H1 Q
def xf (ta:TE):TE:=λσ H Q=>ta σ H λx H1=>∃ c,x=.bl c/\Q (.bl (!c)) H1
theorem cV {op} {t:TE} (h:PE X a t):PE X (.BoolOp op [a] pos) t:=λpins s σ H Q I hw=>BoolOp_one (h pins s σ H Q I hw)
theorem bH (ha:PE X a ta) (hb:PE X (.BoolOp .And (b::rest) pos) tb):PE X (.BoolOp .And (a::b::rest) pos) (wZ ta tb):=by
 intro pins s σ H Q I h
 refine BoolOp_and (br (ha pins s σ H _ I h) λv s1 ⟨x,H1,I1,r1,q1⟩=>?_)
 obtain⟨c,rfl,q1⟩:=q1
 cases r1
 refine wpAny_truthy_bool ?_
 cases c with
 | true=>exact hb pins s1 σ H1 Q I1 q1
 | false=>exact⟨.bl false,H1,I1,rfl,q1⟩
theorem ye (ha:PE X a ta):PE X (.UnaryOp .Not a pos) (xf ta):=by
 intro pins s σ H Q I h
 refine UnaryOp_ (br (ha pins s σ H _ I h) λv s1 ⟨x,H1,I1,r1,q1⟩=>?_)
 obtain⟨c,rfl,q1⟩:=q1
 cases r1
 exact not_of (wpAny_truthy_bool ⟨.bl (!c),H1,I1,rfl,q1⟩)
def A3 (t:TT) (ta tb:TE):TE:=λσ H Q=>t σ H λc H1=>if c=true then ta σ H1 Q else tb σ H1 Q
theorem jc {c:Expr} (hc:PT X c tA) (ha:PE X a ta) (hb:PE X b tb):PE X (.IfExp c a b pos) (A3 tA ta tb):=by
 intro pins s σ H Q I h
 refine wpAny_IfExp (br (hc pins s σ H _ I h) λd s1 ⟨H1,I1,q1⟩=>?_)
 cases d with
 | true=>exact ha pins s1 σ H1 Q I1 q1
 | false=>exact hb pins s1 σ H1 Q I1 q1
end
def aS (K:PySem.W.Frag) (H:Hp) (a:Addr) (xs:List V):Prop :=
 Rd H a (.lst xs) ∨
  ∃(o:Obj) (its:Array Value) (n:Nat),K.lookup a=some o/\o.cls=.type "list"/\o.dict=none/\o.data=.seq its n/\its.size<=sizeLine/\Vals xs its.toList
def bS (K:PySem.W.Frag) (H:Hp) (a:Addr) (xs:List V):Prop :=
 Rd H a (.tup xs) ∨
  ∃(o:Obj) (its:Array Value) (n:Nat),K.lookup a=some o/\o.cls=.type "tuple"/\o.data=.seq its n/\its.size<=sizeLine/\Vals xs its.toList
def Ar:Value->Option V
 | .none=>some .non
 | .bool b=>some (.bl b)
 | .int i _=>some (.int i)
 | .str x _=>some (.str x)
 | .bytes b _=>some (.byt b)
 | .float b _=>some (.flt b)
 | .ref a=>some (.ref a)
 | .type n=>some (.ty n)
 | _=>none
theorem RelV.abs {x:V} {u:Value} (r:RelV x u):Ar u=some x:=by
 cases x with
 | non=>cases r;rfl
 | bl _=>cases r;rfl
 | int _=>obtain⟨t,rfl⟩:=r;rfl
 | str _=>obtain⟨t,rfl⟩:=r;rfl
 | byt _=>obtain⟨t,rfl⟩:=r;rfl
 | flt _=>obtain⟨t,rfl⟩:=r;rfl
 | ref _=>cases r;rfl
 | ty _=>cases r;rfl
theorem RelV.inj {x y:V} {u:Value} (r:RelV x u) (q:RelV y u):x=y:=Option.some.inj (r.abs.symm.trans q.abs)
theorem Vals.inj:∀{xs ys:List V} {us:List Value},Vals xs us->Vals ys us->xs=ys
 | _,_,_,.nil,.nil=>rfl
 | _,_,_,.cons r t,.cons r' t'=>by rw [r.inj r',Vals.inj t t']
section
variable {X:Cx} {pins:List (Addr × Obj)} {σ:St} {H:Hp} {s:Shared} {a:Addr} {xs ys:List V}
theorem aS.of {K:PySem.W.Frag} (h:H a=some (.lst xs)):aS K H a xs:=.inl (.inl h)
theorem bS.of {K:PySem.W.Frag} (h:H a=some (.tup xs)):bS K H a xs:=.inl (.inl h)
theorem Inv.list (I:Inv X pins σ H s) (h:aS X.K H a xs):∃ its:List Value,Vals xs its/\PlainL s.heap a its.toArray/\xs.length<=sizeLine:=by
 rcases h with h | ⟨o,its,n,hk,hc,hd,hs,hz,r⟩
 ·obtain⟨z,its,n,r,e⟩:=h.ok I.hok
  exact⟨its,r,⟨_,n,e,rfl,rfl,rfl⟩,z⟩
 ·refine⟨its.toList,r,⟨o,n,I.eA a o hk,hc,hd,by simpa using hs⟩,?_⟩
  have e:=r.length
  simp only [Array.length_toList] at e
  omega
theorem Inv.tuple (I:Inv X pins σ H s) (h:bS X.K H a xs):∃ its:List Value,Vals xs its/\IsTup s.heap a its.toArray/\xs.length<=sizeLine:=by
 rcases h with h | ⟨o,its,n,hk,hc,hs,hz,r⟩
 ·obtain⟨z,its,r,p⟩:=h.ok I.hok
  exact⟨its,r,p,z⟩
 ·refine⟨its.toList,r,⟨o,I.eA a o hk,hc,n,by simpa using hs⟩,?_⟩
  have e:=r.length
  simp only [Array.length_toList] at e
  omega
theorem Inv.mW (I:Inv X pins σ H s) (h:aS X.K H a xs) (h':aS X.K H a ys):xs=ys:=by
 obtain⟨its,r,⟨o,n,e,_,_,d⟩,_⟩:=I.list h
 obtain⟨its',r',⟨o',n',e',_,_,d'⟩,_⟩:=I.list h'
 rw [e] at e';cases e'
 rw [d] at d'
 injection d' with d1 _
 have:its=its':=by simpa using congrArg Array.toList d1
 subst this
 exact r.inj r'
theorem Inv.kH (I:Inv X pins σ H s) (h:bS X.K H a xs) (h':bS X.K H a ys):xs=ys:=by
 obtain⟨its,r,⟨o,e,_,n,d⟩,_⟩:=I.tuple h
 obtain⟨its',r',⟨o',e',_,n',d'⟩,_⟩:=I.tuple h'
 rw [e] at e';cases e'
 rw [d] at d'
 injection d' with d1 _
 have:its=its':=by simpa using congrArg Array.toList d1
 subst this
 exact r.inj r'
end
abbrev Cx.iD (X:Cx) (E:Value->Shared->Prop):Cx:={ X with xe:=E }
abbrev Cx.pW (X:Cx):Cx:=X.iD λ_ _=>False
theorem Cx.Ok.iD {X:Cx} (ok:X.Ok) (E:Value->Shared->Prop):(X.iD E).Ok :=
 ⟨ok.mod,ok.kind,ok.glob,ok.blt,ok.above,ok.inj,ok.has,ok.cab,ok.hd,ok.frames,ok.stk,ok.exf,ok.bs,ok.bsz,ok.noex,ok.exfs,ok.iA,ok.frf⟩
theorem Cx.Ok.dh {X:Cx} {E:Value->Shared->Prop} (ok:(X.iD E).Ok):X.Ok :=
 ⟨ok.mod,ok.kind,ok.glob,ok.blt,ok.above,ok.inj,ok.has,ok.cab,ok.hd,ok.frames,ok.stk,ok.exf,ok.bs,ok.bsz,ok.noex,ok.exfs,ok.iA,ok.frf⟩
section
variable {X:Cx} {pins:List (Addr × Obj)} {σ:St} {H:Hp} {s:Shared} {E:Value->Shared->Prop}
theorem Inv.iD (I:Inv X pins σ H s) (E:Value->Shared->Prop):Inv (X.iD E) pins σ H s:=⟨I.ok.iD E,I.os,I.bare,I.base,I.loc,I.cell,I.free,I.freeC,I.pin,I.hok,I.len⟩
theorem Inv.dh (I:Inv (X.iD E) pins σ H s):Inv X pins σ H s:=⟨I.ok.dh,I.os,I.bare,I.base,I.loc,I.cell,I.free,I.freeC,I.pin,I.hok,I.len⟩
theorem SP.dh {D:Ends} {f:Flow} {s':Shared} (h:SP (X.iD E) pins D f s'):SP X pins D f s':=by
 cases f with
 | next=>obtain⟨σ',H',I,q⟩:=h;exact⟨σ',H',I.dh,q⟩
 | brk=>obtain⟨σ',H',I,q⟩:=h;exact⟨σ',H',I.dh,q⟩
 | cont=>obtain⟨σ',H',I,q⟩:=h;exact⟨σ',H',I.dh,q⟩
 | ret u=>obtain⟨v,σ',H',I,r,q⟩:=h;exact⟨v,σ',H',I.dh,r,q⟩
theorem PE.pW {e:Expr} {t:TE} (h:PE X.pW e t):PE X e t:=λpins s σ H Q I hw =>
 wpAny_mono (h pins s σ H Q (I.iD _) hw) (λ_ _ ⟨v,H',I',r,q⟩=>⟨v,H',I'.dh,r,q⟩) λ_ _ z=>False.elim z
theorem PT.pW {e:Expr} {t:TT} (h:PT X.pW e t):PT X e t:=λpins s σ H Q I hw =>
 wpAny_mono (h pins s σ H Q (I.iD _) hw) (λ_ _ ⟨H',I',q⟩=>⟨H',I'.dh,q⟩) λ_ _ z=>False.elim z
theorem jL.pW {st:List Stmt} {t:TS} (h:jL X.pW st t):jL X st t:=λpins s σ H D I hw =>
 wpAny_mono (h pins s σ H D (I.iD _) hw) (λ_ _ q=>q.dh) λ_ _ z=>False.elim z
end
section
variable {X:Cx} {st:Stmt} {rest:List Stmt} {t u:TS} {e:Expr} {te:TE} {pos:Pos}
def xc:TS:=λD σ H=>D.nx σ H
def bT (t u:TS):TS:=λD σ H=>t { D with nx:=u D } σ H
theorem aG:jL X [] xc:=λ_ _ σ H _ I h=>wpAny_execs_nil ⟨σ,H,I,h⟩
theorem ae (h1:PS X st t) (h2:jL X rest u):jL X (st::rest) (bT t u):=by
 intro pins s σ H D I h
 refine wpAny_execs_cons (br (h1 pins s σ H { D with nx:=u D } I h) λf s1 q=>?_)
 cases f with
 | next =>
  obtain⟨σ',H',I',q⟩:=q
  exact h2 pins s1 σ' H' D I' q
 | ret v=>exact q
 | brk=>exact q
 | cont=>exact q
theorem aj (h1:PS X st t):jL X [st] t:=by
 intro pins s σ H D I h
 refine wpAny_execs_cons (br (h1 pins s σ H D I h) λf s1 q=>?_)
 cases f with
 | next=>exact wpAny_execs_nil q
 | ret v=>exact q
 | brk=>exact q
 | cont=>exact q
theorem Inv.quiet {pins:List (Addr × Obj)} {σ:St} {H:Hp} {s:Shared} (I:Inv X pins σ H s):interactive X.env=false:=by simp [interactive,I.ok.kind]
def xb (te:TE):TS:=λD σ H=>te σ H λ_ H1=>D.nx σ H1
theorem qd (he:PE X e te) (hs:swapsWith e none pos.line X.env=pure false:=by rfl):PS X (.Expr e pos) (xb te):=by
 intro pins s σ H D I h
 exact wpAny_Expr_any (br (he pins s σ H _ I h) λv s1 ⟨x,H1,I1,r1,q1⟩=>⟨σ,H1,I1,q1⟩) I.quiet hs
def lZ (te:TE):TS:=λD σ H=>te σ H D.rt
theorem ay (he:PE X e te):PS X (.Return (some e) pos) (lZ te):=by
 intro pins s σ H D I h
 exact wpAny_Return_some (br (he pins s σ H _ I h) λv s1 ⟨x,H1,I1,r1,q1⟩=>⟨x,σ,H1,I1,r1,q1⟩)
def zW:TS:=λD _ H=>D.rt .non H
def zR (c:TT) (t u:TS):TS:=λD σ H=>c σ H λb H1=>if b=true then t D σ H1 else u D σ H1
theorem bt {c:Expr} {a b:List Stmt} {tc:TT} (hc:PT X c tc) (ha:jL X a t) (hb:jL X b u):PS X (.If c a b pos) (zR tc t u):=by
 intro pins s σ H D I h
 refine wpAny_If (br (hc pins s σ H _ I h) λd s1 ⟨H1,I1,q1⟩=>?_)
 cases d with
 | true=>exact ha pins s1 σ H1 D I1 q1
 | false=>exact hb pins s1 σ H1 D I1 q1
end
abbrev TG:=V->St->Hp->(St->Hp->Prop)->Prop
abbrev wc:=List V->St->Hp->(St->Hp->Prop)->Prop
def PG (X:Cx) (target:Expr) (t:TG):Prop :=
 ∀(pins:List (Addr × Obj)) (s:Shared) (σ:St) (H:Hp) (v:V) (u:Value) (Q:St->Hp->Prop),Inv X pins σ H s->RelV v u->t v σ H Q ->
  wpAny (model X.prog X.w) X.A (assign target X.env u) (λ_ s'=>∃ σ' H',Inv X pins σ' H' s'/\Q σ' H') X.xe s
def yQ (X:Cx) (ts:List Expr) (t:wc):Prop :=
 ∀(pins:List (Addr × Obj)) (s:Shared) (σ:St) (H:Hp) (vs:List V) (us:List Value) (Q:St->Hp->Prop),Inv X pins σ H s->Vals vs us->t vs σ H Q ->
  wpAny (model X.prog X.w) X.A (assignInOrder ((assignEach ts X.env).map (·.2)) us) (λ_ s'=>∃ σ' H',Inv X pins σ' H' s'/\Q σ' H') X.xe s
abbrev Ao:=V->V->V->Hp->(Hp->Prop)->Prop
abbrev An:=V->V->Hp->VK->Prop
def AV (X:Cx) (op:Operator) (t:An):Prop :=
 ∀(pins:List (Addr × Obj)) (s:Shared) (σ:St) (H:Hp) (x y:V) (v u:Value) (Q:VK),Inv X pins σ H s->RelV x v->RelV y u->t x y H Q ->
  wpAny (model X.prog X.w) X.A (inplaceOp op v u) (EP X pins σ Q) X.xe s
section
variable {X:Cx} {pos:Pos}
def cH (i:Nat):TG:=λv σ H Q=>Q (σ.set i (some v)) H
theorem ax {i:Nat} {x:Str} (hN:X.N.Nodup) (hi:X.N[i]?=some x) (hx:Loc X.env.scope x) (hf:X.fn x=true∨X.env.scope.names.lookup x=some .local:=by first | exact .inl rfl | exact .inr rfl | assumption):PG X (.Name x pos) (cH i):=by
 intro pins s σ H v u Q I r h
 exact wpAny_assign_Name (cm I hN hi hx r (λs' I'=>⟨_,H,I',h⟩) hf)
def xJ:wc:=λvs σ H Q=>vs=[]/\Q σ H
def pO (t:TG) (u:wc):wc:=λvs σ H Q=>∃ v r,vs=v::r/\t v σ H λσ' H'=>u r σ' H' Q
theorem bJ:yQ X [] xJ:=by
 intro pins s σ H vs us Q I r h
 obtain⟨e,h⟩:=h
 subst e
 cases r
 exact assignInOrder_nil ⟨σ,H,I,h⟩
theorem aE {e:Expr} {es:List Expr} {t:TG} {u:wc} (h1:PG X e t) (h2:yQ X es u)
  (hs:(assignEach (e::es) X.env).map (·.2)=assign e X.env::(assignEach es X.env).map (·.2):=by rfl):yQ X (e::es) (pO t u):=by
 intro pins s σ H vs us Q I r h
 obtain⟨v,vr,e1,h⟩:=h
 subst e1
 cases r with
 | cons r rr =>
  rw [hs]
  refine assignInOrder_cons (br (h1 pins s σ H _ _ _ I r h) λ_ s1 ⟨σ1,H1,I1,q1⟩=>?_)
  exact h2 pins s1 σ1 H1 _ _ Q I1 rr q1
def jO (K:PySem.W.Frag) (n:Nat) (t:wc):TG:=λv σ H Q=>∃ a xs,v=.ref a/\bS K H a xs/\xs.length=n/\t xs σ H Q
theorem eI {es:List Expr} {k:Nat} {t:wc} {n:Nat} (hc:X.calm=true) (h:yQ X es t)
  (hn:(assignEach es X.env).length=n:=by rfl) (hst:(assignEach es X.env).findIdx? (·.1)=none:=by rfl):PG X (.Tuple es k pos) (jO X.K n t):=by
 intro pins s σ H v u Q I r hw
 obtain⟨a,xs,e1,hq,hl,hw⟩:=hw
 subst e1
 cases r
 obtain⟨its,rv,ht,hz⟩:=I.tuple hq
 refine assign_Tuple_tuple (I.ok.hd hc) ht (by simp [hn,<- hl,rv.length]) hst λh' hx=>?_
 have I1:Inv X pins σ H { s with heap:=h' }:=I.kept (t':=s.toks) λb o e=>hx b o (Nat.ne_of_lt (Heap.lt_size e)) e
 exact h pins _ σ H xs _ Q I1 (by simpa using rv) hw
def As (to ti:TE) (t:Ao):TG:=λv σ H Q=>to σ H λo H1=>ti σ H1 λi H2=>t o i v H2 λH3=>Q σ H3
def rL (te:TE) (g:TG):TS:=λD σ H=>te σ H λx H1=>g x σ H1 D.nx
theorem ji {tg e:Expr} {te:TE} {g:TG} (he:PE X e te) (hg:PG X tg g) (hs:swapsWithSole [tg] e pos.line X.env=pure false:=by rfl) (hw:swappedStores [tg] e X.env=pure none:=by rfl)
  (h1:(assignEach [tg] X.env).map (·.2)=[assign tg X.env]:=by rfl):PS X (.Assign [tg] e pos) (rL te g):=by
 intro pins s σ H D I h
 refine wpAny_Assign_stores (br (he pins s σ H _ I h) λv s1 ⟨x,H1,I1,r1,q1⟩=>?_) hs hw
 rw [h1]
 exact br (hg pins s1 σ H1 x v _ I1 r1 q1) λ_ s2 q=>q
theorem gY {i:Nat} {x:Str} {e:Expr} {te:TE} {pos':Pos} (hN:X.N.Nodup) (hi:X.N[i]?=some x) (hx:Loc X.env.scope x) (he:PE X e te) (hs:swapsWith e (some (.Name x pos')) pos.line X.env=pure false:=by rfl) (hf:X.fn x=true∨X.env.scope.names.lookup x=some .local:=by first | exact .inl rfl | exact .inr rfl | assumption) :
  PS X (.Assign [.Name x pos'] e pos) (rL te (cH i)):=by
 intro pins s σ H D I h
 refine wpAny_Assign_Name (br (he pins s σ H _ I h) λv s1 ⟨y,H1,I1,r1,q1⟩=>?_) hs
 exact cm I1 hN hi hx r1 (λs2 I2=>⟨_,H1,I2,q1⟩) hf
def zV (i j:Nat) (ta:TA):TS:=λD σ H=>ta σ H λvs H1=>∃ v w,vs=[v,w]/\D.nx ((σ.set i (some v)).set j (some w)) H1
theorem lL {i j:Nat} {x y:Str} {a b:Expr} {ta:TA} {px py pt:Pos} {kt k2 pt2} (hc:X.calm=true) (hN:X.N.Nodup) (hi:X.N[i]?=some x) (hj:X.N[j]?=some y) (hij:i≠j)
  (hx:X.env.scope.names.lookup x=some .local) (hy:X.env.scope.names.lookup y=some .local) (ha:PA X [a,b] ta)
  (hw:swappedStores [.Tuple [.Name x px,.Name y py] kt pt] (.Tuple [a,b] k2 pt2) X.env=pure (some [x,y]))
  (hs:swapsWithSole [.Tuple [.Name x px,.Name y py] kt pt] (.Tuple [a,b] k2 pt2) pos.line X.env=pure false:=by rfl) :
  PS X (.Assign [.Tuple [.Name x px,.Name y py] kt pt] (.Tuple [a,b] k2 pt2) pos) (zV i j ta):=by
 intro pins s σ H D I h
 rw [exec_Assign_arm]
 refine wpAny_bind (wpAny_standAt ?_)
 rw [hs]
 refine wpAny_bind (wpAny_pure ?_)
 rw [if_neg (by decide)]
 refine wpAny_bind (Tuple_ (br (ha _ pins s σ H _ I h) λus s1 ⟨vs,H1,I1,r1,q1⟩=>?_))
 obtain⟨v,w,e1,q1⟩:=q1
 subst e1
 obtain⟨u1,u2,rfl,rv,rw'⟩:∃ u1 u2,us=[u1,u2]/\RelV v u1/\RelV w u2:=by
  cases r1 with
  | cons p q =>
   cases q with
   | cons p' q' =>
    cases q'
    exact⟨_,_,rfl,p,p'⟩
 refine wpAny_newObj_type ?_ (by show 2<=sizeLine;decide)
 have I2:Inv X pins σ H1 { s1 with heap:=s1.heap.push { cls:=.type "tuple",data:=.seq [u1,u2].toArray } }:=I1.kept (t':=s1.toks) λb o e=>Heap.get?_push_of_some _ e
 rw [hw]
 refine wpAny_bind (wpAny_pure ?_)
 show wpAny (model X.prog X.w) X.A (do rule "assign.swapped-stores";let items <- unpackItems (.ref s1.heap.objs.size) 2 none;assignInOrder [λv=>bindName X.env y v,λv=>bindName X.env x v] items.reverse;pure Flow.next) _ _ _
 refine wpAny_bind (wpAny_rule (wpAny_bind (unpackItems_tuple (items:=#[u1,u2]) (I.ok.hd hc) (IsTup.new s1.heap _) λh' hx'=>?_)))
 have I3:=I2.kept (h':=h') (t':=s1.toks) λb o e=>hx' b o (Nat.ne_of_lt (Heap.lt_size e)) e
 show wpAny _ _ (assignInOrder [λv=>bindName X.env y v,λv=>bindName X.env x v] [u2,u1] >>= λ_=>pure Flow.next) _ _ _
 refine wpAny_bind (assignInOrder_cons (wpAny_bindName (cm I3 hN hj (.inl hy) rw' (λs2 I4=>?_) (.inr hy))))
 refine assignInOrder_cons (wpAny_bindName (cm I4 hN hi (.inl hx) rv (λs3 I5=>assignInOrder_nil (wpAny_pure ?_)) (.inr hx)))
 rw [List.set_comm _ _ (Ne.symm hij)] at I5
 exact⟨_,H1,I5,q1⟩
def zO (i:Nat) (te:TE) (ti:An):TS:=λD σ H=>∃ x,σ[i]?=some (some x)/\te σ H λy H1=>ti x y H1 λz H2=>D.nx (σ.set i (some z)) H2
theorem fU {i:Nat} {x:Str} {e:Expr} {te:TE} {op:Operator} {ti:An} {pos':Pos} (hN:X.N.Nodup) (hi:X.N[i]?=some x) (hx:Loc X.env.scope x) (he:PE X e te) (ho:AV X op ti) (hf:X.fn x=true∨X.env.scope.names.lookup x=some .local:=by first | exact .inl rfl | exact .inr rfl | assumption) :
  PS X (.AugAssign (.Name x pos') op e pos) (zO i te ti):=by
 intro pins s σ H D I h
 obtain⟨v,e1,h⟩:=h
 obtain⟨m,hn,hl⟩:=I.loc
 have vis:yF X.env.scope x:=by rcases hx with k | k;exact .inl k;exact .inr (.inl k)
 obtain⟨u,r,l⟩:=hl i x v hi e1 vis
 refine wpAny_AugAssign_Name ?_
 have go:wpAny (model X.prog X.w) X.A (eval e X.env) (λw s₂=>wpAny (model X.prog X.w) X.A (inplaceOp op u w) (λr s₃=>wpAny (model X.prog X.w) X.A (storeName X.env x r) (λ_=>SP X pins D .next) X.xe s₃) X.xe s₂) X.xe s:=by
  refine br (he pins s σ H _ I h) λw s1 ⟨y,H1,I1,r1,q1⟩=>?_
  refine br (ho pins s1 σ H1 v y u w _ I1 r r1 q1) λz s2 ⟨zv,H2,I2,r2,q2⟩=>?_
  exact cm I2 hN hi hx r2 (λs3 I3=>⟨_,H2,I3,q2⟩) hf
 rcases l with⟨hk,hm⟩|⟨hk,c,hc,hcell⟩
 ·exact wpAny_loadName_local I.ok.kind hk hn hm go
 ·rcases hk with hk | hk
  ·exact wpAny_loadName_cell I.ok.kind hk hc hcell go
  ·rcases hx with k | k
   ·have:X.env.scope.names.lookup x=some .free:=hk
    rw [k] at this;cases this
   ·have:X.env.scope.names.lookup x=some .free:=hk
    rw [k] at this;cases this
end
section
variable {X:Cx} {pos:Pos}
def uo (c:TT) (tb:TS):TS:=λD σ H=>∃ W:Nat->St->Hp->Prop,(∃ m,W m σ H)/\∀ m σ H,W m σ H ->
 c σ H λb H1=>if b=true then ∃ N:St->Hp->Prop,(∀ σ' H',N σ' H'->∃ m',m'<m/\W m' σ' H')/\tb { D with nx:=N,ct:=N,bk:=D.nx } σ H1 else D.nx σ H1
theorem bB {c:Expr} {body:List Stmt} {tc:TT} {tb:TS} (hp:PassesOwn (model X.prog X.w) X.A X.env X.xe) (hc:PT X c tc) (hb:jL X body tb):PS X (.While c body [] pos) (uo tc tb):=by
 intro pins s σ H D I h
 obtain⟨W,⟨m0,w0⟩,turn⟩:=h
 refine wpAny_While (codeAny_whileLoop (λn s'=>∃ σ' H',Inv X pins σ' H' s'/\W n σ' H') ?_ m0 ⟨σ,H,I,w0⟩)
 rintro n s1 ⟨σ1,H1,I1,w1⟩
 refine wpAny_passesOwn hp (br (hc pins s1 σ1 H1 _ I1 (turn n σ1 H1 w1)) λb s2 ⟨H2,I2,q2⟩=>?_)
 cases b with
 | true =>
  obtain⟨N,hN,q2⟩:=q2
  rw [if_pos rfl]
  refine wpAny_passesOwn hp (br (hb pins s2 σ1 H2 _ I2 q2) λf s3 q3=>?_)
  cases f with
  | next =>
   obtain⟨σ3,H3,I3,n3⟩:=q3
   obtain⟨m',hm,w3⟩:=hN σ3 H3 n3
   exact⟨m',hm,σ3,H3,I3,w3⟩
  | cont =>
   obtain⟨σ3,H3,I3,n3⟩:=q3
   obtain⟨m',hm,w3⟩:=hN σ3 H3 n3
   exact⟨m',hm,σ3,H3,I3,w3⟩
  | brk=>exact q3
  | ret v=>exact q3
 | false =>
  rw [if_neg Bool.false_ne_true]
  exact wpAny_execs_nil ⟨σ1,H2,I2,q2⟩
end
structure It where
 go:Nat->Hp->Prop
 yld:Nat->Hp->V->Hp->Prop
 stop:Nat->Hp->Prop
def kJ (X:Cx) (pins:List (Addr × Obj)) (H:Hp) (b:Addr):Prop :=
 H b=none/\b≠X.env.locals/\b∉X.fs/\(b∈X.ex∨X.s₀.heap.objs.size<=b)/\(∀ x c,X.env.cells.lookup x=some c->c≠b)/\∀ p∈X.pn++pins,p.1≠b
theorem Inv.ow {X:Cx} {pins:List (Addr × Obj)} {σ:St} {H H':Hp} {s:Shared} {b:Addr} (I:Inv X pins σ H s) (hb:s.heap.objs.size<=b) (hn:H' b=none):kJ X pins H' b:=by
 refine⟨hn,Nat.ne_of_gt (Nat.lt_of_lt_of_le I.lt hb),I.vq hb,.inr (Nat.le_trans I.sz hb),λx c e z=>?_,λp hp z=>?_⟩
 ·obtain⟨v,q⟩:=I.cell x c e
  exact absurd (Nat.lt_of_lt_of_le q.lt (by rw [z];exact hb)) (Nat.lt_irrefl _)
 ·exact absurd (Nat.lt_of_lt_of_le (Heap.lt_size (I.pin p hp).1) (by rw [z];exact hb)) (Nat.lt_irrefl _)
structure Turn (P:Program) (w:World) (K:PySem.W.Frag) (tg:Expr) (J:It) (fp:List Addr) (it:Addr) (tn:Nat->Heap->Prop):Prop where
 mem:it∈fp
 obj:∀ i h,tn i h->∀ b∈fp,∃ o,h.get? b=some o/\∀ v,o.data≠.cell v
 keep:∀ i h h',tn i h->(∀ b∈fp,∀ o,h.get? b=some o->h'.get? b=some o)->tn i h'
 item:∀(X:Cx),X.prog=P->X.w=w->X.K=K->X.calm=true->∀(i:Nat) (pins:List (Addr × Obj)) (s:Shared) (σ:St) (H:Hp) (E:Value->Shared->Prop),Inv X pins σ H s->(∀ b∈fp,kJ X pins H b)->tn i s.heap->J.go i H ->
  wpAny (model P w) X.A (pyNext (.ref it)) (λr s1=>∃ u,r=some u /\
   wpAny (model P w) X.A (letOwnedTupleGo tg (.ref it) u) (λ_ s2=>∃ x H',Inv X pins σ H' s2/\RelV x u/\J.yld i H x H'/\tn (i+1) s2.heap/\∀ b∈fp,H' b=none) E s1) E s
 done:∀(X:Cx),X.prog=P->X.w=w->X.K=K->X.calm=true->∀(i:Nat) (pins:List (Addr × Obj)) (s:Shared) (σ:St) (H:Hp) (E:Value->Shared->Prop),Inv X pins σ H s->(∀ b∈fp,kJ X pins H b)->tn i s.heap->J.stop i H ->
  wpAny (model P w) X.A (pyNext (.ref it)) (λr s1=>r=none/\Inv X pins σ H s1) E s
 self:∀(A:Around) (i:Nat) (s:Shared) (Q:Value->Shared->Prop) (E:Value->Shared->Prop),tn i s.heap->Q (.ref it) s->wpAny (model P w) A (pyIter (.ref it)) Q E s
abbrev TI:=St->Hp->(It->Hp->Prop)->Prop
def z7 (X:Cx) (pins:List (Addr × Obj)) (σ:St) (tg:Expr) (R:It->Hp->Prop) (itv:Value) (s2:Shared):Prop :=
 ∃(it:Addr) (fp:List Addr) (tn:Nat->Heap->Prop) (J:It) (H':Hp),itv=.ref it/\Inv X pins σ H' s2/\Turn X.prog X.w X.K tg J fp it tn/\tn 0 s2.heap/\(∀ b∈fp,kJ X pins H' b)/\R J H'
def PI (X:Cx) (tg iter:Expr) (wi:TI):Prop :=
 ∀(pins:List (Addr × Obj)) (s:Shared) (σ:St) (H:Hp) (R:It->Hp->Prop),Inv X pins σ H s->wi σ H R ->
  wpAny (model X.prog X.w) X.A (eval iter X.env) (λv s1=>wpAny (model X.prog X.w) X.A (pyIter v) (z7 X pins σ tg R) X.xe s1) X.xe s
theorem sI {M:Model} {A:Around} {E:Value->Shared->Prop} {s:Shared} {tg:Expr} {it:Addr} {u:Value} {o:Obj} {n:String} {vs:Array Value} {Q:Unit->Shared->Prop} (ho:s.heap.get? it=some o) (hc:o.cls=.type n) (hd:o.data=.fields vs)
    (hn:["enumerate","zip","dict_itemiterator","dict_reverseitemiterator","odict_iterator","itertools.zip_longest","itertools.pairwise"].contains n=false) (hQ:Q () s):wpAny M A (letOwnedTupleGo tg (.ref it) u) Q E s:=by
  unfold letOwnedTupleGo
  cases tg<;>first
    | exact wpAny_pure hQ
    | (cases u<;>first
        | exact wpAny_pure hQ
        | (refine wpAny_bind (wpAny_load ho ?_)
           rw [hc,hd]
           show wpAny M A (if (["enumerate","zip","dict_itemiterator","dict_reverseitemiterator","odict_iterator","itertools.zip_longest","itertools.pairwise"].contains n && vs[0]?==some (rawInt _))=true then _ else _) Q E s
           rw [if_neg (by intro h;rw [hn,Bool.false_and] at h;cases h)]
           exact wpAny_pure hQ))
def xp (K:PySem.W.Frag) (a:Addr):It :=
 ⟨λi H=>∃ xs x,aS K H a xs/\xs[i]?=some x,λi H x H'=>H'=H/\∀ xs,aS K H a xs->xs[i]?=some x,λi H=>∃ xs,aS K H a xs/\xs.length<=i⟩
def xq (K:PySem.W.Frag) (a:Addr):It :=
 ⟨λi H=>∃ xs x,bS K H a xs/\xs[i]?=some x,λi H x H'=>H'=H/\∀ xs,bS K H a xs->xs[i]?=some x,λi H=>∃ xs,bS K H a xs/\xs.length<=i⟩
def wb (lo:Int) (n:Nat):It:=⟨λi _=>i<n,λi H x H'=>H'=H/\x=.int (lo+i),λi _=>n<=i⟩
theorem rN {P:Program} {w:World} {K:PySem.W.Frag} {tg:Expr} (a it:Addr):Turn P w K tg (xp K a) [it] it (λi h=>h.IsListIter it a i) where
 mem:=by simp
 obj:=λi h st b hb=>by
  have e:b=it:=by simpa using hb
  subst e
  obtain⟨o,e,c,d⟩:=st
  exact⟨o,e,λv z=>by rw [d] at z;cases z⟩
 keep:=λi h h' st k=>st.at λo e=>k it (by simp) o e
 item:=by
  intro X hP hw hK hc i pins s σ H E I hf st hg
  subst hP hw hK
  obtain⟨xs,x,hq,hx⟩:=hg
  obtain⟨its,rv,p,hz⟩:=I.list hq
  obtain⟨u,hu,ru⟩:=rv.get hx
  obtain⟨f0,f1,f2,f3,f4,f5⟩:=hf it (by simp)
  refine wpAny_pyNext_list_item st p.isList (x:=u) (by simpa using hu) λh' st' sb=>?_
  have I1:Inv X pins σ H { s with heap:=h' }:=I.turned (t':=s.toks) (λb o hb e=>(sb.2 b hb).trans e) f0 f1 f3 f4 f5
  obtain⟨o,e,c,d⟩:=id st'
  exact⟨u,rfl,sI (s:={ s with heap:=h' }) e c d (by decide) ⟨x,H,I1,ru,⟨rfl,λys hy=>by rw [I.mW hy hq];exact hx⟩,st',λb hb=>(hf b hb).1⟩⟩
 done:=by
  intro X hP hw hK hc i pins s σ H E I hf st hg
  subst hP hw hK
  obtain⟨xs,hq,hx⟩:=hg
  obtain⟨its,rv,p,hz⟩:=I.list hq
  obtain⟨f0,f1,f2,f3,f4,f5⟩:=hf it (by simp)
  have hl:=rv.length
  exact wpAny_pyNext_list_end (I.ok.hd hc) st p.isList (by simp;omega) λh' eb=>⟨rfl,I.turned (t':=s.toks) (λb o hb e=>eb b o hb e) f0 f1 f3 f4 f5⟩
 self:=λ_ _ _ _ _ st h=>wpAny_pyIter_listiter st h
theorem oY {P:Program} {w:World} {K:PySem.W.Frag} {tg:Expr} (a it:Addr):Turn P w K tg (xq K a) [it] it (λi h=>h.IsTupleIter it a i) where
 mem:=by simp
 obj:=λi h st b hb=>by
  have e:b=it:=by simpa using hb
  subst e
  obtain⟨o,e,c,d⟩:=st
  exact⟨o,e,λv z=>by rw [d] at z;cases z⟩
 keep:=λi h h' st k=>st.at λo e=>k it (by simp) o e
 item:=by
  intro X hP hw hK hc i pins s σ H E I hf st hg
  subst hP hw hK
  obtain⟨xs,x,hq,hx⟩:=hg
  obtain⟨its,rv,p,hz⟩:=I.tuple hq
  obtain⟨u,hu,ru⟩:=rv.get hx
  obtain⟨f0,f1,f2,f3,f4,f5⟩:=hf it (by simp)
  refine wpAny_pyNext_tuple_item st (show s.heap.IsTuple a its.toArray from p) (x:=u) (by simpa using hu) λh' st' sb=>?_
  have I1:Inv X pins σ H { s with heap:=h' }:=I.turned (t':=s.toks) (λb o hb e=>(sb.2 b hb).trans e) f0 f1 f3 f4 f5
  obtain⟨o,e,c,d⟩:=id st'
  exact⟨u,rfl,sI (s:={ s with heap:=h' }) e c d (by decide) ⟨x,H,I1,ru,⟨rfl,λys hy=>by rw [I.kH hy hq];exact hx⟩,st',λb hb=>(hf b hb).1⟩⟩
 done:=by
  intro X hP hw hK hc i pins s σ H E I hf st hg
  subst hP hw hK
  obtain⟨xs,hq,hx⟩:=hg
  obtain⟨its,rv,p,hz⟩:=I.tuple hq
  obtain⟨f0,f1,f2,f3,f4,f5⟩:=hf it (by simp)
  have hl:=rv.length
  exact wpAny_pyNext_tuple_end (I.ok.hd hc) st (show s.heap.IsTuple a its.toArray from p) (by simp;omega) λh' eb=>⟨rfl,I.turned (t':=s.toks) (λb o hb e=>eb b o hb e) f0 f1 f3 f4 f5⟩
 self:=λ_ _ _ _ _ st h=>wpAny_pyIter_tupleiter st h
theorem oX {P:Program} {w:World} {K:PySem.W.Frag} {tg:Expr} (it:Addr) (lo:Int) (n:Nat):Turn P w K tg (wb lo n) [it] it (λi h=>IsRangeIter h it (lo+(i:Nat)*1) ((n:Int)-(i:Nat)) 1) where
 mem:=by simp
 obj:=λi h st b hb=>by
  have e:b=it:=by simpa using hb
  subst e
  exact⟨_,st,λv z=>by
   have z':Data.fields _=Data.cell v:=z
   cases z'⟩
 keep:=λi h h' st k=>k it (by simp) _ st
 item:=by
  intro X hP hw hK hc i pins s σ H E I hf st hg
  subst hP hw hK
  obtain⟨f0,f1,f2,f3,f4,f5⟩:=hf it (by simp)
  have W:=Walks.range (prog:=X.prog) (w:=X.w) (I.ok.hd hc) it lo 1 n
  refine W.item i s _ _ hg st λv h' tk hv st' kk=>?_
  obtain⟨t,rfl⟩:=hv
  have I1:Inv X pins σ H { s with heap:=h',toks:=tk }:=I.turned (λb o hb e=>kk b o (by simpa using hb) e) f0 f1 f3 f4 f5
  refine⟨_,rfl,sI (s:={ s with heap:=h',toks:=tk }) (n := "range_iterator") st' rfl rfl (by decide) ⟨.int (lo+i),H,I1,⟨t,?_⟩,⟨rfl,rfl⟩,st',λb hb=>(hf b hb).1⟩⟩
  rw [Int.mul_one]
 done:=by
  intro X hP hw hK hc i pins s σ H E I hf st hg
  subst hP hw hK
  obtain⟨f0,f1,f2,f3,f4,f5⟩:=hf it (by simp)
  exact wpAny_pyNext_range_end (I.ok.hd hc) st (by have:n<=i:=hg;omega) λh' eb=>⟨rfl,I.turned (t':=s.toks) (λb o hb e=>eb b o hb e) f0 f1 f3 f4 f5⟩
 self:=λ_ _ _ _ _ st h=>wpAny_pyIter_rangeiter st h
section
variable {X:Cx} {tg:Expr}
def wx (K:PySem.W.Frag) (tl:TE):TI:=λσ H R=>tl σ H λx H1=>∃ a,x=.ref a/\(∃ xs,aS K H1 a xs)/\R (xp K a) H1
def y4 (K:PySem.W.Frag) (tl:TE):TI:=λσ H R=>tl σ H λx H1=>∃ a,x=.ref a/\(∃ xs,bS K H1 a xs)/\R (xq K a) H1
theorem b6 {l:Expr} {tl:TE} (hl:PE X l tl):PI X tg l (wx X.K tl):=by
 intro pins s σ H R I h
 refine br (hl pins s σ H _ I h) λv s1 ⟨x,H1,I1,r1,q1⟩=>?_
 obtain⟨a,e,⟨xs,hq⟩,q⟩:=q1
 subst e
 cases r1
 obtain⟨its,rv,p,hz⟩:=I1.list hq
 refine wpAny_pyIter_list p.isList ?_
 refine⟨s1.heap.objs.size,[s1.heap.objs.size],_,_,H1,rfl,I1.kept (t':=s1.toks) λb o e=>Heap.get?_push_of_some _ e,rN a _,⟨_,Heap.get?_push_size _ rfl,rfl,rfl⟩,λb hb=>?_,q⟩
 have e:b=s1.heap.objs.size:=by simpa using hb
 subst e
 exact I1.ow (Nat.le_refl _) (I1.hok.fresh (Nat.le_refl _))
theorem fS {l:Expr} {tl:TE} (hl:PE X l tl):PI X tg l (y4 X.K tl):=by
 intro pins s σ H R I h
 refine br (hl pins s σ H _ I h) λv s1 ⟨x,H1,I1,r1,q1⟩=>?_
 obtain⟨a,e,⟨xs,hq⟩,q⟩:=q1
 subst e
 cases r1
 obtain⟨its,rv,p,hz⟩:=I1.tuple hq
 refine wpAny_pyIter_tuple (show s1.heap.IsTuple a its.toArray from p) ?_
 refine⟨s1.heap.objs.size,[s1.heap.objs.size],_,_,H1,rfl,I1.kept (t':=s1.toks) λb o e=>Heap.get?_push_of_some _ e,oY a _,⟨_,Heap.get?_push_size _ rfl,rfl,rfl⟩,λb hb=>?_,q⟩
 have e:b=s1.heap.objs.size:=by simpa using hb
 subst e
 exact I1.ow (Nat.le_refl _) (I1.hok.fresh (Nat.le_refl _))
theorem t7 {pins:List (Addr × Obj)} {σ:St} {H:Hp} {s:Shared} {R:It->Hp->Prop} {E:Value->Shared->Prop} {lo hi:Int} {t u v:Tok} {tk:Nat} (I:Inv X pins σ H s) (h1:-(2^62)<=lo) (h2:lo<2^62) (h3:-(2^62)<=hi) (h4:hi<2^62)
  (q:R (wb lo (hi-lo).toNat) H):wpAny (model X.prog X.w) X.A (pyIter (.ref s.heap.objs.size)) (z7 X pins σ tg R) E { s with heap:=s.heap.push { cls:=.type "range",data:=.fields #[.int lo t,.int hi u,.int 1 v] },toks:=tk }:=by
 refine wpAny_pyIter_range (IsRange.new ..) (small_one h1 h2 h3 h4) ?_
 have I1:Inv X pins σ H { s with heap:=s.heap.push { cls:=.type "range",data:=.fields #[.int lo t,.int hi u,.int 1 v] },toks:=tk }:=I.kept λb o e=>Heap.get?_push_of_some _ e
 refine⟨(s.heap.push { cls:=.type "range",data:=.fields #[.int lo t,.int hi u,.int 1 v] }).objs.size,[(s.heap.push { cls:=.type "range",data:=.fields #[.int lo t,.int hi u,.int 1 v] }).objs.size],_,_,H,rfl,
  I1.kept (t':=tk) λb o e=>Heap.get?_push_of_some _ e,oX _ lo (hi-lo).toNat,?_,λb hb=>?_,q⟩
 ·have e1:lo+((0:Nat):Int)*1=lo:=by simp
  have e2:(((hi-lo).toNat:Nat):Int)-((0:Nat):Int)=Builtin.Range.rangeSize lo hi 1:=by rw [rangeSize_one];split<;>omega
  show IsRangeIter _ _ (lo+((0:Nat):Int)*1) ((((hi-lo).toNat:Nat):Int)-((0:Nat):Int)) 1
  rw [e1,e2]
  exact Heap.get?_push_size _ rfl
 ·have e:b=(s.heap.push { cls:=.type "range",data:=.fields #[.int lo t,.int hi u,.int 1 v] }).objs.size:=by simpa using hb
  subst e
  exact I1.ow (Nat.le_refl _) (I1.hok.fresh (Nat.le_refl _))
def wy (ta:TA):TI:=λσ H R=>ta σ H λvs H1=>∃ j:Int,vs=[.int j] /\ -(2^62)<=j/\j<2^62/\R (wb 0 j.toNat) H1
def yY (ta:TA):TI:=λσ H R=>ta σ H λvs H1=>∃ i j:Int,vs=[.int i,.int j]/\(-(2^62)<=i/\i<2^62 /\ -(2^62)<=j/\j<2^62)/\R (wb i (j-i).toNat) H1
theorem fh {a:Expr} {ta:TA} {p pos:Pos} (hg:Gl X "range") (hm:X.mg "range"=none) (ha:PA X [a] ta) (hs:starEach [a] X.env=[(false,eval a X.env)]:=by rfl):PI X tg (.Call (.Name "range" p) [a] [] pos) (wy ta):=by
 intro pins s σ H R I h
 refine Call_ (gS I hg hm boot_range (PyProof.Rows.callWith_type1 (br (ha pos pins s σ H _ I h) λus s1 ⟨vs,H1,I1,r1,q1⟩=>?_) hs rfl))
 obtain⟨j,e,q1,q2,q⟩:=q1
 subst e
 cases r1 with
 | cons r rr =>
  cases rr
  obtain⟨t,rfl⟩:=r
  exact call_range_1 (t7 I1 (by omega) (by omega) q1 q2 (by simpa using q))
def zQ (wi:TI) (g:TG) (tb:TS):TS:=λD σ H=>wi σ H λJ H1=>∃ W:Nat->Nat->St->Hp->Prop,(∃ m,W 0 m σ H1)/\∀ i m σ H,W i m σ H ->
 (J.stop i H/\D.nx σ H)∨(J.go i H/\∃ N:St->Hp->Prop,(∀ σ' H',N σ' H'->∃ m',m'<m/\W (i+1) m' σ' H')/\∀ x H',J.yld i H x H'->g x σ H' λσ2 H2=>tb { D with nx:=N,ct:=N,bk:=D.nx } σ2 H2)
def gW (fp:List Addr) (h:Heap):List (Addr × Obj):=fp.filterMap λb=>(h.get? b).map λo=>(b,o)
theorem dJ {fp:List Addr} {h:Heap} {b:Addr} {o:Obj} (hb:b∈fp) (e:h.get? b=some o):(b,o)∈gW fp h:=List.mem_filterMap.mpr ⟨b,hb,by rw [e];rfl⟩
theorem kn {fp:List Addr} {h:Heap} {p:Addr × Obj} (hp:p∈gW fp h):p.1∈fp/\h.get? p.1=some p.2:=by
 obtain⟨b,hb,e⟩:=List.mem_filterMap.mp hp
 cases q:h.get? b with
 | none=>rw [q] at e;cases e
 | some o =>
  rw [q] at e
  have e':(b,o)=p:=Option.some.inj e
  subst e'
  exact⟨hb,q⟩
theorem Inv.pinned {pins:List (Addr × Obj)} {σ:St} {H:Hp} {s:Shared} {fp:List Addr} (I:Inv X pins σ H s) (hf:∀ b∈fp,kJ X pins H b) (ho:∀ b∈fp,∃ o,s.heap.get? b=some o/\∀ v,o.data≠.cell v):Inv X (pins++gW fp s.heap) σ H s :=
 I.fj λp hp=>(List.mem_append.mp hp).elim (λz=>I.pin p (List.mem_append_right _ z)) λz=>by
  obtain⟨hb,e⟩:=kn z
  obtain⟨f0,f1,f2,_⟩:=hf p.1 hb
  obtain⟨o,e',d⟩:=ho p.1 hb
  rw [e] at e';cases e'
  exact⟨e,f0,f1,f2,d⟩
theorem Inv.gL {pins pl:List (Addr × Obj)} {σ:St} {H:Hp} {s:Shared} (I:Inv X (pins++pl) σ H s):Inv X pins σ H s:=I.fj λp hp=>I.pin p (List.mem_append_right _ (List.mem_append_left _ hp))
theorem dQ {iter:Expr} {body:List Stmt} {wi:TI} {g:TG} {tb:TS} {pos:Pos} (hp:PassesOwn (model X.prog X.w) X.A X.env X.xe) (hc:X.calm=true) (hi:PI X tg iter wi) (hg:PG X tg g) (hb:jL X body tb)
  (hs:∀ x,foldedSetIterable iter X.env x=pure x:=by intro _;rfl):PS X (.For tg iter body [] pos) (zQ wi g tb):=by
 intro pins s σ H D I h
 refine wpAny_For (br (hi pins s σ H _ I h) λv s1 h1=>br h1 λitv s2 h2=>?_) hs
 obtain⟨it,fp,tn,J,H2,e,I2,T,st2,f2,W,⟨m0,w0⟩,turn⟩:=h2
 subst e
 -- what stays true of the iterator's objects through the loop
 have stat:∀{H':Hp},(∀ b∈fp,H' b=none)->∀ b∈fp,kJ X pins H' b:=λhn b hb=>⟨hn b hb,(f2 b hb).2⟩
 refine codeAny_forLoop_any (λn s'=>∃ i σ' H',Inv X pins σ' H' s'/\tn i s'.heap/\(∀ b∈fp,H' b=none)/\W i n σ' H') ?_ m0 ⟨0,σ,H2,I2,st2,λb hb=>(f2 b hb).1,w0⟩
 rintro n s3 ⟨i,σ3,H3,I3,st3,fr3,w3⟩
 rcases turn i n σ3 H3 w3 with⟨stop,qn⟩|⟨go,N,hN,step⟩
 ·refine wpAny_passesOwn hp (br (T.done X rfl rfl rfl hc i pins s3 σ3 H3 X.xe I3 (stat fr3) st3 stop) λr s4 ⟨hr,I4⟩=>?_)
  subst hr
  exact wpAny_execs_nil ⟨σ3,H3,I4,qn⟩
 ·refine wpAny_passesOwn hp (br (T.item X rfl rfl rfl hc i pins s3 σ3 H3 X.xe I3 (stat fr3) st3 go) λr s4 ⟨u,hr,h4⟩=>?_)
  subst hr
  refine wpAny_passesOwn hp (br h4 λ_ s5 ⟨x,H5,I5,r5,y5,st5,fr5⟩=>?_)
  have I5':=I5.pinned (stat fr5) (T.obj _ _ st5)
  refine wpAny_passesOwn hp (br (hg _ s5 σ3 H5 x u _ I5' r5 (step x H5 y5)) λ_ s6 ⟨σ6,H6,I6,q6⟩=>?_)
  refine wpAny_passesOwn hp (br (hb _ s6 σ6 H6 _ I6 q6) λf s7 q7=>?_)
  have again:∀{σ7:St} {H7:Hp},Inv X (pins++gW fp s5.heap) σ7 H7 s7->N σ7 H7->∃ m,m<n/\∃ i σ' H',Inv X pins σ' H' s7/\tn i s7.heap/\(∀ b∈fp,H' b=none)/\W i m σ' H':=λ{σ7 H7} I7 n7=>by
   obtain⟨m',hm,w7⟩:=hN σ7 H7 n7
   refine⟨m',hm,i+1,σ7,H7,I7.gL,T.keep _ _ _ st5 λb hb o e=>(I7.pin (b,o) (List.mem_append_right _ (List.mem_append_right _ (dJ hb e)))).1,λb hb=>?_,w7⟩
   obtain⟨o,e,d⟩:=T.obj _ _ st5 b hb
   exact (I7.pin (b,o) (List.mem_append_right _ (List.mem_append_right _ (dJ hb e)))).2.1
  cases f with
  | next=>obtain⟨σ7,H7,I7,n7⟩:=q7;exact again I7 n7
  | cont=>obtain⟨σ7,H7,I7,n7⟩:=q7;exact again I7 n7
  | brk=>obtain⟨σ7,H7,I7,q7⟩:=q7;exact⟨σ7,H7,I7.gL,q7⟩
  | ret v=>obtain⟨x7,σ7,H7,I7,r7,q7⟩:=q7;exact⟨x7,σ7,H7,I7.gL,r7,q7⟩
end
theorem sE {K:PySem.W.Frag} {a:Addr} {xs:List V} {g:TG} {tb:TS} {D:Ends} {σ:St} {H:Hp} (Pv:Nat->St->Hp->Prop) (h0:Pv 0 σ H) (hl:∀ i σ H,i<=xs.length->Pv i σ H->aS K H a xs)
  (hs:∀ i x σ H,xs[i]?=some x->Pv i σ H->g x σ H λσ2 H2=>tb { D with nx:=Pv (i+1),ct:=Pv (i+1),bk:=D.nx } σ2 H2) (hd:∀ σ H,Pv xs.length σ H->D.nx σ H) :
  ∃ W:Nat->Nat->St->Hp->Prop,(∃ m,W 0 m σ H)/\∀ i m σ H,W i m σ H ->
   ((xp K a).stop i H/\D.nx σ H)∨((xp K a).go i H/\∃ N:St->Hp->Prop,(∀ σ' H',N σ' H'->∃ m',m'<m/\W (i+1) m' σ' H')/\∀ x H',(xp K a).yld i H x H'->g x σ H' λσ2 H2=>tb { D with nx:=N,ct:=N,bk:=D.nx } σ2 H2):=by
 refine⟨λi m σ H=>m=xs.length-i/\i<=xs.length/\Pv i σ H,⟨xs.length,by simp,Nat.zero_le _,h0⟩,?_⟩
 rintro i m σ H ⟨rfl,hi,p⟩
 have q:=hl i σ H hi p
 by_cases hlt:i<xs.length
 ·refine .inr ⟨⟨xs,xs[i],q,by simp [hlt]⟩,Pv (i+1),λσ' H' p'=>⟨xs.length-(i+1),by omega,rfl,hlt,p'⟩,λx H' y=>?_⟩
  obtain⟨e,y⟩:=y
  subst e
  exact hs i x σ _ (y xs q) p
 ·have e:i=xs.length:=by omega
  subst e
  exact .inl ⟨⟨xs,q,Nat.le_refl _⟩,hd σ H p⟩
theorem u9 {K:PySem.W.Frag} {a:Addr} {xs:List V} {g:TG} {tb:TS} {D:Ends} {σ:St} {H:Hp} (Pv:Nat->St->Hp->Prop) (h0:Pv 0 σ H) (hl:∀ i σ H,i<=xs.length->Pv i σ H->bS K H a xs)
  (hs:∀ i x σ H,xs[i]?=some x->Pv i σ H->g x σ H λσ2 H2=>tb { D with nx:=Pv (i+1),ct:=Pv (i+1),bk:=D.nx } σ2 H2) (hd:∀ σ H,Pv xs.length σ H->D.nx σ H) :
  ∃ W:Nat->Nat->St->Hp->Prop,(∃ m,W 0 m σ H)/\∀ i m σ H,W i m σ H ->
   ((xq K a).stop i H/\D.nx σ H)∨((xq K a).go i H/\∃ N:St->Hp->Prop,(∀ σ' H',N σ' H'->∃ m',m'<m/\W (i+1) m' σ' H')/\∀ x H',(xq K a).yld i H x H'->g x σ H' λσ2 H2=>tb { D with nx:=N,ct:=N,bk:=D.nx } σ2 H2):=by
 refine⟨λi m σ H=>m=xs.length-i/\i<=xs.length/\Pv i σ H,⟨xs.length,by simp,Nat.zero_le _,h0⟩,?_⟩
 rintro i m σ H ⟨rfl,hi,p⟩
 have q:=hl i σ H hi p
 by_cases hlt:i<xs.length
 ·refine .inr ⟨⟨xs,xs[i],q,by simp [hlt]⟩,Pv (i+1),λσ' H' p'=>⟨xs.length-(i+1),by omega,rfl,hlt,p'⟩,λx H' y=>?_⟩
  obtain⟨e,y⟩:=y
  subst e
  exact hs i x σ _ (y xs q) p
 ·have e:i=xs.length:=by omega
  subst e
  exact .inl ⟨⟨xs,q,Nat.le_refl _⟩,hd σ H p⟩
theorem qP {lo:Int} {n:Nat} {g:TG} {tb:TS} {D:Ends} {σ:St} {H:Hp} (Pv:Nat->St->Hp->Prop) (h0:Pv 0 σ H)
  (hs:∀ i σ H,i<n->Pv i σ H->g (.int (lo+i)) σ H λσ2 H2=>tb { D with nx:=Pv (i+1),ct:=Pv (i+1),bk:=D.nx } σ2 H2) (hd:∀ σ H,Pv n σ H->D.nx σ H) :
  ∃ W:Nat->Nat->St->Hp->Prop,(∃ m,W 0 m σ H)/\∀ i m σ H,W i m σ H ->
   ((wb lo n).stop i H/\D.nx σ H)∨((wb lo n).go i H/\∃ N:St->Hp->Prop,(∀ σ' H',N σ' H'->∃ m',m'<m/\W (i+1) m' σ' H')/\∀ x H',(wb lo n).yld i H x H'->g x σ H' λσ2 H2=>tb { D with nx:=N,ct:=N,bk:=D.nx } σ2 H2):=by
 refine⟨λi m σ H=>m=n-i/\i<=n/\Pv i σ H,⟨n,by simp,Nat.zero_le _,h0⟩,?_⟩
 rintro i m σ H ⟨rfl,hi,p⟩
 by_cases hlt:i<n
 ·refine .inr ⟨hlt,Pv (i+1),λσ' H' p'=>⟨n-(i+1),by omega,rfl,hlt,p'⟩,λx H' y=>?_⟩
  obtain⟨e,y⟩:=y
  subst e y
  exact hs i σ _ hlt p
 ·have e:i=n:=by omega
  subst e
  exact .inl ⟨Nat.le_refl _,hd σ H p⟩
abbrev R2:=V->V->Hp->VK->Prop
def fz (X:Cx) (f:Value->Value->Sem Value) (r:R2):Prop :=
 ∀(pins:List (Addr × Obj)) (s:Shared) (σ:St) (H:Hp) (x y:V) (v u:Value) (Q:VK),Inv X pins σ H s->RelV x v->RelV y u->r x y H Q ->
  wpAny (model X.prog X.w) X.A (f v u) (EP X pins σ Q) X.xe s
def Aq (X:Cx) (f:Value->Sem Value) (r:V->Hp->VK->Prop):Prop :=
 ∀(pins:List (Addr × Obj)) (s:Shared) (σ:St) (H:Hp) (x:V) (v:Value) (Q:VK),Inv X pins σ H s->RelV x v->r x H Q ->
  wpAny (model X.prog X.w) X.A (f v) (EP X pins σ Q) X.xe s
def cQ (X:Cx) (f:Value) (r:List V->Hp->VK->Prop):Prop :=
 ∀(pins:List (Addr × Obj)) (s:Shared) (σ:St) (H:Hp) (xs:List V) (us:List Value) (Q:VK),Inv X pins σ H s->Vals xs us->r xs H Q ->
  wpAny (model X.prog X.w) X.A (call f us) (EP X pins σ Q) X.xe s
def Ap (X:Cx) (r:V->Hp->(Bool->Hp->Prop)->Prop):Prop :=
 ∀(pins:List (Addr × Obj)) (s:Shared) (σ:St) (H:Hp) (x:V) (v:Value) (Q:Bool->Hp->Prop),Inv X pins σ H s->RelV x v->r x H Q ->
  wpAny (model X.prog X.w) X.A (truthy v) (TP X pins σ Q) X.xe s
def zU (r:R2) (ta tb:TE):TE:=λσ H Q=>ta σ H λx H1=>tb σ H1 λy H2=>r x y H2 Q
def A6 (r:V->Hp->VK->Prop) (ta:TE):TE:=λσ H Q=>ta σ H λx H1=>r x H1 Q
def rI (C:Int->Int->Prop) (g:Int->Int->V):R2:=λx y H Q=>∃ i j,x=.int i/\y=.int j/\C i j/\Q (g i j) H
def rP (g:Int->Int->V):R2:=λx y H Q=>∃ i j,x=.int i/\y=.int j/\Q (g i j) H
def rU (g:Int->V):V->Hp->VK->Prop:=λx H Q=>∃ i,x=.int i/\Q (g i) H
section
variable {X:Cx} {a b c:Expr} {ta tb tc:TE} {pos:Pos}
theorem xB (ha:PE X a ta) (hb:PE X b tb) {pins:List (Addr × Obj)} {s:Shared} {σ:St} {H:Hp} {R:V->V->Hp->Prop} (I:Inv X pins σ H s)
  (h:ta σ H λx H1=>tb σ H1 λy H2=>R x y H2) {Q:Value->Shared->Prop} {f:Value->Value->Sem Value}
  (hf:∀ v u s2 x y H2,Inv X pins σ H2 s2->RelV x v->RelV y u->R x y H2->wpAny (model X.prog X.w) X.A (f v u) Q X.xe s2) :
  wpAny (model X.prog X.w) X.A (eval a X.env) (λv s₁=>wpAny (model X.prog X.w) X.A (eval b X.env) (λu s₂=>wpAny (model X.prog X.w) X.A (f v u) Q X.xe s₂) X.xe s₁) X.xe s:=by
 refine br (ha pins s σ H _ I h) λv s1 ⟨x,H1,I1,r1,q1⟩=>?_
 refine br (hb pins s1 σ H1 _ I1 q1) λu s2 ⟨y,H2,I2,r2,q2⟩=>?_
 exact hf v u s2 x y H2 I2 r1 r2 q2
theorem aq {op:Operator} {r:R2} (ho:fz X (binaryOp op) r) (ha:PE X a ta) (hb:PE X b tb):PE X (.BinOp a op b pos) (zU r ta tb):=by
 intro pins s σ H Q I h
 exact wpAny_BinOp (xB ha hb I h λv u s2 x y H2 I2 rx ry q=>ho pins s2 σ H2 x y v u Q I2 rx ry q)
theorem wN {op:UnaryOp} {r:V->Hp->VK->Prop} (ho:Aq X (unaryOp op) r) (ha:PE X a ta):PE X (.UnaryOp op a pos) (A6 r ta):=by
 intro pins s σ H Q I h
 exact UnaryOp_ (br (ha pins s σ H _ I h) λv s1 ⟨x,H1,I1,r1,q1⟩=>ho pins s1 σ H1 x v Q I1 r1 q1)
theorem yJ {f:Value->Value->Sem Value} {C:Int->Int->Prop} {g:Int->Int->Int}
  (rule:∀(i j:Int) (t u:Tok) (s:Shared) (Q:Value->Shared->Prop) (E:Value->Shared->Prop),C i j->Q (.int (g i j) s.toks) { s with toks:=s.toks+1 }->wpAny (model X.prog X.w) X.A (f (.int i t) (.int j u)) Q E s) :
  fz X f (rI C λi j=>.int (g i j)):=by
 intro pins s σ H x y v u Q I rx ry h
 obtain⟨i,j,rfl,rfl,hc,q⟩:=h
 obtain⟨t,rfl⟩:=rx
 obtain⟨t',rfl⟩:=ry
 exact rule i j t t' s _ _ hc ⟨.int (g i j),H,I.tok _,⟨_,rfl⟩,q⟩
theorem vA {f:Value->Value->Sem Value} {g:Int->Int->Int}
  (rule:∀(i j:Int) (t u:Tok) (s:Shared) (Q:Value->Shared->Prop) (E:Value->Shared->Prop),Q (.int (g i j) s.toks) { s with toks:=s.toks+1 }->wpAny (model X.prog X.w) X.A (f (.int i t) (.int j u)) Q E s) :
  fz X f (rP λi j=>.int (g i j)):=by
 intro pins s σ H x y v u Q I rx ry h
 obtain⟨i,j,rfl,rfl,q⟩:=h
 obtain⟨t,rfl⟩:=rx
 obtain⟨t',rfl⟩:=ry
 exact rule i j t t' s _ _ ⟨.int (g i j),H,I.tok _,⟨_,rfl⟩,q⟩
theorem vz {f:Value->Value->Sem Value} {g:Int->Int->Bool}
  (rule:∀(i j:Int) (t u:Tok) (s:Shared) (Q:Value->Shared->Prop) (E:Value->Shared->Prop),Q (.bool (g i j)) s->wpAny (model X.prog X.w) X.A (f (.int i t) (.int j u)) Q E s) :
  fz X f (rP λi j=>.bl (g i j)):=by
 intro pins s σ H x y v u Q I rx ry h
 obtain⟨i,j,rfl,rfl,q⟩:=h
 obtain⟨t,rfl⟩:=rx
 obtain⟨t',rfl⟩:=ry
 exact rule i j t t' s _ _ ⟨.bl (g i j),H,I,rfl,q⟩
def yL (i j:Int):Prop:=0<=j/\j<=1000000/\i.natAbs<2^64
def yK (i j:Int):Prop:=(-(2^64)<i/\i<2^64)∨(-(2^64)<j/\j<2^64)
theorem yK.ok {i j:Int} (h:yK i j):IntMulOk i j:=by
 rcases h with⟨h1,h2⟩|⟨h1,h2⟩
 ·exact .of_left (intBits_le_64 h1 h2)
 ·exact .of_right (intBits_le_64 h1 h2)
theorem bG:fz X (binaryOp .Add) (rP λi j=>.int (i+j)):=vA λ_ _ _ _ _ _ _ q=>add_int q
theorem cU:fz X (binaryOp .Sub) (rP λi j=>.int (i-j)):=vA λ_ _ _ _ _ _ _ q=>sub_int q
theorem aU:fz X (binaryOp .Mod) (rI (λ_ j=>0<j) λi j=>.int (i%j)):=yJ λi j _ _ _ _ _ hc q=>by
 have h1:(0:Int)<j:=hc
 exact mod_int' (by omega) (by rw [Int.fmod_eq_emod_of_nonneg i (by omega)];exact q)
theorem lH:fz X (binaryOp .Pow) (rI yL λi j=>.int (i^j.toNat)):=yJ λ_ _ _ _ _ _ _ hc q=>pow_int_small hc.1 hc.2.1 hc.2.2 q
theorem pR:fz X (inplaceOp .Add) (rP λi j=>.int (i+j)):=vA λ_ _ _ _ _ _ _ q=>iadd_int q
theorem vh:fz X (inplaceOp .Sub) (rP λi j=>.int (i-j)):=vA λ_ _ _ _ _ _ _ q=>isub_int q
theorem Bq {f:Value->Sem Value} {g:Int->Int}
  (rule:∀(i:Int) (t:Tok) (s:Shared) (Q:Value->Shared->Prop) (E:Value->Shared->Prop),Q (.int (g i) s.toks) { s with toks:=s.toks+1 }->wpAny (model X.prog X.w) X.A (f (.int i t)) Q E s) :
  Aq X f (rU λi=>.int (g i)):=by
 intro pins s σ H x v Q I rx h
 obtain⟨i,rfl,q⟩:=h
 obtain⟨t,rfl⟩:=rx
 exact rule i t s _ _ ⟨.int (g i),H,I.tok _,⟨_,rfl⟩,q⟩
theorem ux:Aq X (unaryOp .USub) (rU λi=>.int (-i)):=Bq λ_ _ _ _ _ q=>neg_int q
end
def lQ:V->V->Bool
 | .non,.non=>true | .non,.int _=>true | .int _,.non=>true | .non,.bl _=>true | .bl _,.non=>true | .non,.str _=>true | .str _,.non=>true
 | .int _,.int _=>true | .bl _,.bl _=>true | .str _,.str _=>true | .byt _,.byt _=>true
 | .int _,.str _=>true | .str _,.int _=>true | .bl _,.str _=>true | .str _,.bl _=>true
 | _,_=>false
def AZ:R2:=λx y H Q=>lQ x y=true/\Q (.bl (decide (x=y))) H
def A1:R2:=λx y H Q=>lQ x y=true/\Q (.bl (!decide (x=y))) H
theorem pE {i j:Int}:decide (V.int i=V.int j)=(i==j):=by
 rw [Bool.eq_iff_iff]
 simp
theorem rY {i j:Bool}:decide (V.bl i=V.bl j)=(i==j):=by
 rw [Bool.eq_iff_iff]
 simp
theorem pF {i j:Str}:decide (V.str i=V.str j)=(i==j):=by
 rw [Bool.eq_iff_iff]
 simp
theorem pk {i j:Array UInt8}:decide (V.byt i=V.byt j)=(i.toList==j.toList):=by
 rw [Bool.eq_iff_iff]
 cases i
 cases j
 simp
section
variable {X:Cx} {a b c:Expr} {ta tb tc:TE} {pos:Pos}
theorem aK {pins:List (Addr × Obj)} {σ:St} {H:Hp} {s:Shared} {Q:VK} {k k':Bool} (I:Inv X pins σ H s) (q:Q (.bl k) H) (e:k=k'):EP X pins σ Q (.bool k') s:=by
 subst e
 exact⟨.bl k,H,I,rfl,q⟩
theorem cn:fz X (compareOp .Eq) AZ:=by
 intro pins s σ H x y v u Q I rx ry h
 obtain⟨hs,q⟩:=h
 cases x with
 | non =>
  cases rx
  cases y with
  | non=>cases ry;exact PySem.EqNone.eq_none_none (aK I q (by simp))
  | bl j=>cases ry;exact PySem.EqNone.eq_none_bool (aK I q (by simp))
  | int j=>obtain⟨t',rfl⟩:=ry;exact PySem.EqNone.eq_none_int (aK I q (by simp))
  | str j=>obtain⟨t',rfl⟩:=ry;exact PySem.EqNone.eq_none_str (aK I q (by simp))
  | _=>exact absurd (show false=true from hs) Bool.false_ne_true
 | bl i =>
  cases rx
  cases y with
  | non=>cases ry;exact PySem.EqNone.eq_bool_none (aK I q (by simp))
  | bl j=>cases ry;exact eq_bool (aK I q rY)
  | str j=>obtain⟨t',rfl⟩:=ry;exact PySem.EqMixed.eq_bool_str (aK I q (by simp))
  | _=>exact absurd (show false=true from hs) Bool.false_ne_true
 | int i =>
  obtain⟨t,rfl⟩:=rx
  cases y with
  | non=>cases ry;exact PySem.EqNone.eq_int_none (aK I q (by simp))
  | int j=>obtain⟨t',rfl⟩:=ry;exact eq_int (aK I q pE)
  | str j=>obtain⟨t',rfl⟩:=ry;exact PySem.EqMixed.eq_int_str (aK I q (by simp))
  | _=>exact absurd (show false=true from hs) Bool.false_ne_true
 | str i =>
  obtain⟨t,rfl⟩:=rx
  cases y with
  | non=>cases ry;exact PySem.EqNone.eq_str_none (aK I q (by simp))
  | bl j=>cases ry;exact PySem.EqMixed.eq_str_bool (aK I q (by simp))
  | int j=>obtain⟨t',rfl⟩:=ry;exact PySem.EqMixed.eq_str_int (aK I q (by simp))
  | str j=>obtain⟨t',rfl⟩:=ry;exact eq_str (aK I q pF)
  | _=>exact absurd (show false=true from hs) Bool.false_ne_true
 | byt i =>
  obtain⟨t,rfl⟩:=rx
  cases y with
  | byt j=>obtain⟨t',rfl⟩:=ry;exact PySem.W.eq_bytes (aK I q pk)
  | _=>exact absurd (show false=true from hs) Bool.false_ne_true
 | _=>cases y<;>exact absurd (show false=true from hs) Bool.false_ne_true
theorem i9:fz X (compareOp .NotEq) A1:=by
 intro pins s σ H x y v u Q I rx ry h
 obtain⟨hs,q⟩:=h
 cases x with
 | non =>
  cases rx
  cases y with
  | non=>cases ry;exact PySem.EqNone.ne_none_none (aK I q (by simp))
  | bl j=>cases ry;exact PySem.EqNone.ne_none_bool (aK I q (by simp))
  | int j=>obtain⟨t',rfl⟩:=ry;exact PySem.EqNone.ne_none_int (aK I q (by simp))
  | str j=>obtain⟨t',rfl⟩:=ry;exact PySem.EqNone.ne_none_str (aK I q (by simp))
  | _=>exact absurd (show false=true from hs) Bool.false_ne_true
 | bl i =>
  cases rx
  cases y with
  | non=>cases ry;exact PySem.EqNone.ne_bool_none (aK I q (by simp))
  | bl j=>cases ry;exact ne_bool (aK I q (congrArg not rY))
  | str j=>obtain⟨t',rfl⟩:=ry;exact PySem.EqMixed.ne_bool_str (aK I q (by simp))
  | _=>exact absurd (show false=true from hs) Bool.false_ne_true
 | int i =>
  obtain⟨t,rfl⟩:=rx
  cases y with
  | non=>cases ry;exact PySem.EqNone.ne_int_none (aK I q (by simp))
  | int j=>obtain⟨t',rfl⟩:=ry;exact ne_int (aK I q (congrArg not pE))
  | str j=>obtain⟨t',rfl⟩:=ry;exact PySem.EqMixed.ne_int_str (aK I q (by simp))
  | _=>exact absurd (show false=true from hs) Bool.false_ne_true
 | str i =>
  obtain⟨t,rfl⟩:=rx
  cases y with
  | non=>cases ry;exact PySem.EqNone.ne_str_none (aK I q (by simp))
  | bl j=>cases ry;exact PySem.EqMixed.ne_str_bool (aK I q (by simp))
  | int j=>obtain⟨t',rfl⟩:=ry;exact PySem.EqMixed.ne_str_int (aK I q (by simp))
  | str j=>obtain⟨t',rfl⟩:=ry;exact ne_str (aK I q (congrArg not pF))
  | _=>exact absurd (show false=true from hs) Bool.false_ne_true
 | byt i =>
  obtain⟨t,rfl⟩:=rx
  cases y with
  | byt j=>obtain⟨t',rfl⟩:=ry;exact PySem.W.ne_bytes (aK I q (congrArg not pk))
  | _=>exact absurd (show false=true from hs) Bool.false_ne_true
 | _=>cases y<;>exact absurd (show false=true from hs) Bool.false_ne_true
theorem ir:fz X (compareOp .Lt) (rP λi j=>.bl (decide (i<j))):=vz λ_ _ _ _ _ _ _ q=>lt_int q
theorem wL:fz X (compareOp .LtE) (rP λi j=>.bl (decide (i<=j))):=vz λ_ _ _ _ _ _ _ q=>le_int q
theorem fC:fz X (compareOp .Gt) (rP λi j=>.bl (decide (j<i))):=vz λ_ _ _ _ _ _ _ q=>gt_int q
theorem tH:fz X (compareOp .GtE) (rP λi j=>.bl (decide (j<=i))):=vz λ_ _ _ _ _ _ _ q=>ge_int q
theorem tJ:fz X (compareOp .Is) (λx y H Q=>y=.non/\Q (.bl (decide (x=.non))) H):=by
 intro pins s σ H x y v u Q I rx ry h
 obtain⟨rfl,q⟩:=h
 cases ry
 refine is_none_gen (aK I q ?_)
 cases x<;>first
  | (cases rx;rfl)
  | (obtain⟨t,rfl⟩:=rx;rfl)
theorem aB (b:Expr) {op:CmpOp} (h:op≠.In:=by decide) (h2:op≠.NotIn:=by decide):behindInMarks op b=false:=by
 have e1:(op==CmpOp.In)=false:=by cases op<;>first | rfl | exact absurd rfl h
 have e2:(op==CmpOp.NotIn)=false:=by cases op<;>first | rfl | exact absurd rfl h2
 cases b<;>simp [behindInMarks,e1,e2]
theorem bR {op:CmpOp} {r:R2} (ho:fz X (compareOp op) r) (ha:PE X a ta) (hb:PE X b tb) (hm:behindInMarks op b=false):PE X (.Compare a [op] [b] pos) (zU r ta tb):=by
 intro pins s σ H Q I h
 exact wpAny_Compare1 (xB ha hb I h λv u s2 x y H2 I2 rx ry q=>ho pins s2 σ H2 x y v u Q I2 rx ry q) hm
def xj (t:TE):TT:=λσ H Q=>t σ H λx H'=>∃ k,x=.bl k/\Q k H'
theorem aC {op:CmpOp} {r:R2} (ho:fz X (compareOp op) r) (ha:PE X a ta) (hb:PE X b tb) (hm:behindInMarks op b=false):PT X (.Compare a [op] [b] pos) (xj (zU r ta tb)):=by
 intro pins s σ H Q I h
 refine wpAny_isTrue_Compare1 (br (ha pins s σ H _ I h) λv s1 ⟨x,H1,I1,r1,q1⟩=>br (hb pins s1 σ H1 _ I1 q1) λu s2 ⟨y,H2,I2,r2,q2⟩ =>
  br (ho pins s2 σ H2 x y v u _ I2 r1 r2 q2) λc s3 ⟨z,H3,I3,r3,k,e,q3⟩=>?_) hm
 subst e
 cases r3
 exact wpAny_truthy_bool ⟨H3,I3,q3⟩
def ui (r r':R2) (ta tb tc:TE):TE:=λσ H Q=>ta σ H λx H1=>tb σ H1 λy H2=>r x y H2 λz H3=>∃ k,z=.bl k /\
 (if k=true then tc σ H3 λw' H4=>r' y w' H4 Q else Q (.bl false) H3)
theorem tP {op op':CmpOp} {r r':R2} (ho:fz X (compareOp op) r) (ho':fz X (compareOp op') r') (ha:PE X a ta) (hb:PE X b tb) (hc:PE X c tc)
  (hm:lastMarks [op,op'] [b,c]=false:=by with_unfolding_all rfl):PE X (.Compare a [op,op'] [b,c] pos) (ui r r' ta tb tc):=by
 intro pins s σ H Q I h
 refine Compare_chain (br (ha pins s σ H _ I h) λv s1 ⟨x,H1,I1,r1,q1⟩=>chain_link (br (hb pins s1 σ H1 _ I1 q1) λu s2 ⟨y,H2,I2,r2,q2⟩ =>
  br (ho pins s2 σ H2 x y v u _ I2 r1 r2 q2) λd s3 ⟨z,H3,I3,r3,k,e,q3⟩=>?_)) hm
 subst e
 cases r3
 refine wpAny_truthy_bool ?_
 cases k with
 | false=>exact ite_ff ⟨.bl false,H3,I3,rfl,q3⟩
 | true=>exact ite_tt (chain_last (br (hc pins s3 σ H3 _ I3 q3) λw' s4 ⟨z',H4,I4,r4,q4⟩=>ho' pins s4 σ H4 y z' u w' Q I4 r2 r4 q4))
def uN (K:PySem.W.Frag) (x:V) (H:Hp) (k:Bool):Prop :=
 match x with
 | .non=>k=false
 | .bl b=>k=b
 | .int i=>k=(i != 0)
 | .str y=>y.length<=sizeLine/\k=((y.length:Int) != 0)
 | .byt y=>y.size<=sizeLine/\k=((y.size:Int) != 0)
 | .ref p=>(∃ xs,aS K H p xs/\k=!xs.isEmpty)∨(∃ xs,bS K H p xs/\k=!xs.isEmpty)∨∃ kvs,H p=some (.dK kvs)/\k=!kvs.isEmpty
 | _=>False
theorem oz {κ:Type} {kvs:List (κ × V)} {vs:List (κ × Value)} (r:KV kvs vs):(!vs.isEmpty)=!kvs.isEmpty:=by
 cases r<;>rfl
theorem iX {xs:List V} {its:List Value} (r:Vals xs its):(!its.toArray.isEmpty)=!xs.isEmpty:=by
 cases r<;>simp
theorem lB:(sizeLine:Nat)<2^63:=by rw [sizeLine_eq];decide
theorem yD:Ap X (λx H Q=>∃ k,uN X.K x H k/\Q k H):=by
 intro pins s σ H x v Q I rx h
 obtain⟨k,e,q⟩:=h
 have hl:=lB
 have hs:sizeLine=16777216:=sizeLine_eq
 cases x with
 | non =>
  cases rx
  have e':k=false:=e
  subst e'
  exact truthy_none ⟨H,I,q⟩
 | bl b =>
  cases rx
  have e':k=b:=e
  subst e'
  exact wpAny_truthy_bool ⟨H,I,q⟩
 | int i =>
  obtain⟨t,rfl⟩:=rx
  have e':k=(i != 0):=e
  subst e'
  exact PySem.P.truthy_int ⟨H,I,q⟩
 | str y =>
  obtain⟨t,rfl⟩:=rx
  obtain⟨hy,e'⟩:y.length<=sizeLine/\k=((y.length:Int) != 0):=e
  subst e'
  exact PySem.P.truthy_str (by omega) ⟨H,I.tok _,q⟩
 | byt y =>
  obtain⟨t,rfl⟩:=rx
  obtain⟨hy,e'⟩:y.size<=sizeLine/\k=((y.size:Int) != 0):=e
  subst e'
  exact PySem.W.truthy_bytes (by omega) ⟨H,I.tok _,q⟩
 | ref p =>
  cases rx
  have e':(∃ xs,aS X.K H p xs/\k=!xs.isEmpty)∨(∃ xs,bS X.K H p xs/\k=!xs.isEmpty)∨∃ kvs,H p=some (.dK kvs)/\k=!kvs.isEmpty:=e
  rcases e' with⟨xs,hx,e'⟩|⟨xs,hx,e'⟩|⟨kvs,hx,e'⟩
  ·subst e'
   obtain⟨its,r,pl,hz⟩:=I.list hx
   have hlen:=r.length
   exact wpAny_truthy_list pl.isList (by simp only [List.size_toArray];omega) ⟨H,I.tok _,by rw [iX r];exact q⟩
  ·subst e'
   obtain⟨its,r,pl,hz⟩:=I.tuple hx
   have hlen:=r.length
   exact truthy_tuple pl (by simp only [List.size_toArray];omega) ⟨H,I.tok _,by rw [iX r];exact q⟩
  ·subst e'
   obtain⟨hz,hS,vs,r,m⟩:kvs.length<=sizeLine/\(p==sysModules)=false/\∃ vs,KV kvs vs/\s.heap.DictOf (aI X.prog X.w) p vs:=I.hok p _ hx
   have hlen:kvs.length=vs.length:=Paired.length r
   exact wpAny_truthy_dict hS m (by omega) ⟨H,I.tok _,by rw [oz r];exact q⟩
 | _=>exact (show False from e).elim
theorem aR (ha:PE X a ta) (he:∀ whole,isTrue a X.env whole=(do let v <- whole;standAt a.pos;holding [v] (truthy v))) :
  PT X a (λσ H Q=>ta σ H λx H'=>∃ k,uN X.K x H' k/\Q k H'):=by
 intro pins s σ H Q I h
 exact isTrue_plain (br (ha pins s σ H _ I h) λv s1 ⟨x,H1,I1,r1,q1⟩=>yD pins s1 σ H1 x v Q I1 r1 q1) (he _)
theorem vals1 {x:V} {us:List Value} (r:Vals [x] us):∃ u,us=[u]/\RelV x u:=by
 cases r with
 | cons r1 r2=>cases r2;exact⟨_,rfl,r1⟩
theorem vals2 {x y:V} {us:List Value} (r:Vals [x,y] us):∃ u w',us=[u,w']/\RelV x u/\RelV y w':=by
 cases r with
 | cons r1 r2 =>
  cases r2 with
  | cons r3 r4=>cases r4;exact⟨_,_,rfl,r1,r3⟩
theorem eh:cQ X (.builtin "abs") (λxs H Q=>∃ i,xs=[.int i]/\Q (.int (if i<0 then -i else i)) H):=by
 intro pins s σ H xs us Q I r h
 obtain⟨i,rfl,q⟩:=h
 obtain⟨u,rfl,t,rfl⟩:=vals1 r
 exact call_abs_int λu tk=>⟨.int (if i<0 then -i else i),H,I.tok _,⟨_,rfl⟩,q⟩
theorem qI (hc:X.calm=true):cQ X (.builtin "min") (λxs H Q=>∃ i j,xs=[.int i,.int j]/\Q (.int (if j<i then j else i)) H):=by
 intro pins s σ H xs us Q I r h
 obtain⟨i,j,rfl,q⟩:=h
 obtain⟨u,w',rfl,⟨t,rfl⟩,⟨t',rfl⟩⟩:=vals2 r
 refine min_two_ints (I.ok.hd hc) λh' tk k=>⟨_,H,I.kept k,?_,q⟩
 by_cases hj:j<i
 ·rw [if_pos hj,if_pos hj];exact⟨_,rfl⟩
 ·rw [if_neg hj,if_neg hj];exact⟨_,rfl⟩
theorem qG:cQ X (.type "int") (λxs H Q=>(∃ i,xs=[.int i]/\Q (.int i) H)∨∃ k,xs=[.bl k]/\Q (.int (if k then 1 else 0)) H):=by
 intro pins s σ H xs us Q I r h
 rcases h with⟨i,rfl,q⟩|⟨k,rfl,q⟩
 ·obtain⟨u,rfl,t,rfl⟩:=vals1 r
  exact call_int_int ⟨.int i,H,I,⟨_,rfl⟩,q⟩
 ·obtain⟨u,rfl,r1⟩:=vals1 r
  cases r1
  exact call_int_bool ⟨.int (if k then 1 else 0),H,I.tok _,⟨_,rfl⟩,q⟩
end
structure xu (h:Heap) (x dx C:Addr) (mA:Str->Option Value):Prop where
 obj:h.get? x=some (PySem.W.instObj C dx)
 ns:h.Ns1 dx mA
 ne:dx≠x
theorem qV {h:Heap} {dx:Addr} {mA:Str->Option Value} (n:h.Ns1 dx mA):∃ od,h.get? dx=some od/\∀ name,PySem.W.lookIn name od=some (mA name):=by
 obtain⟨o,es,ep,ho,hd,hk,_,hm⟩:=n
 refine⟨o,ho,λname=>?_⟩
 have e:=hm name
 unfold nsFind findBy at e
 rw [<- Array.find?_toList] at e
 unfold PySem.W.lookIn
 rw [hd]
 dsimp only
 split
 ·rename_i y q
  rw [q] at e
  exact congrArg some e
 ·rename_i q
  rw [q] at e
  have a:es.toList.any (·.refKey)=false:=by
   rw [List.any_eq_false]
   intro y hy
   obtain⟨z,t,hkey⟩:=hk y (Array.mem_toList_iff.mp hy)
   simp [DictEntry.refKey,hkey]
  have a':¬es.toList.any (·.refKey)=true:=by rw [a];exact Bool.false_ne_true
  rw [if_neg a']
  exact congrArg some e
theorem xu.look {h:Heap} {x dx C:Addr} {mA:Str->Option Value} (I:xu h x dx C mA):∃ od,PySem.W.InstAt h x (PySem.W.instObj C dx) C (some od)/\∀ name,PySem.W.lookIn name od=some (mA name) :=
 let ⟨od,ho,hl⟩:=qV I.ns
 ⟨od,⟨I.obj,rfl,rfl,ho⟩,hl⟩
section
variable {prog:Program} {w:World} {A:Around} {E:Value->Shared->Prop} {s:Shared} {K:PySem.W.Frag} {x dx C f:Addr} {mA:Str->Option Value} {name:Str} {v:Value}
end
theorem fW.some_of {v:V} {o:Option Value} (r:fW (some v) o):∃ u,o=some u/\RelV v u:=by
 cases o with
 | none=>exact (show False from r).elim
 | some u=>exact⟨u,rfl,r⟩
section
variable {P:Program} {w:World} {H H':Hp} {h h':Heap} {a C dx:Addr} {fs fs':List (Str × V)}
theorem vg (hok:ef P w H h) (e:H a=some (.ins C dx fs)):∃ mA,xu h a dx C mA/\(∀ f,fW (fs.lookup f) (mA f))/\PySem.Within mA (fs.map (·.1))/\fs.length<=1000/\H dx=some (.own a):=by
 obtain⟨d,z,ne,ob,mA,n,r,q⟩:=(show ba P w H h a (.ins C dx fs) from hok a _ e)
 exact⟨mA,⟨ob,n,ne⟩,r,q,z,d⟩
end
structure Ae (K:PySem.W.Frag) (C:Addr):Prop where
 pg:PySem.W.plainGet K C Str.empty=true
 hd:PySem.W.hasDictIn K C=true
 po:PySem.W.plainOver K C=true
 sa:PySem.W.findIn K (.ref C) "__setattr__"=some (some (.builtin "object.__setattr__"))
theorem Ae.get {K:PySem.W.Frag} {C:Addr} (c:Ae K C) (f:Str):PySem.W.plainGet K C f=true:=c.pg
section
variable {X:Cx} {pins:List (Addr × Obj)} {σ:St} {H:Hp} {s:Shared} {a C dx:Addr} {fs:List (Str × V)} {f:Str} {v:V} {A:Around} {E:Value->Shared->Prop}
end
section
variable {X:Cx} {o e value:Expr} {f:Str} {pos pos' tpos:Pos} {ta tv:TE}
end
section
variable {X:Cx} {pins:List (Addr × Obj)} {σ:St} {H:Hp} {s:Shared} {A:Around} {E:Value->Shared->Prop} {Q:Value->Shared->Prop} {c:Value} {b:Bool}
inductive ft (K:PySem.W.Frag) (H:Hp):V->Value->Prop where
 | non:ft K H .non (.type "NoneType")
 | bl (x:Bool):ft K H (.bl x) (.type "bool")
 | int (i:Int):ft K H (.int i) (.type "int")
 | str (x:Str):ft K H (.str x) (.type "str")
 | flt (x:UInt64):ft K H (.flt x) (.type "float")
 | lst {a:Addr} {xs:List V} (e:H a=some (.lst xs)):ft K H (.ref a) (.type "list")
 | frz {a:Addr} {o:Obj} {xs:List V} (e:H a=some (.frz o (.lst xs))):ft K H (.ref a) (.type "list")
 | tup {a:Addr} {xs:List V} (e:H a=some (.tup xs)):ft K H (.ref a) (.type "tuple")
 | dK {a:Addr} {kvs:List (Key × V)} (e:H a=some (.dK kvs)):ft K H (.ref a) (.type "dict")
 | dT {a:Addr} {kvs:List (List Key × V)} (e:H a=some (.dT kvs)):ft K H (.ref a) (.type "dict")
 | ins {a C dx:Addr} {fs:List (Str × V)} (e:H a=some (.ins C dx fs)) (cl:Ae K C) (ha:PySem.W.findIn K (.ref C) "__class__"=some (some (.builtin "object.__class__")))
   (hn:PySem.W.specialIn K (.builtin "object.__class__") "__get__"=some (some (.builtin "getset_descriptor.__get__"))) (htk:PySem.W.takesIn K (.builtin "object.__class__")=some true)
   (hm:PySem.W.mroIn K C (.type "object")=some true):ft K H (.ref a) (.ref C)
theorem fc {x:V} {u t:Value} (I:Inv X pins σ H s) (rx:RelV x u) (ty:ft X.K H x t) (e:PySem.W.kitOne X.K t c=some b) (h:∀ tk,Q (.bool b) { s with toks:=tk }) :
  wpAny (model X.prog X.w) A (call (.builtin "isinstance") [u,c]) Q E s:=by
 cases ty with
 | non=>cases (show u=Value.none from rx);exact PySem.W.kia_one PySem.W.kitx_none I.eA True.intro e (λz=>nomatch z) h
 | bl y=>cases (show u=Value.bool y from rx);exact PySem.W.kia_one PySem.W.kitx_bool I.eA True.intro e (λz=>nomatch z) h
 | int i=>obtain⟨t,q⟩:=(show ∃ t,u=Value.int i t from rx);cases q;exact PySem.W.kia_one PySem.W.kitx_int I.eA True.intro e (λz=>nomatch z) h
 | str y=>obtain⟨t,q⟩:=(show ∃ t,u=Value.str y t from rx);cases q;exact PySem.W.kia_one PySem.W.kitx_str I.eA True.intro e (λz=>nomatch z) h
 | flt y=>obtain⟨t,q⟩:=(show ∃ t,u=Value.float y t from rx);cases q;exact PySem.W.kia_one PySem.W.kitx_float I.eA True.intro e (λz=>nomatch z) h
 | @lst a xs ea =>
  cases (show u=Value.ref a from rx)
  obtain⟨_,_,n,_,h1⟩:=(show ba X.prog X.w H s.heap a (.lst xs) from I.hok a _ ea)
  exact PySem.W.kia_one PySem.W.kitx_list I.eA ⟨_,h1,rfl⟩ e (λz=>nomatch z) h
 | @frz a ob xs ea =>
  cases (show u=Value.ref a from rx)
  obtain⟨_,_,_,n,_,h1⟩:=(show ba X.prog X.w H s.heap a (.frz ob (.lst xs)) from I.hok a _ ea)
  exact PySem.W.kia_one PySem.W.kitx_list I.eA ⟨_,h1,rfl⟩ e (λz=>nomatch z) h
 | @tup a xs ea =>
  cases (show u=Value.ref a from rx)
  obtain⟨_,_,_,p⟩:=(show ba X.prog X.w H s.heap a (.tup xs) from I.hok a _ ea)
  obtain⟨o,h1,h2,_⟩:=p
  exact PySem.W.kia_one PySem.W.kitx_tuple I.eA ⟨o,h1,h2⟩ e (λz=>nomatch z) h
 | @dK a kvs ea =>
  cases (show u=Value.ref a from rx)
  obtain⟨_,_,vs,_,p⟩:=(show ba X.prog X.w H s.heap a (.dK kvs) from I.hok a _ ea)
  obtain⟨o,es,ep,h1,h2,_⟩:=p
  exact PySem.W.kia_one PySem.W.kitx_dict I.eA ⟨o,h1,h2.1⟩ e (λz=>nomatch z) h
 | @dT a kvs ea =>
  cases (show u=Value.ref a from rx)
  obtain⟨_,_,xs,_,o,es,ep,h1,h2,_⟩:=(show ba X.prog X.w H s.heap a (.dT kvs) from I.hok a _ ea)
  exact PySem.W.kia_one PySem.W.kitx_dict I.eA ⟨o,h1,h2.1⟩ e (λz=>nomatch z) h
 | @ins a C dx fs ea cl ha hn htk hm =>
  cases (show u=Value.ref a from rx)
  obtain⟨mA,O,_⟩:=vg I.hok ea
  obtain⟨od,J,_⟩:=O.look
  exact PySem.W.kia_one (PySem.W.kitx_own (cl.get _) cl.hd ha hn htk hm) I.eA J e (λz=>nomatch z) h
end
structure bW (k:Nat) (A:Around):Prop where
 hd:A.handled=none
 dp:A.depth+3*k+5<recursionLimit
 un:A.units+16*k+200<cLine
theorem bW.mono {j k:Nat} {A:Around} (r:bW k A) (h:j<=k):bW j A:=⟨r.hd,by have:=r.dp;omega,by have:=r.un;omega⟩
theorem bW.deeper {k:Nat} {A:Around} (r:bW (k+1) A) (env:Env):bW k (A.deeper env) :=
 ⟨r.hd,by have:=r.dp;show A.depth+1+3*k+5<_;omega,by have:=r.un;show A.units+3+16*k+200<_;omega⟩
theorem oB {A:Around} {C:Addr} {us:List Value} {kw:List (Str × Value)}:(A.under (.builtin "type.__call__" ⟨.ref C::us,kw⟩)).depth=A.depth+1:=by
 first | rfl | simp [Around.under,Code.weight,Code.isCreation,Code.isGuard,Code.isCaller,Code.frames,Code.isFrame,guardIds]
theorem oF {A:Around} {C:Addr} {us:List Value} {kw:List (Str × Value)}:(A.under (.builtin "type.__call__" ⟨.ref C::us,kw⟩)).units=A.units+1:=by
 first | rfl | simp [Around.under,Code.cUnits,Code.frames,Code.isFrame]
theorem bW.make {k:Nat} {A:Around} (r:bW (k+1) A) (C:Addr) (us:List Value) (kw:List (Str × Value)):bW k (A.under (.builtin "type.__call__" ⟨.ref C::us,kw⟩)) :=
 ⟨r.hd,by have:=r.dp;rw [oB];omega,by have:=r.un;rw [oF];omega⟩
theorem bW.depth {k:Nat} {A:Around} (r:bW k A):A.depth<recursionLimit:=by have:=r.dp;omega
theorem bW.units {k:Nat} {A:Around} (r:bW k A):A.units+64<cLine:=by have:=r.un;omega
def v3:TA:=λ_ H Q=>Q [] H
def nL (ta:TE) (tr:TA):TA:=λσ H Q=>ta σ H λx H1=>tr σ H1 λxs H2=>Q (x::xs) H2
section
variable {X:Cx} {e:Expr} {es:List Expr} {te:TE} {t:TA} {pos:Pos}
theorem af:PA X [] v3:=λ_ _ _ _ H Q I h=>Calls.spliced_nil ⟨[],H,I,.nil,h⟩
theorem aa (ha:PE X e te) (hr:PA X es t) (hs:starEach (e::es) X.env=(false,eval e X.env)::starEach es X.env:=by rfl):PA X (e::es) (nL te t):=by
 intro pos pins s σ H Q I h
 rw [hs]
 show wpAny _ _ (spliced ((false,eval e X.env)::backTo pos (starEach es X.env))) _ _ s
 refine Calls.spliced_cons (br (ha pins s σ H _ I h) λu s1 ⟨x,H1,I1,r1,q1⟩=>?_)
 exact br (hr pos pins s1 σ H1 _ I1 q1) λus s2 ⟨xs,H2,I2,r2,q2⟩=>⟨x::xs,H2,I2,.cons r1 r2,q2⟩
def zY (t:TA):TE:=λσ H Q=>t σ H λxs H1=>xs.length<=sizeLine/\∀ p,H1 p=none->Q (.ref p) (upd H1 p (.tup xs))
def zS (t:TA):TE:=λσ H Q=>t σ H λxs H1=>xs.length<=sizeLine/\∀ p,H1 p=none->Q (.ref p) (upd H1 p (.lst xs))
theorem bj {x1} (h:PA X es t):PE X (.Tuple es x1 pos) (zY t):=by
 intro pins s σ H Q I hq
 refine wpAny_Tuple_spliced (br (h pos pins s σ H _ I hq) λus s1 ⟨xs,H1,I1,r,z,q⟩=>⟨by rw [<- r.length];exact z,?_⟩)
 have hf:H1 s1.heap.objs.size=none:=I1.hok.fresh (Nat.le_refl _)
 refine⟨.ref s1.heap.objs.size,upd H1 s1.heap.objs.size (.tup xs),I1.laid (t':=s1.toks) (λb u e=>Heap.get?_push_of_some _ e) (Nat.le_refl _) ?_,rfl,q _ hf⟩
 exact⟨z,us,r,⟨_,Heap.get?_push_size _ rfl,rfl,_,rfl⟩⟩
theorem fR (h:PA X es t):PE X (.List es pos) (zS t):=by
 intro pins s σ H Q I hq
 refine wpAny_List_spliced (br (h pos pins s σ H _ I hq) λus s1 ⟨xs,H1,I1,r,z,q⟩=>⟨by rw [<- r.length];exact z,?_⟩)
 have hf:H1 s1.heap.objs.size=none:=I1.hok.fresh (Nat.le_refl _)
 refine⟨.ref s1.heap.objs.size,upd H1 s1.heap.objs.size (.lst xs),I1.laid (t':=s1.toks) (λb u e=>Heap.get?_push_of_some _ e) (Nat.le_refl _) ?_,rfl,q _ hf⟩
 exact⟨z,us,0,r,Heap.get?_push_size _ rfl⟩
end
abbrev Sp:=List V->Hp->VK->XK->Prop
abbrev jJ:=List Env->Hp->Shared->XK->Value->Shared->Prop
structure nU (P:Program) (w:World) (K:PySem.W.Frag) (mg:Str->Option Value) (base:Heap) (A:Around) (outer:List Env) (s:Shared) (H:Hp):Prop where
 frames:A.frames=some outer
 mod:Mod K mg base
 bs:∀ b o,base.get? b=some o->s.heap.get? b=some o/\H b=none
 bsz:base.objs.size<=s.heap.objs.size
 iA:s.heap.FunFrames base outer
 frf:∀ b∈fu outer,H b=none
 hok:ef P w H s.heap
 bare:AllBare s.gens
def CE (outer:List Env) (P:Program) (w:World) (H:Hp) (s:Shared) (Q:VK) (u:Value) (s':Shared):Prop :=
 ∃ v H',s'.os=s.os/\AllBare s'.gens/\Un (fu outer) [] H H' s.heap s'.heap/\ef P w H' s'.heap/\RelV v u/\Q v H'
def CR (CX:jJ) (outer:List Env) (P:Program) (w:World) (H:Hp) (s:Shared) (Q:VK) (E:XK) (r:Result) (s':Shared):Prop :=
 match r with
 | .ok (.ret u)=>CE outer P w H s Q u s'
 | .ok _=>False
 | .error e=>CX outer H s E e s'
structure cL (P:Program) (w:World) (K:PySem.W.Frag) (mg:Str->Option Value) (base:Heap) (CX:jJ) (k:Nat) (f:Addr) (fd:FuncData) (ps:List Str) (sp:Sp):Prop where
 len:∀ vs H Q E,sp vs H Q E->vs.length=ps.length
 run:∀(A:Around) (outer:List Env) (s:Shared) (H:Hp) (args:Args) (us:List Value) (vs:List V) (Q:VK) (E:XK),bW k A->nU P w K mg base A outer s H->BindsTo s fd args (ps.zip us)->Vals vs us->sp vs H Q E ->
  codeAny (model P w) A (.call (.ref f) args) (CR CX outer P w H s Q E) s
theorem cL.mono {P:Program} {w:World} {K:PySem.W.Frag} {mg:Str->Option Value} {base:Heap} {CX:jJ} {j k:Nat} {f:Addr} {fd:FuncData} {ps:List Str} {sp:Sp} (F:cL P w K mg base CX j f fd ps sp) (h:j<=k) :
  cL P w K mg base CX k f fd ps sp:=⟨F.len,λA outer s H args us vs Q E hr=>F.run A outer s H args us vs Q E (hr.mono h)⟩
theorem cL.imp {P:Program} {w:World} {K:PySem.W.Frag} {mg:Str->Option Value} {base:Heap} {CX:jJ} {k:Nat} {f:Addr} {fd:FuncData} {ps:List Str} {sp sp':Sp} (F:cL P w K mg base CX k f fd ps sp)
  (h:∀ vs H Q E,sp' vs H Q E->sp vs H Q E):cL P w K mg base CX k f fd ps sp' :=
 ⟨λvs H Q E q=>F.len vs H Q E (h _ _ _ _ q),λA outer s H args us vs Q E hr he hb hv hs=>F.run A outer s H args us vs Q E hr he hb hv (h _ _ _ _ hs)⟩
theorem nU.make {P:Program} {w:World} {K:PySem.W.Frag} {mg:Str->Option Value} {base:Heap} {A:Around} {outer:List Env} {s:Shared} {H:Hp} (e:nU P w K mg base A outer s H) (C:Addr) (us:List Value) (kw:List (Str × Value)) :
  nU P w K mg base (A.under (.builtin "type.__call__" ⟨.ref C::us,kw⟩)) outer s H:=⟨by first | exact e.frames | (simpa [Around.under,Code.envs,Code.isFrame,pushEnvs] using e.frames),e.mod,e.bs,e.bsz,e.iA,e.frf,e.hok,e.bare⟩
section
variable {X:Cx} {pins:List (Addr × Obj)} {σ:St} {H:Hp} {s s':Shared}
theorem Inv.yU (I:Inv X pins σ H s):nU X.prog X.w X.K X.mg X.base X.A X.stack s H :=
 ⟨I.ok.frames,I.ok.mod,I.bs,Nat.le_trans I.ok.bsz I.sz,I.stack,I.gI,I.hok,I.bare⟩
theorem Inv.after {Q:VK} {u:Value} (I:Inv X pins σ H s) (h:CE X.stack X.prog X.w H s Q u s'):EP X pins σ Q u s':=by
 obtain⟨v,H',os,bare,un,hok,r,q⟩:=h
 obtain⟨hh,g,d,t,os'⟩:=s'
 obtain rfl:os'=s.os:=os
 exact⟨v,H',I.call (h':=hh) (g':=g) (d':=d) (t':=t) (ch:=[]) un hok bare (λb z=>absurd z (by simp)),r,q⟩
end
def nK (sp:Sp) (aJ:List V) (E:XK) (t:TA):TE:=λσ H Q=>t σ H λvs H1=>sp (vs++aJ) H1 Q E
def Binds (K:PySem.W.Frag) (fd:FuncData) (ps:List Str) (ds:List Value):Prop :=
 ∀(s:Shared) (us:List Value),K.In s.heap->(us++ds).length=ps.length->BindsTo s fd ⟨us,[]⟩ (ps.zip (us++ds))
theorem Binds.all {K:PySem.W.Frag} {fd:FuncData} {ps:List Str} (h:∀ us:List Value,us.length=ps.length->bindArgs fd ⟨us,[]⟩=pure (ps.zip us)):Binds K fd ps []:=λs us _ hl=>by
 rw [List.append_nil] at hl ⊢
 exact .of_eq (h us hl)
def Passes (CX:jJ) (X:Cx) (E:XK):Prop:=∀(pins:List (Addr × Obj)) (σ:St) (H:Hp) (s:Shared) (e:Value) (s':Shared),Inv X pins σ H s->CX X.stack H s E e s'->X.xe e s'
section
variable {X:Cx} {CX:jJ} {k:Nat} {f C:Addr} {fd:FuncData} {ps:List Str} {sp:Sp} {aJ:List V} {ds:List Value} {E:XK} {x m:Str} {p pos apos:Pos} {e o:Expr} {es:List Expr} {ta:TE} {t:TA}
theorem yr {pins:List (Addr × Obj)} {σ:St} {H:Hp} {s:Shared} {Q:VK} {us:List Value} {vs:List V} (F:cL X.prog X.w X.K X.mg X.base CX k f fd ps sp) (hr:bW k X.A) (hb:Binds X.K fd ps ds) (hd:Vals aJ ds) (hx:Passes CX X E)
  (I:Inv X pins σ H s) (r:Vals vs us) (h:sp (vs++aJ) H Q E):wpAny (model X.prog X.w) X.A (call (.ref f) us) (EP X pins σ Q) X.xe s:=by
 have r2:Vals (vs++aJ) (us++ds):=r.append hd
 have hl:(us++ds).length=ps.length:=by rw [<- r2.length];exact F.len _ _ _ _ h
 refine wpAny_call (codeAny_mono (F.run X.A X.stack s H ⟨us,[]⟩ (us++ds) (vs++aJ) Q E hr I.yU (hb s us I.eA hl) r2 h) λr s' hq=>?_)
 cases r with
 | error e=>exact hx pins σ H s e s' I hq
 | ok fl =>
  cases fl with
  | ret u=>exact I.after hq
  | next=>exact False.elim hq
  | brk=>exact False.elim hq
  | cont=>exact False.elim hq
theorem vI (F:cL X.prog X.w X.K X.mg X.base CX k f fd ps sp) (hr:bW k X.A) (hg:Gl X x) (hm:X.mg x=some (.ref f)) (hk:PySem.W.keepIn X.K (.ref f)=true) (hb:Binds X.K fd ps ds) (hd:Vals aJ ds) (hx:Passes CX X E)
  (ha:PA X (e::es) t) (hdb:(x==("__debug__":Str))=false:=by decide) (he:starEach (e::es) X.env=(false,eval e X.env)::starEach es X.env:=by rfl) (hpl:(backTo pos (starEach es X.env)).any (·.1)=false:=by rfl) :
  PE X (.Call (.Name x p) (e::es) [] pos) (nK sp aJ E t):=by
 intro pins s σ H Q I h
 refine wpAny_Call_Name_kw (lz I hg hm ?_ hdb)
 refine PySem.W.callWith_K (h₀:=X.base) I.ok.mod.kin hk (br (ha pos pins s σ H _ I h) λus s1 ⟨vs,H1,I1,r,q⟩=>⟨I1.eA,?_⟩) he hpl
 exact yr F hr hb hd hx I1 r q
end
section
variable {X:Cx} {CX:jJ} {k:Nat} {f C:Addr} {fd:FuncData} {ps ks:List Str} {sp:Sp} {E:XK} {x m:Str} {p pos apos kpos:Pos} {e o:Expr} {es:List Expr} {kws:List Keyword} {te ta:TE} {t tk:TA} {nm:Option Str}
variable {g:List Value->List Value->List Value} {gV:List V->List V->List V}
end
structure aw (N P:List Str) (sc:Scope):Prop where
 kind:sc.kind=.function
 co:sc.isCoroutine=false
 gen:sc.isGenerator=false
 nd:N.Nodup
 pre:N.take P.length=P
 par:∀ x∈P,sc.names.lookup x=some .local∨sc.names.lookup x=some .cell
 nofree:∀ y∈sc.names,y.2≠.free
theorem jZ {kindOf:Str->Option NameKind} {x:Str}:∀{binds:List (Str × Value)} {m:Str->Option Value},(∀ v,(x,v)∉binds)->bindL kindOf binds m x=m x
 | [],_,_=>rfl
 | (n,v)::r,m,h=>by
  unfold bindL
  rw [jZ λw hw=>h w (List.mem_cons_of_mem _ hw)]
  split
  ·have:x≠n:=by rintro rfl;exact h v List.mem_cons_self
   simp [this]
  ·rfl
theorem jX {kindOf:Str->Option NameKind} {x:Str}:∀{binds:List (Str × Value)} {m:Str->Option Value},(∀ v,(x,v)∉binds)->bindC kindOf binds m x=m x
 | [],_,_=>rfl
 | (n,v)::r,m,h=>by
  unfold bindC
  rw [jX λw hw=>h w (List.mem_cons_of_mem _ hw)]
  split
  ·rfl
  ·have:x≠n:=by rintro rfl;exact h v List.mem_cons_self
   simp [this]
theorem jY {kindOf:Str->Option NameKind} {x:Str} {v:Value}:∀{P:List Str} {vs:List Value} {i:Nat} {m:Str->Option Value},P.Nodup->P[i]?=some x->vs[i]?=some v->kindOf x=some .local ->
  bindL kindOf (P.zip vs) m x=some v
 | [],_,_,_,_,h,_,_=>by simp at h
 | _::_,[],_,_,_,_,h,_=>by simp at h
 | p::P,w::vs,0,m,nd,h1,h2,hk=>by
  simp at h1 h2;subst h1;subst h2
  show bindL kindOf ((p,w)::P.zip vs) m p=_
  unfold bindL
  rw [jZ λv hv=>(List.nodup_cons.mp nd).1 (List.of_mem_zip hv).1,if_pos hk]
  simp
 | p::P,w::vs,i+1,m,nd,h1,h2,hk=>by
  show bindL kindOf ((p,w)::P.zip vs) m x=_
  unfold bindL
  exact jY (i:=i) (List.nodup_cons.mp nd).2 (by simpa using h1) (by simpa using h2) hk
theorem jW {kindOf:Str->Option NameKind} {x:Str} {v:Value}:∀{P:List Str} {vs:List Value} {i:Nat} {m:Str->Option Value},P.Nodup->P[i]?=some x->vs[i]?=some v->kindOf x≠some .local ->
  bindC kindOf (P.zip vs) m x=some v
 | [],_,_,_,_,h,_,_=>by simp at h
 | _::_,[],_,_,_,_,h,_=>by simp at h
 | p::P,w::vs,0,m,nd,h1,h2,hk=>by
  simp at h1 h2;subst h1;subst h2
  show bindC kindOf ((p,w)::P.zip vs) m p=_
  unfold bindC
  rw [jX λv hv=>(List.nodup_cons.mp nd).1 (List.of_mem_zip hv).1,if_neg hk]
  simp
 | p::P,w::vs,i+1,m,nd,h1,h2,hk=>by
  show bindC kindOf ((p,w)::P.zip vs) m x=_
  unfold bindC
  exact jW (i:=i) (List.nodup_cons.mp nd).2 (by simpa using h1) (by simpa using h2) hk
def start (N:List Str) (vs:List V):St:=vs.map some++List.replicate (N.length-vs.length) none
def dH (CX:jJ) (P:Program) (w:World) (K:PySem.W.Frag) (mg:Str->Option Value) (base:Heap) (N:List Str) (qual:Str) (scope:Scope) (f:Addr) (cd:Value) (A:Around) (outer:List Env) (s:Shared) (H:Hp) (E:XK):Cx where
 prog:=P
 w:=w
 K:=K
 mg:=mg
 base:=base
 A:=A.deeper (envOfC qual scope s.heap.objs.size f cd)
 N:=N
 s₀:=s
 H₀:=H
 env:=envOfC qual scope s.heap.objs.size f cd
 outer:=outer
 stack:=envOfC qual scope s.heap.objs.size f cd::outer
 ex:=[]
 calm:=true
 fn:=λ_=>true
 pn:=[]
 xe:=λe s'=>wpAny (model P w) (A.deeper (envOfC qual scope s.heap.objs.size f cd)) (leaving (envOfC qual scope s.heap.objs.size f cd) e) (λ_ s''=>CX outer H s E e s'') (λe' s''=>CX outer H s E e' s'') s'
theorem mB {sc:Scope} {n:Nat} {x:Str} (h:sc.names.lookup x=some .cell):∃ c,(cellsFrom n sc.names []).lookup x=some c:=by
 have q:=PySem.W.cellsFrom_some sc.names n [] (.inl h)
 exact Option.isSome_iff_exists.mp q
theorem qR {CX:jJ} {P:Program} {w:World} {K:PySem.W.Frag} {mg:Str->Option Value} {base:Heap} {N ps:List Str} {qual:Str} {scope:Scope} {f:Addr} {cd:Value} {A:Around} {outer:List Env} {s s1:Shared} {H:Hp} {E:XK} {us:List Value} {vs:List V}
  (S:aw N ps scope) (hd:A.handled=none) (e0:nU P w K mg base A outer s H) (hl:vs.length=ps.length) (r:Vals vs us)
  (x:InCallC s s.heap.objs.size (bindL (envOfC qual scope s.heap.objs.size f cd).kindOf (ps.zip us) λ_=>none) (cellsFrom (s.heap.objs.size+1) scope.names []) (bindC (envOfC qual scope s.heap.objs.size f cd).kindOf (ps.zip us) λ_=>none) s1) :
  Inv (dH CX P w K mg base N qual scope f cd A outer s H E) [] (start N vs) H s1:=by
 have hpl:ps.length<=N.length:=by have:=congrArg List.length S.pre;rw [List.length_take] at this;omega
 obtain⟨h1,tk,rfl,hk⟩:=x.done
 have noA:∀ b:Addr,b∉(dH CX P w K mg base N qual scope f cd A outer s H E).ex:=λb z=>absurd (show b∈([]:List Addr) from z) (by simp)
 refine⟨⟨e0.mod,S.kind,rfl,rfl,Nat.le_refl _,λy z c h1 h2=>?_,λy hy=>?_,λy c _ h=>?_,λ_=>hd,Around.frames_deeper e0.frames,.inr ⟨rfl,rfl⟩,λb z=>absurd z (noA b),e0.bs,e0.bsz,λb _ _=>noA b,λb z=>absurd z (noA b),e0.iA,e0.frf⟩,
  rfl,e0.bare,Un.kept hk,⟨_,x.toInCall.ns,λi y v h1 h2 h3=>?_⟩,λy c h=>⟨_,x.cell y c h⟩,e0.hok.fresh (Nat.le_refl _),λy c h=>?_,λp hp=>absurd (show p∈([]:List (Addr × Obj)) from hp) (by simp),e0.hok.kept hk,?_⟩
 ·exact name_of_addr x.apart (PySem.mem_of_lookup h1) (PySem.mem_of_lookup h2)
 ·have hy:scope.names.lookup y=some .cell∨scope.names.lookup y=some .free:=hy
  rcases hy with hy | hy
  ·exact mB hy
  ·exact absurd rfl (S.nofree _ (PySem.mem_of_lookup hy))
 ·exact Nat.le_of_lt (x.above y c (PySem.mem_of_lookup h))
 ·have hi:i<vs.length:=by
   unfold start at h2
   by_cases hi:i<vs.length
   ·exact hi
   ·rw [List.getElem?_append_right (by simpa using hi)] at h2
    rw [List.getElem?_replicate] at h2
    split at h2<;>cases h2
  have ha:vs[i]?=some v:=by
   unfold start at h2
   rw [List.getElem?_append_left (by simpa using hi),List.getElem?_map] at h2
   cases e:vs[i]? with
   | none=>rw [e] at h2;cases h2
   | some a=>rw [e] at h2;cases h2;rfl
  obtain⟨u,hu,rv⟩:=r.get ha
  have hp:ps[i]?=some y:=by
   rw [<- S.pre,List.getElem?_take_of_lt (by omega)];exact h1
  have ndP:ps.Nodup:=by rw [<- S.pre];exact S.nd.sublist (List.take_sublist _ _)
  refine⟨u,rv,?_⟩
  rcases S.par y (List.mem_of_getElem? hp) with k | k
  ·exact .inl ⟨k,jY ndP hp hu k⟩
  ·obtain⟨c,e⟩:=mB (n:=s.heap.objs.size+1) k
   refine .inr ⟨.inl k,c,e,?_⟩
   have q:=x.cell y c e
   rw [jW ndP hp hu (by show scope.names.lookup y≠_;rw [k];decide)] at q
   exact q
 ·exact e0.hok.fresh (Nat.le_of_lt (x.above y c (PySem.mem_of_lookup h)))
 ·unfold start
  show _=N.length
  rw [List.length_append,List.length_map,List.length_replicate]
  omega
theorem wt {CX:jJ} {P:Program} {w:World} {K:PySem.W.Frag} {mg:Str->Option Value} {base:Heap} {k:Nat} {f:Addr} {name qual:Str} {params:Arguments} {body:List Stmt} {scope:Scope} {dV kV doc pm cdv ct oc:Value} {an od:Option Addr}
  {osl:Array (Option Value)} {N ps:List Str} {sp:Sp} (lk:K.lookup f=some ⟨oc,od,.func (PySem.W.fnOf name qual params body scope dV kV doc pm an cdv ct),osl⟩) (hcd:PySem.W.codeIn K cdv qual=true) (S:aw N ps scope)
  (len:∀ vs H Q E,sp vs H Q E->vs.length=ps.length)
  (hbody:∀(A:Around) (outer:List Env) (s:Shared) (H:Hp) (vs:List V) (Q:VK) (E:XK),bW k (A.deeper (envOfC qual scope s.heap.objs.size f cdv))->sp vs H Q E ->
   ∃ t,jL (dH CX P w K mg base N qual scope f cdv A outer s H E) body t/\t { nx:=λ_ H'=>Q .non H',rt:=Q } (start N vs) H) :
  cL P w K mg base CX (k+1) f (PySem.W.fnOf name qual params body scope dV kV doc pm an cdv ct) ps sp:=by
 refine⟨len,λA outer s H args us vs Q E hr e0 hb r hsp=>?_⟩
 have hl:=len _ _ _ _ hsp
 have KX:K.In s.heap:=e0.mod.kin.keeps λb o e=>(e0.bs b o e).1
 have lim:s.heap.NoLimit:=e0.mod.nolimit.keeps λb o e=>(e0.bs b o e).1
 have hkind:∀ y∈ps.zip us,scope.names.lookup y.1=some .local∨(scope.names.lookup y.1=some .cell/\((cellsFrom (s.heap.objs.size+1) scope.names []).lookup y.1).isSome=true):=fun⟨n,v⟩ hy=>by
  rcases S.par n (List.of_mem_zip hy).1 with q | q
  ·exact .inl q
  ·exact .inr ⟨q,PySem.W.cellsFrom_some _ _ _ (.inl q)⟩
 refine codeAny_call_function hr.depth (KX _ _ lk) rfl S.co S.gen rfl (PySem.W.codeRec_of KX hcd) (hb _ _ _ _ ?_)
 refine wpAny_newFunctionEnv_cells S.kind hkind λenv he s1 x=>?_
 subst he
 refine⟨lim.keeps x.toInCall.keep,codeAny_func ?_⟩
 obtain⟨t,ht,hq⟩:=hbody A outer s H vs Q E (hr.deeper _) hsp
 have I:Inv (dH CX P w K mg base N qual scope f cdv A outer s H E) [] (start N vs) H s1:=qR S hr.hd e0 hl r x
 refine wpAny_mono (ht [] s1 (start N vs) H _ I hq) (λfl s' hs=>?_) λe s' hs=>hs
 have fin:∀{σ':St} {H':Hp} {v:V} {u:Value},Inv (dH CX P w K mg base N qual scope f cdv A outer s H E) [] σ' H' s'->RelV v u->Q v H'->CE outer P w H s Q u s' :=
  λ{σ' H' v u} J rv q=>⟨v,H',J.os,J.bare,J.base,J.hok,rv,q⟩
 cases fl with
 | ret u =>
  obtain⟨v,σ',H',J,rv,q⟩:=hs
  exact fin J rv q
 | next =>
  obtain⟨σ',H',J,q⟩:=hs
  exact fin (v:=V.non) (u:=Value.none) J rfl q
 | brk =>
  obtain⟨_,_,_,q⟩:=hs
  exact False.elim q
 | cont =>
  obtain⟨_,_,_,q⟩:=hs
  exact False.elim q
section
variable {X:Cx} {x:Str} {p pos:Pos} {e:Expr} {es:List Expr} {t:TA} {id T:String} {r:List V->Hp->VK->Prop}
def AJ (r:List V->Hp->VK->Prop) (t:TA):TE:=λσ H Q=>t σ H λvs H1=>r vs H1 Q
theorem aF (hc:cQ X (.builtin id) r) (hg:Gl X x) (hm:X.mg x=none) (hv:bootBuiltins x=some (.builtin id)) (ha:PA X (e::es) t) (hn:x ≠ "__name__":=by decide) (hdb:(x==("__debug__":Str))=false:=by decide)
  (he:starEach (e::es) X.env=(false,eval e X.env)::starEach es X.env:=by rfl) (hpl:(backTo pos (starEach es X.env)).any (·.1)=false:=by rfl):PE X (.Call (.Name x p) (e::es) [] pos) (AJ r t):=by
 intro pins s σ H Q I h
 refine wpAny_Call_Name_kw (gS I hg hm hv ?_ hn hdb)
 exact PyProof.Rows.callWith_builtin1 (br (ha pos pins s σ H _ I h) λus s1 ⟨vs,H1,I1,r1,q1⟩=>hc pins s1 σ H1 vs us Q I1 r1 q1) he hpl
theorem cu (hc:cQ X (.type T) r) (hg:Gl X x) (hm:X.mg x=none) (hv:bootBuiltins x=some (.type T)) (ha:PA X (e::es) t) (hn:x ≠ "__name__":=by decide) (hdb:(x==("__debug__":Str))=false:=by decide)
  (he:starEach (e::es) X.env=(false,eval e X.env)::starEach es X.env:=by rfl) (hpl:(backTo pos (starEach es X.env)).any (·.1)=false:=by rfl):PE X (.Call (.Name x p) (e::es) [] pos) (AJ r t):=by
 intro pins s σ H Q I h
 refine wpAny_Call_Name_kw (gS I hg hm hv ?_ hn hdb)
 exact PyProof.Rows.callWith_type1 (br (ha pos pins s σ H _ I h) λus s1 ⟨vs,H1,I1,r1,q1⟩=>hc pins s1 σ H1 vs us Q I1 r1 q1) he hpl
end
end L2
namespace HT
open PySem PyProof.Rows
section
open PySem.SeqAt
open PySem.AutoSeq1 (wpAny_loadPart')
open PySem.MeetsSeq PySem.MeetsSeq2 PySem.MeetsSeq3
end
section
variable {prog:Program} {w:World} {A:Around} {E:Value->Shared->Prop} {s:Shared}
theorem uT {t b:Addr} {vs ws:List Value} {Q:Value->Shared->Prop} (ht:IsTup s.heap t vs.toArray) (hb:IsTup s.heap b ws.toArray) (hv:vs≠[])
  (h1:ws=[]->Q (.ref t) s) (h2:ws≠[]->Q (.ref s.heap.objs.size) { s with heap:=s.heap.push { cls:=.type "tuple",data:=.seq (vs++ws).toArray } })
  (hsz:vs.length+ws.length<=sizeLine):wpAny (model prog w) A (binaryOp .Add (.ref t) (.ref b)) Q E s:=by
 obtain⟨⟨cls,dd,data,sl⟩,ho,hc,n,hd⟩:=id ht
 obtain⟨⟨cls2,dd2,data2,sl2⟩,ho2,hc2,n2,hd2⟩:=id hb
 simp only at hc hd hc2 hd2
 subst hc hd hc2 hd2
 have e:vs.toArray++ws.toArray=(vs++ws).toArray:=by simp
 by_cases hw:ws=[]
 ·exact concat_meets ⟨_,ho,rfl⟩ ⟨_,ho2,rfl⟩ noFill_tuple_add seq_tuple_add PySem.F.slot_tuple_add PySem.F.entry_tuple_add (PySem.F.args_tuple_add_2 _ _)
   (tuple_addW1 t b vs.toArray ws.toArray n n2 dd dd2 sl sl2 (by simpa using hv) (by simp [hw])) ⟨ho,ho2,h1 hw⟩
 ·refine concat_meets ⟨_,ho,rfl⟩ ⟨_,ho2,rfl⟩ noFill_tuple_add seq_tuple_add PySem.F.slot_tuple_add PySem.F.entry_tuple_add (PySem.F.args_tuple_add_2 _ _)
   (tuple_addW2 t b vs.toArray ws.toArray n n2 dd dd2 sl sl2 (by simpa using hv) (by simpa using hw) (by rw [List.size_toArray,List.size_toArray];exact hsz)) ⟨ho,ho2,?_⟩
  rw [e]
  exact h2 hw
def bZ (n d:Nat):Option Int->Nat
 | none=>d
 | some v=>if v<0 then (v+(n:Int)).toNat else min v.toNat n
theorem yt (n d:Nat) (hd:d<=n) (o:Option Int):bZ n d o<=n:=by
 cases o with
 | none=>exact hd
 | some v =>
  show (if v<0 then (v+(n:Int)).toNat else min v.toNat n)<=n
  by_cases hv:v<0
  ·rw [if_pos hv];omega
  ·rw [if_neg hv];exact Nat.min_le_right _ _
theorem pe (v:Int) (n d:Nat):(if v<0 then max (v+(n:Int)) 0 else min v (n:Int))=((bZ n d (some v):Nat):Int):=by
 show (if v<0 then max (v+(n:Int)) 0 else min v (n:Int))=(((if v<0 then (v+(n:Int)).toNat else min v.toNat n):Nat):Int)
 by_cases hv:v<0
 ·simp only [if_pos hv];omega
 ·simp only [if_neg hv];omega
theorem nW (lo hi:Option Int) (n:Nat):Builtin.Slice.sliceAdjust lo hi 1 (n:Int)=(((bZ n 0 lo:Nat):Int),((bZ n n hi:Nat):Int)):=by
 have h1:¬((1:Int)<0):=by omega
 unfold Builtin.Slice.sliceAdjust
 simp only [h1,if_false]
 refine Prod.ext ?_ ?_
 ·cases lo with
  | none=>rfl
  | some v=>exact pe v n 0
 ·cases hi with
  | none=>rfl
  | some v=>exact pe v n n
theorem oV (i j:Nat):Builtin.Slice.slicePlaces (i:Int) (j:Int) 1=j-i:=by
 unfold Builtin.Slice.slicePlaces
 have h1:(1:Int) > 0:=by omega
 simp only [h1,if_true,Int.ediv_one]
 split<;>omega
theorem jy {v:Value} {o:Option Int} {Q:Option Int->Shared->Prop} (p:IsPart v o) (h:Q o s):wpAny (model prog w) A (Builtin.Slice.slicePartIndex v) Q E s:=by
 cases p with
 | none=>exact slicePart_none h
 | int i t=>exact slicePart_int h
theorem dB {sl:Addr} {vl vu:Value} {lo hi:Option Int} {n:Nat} {Q:Int × Int × Nat->Shared->Prop} (hs:s.heap.IsSliceOf sl vl vu .none) (pl:IsPart vl lo) (pu:IsPart vu hi)
  (h:Q (((bZ n 0 lo:Nat):Int),1,bZ n n hi-bZ n 0 lo) s):wpAny (model prog w) A (Builtin.Slice.sliceApplied (.ref sl) (pure (n:Int))) Q E s:=by
 obtain⟨os,hos,hcs,hds⟩:=id hs
 unfold Builtin.Slice.sliceApplied Builtin.Slice.sliceFields
 refine wpAny_bind (wpAny_bind (wpAny_field hos hds (x:=vl) rfl (wpAny_bind (wpAny_field hos hds (x:=vu) rfl (wpAny_bind (wpAny_field hos hds (x:=.none) rfl (wpAny_pure ?_)))))))
 refine wpAny_bind (slicePart_none ?_)
 show wpAny _ _ (if ((1:Int)==0)=true then _ else _) _ _ s
 rw [if_neg (by decide)]
 refine wpAny_bind (jy pl (wpAny_bind (jy pu (wpAny_bind (wpAny_pure ?_)))))
 show wpAny _ _ (match Builtin.Slice.sliceAdjust lo hi 1 (n:Int) with | (lo,hi)=>pure (lo,(1:Int),Builtin.Slice.slicePlaces lo hi 1)) _ _ s
 rw [nW lo hi n]
 show wpAny _ _ (pure (((bZ n 0 lo:Nat):Int),(1:Int),Builtin.Slice.slicePlaces ((bZ n 0 lo:Nat):Int) ((bZ n n hi:Nat):Int) 1)) _ _ s
 rw [oV]
 exact wpAny_pure h
theorem tU (xs:Array Value) (i k:Nat):((List.range k).filterMap fun(m:Nat)=>xs[((i:Int)+(m:Int)*1).toNat]?).toArray=((xs.toList.drop i).take k).toArray:=by
 have e:(fun(m:Nat)=>xs[((i:Int)+(m:Int)*1).toNat]?)=λm=>xs[i+m]?:=by
  funext m
  have:((i:Int)+(m:Int)*1).toNat=i+m:=by omega
  rw [this]
 rw [e]
 have:=pick_run xs i k
 rw [List.filterMap_map] at this
 have e2:((λx=>xs[x]?)∘λx=>i+x)=λm=>xs[i+m]?:=rfl
 rw [e2] at this
 rw [this]
theorem gb {t sl:Addr} {items:Array Value} {vl vu:Value} {lo hi:Option Int} {Q:Value->Shared->Prop} (ht:IsTup s.heap t items) (hs:s.heap.IsSliceOf sl vl vu .none) (pl:IsPart vl lo) (pu:IsPart vu hi)
  (hw:¬(bZ items.size 0 lo=0/\bZ items.size items.size hi=items.size))
  (h:Q (.ref s.heap.objs.size) { s with heap:=s.heap.push { cls:=.type "tuple",data:=.seq ((items.toList.drop (bZ items.size 0 lo)).take (bZ items.size items.size hi-bZ items.size 0 lo)).toArray } })
  (hsz:items.size<=sizeLine):wpAny (model prog w) A (getItem (.ref t) (.ref sl)) Q E s:=by
 have htake:sizeOk (.seq ((items.toList.drop (bZ items.size 0 lo)).take (bZ items.size items.size hi-bZ items.size 0 lo)).toArray):=by
  show ((items.toList.drop (bZ items.size 0 lo)).take (bZ items.size items.size hi-bZ items.size 0 lo)).toArray.size<=sizeLine
  rw [List.size_toArray,List.length_take,List.length_drop,Array.length_toList]
  omega
 have hj:bZ items.size items.size hi<=items.size:=yt _ _ (Nat.le_refl _) hi
 obtain⟨os,hos,hcs,hds⟩:=id hs
 have hTs:s.TypeIs (.ref sl) "slice":=⟨os,hos,hcs⟩
 unfold getItem
 try with_reducible refine wpAny_holding ?_
 first | refine wpAny_bind (wpAny_pure ?_) | skip
 refine wpAny_bind (wpAny_sequenceKey ht.typeIs (by decide) ?_)
 refine wpAny_bind (wpAny_callSpecial?_slot (name:=Str.ofString "__getitem__") ht.typeIs PyProof.Rows.slot_tuple_getitem
  (wpAny_call_entry PyProof.Rows.slot_tuple_getitem ht.typeIs entry_tuple_getitem ?_ (args_tuple_getitem _ _)))
 show wpAny _ _ (Builtin.Tuple.tupleItemsOf (.ref t) >>= _) _ _ s
 refine wpAny_bind (tupleItemsOf_ ht ?_)
 refine wpAny_bind (wpAny_typeOf hTs ?_)
 rw [if_pos (by decide)]
 refine wpAny_bind (dB hs pl pu ?_)
 have hno:¬((((bZ items.size 0 lo:Nat):Int)==0 && (1:Int)==1 && (bZ items.size items.size hi-bZ items.size 0 lo)==items.size)=true):=by
  intro q
  rw [Bool.and_eq_true,Bool.and_eq_true] at q
  have q1:((bZ items.size 0 lo:Nat):Int)=0:=eq_of_beq q.1.1
  have q2:bZ items.size items.size hi-bZ items.size 0 lo=items.size:=eq_of_beq q.2
  exact hw ⟨by omega,by omega⟩
 show wpAny _ _ (if (((bZ items.size 0 lo:Nat):Int)==0 && (1:Int)==1 && (bZ items.size items.size hi-bZ items.size 0 lo)==items.size)=true then _ else _) _ _ s
 rw [if_neg hno,tU]
 first
  | exact wpAny_bind (m:=Builtin.Tuple.tupleExact _) (wpAny_newObj_type (wpAny_pure ⟨_,rfl,wpAny_pure h⟩) htake)
  | exact wpAny_bind (m:=Builtin.Tuple.tupleExact _) (wpAny_newObj_type (wpAny_bind (wpAny_pure (wpAny_pure ⟨_,rfl,wpAny_pure h⟩))) htake)
  | exact wpAny_bind (wpAny_bind (m:=Builtin.Tuple.tupleExact _) (wpAny_newObj_type (wpAny_pure (wpAny_pure ⟨_,rfl,wpAny_pure h⟩)) htake))
  | exact wpAny_bind (wpAny_bind (m:=Builtin.Tuple.tupleExact _) (wpAny_newObj_type (wpAny_pure ⟨_,rfl,wpAny_pure h⟩) htake))
end
end HT
namespace L2
open PySem PySem.Spec PyProof.Rows
abbrev TO:=St->Hp->(Option Int->Hp->Prop)->Prop
def PO (X:Cx) (e:Option Expr) (t:TO):Prop :=
 ∀(pins:List (Addr × Obj)) (s:Shared) (σ:St) (H:Hp) (Q:Option Int->Hp->Prop),Inv X pins σ H s->t σ H Q ->
  wpAny (model X.prog X.w) X.A (evalPart e X.env) (λu s'=>∃ o H',Inv X pins σ H' s'/\IsPart u o/\Q o H') X.xe s
def qy:TO:=λ_ H Q=>Q none H
def xi (t:TE):TO:=λσ H Q=>t σ H λx H1=>∃ i,x=.int i/\Q (some i) H1
section
variable {X:Cx} {e:Expr} {te:TE} {lo hi:Option Expr} {tl th:TO} {pos p2:Pos}
theorem gk:PO X none qy:=by
 intro pins s σ H Q I h
 rw [evalPart_none]
 exact wpAny_pure ⟨none,H,I,.none,h⟩
theorem gm (h:PE X e te):PO X (some e) (xi te):=by
 intro pins s σ H Q I hw
 rw [evalPart_some]
 refine br (h pins s σ H _ I hw) λu s1 ⟨x,H1,I1,r1,q1⟩=>?_
 obtain⟨i,rfl,q⟩:=q1
 obtain⟨t,rfl⟩:=r1
 exact⟨some i,H1,I1,.int i t,q⟩
def Aa (X:Cx) (r:V->Option Int->Option Int->Hp->VK->Prop):Prop :=
 ∀(pins:List (Addr × Obj)) (s:Shared) (σ:St) (H:Hp) (x:V) (v vl vu:Value) (lo hi:Option Int) (sl:Addr) (Q:VK),Inv X pins σ H s->RelV x v->s.heap.IsSliceOf sl vl vu .none->IsPart vl lo->IsPart vu hi->r x lo hi H Q ->
  ∃ T id,typeLookup (.type T) "__getitem__"=pure (some (.builtin id))/\s.TypeIs v T/\wpAny (model X.prog X.w) X.A (getItem v (.ref sl)) (EP X pins σ Q) X.xe s
def A5 (r:V->Option Int->Option Int->Hp->VK->Prop) (te:TE) (tl th:TO):TE:=λσ H Q=>te σ H λx H1=>tl σ H1 λl H2=>th σ H2 λu H3=>r x l u H3 Q
theorem eG {r:V->Option Int->Option Int->Hp->VK->Prop} (hr:Aa X r) (he:PE X e te) (hl:PO X lo tl) (hu:PO X hi th):PE X (.Subscript e (.Slice lo hi none p2) pos) (A5 r te tl th):=by
 intro pins s σ H Q I h
 refine Subscript_ (br (he pins s σ H _ I h) λv s1 ⟨x,H1,I1,r1,q1⟩=>?_)
 refine wpAny_Slice (br (hl pins s1 σ H1 _ I1 q1) λvl s2 ⟨l,H2,I2,pl,q2⟩=>br (hu pins s2 σ H2 _ I2 q2) λvu s3 ⟨u,H3,I3,pu,q3⟩=>?_)
 rw [evalPart_none]
 refine wpAny_pure ?_
 have I4:Inv X pins σ H3 { s3 with heap:=s3.heap.push { cls:=.type "slice",data:=.fields #[vl,vu,.none] } }:=I3.kept (t':=s3.toks) λb ob q=>Heap.get?_push_of_some _ q
 obtain⟨T,id,hT,ht,hg⟩:=hr pins { s3 with heap:=s3.heap.push { cls:=.type "slice",data:=.fields #[vl,vu,.none] } } σ H3 x v vl vu l u s3.heap.objs.size Q I4 r1 (Heap.IsSliceOf.new ..) pl pu q3
 show wpAny (model X.prog X.w) X.A (subscriptTail e (.Slice lo hi none p2) v (.ref s3.heap.objs.size)) (EP X pins σ Q) X.xe { s3 with heap:=s3.heap.push { cls:=.type "slice",data:=.fields #[vl,vu,.none] } }
 exact tail_any (ops:=[.ref s3.heap.objs.size,v]) ht hT hg (by with_unfolding_all rfl)
def cS (xs:List V) (lo hi:Option Int):List V:=(xs.drop (HT.bZ xs.length 0 lo)).take (HT.bZ xs.length xs.length hi-HT.bZ xs.length 0 lo)
theorem ik (xs:List V) (lo hi:Option Int):(cS xs lo hi).length<=xs.length:=by
 unfold cS
 rw [List.length_take,List.length_drop]
 omega
def AI (K:PySem.W.Frag):V->Option Int->Option Int->Hp->VK->Prop:=λx lo hi H Q=>∃ a xs,x=.ref a/\bS K H a xs /\
 ¬(HT.bZ xs.length 0 lo=0/\HT.bZ xs.length xs.length hi=xs.length)/\∀ p,H p=none->Q (.ref p) (upd H p (.tup (cS xs lo hi)))
theorem yv:Aa X (AI X.K):=by
 intro pins s σ H x v vl vu lo hi sl Q I rx hs pl pu h
 obtain⟨a,xs,rfl,hx,hw,q⟩:=h
 cases rx
 obtain⟨its,r,ht,hz⟩:=I.tuple hx
 have hlen:its.toArray.size=xs.length:=by rw [List.size_toArray];exact r.length.symm
 refine⟨"tuple",_,PyProof.Rows.slot_tuple_getitem.lookup,ht.typeIs,?_⟩
 refine HT.gb ht hs pl pu (by rw [hlen];exact hw) ?_ (by rw [hlen];exact hz)
 rw [hlen]
 refine⟨.ref s.heap.objs.size,_,I.laid (t':=s.toks) (o:=.tup (cS xs lo hi)) (λb ob q=>Heap.get?_push_of_some _ q) (Nat.le_refl _) ?_,rfl,q _ (I.hok.fresh (Nat.le_refl _))⟩
 exact⟨Nat.le_trans (ik xs lo hi) hz,_,(r.drop (HT.bZ xs.length 0 lo)).take (HT.bZ xs.length xs.length hi-HT.bZ xs.length 0 lo),IsTup.new _ _⟩
def zF (K:PySem.W.Frag):R2:=λx y H Q=>∃ a b xs ys,x=.ref a/\y=.ref b/\bS K H a xs/\bS K H b ys/\xs≠[]/\xs.length+ys.length<=sizeLine /\
 (ys=[]->Q (.ref a) H)/\(ys≠[]->∀ p,H p=none->Q (.ref p) (upd H p (.tup (xs++ys))))
theorem Vals.iN {xs:List V} {us:List Value} (r:Vals xs us):us=[]↔xs=[]:=by
 cases r with
 | nil=>simp
 | cons _ _=>simp
theorem vB:fz X (binaryOp .Add) (zF X.K):=by
 intro pins s σ H x y v u Q I rx ry h
 obtain⟨a,b,xs,ys,rfl,rfl,ha,hb,hx,hz,q1,q2⟩:=h
 cases rx
 cases ry
 obtain⟨its,r1,p1,_⟩:=I.tuple ha
 obtain⟨its2,r2,p2,_⟩:=I.tuple hb
 refine HT.uT p1 p2 (λz=>hx (r1.iN.mp z)) (λz=>⟨.ref a,H,I,rfl,q1 (r2.iN.mp z)⟩) (λz=>?_) (by rw [<- r1.length,<- r2.length];exact hz)
 refine⟨.ref s.heap.objs.size,_,I.laid (t':=s.toks) (o:=.tup (xs++ys)) (λb ob q=>Heap.get?_push_of_some _ q) (Nat.le_refl _) ?_,rfl,q2 (λw=>z (r2.iN.mpr w)) _ (I.hok.fresh (Nat.le_refl _))⟩
 exact⟨by rw [List.length_append];exact hz,_,r1.append r2,IsTup.new _ _⟩
end
def vi (n:Nat) (i:Int):Option Nat:=if 0<=i then (if i<n then some i.toNat else none) else if -(n:Int)<=i then some (i+n).toNat else none
def o7 {α:Type} (xs:List α) (i:Int):Option α:=(vi xs.length i).bind λj=>xs[j]?
theorem vj {n:Nat} {i:Int} {j:Nat} (h:vi n i=some j):seqIndex? i n=some j/\j<n /\ -(n:Int)<=i/\i<n:=by
 unfold vi at h
 by_cases h0:0<=i
 ·rw [if_pos h0] at h
  by_cases h1:i<n
  ·rw [if_pos h1] at h
   have e:i.toNat=j:=Option.some.inj h
   exact⟨by rw [seqIndex_of h0 h1,e],by omega,by omega,h1⟩
  ·rw [if_neg h1] at h;cases h
 ·rw [if_neg h0] at h
  by_cases h1:-(n:Int)<=i
  ·rw [if_pos h1] at h
   have e:(i+n).toNat=j:=Option.some.inj h
   exact⟨by rw [seqIndex_neg (by omega) h1,e],by omega,h1,by omega⟩
  ·rw [if_neg h1] at h;cases h
theorem o8 {α:Type} {xs:List α} {i:Int} {v:α} (h:o7 xs i=some v):∃ j,seqIndex? i xs.length=some j/\xs[j]?=some v/\j<xs.length /\ -(xs.length:Int)<=i/\i<xs.length:=by
 unfold o7 at h
 cases e:vi xs.length i with
 | none=>rw [e] at h;cases h
 | some j =>
  rw [e] at h
  obtain⟨h1,h2,h3,h4⟩:=vj e
  exact⟨j,h1,h,h2,h3,h4⟩
theorem kM {α:Type} {xs:List α} {j:Nat} {v:α} (h:xs[j]?=some v):o7 xs (j:Int)=some v:=by
 have hj:j<xs.length:=(List.getElem?_eq_some_iff.mp h).1
 have e:vi xs.length (j:Int)=some j:=by
  unfold vi
  rw [if_pos (by omega),if_pos (by omega)];simp
 unfold o7;rw [e];exact h
def uM (b:Expr):Prop:=∀ o i,subscripted b false o i=operate [o,i] (getItem o i)
def z5 (X:Cx) (r:R2):Prop :=
 ∀(value slice:Expr) (pins:List (Addr × Obj)) (s:Shared) (σ:St) (H:Hp) (x y:V) (v u:Value) (Q:VK),Inv X pins σ H s->RelV x v->RelV y u->r x y H Q ->
  subscripted slice false v u=operate [v,u] (getItem v u)->wpAny (model X.prog X.w) X.A (subscriptTail value slice v u) (EP X pins σ Q) X.xe s
def Aj (X:Cx) (id:String) (r:V->List V->Hp->VK->Prop):Prop :=
 ∀(pins:List (Addr × Obj)) (s:Shared) (σ:St) (H:Hp) (x:V) (xs:List V) (v:Value) (us:List Value) (Q:VK),Inv X pins σ H s->RelV x v->Vals xs us->r x xs H Q ->
  wpAny (model X.prog X.w) X.A (call (.builtin id) (v::us)) (EP X pins σ Q) X.xe s
section
variable {X:Cx} {a b:Expr} {ta tb:TE} {pos:Pos}
theorem aL {r:R2} (hr:z5 X r) (ha:PE X a ta) (hb:PE X b tb) (hs:uM b):PE X (.Subscript a b pos) (zU r ta tb):=by
 intro pins s σ H Q I h
 exact Subscript_ (xB ha hb I h λv u s2 x y H2 I2 rx ry q=>hr a b pins s2 σ H2 x y v u Q I2 rx ry q (hs _ _))
def yk (K:PySem.W.Frag):R2:=λx y H Q=>∃ p xs i v,x=.ref p/\y=.int i/\aS K H p xs/\o7 xs i=some v/\Q v H
def yn (K:PySem.W.Frag):R2:=λx y H Q=>∃ p xs i v,x=.ref p/\y=.int i/\bS K H p xs/\o7 xs i=some v/\Q v H
theorem lr:z5 X (yk X.K):=by
 intro value slice pins s σ H x y v u Q I rx ry h hs
 obtain⟨p,xs,i,z,rfl,rfl,hq,he,q⟩:=h
 cases rx
 obtain⟨t,rfl⟩:=ry
 obtain⟨its,r,pl,hz⟩:=I.list hq
 obtain⟨j,h1,h2,h3,h4,h5⟩:=o8 he
 obtain⟨w,ew,rw'⟩:=r.get h2
 have hl:=r.length
 have hn:=lB
 have fin:EP X pins σ Q w s:=⟨z,H,I,rw',q⟩
 by_cases h0:0<=i
 ·have hj:i.toNat=j:=by
   rw [seqIndex_of h0 h5] at h1
   exact Option.some.inj h1
  exact item_listR pl.isList h0 (by omega) (by rw [hj];simpa using ew) fin hs
 ·have hj:(i+(its.toArray.size:Int)).toNat=j:=by
   rw [seqIndex_neg (by omega) h4] at h1
   rw [List.size_toArray,<- hl]
   exact Option.some.inj h1
  exact subscriptTail_builtinR (x:=w) pl.isList.typeIs slot_list_getitem.lookup
   (wpAny_getItem_list_neg (Q:=λr s'=>r=w/\EP X pins σ Q r s') pl.isList (by omega) (by rw [List.size_toArray]<;>omega) (by omega) (by rw [hj];simpa using ew) ⟨rfl,fin⟩) hs
theorem aW:z5 X (yn X.K):=by
 intro value slice pins s σ H x y v u Q I rx ry h hs
 obtain⟨p,xs,i,z,rfl,rfl,hq,he,q⟩:=h
 cases rx
 obtain⟨t,rfl⟩:=ry
 obtain⟨its,r,pl,hz⟩:=I.tuple hq
 obtain⟨j,h1,h2,h3,h4,h5⟩:=o8 he
 obtain⟨w,ew,rw'⟩:=r.get h2
 have hl:=r.length
 have hn:=lB
 have fin:EP X pins σ Q w s:=⟨z,H,I,rw',q⟩
 exact subscriptTail_builtinR (x:=w) pl.typeIs slot_tuple_getitem.lookup
  (getItem_tuple (j:=j) (Q:=λr s'=>r=w/\EP X pins σ Q r s') pl (by omega) (by omega) (by rw [List.size_toArray,<- hl];exact h1) (by simpa using ew) ⟨rfl,fin⟩) hs
theorem Inv.lst {pins:List (Addr × Obj)} {σ:St} {H:Hp} {s:Shared} {p:Addr} {xs:List V} (I:Inv X pins σ H s) (h:H p=some (.lst xs)) :
  ∃(its:List Value) (n:Nat),Vals xs its/\s.heap.get? p=some { cls:=.type "list",data:=.seq its.toArray n }/\xs.length<=sizeLine:=by
 obtain⟨z,its,n,r,e⟩:=I.hok p _ h
 exact⟨its,n,r,e,z⟩
theorem lT (lo hi:Option Int) (n:Nat):(sliceBounds lo hi none n).1=((HT.bZ n 0 lo:Nat):Int)/\(sliceBounds lo hi none n).2.1=((HT.bZ n n hi:Nat):Int)/\(sliceBounds lo hi none n).2.2=1:=by
 refine⟨?_,?_,rfl⟩
 ·cases lo with
  | none=>simp [sliceBounds,HT.bZ]
  | some i =>
   simp only [sliceBounds,HT.bZ,Option.getD_none,show (1:Int) > 0 by decide,if_true]
   by_cases h:i<0
   ·simp only [h,if_true]<;>omega
   ·simp only [h,if_false]<;>omega
 ·cases hi with
  | none=>simp [sliceBounds,HT.bZ]
  | some i =>
   simp only [sliceBounds,HT.bZ,Option.getD_none,show (1:Int) > 0 by decide,if_true]
   by_cases h:i<0
   ·simp only [h,if_true]<;>omega
   ·simp only [h,if_false]<;>omega
theorem jT (its:List Value) (lo hi:Option Int):slicePick its.toArray lo hi none=((its.drop (HT.bZ its.length 0 lo)).take (HT.bZ its.length its.length hi-HT.bZ its.length 0 lo)).toArray:=by
 obtain⟨h1,h2,h3⟩:=lT lo hi its.toArray.size
 unfold slicePick
 rw [h1,h2,h3]
 simp only [sliceRange_one,pick_run,List.size_toArray]<;>rfl
def AH (K:PySem.W.Frag):V->Option Int->Option Int->Hp->VK->Prop:=λx lo hi H Q=>∃ a xs,x=.ref a/\aS K H a xs/\∀ p,H p=none->Q (.ref p) (upd H p (.lst (cS xs lo hi)))
theorem lS:Aa X (AH X.K):=by
 intro pins s σ H x v vl vu lo hi sl Q I rx hs pl pu h
 obtain⟨a,xs,rfl,hx,q⟩:=h
 cases rx
 obtain⟨its,r,ht,hz⟩:=I.list hx
 have hlen:=r.length
 refine⟨"list",_,slot_list_getitem.lookup,ht.isList.typeIs,?_⟩
 refine wpAny_getItem_list_slice ht.isList hs pl pu .none (by simp) ?_ (by rw [List.size_toArray]<;>omega)
 rw [jT,<- hlen]
 refine⟨.ref s.heap.objs.size,_,I.laid (t':=s.toks) (o:=.lst (cS xs lo hi)) (λb ob q=>Heap.get?_push_of_some _ q) (Nat.le_refl _) ?_,rfl,q _ (I.hok.fresh (Nat.le_refl _))⟩
 exact⟨Nat.le_trans (ik xs lo hi) hz,_,0,(r.drop (HT.bZ xs.length 0 lo)).take (HT.bZ xs.length xs.length hi-HT.bZ xs.length 0 lo),Heap.get?_push_size _ rfl⟩
def en:V->Bool
 | .non=>true
 | .bl _=>true
 | .int _=>true
 | .str _=>true
 | _=>false
def sr:V->V->Bool
 | .non,.non=>true
 | .bl a,.bl b=>a==b
 | .bl a,.int b=>(if a then 1 else 0)==b
 | .int a,.bl b=>a==(if b then 1 else 0)
 | .int a,.int b=>a==b
 | .str a,.str b=>a==b
 | _,_=>false
theorem xH {A:Around} {s:Shared} {y x:V} {u v:Value} (ry:RelV y u) (rx:RelV x v) (fy:en y=true) (fx:en x=true):SeqAt.EqAt A s u v (sr y x):=by
 cases y with
 | non =>
  cases ry
  cases x with
  | non=>cases rx;exact SeqAt.EqAt.same _
  | bl b=>cases rx;exact SeqAt.EqAt.none_bool b
  | int b=>obtain⟨t,rfl⟩:=rx;exact SeqAt.EqAt.none_int b t
  | str b=>obtain⟨t,rfl⟩:=rx;exact SeqAt.EqAt.none_str b t
  | _=>exact absurd (show false=true from fx) Bool.false_ne_true
 | bl a =>
  cases ry
  cases x with
  | non=>cases rx;exact SeqAt.EqAt.bool_none a
  | bl b=>cases rx;exact SeqAt.EqAt.bool_bool a b
  | int b=>obtain⟨t,rfl⟩:=rx;exact SeqAt.EqAt.bool_int a b t
  | str b=>obtain⟨t,rfl⟩:=rx;exact SeqAt.EqAt.bool_str a b t
  | _=>exact absurd (show false=true from fx) Bool.false_ne_true
 | int a =>
  obtain⟨t',rfl⟩:=ry
  cases x with
  | non=>cases rx;exact SeqAt.EqAt.int_none a t'
  | bl b=>cases rx;exact SeqAt.EqAt.int_bool a t' b
  | int b=>obtain⟨t,rfl⟩:=rx;exact SeqAt.EqAt.int_int a t' b t
  | str b=>obtain⟨t,rfl⟩:=rx;exact SeqAt.EqAt.int_str a t' b t
  | _=>exact absurd (show false=true from fx) Bool.false_ne_true
 | str a =>
  obtain⟨t',rfl⟩:=ry
  cases x with
  | non=>cases rx;exact SeqAt.EqAt.str_none a t'
  | bl b=>cases rx;exact SeqAt.EqAt.str_bool a t' b
  | int b=>obtain⟨t,rfl⟩:=rx;exact SeqAt.EqAt.str_int a t' b t
  | str b=>obtain⟨t,rfl⟩:=rx;exact SeqAt.EqAt.str_str a t' b t
  | _=>exact absurd (show false=true from fx) Bool.false_ne_true
 | _=>exact absurd (show false=true from fy) Bool.false_ne_true
def uW (x:V) (u:Value):Bool:=match u with
 | .none=>sr .non x
 | .bool b=>sr (.bl b) x
 | .int i _=>sr (.int i) x
 | .str z _=>sr (.str z) x
 | _=>false
theorem sk {x y:V} {u:Value} (r:RelV y u) (f:en y=true):uW x u=sr y x:=by
 cases y with
 | non=>cases r;rfl
 | bl b=>cases r;rfl
 | int i=>obtain⟨t,rfl⟩:=r;rfl
 | str z=>obtain⟨t,rfl⟩:=r;rfl
 | _=>exact absurd (show false=true from f) Bool.false_ne_true
theorem kL {x:V}:∀{xs:List V} {us:List Value},Vals xs us->xs.all en=true->us.any (uW x)=xs.any λy=>sr y x
 | _,_,.nil,_=>rfl
 | y::xs,u::us,.cons r t,f=>by
  rw [List.all_cons,Bool.and_eq_true] at f
  rw [List.any_cons,List.any_cons,sk r f.1,kL t f.2]
theorem iY {A:Around} {s:Shared} {x:V} {v:Value} (rx:RelV x v) (fx:en x=true):∀{xs:List V} {us:List Value},Vals xs us->xs.all en=true->∀ u∈us,SeqAt.EqAt A s u v (uW x u)
 | _,_,.nil,_=>λu hu=>by cases hu
 | y::xs,u::us,.cons r t,f=>λu' hu=>by
  rw [List.all_cons,Bool.and_eq_true] at f
  rcases List.mem_cons.mp hu with rfl | hu
  ·rw [sk r f.1];exact xH r rx f.1 fx
  ·exact iY rx fx t f.2 u' hu
def Ab (x:V) (xs:List V):Bool:=xs.any λy=>sr y x
def A0 (K:PySem.W.Frag) (neg:Bool):R2:=λx y H Q=>∃ p xs,y=.ref p/\(aS K H p xs∨bS K H p xs)/\en x=true/\xs.all en=true/\Q (.bl (if neg then !Ab x xs else Ab x xs)) H
theorem rq:fz X (compareOp .In) (A0 X.K false):=by
 intro pins s σ H x y v u Q I rx ry h
 obtain⟨p,xs,rfl,hq,fx,fs,q⟩:=h
 cases ry
 rcases hq with hq | hq
 ·obtain⟨its,r,pl,hz⟩:=I.list hq
  refine SeqAt.in_listAt (uW x) pl.isList (λw hw=>iY rx fx r fs w (by simpa using hw)) ⟨.bl _,H,I,rfl,?_⟩
  rw [show its.toArray.any (uW x)=its.any (uW x) by simp,kL r fs]
  exact q
 ·obtain⟨its,r,pl,hz⟩:=I.tuple hq
  refine SeqAt.in_tupleAt (uW x) pl (λw hw=>iY rx fx r fs w (by simpa using hw)) ⟨.bl _,H,I,rfl,?_⟩
  rw [show its.toArray.any (uW x)=its.any (uW x) by simp,kL r fs]
  exact q
theorem kN:cQ X (.builtin "len") (λxs H Q=>∃ p ys,xs=[.ref p]/\(aS X.K H p ys∨bS X.K H p ys)/\Q (.int ys.length) H):=by
 intro pins s σ H xs us Q I r h
 obtain⟨p,ys,rfl,hq,q⟩:=h
 obtain⟨u,rfl,rx⟩:=vals1 r
 cases rx
 have hn:=lB
 rcases hq with hq | hq
 ·obtain⟨its,r',pl,hz⟩:=I.list hq
  have hlen:=r'.length
  exact Calls.call_len_list pl.isList (by simp only [List.size_toArray]<;>omega) ⟨.int ys.length,H,I.tok _,⟨s.toks+1,by rw [List.size_toArray,hlen]⟩,q⟩
 ·obtain⟨its,r',pl,hz⟩:=I.tuple hq
  have hlen:=r'.length
  exact len_tuple pl (by simp only [List.size_toArray]<;>omega) ⟨.int ys.length,H,I.tok _,⟨s.toks+1,by rw [List.size_toArray,hlen]⟩,q⟩
theorem kO:cQ X (.type "list") (λxs H Q=>∃ p ys,xs=[.ref p]/\(aS X.K H p ys∨bS X.K H p ys)/\∀ l,H l=none->Q (.ref l) (upd H l (.lst ys))):=by
 intro pins s σ H xs us Q I r h
 obtain⟨p,ys,rfl,hq,q⟩:=h
 obtain⟨u,rfl,rx⟩:=vals1 r
 cases rx
 have fin:∀(its:List Value),Vals ys its->ys.length<=sizeLine->∀(h':Heap) (c':Nat),(∀ b o',s.heap.get? b=some o'->h'.get? b=some o') ->
   h'.get? s.heap.objs.size=some { cls:=.type "list",dict:=none,data:=.seq its.toArray c',slots:=#[] }->EP X pins σ Q (.ref s.heap.objs.size) { s with heap:=h' }:=λits r' hz h' c' kp e =>
  ⟨.ref s.heap.objs.size,_,I.laid (t':=s.toks) kp (Nat.le_refl _) (show ba X.prog X.w _ h' _ (.lst ys) from ⟨hz,its,c',r',e⟩),rfl,q _ (I.hok.fresh (Nat.le_refl _))⟩
 rcases hq with hq | hq
 ·obtain⟨its,r',pl,hz⟩:=I.list hq
  have hlen:=r'.length
  obtain⟨o,ho,hc,n,hd⟩:=pl.isList
  exact call_list_seq p (.inl rfl) ho hc hd (λh' c' kp e=>fin its r' hz h' c' kp e) (by simp only [List.size_toArray]<;>omega)
 ·obtain⟨its,r',pl,hz⟩:=I.tuple hq
  have hlen:=r'.length
  obtain⟨o,ho,hc,n,hd⟩:=pl
  exact call_list_seq p (.inr rfl) ho hc hd (λh' c' kp e=>fin its r' hz h' c' kp e) (by simp only [List.size_toArray]<;>omega)
theorem cz:cQ X (.type "tuple") (λxs H Q=>∃ p ys,xs=[.ref p]/\((aS X.K H p ys/\∀ l,H l=none->Q (.ref l) (upd H l (.tup ys)))∨(bS X.K H p ys/\Q (.ref p) H))):=by
 intro pins s σ H xs us Q I r h
 obtain⟨p,ys,rfl,h⟩:=h
 obtain⟨u,rfl,rx⟩:=vals1 r
 cases rx
 rcases h with⟨hq,q⟩|⟨hq,q⟩
 ·obtain⟨its,r',pl,hz⟩:=I.list hq
  have hlen:=r'.length
  refine call_tuple_list pl.isList (λh' kp=>?_) (by simp only [List.size_toArray]<;>omega)
  have I1:Inv X pins σ H { s with heap:=h' }:=I.kept (t':=s.toks) kp
  have I2:Inv X pins σ (upd H h'.objs.size (.tup ys)) { s with heap:=h'.push { cls:=.type "tuple",data:=.seq its.toArray } } :=
   I1.laid (t':=s.toks) (λb o e=>Heap.get?_push_of_some _ e) (Nat.le_refl _) (show ba X.prog X.w _ _ _ (.tup ys) from ⟨hz,its,r',IsTup.new _ _⟩)
  exact⟨.ref h'.objs.size,_,I2,rfl,q _ (I1.hok.fresh (Nat.le_refl _))⟩
 ·obtain⟨its,r',pl,hz⟩:=I.tuple hq
  exact call_tuple_same pl ⟨.ref p,H,I,rfl,q⟩
def AO (K:PySem.W.Frag) (T:String) (x:V) (H:Hp):Prop:=match x with
 | .str _=>T = "str"
 | .int _=>T = "int"
 | .ref p=>(T = "list"/\∃ xs,aS K H p xs)∨(T = "tuple"/\∃ o,K.lookup p=some o/\o.cls=.type "tuple"/\o.dict=none) ∨
   (T = "dict"/\((∃ kvs,H p=some (.dK kvs))∨∃ kvs,H p=some (.dT kvs)))∨(T = "set"/\∃ S n,H p=some (.set S n))
 | _=>False
theorem uw {pins:List (Addr × Obj)} {σ:St} {H:Hp} {s:Shared} {T:String} {x:V} {v:Value} (I:Inv X pins σ H s) (r:RelV x v) (ty:AO X.K T x H) :
  s.TypeIs v T/\∀ a,v=.ref a->∃ ob,s.heap.get? a=some ob/\ob.dict=none:=by
 cases x with
 | str z =>
  obtain⟨t,rfl⟩:=r
  cases (show T = "str" from ty)
  exact⟨typeIs_str s z t,λ_ e=>nomatch e⟩
 | int i =>
  obtain⟨t,rfl⟩:=r
  cases (show T = "int" from ty)
  exact⟨typeIs_int s i t,λ_ e=>nomatch e⟩
 | ref p =>
  cases r
  rcases ty with⟨rfl,xs,hq⟩|⟨rfl,o,hk,hc,hd⟩|⟨rfl,hk⟩|⟨rfl,S,n,hk⟩
  ·obtain⟨its,_,pl,_⟩:=I.list hq
   refine⟨pl.isList.typeIs,λa e=>?_⟩
   cases e
   obtain⟨o,n,e,c,hd,_⟩:=pl
   exact⟨o,e,hd⟩
  ·refine⟨⟨o,I.eA p o hk,hc⟩,λa e=>?_⟩
   cases e
   exact⟨o,I.eA _ o hk,hd⟩
  ·have z:∃ o,s.heap.get? p=some o/\o.ExactDict:=by
    rcases hk with⟨kvs,hk⟩|⟨kvs,hk⟩
    ·obtain⟨_,_,_,_,o,_,_,e,ex,_⟩:=I.hok p _ hk
     exact⟨o,e,ex⟩
    ·obtain⟨_,_,_,_,o,_,_,e,ex,_⟩:=I.hok p _ hk
     exact⟨o,e,ex⟩
   obtain⟨o,e,ex⟩:=z
   refine⟨⟨o,e,ex.1⟩,λa e2=>?_⟩
   cases e2
   exact⟨o,e,ex.2.1⟩
  ·obtain⟨o,_,_,_,e,ex,_⟩:=I.hok p _ hk
   refine⟨⟨o,e,ex.1⟩,λa e2=>?_⟩
   cases e2
   exact⟨o,e,ex.2.1⟩
 | _=>exact False.elim ty
def zP (K:PySem.W.Frag) (T:String) (r:V->List V->Hp->VK->Prop) (to:TE):TE:=λσ H Q=>to σ H λx H1=>AO K T x H1/\r x [] H1 Q
def A2 (K:PySem.W.Frag) (T:String) (r:V->List V->Hp->VK->Prop) (to:TE) (t:TA):TE:=λσ H Q=>to σ H λx H1=>AO K T x H1/\t σ H1 λxs H2=>r x xs H2 Q
variable {o e:Expr} {es:List Expr} {to:TE} {t:TA} {name:Str} {apos cpos:Pos} {T id:String} {r:V->List V->Hp->VK->Prop}
theorem yd (pa:PlainAttrs T) (slot:Slot T name id) (hty:typeOf (.builtin id)=pure (.type "method_descriptor")) (hm:Aj X id r) (ho:PE X o to)
  (hbase:attributeBase o name X.env (eval o X.env)=eval o X.env:=by rfl) (hline:(apos.endLine==cpos.line)=true:=by rfl):PE X (.Call (.Attribute o name apos) [] [] cpos) (zP X.K T r to):=by
 intro pins s σ H Q I h
 refine wpAny_Call_method0_late hbase hline (br (ho pins s σ H _ I h) λv s1 ⟨x,H1,I1,r1,ty,q1⟩=>?_)
 obtain⟨h1,h2⟩:=uw I1 r1 ty
 exact⟨T,id,pa,slot,hty,h1,h2,Calls.callWith_builtin rfl (PySem.evalArgs_none (hm pins s1 σ H1 x [] v [] Q I1 r1 .nil q1))⟩
theorem wM (pa:PlainAttrs T) (slot:Slot T name id) (hty:typeOf (.builtin id)=pure (.type "method_descriptor")) (hm:Aj X id r) (ho:PE X o to) (ha:PA X (e::es) t)
  (hbase:attributeBase o name X.env (eval o X.env)=eval o X.env:=by rfl)
  (hfew:((backTo cpos (starEach (e::es) X.env)).all (λx=>!x.1) && (backToKw cpos (keywordEach [] X.env)).all (λx=>x.1.isSome)
   && decide ((e::es).length+([]:List Keyword).length+(if ([]:List Keyword).isEmpty then 0 else 1)<30))=true:=by rfl)
  (hline:(apos.endLine==cpos.line)=true:=by rfl) (hs:starEach (e::es) X.env=(false,eval e X.env)::starEach es X.env:=by rfl) (hplain:(backTo cpos (starEach es X.env)).any (·.1)=false:=by rfl) :
  PE X (.Call (.Attribute o name apos) (e::es) [] cpos) (A2 X.K T r to t):=by
 intro pins s σ H Q I h
 refine wpAny_Call_method_late hbase hfew hline rfl (br (ho pins s σ H _ I h) λv s1 ⟨x,H1,I1,r1,ty,q1⟩=>?_)
 obtain⟨h1,h2⟩:=uw I1 r1 ty
 refine⟨T,id,pa,slot,hty,h1,h2,?_⟩
 have hA:=ha cpos pins s1 σ H1 _ I1 q1
 rw [hs] at hA ⊢
 refine Calls.callWith_builtin (by show (false || (backTo cpos (starEach es X.env)).any (·.1))=false;rw [hplain]<;>rfl) (Calls.evalArgs_plain ?_)
 exact br hA λus s2 ⟨vs,H2,I2,r2,q2⟩=>hm pins s2 σ H2 x vs v us Q I2 r1 r2 q2
/- xs.append(e),list.index on a module's tuple .. are Aj facts of 06m -/
end
def Ai (X:Cx) (id:String) (r:V->List V->Hp->VK->Prop):Prop :=
 ∀(pins:List (Addr × Obj)) (s:Shared) (σ:St) (H:Hp) (x:V) (xs:List V) (v:Value) (us:List Value) (Q:VK),Inv X pins σ H s->RelV x v->Vals xs us->r x xs H Q ->
  wpAny (model X.prog X.w) X.A (call (.builtin id) (v::us)) (EP X pins σ Q) X.xe s
theorem Vals.one:∀{x:V} {us:List Value},Vals [x] us->∃ u,us=[u]/\RelV x u
 | _,_,.cons r .nil=>⟨_,rfl,r⟩
theorem Vals.two:∀{x y:V} {us:List Value},Vals [x,y] us->∃ u v,us=[u,v]/\RelV x u/\RelV y v
 | _,_,_,.cons r (.cons q .nil)=>⟨_,_,rfl,r,q⟩
theorem Vals.zero:∀{us:List Value},Vals [] us->us=[]
 | _,.nil=>rfl
theorem Vals.dropLast {xs:List V} {us:List Value} (h:Vals xs us):Vals xs.dropLast us.dropLast:=by
 induction h with
 | nil=>exact .nil
 | cons r t ih =>
  cases t with
  | nil=>exact .nil
  | cons q t'=>exact .cons r ih
theorem Vals.reverse {xs:List V} {us:List Value} (h:Vals xs us):Vals xs.reverse us.reverse:=by
 induction h with
 | nil=>exact .nil
 | cons r t ih=>rw [List.reverse_cons,List.reverse_cons];exact Vals.append ih (.cons r .nil)
theorem ou {α:Type} (l:List α):l.eraseIdx (l.length-1)=l.dropLast:=by
 induction l with
 | nil=>rfl
 | cons a r ih =>
  cases r with
  | nil=>rfl
  | cons b r =>
   have e:(a::b::r).length-1=((b::r).length-1)+1:=by
    have h1:(a::b::r).length=r.length+2:=rfl
    have h2:(b::r).length=r.length+1:=rfl
    omega
   rw [e,List.eraseIdx_cons_succ,ih]
   all_goals rfl
section
variable {X:Cx} {pins:List (Addr × Obj)} {σ:St} {H:Hp} {s:Shared} {l b:Addr} {xs ys zs:List V}
theorem Inv.xT {its its':List Value} {n:Nat} {f:Array Value->Array Value} {t':Nat} (I:Inv X pins σ H s) (hH:H l=some (.lst xs))
  (e:s.heap.get? l=some { cls:=.type "list",data:=.seq its.toArray n }) (hf:f its.toArray=its'.toArray) (hv:Vals ys its') (hz:ys.length<=sizeLine) :
  Inv X pins σ (upd H l (.lst ys)) { s with heap:=s.heap.update l (Obj.mapSeq f),toks:=t' }:=by
 have q:=PySem.IsL.update e f
 rw [hf] at q
 refine I.write (x:=l) (e:=l) (by rw [hH];exact trivial) (.inl rfl) (λb' u hb hu=>(Heap.get?_update_other s.heap (Obj.mapSeq f) (Ne.symm hb)).trans hu) ⟨_,q⟩ ?_
 exact⟨hz,its',_,hv,q⟩
theorem Inv.Ay {its:List Value} {t':Nat} (I:Inv X pins σ H s) (hv:Vals ys its) (hz:ys.length<=sizeLine) :
  Inv X pins σ (upd H s.heap.objs.size (.lst ys)) { s with heap:=s.heap.push { cls:=.type "list",data:=.seq its.toArray },toks:=t' } :=
 I.laid (λ_ _ q=>Heap.get?_push_of_some _ q) (Nat.le_refl _) ⟨hz,its,0,hv,Heap.get?_push_size _ rfl⟩
theorem Inv.fresh (I:Inv X pins σ H s):H s.heap.objs.size=none:=I.hok.fresh (Nat.le_refl _)
theorem Inv.qW (I:Inv X pins σ H s) (hH:H l=some (.lst xs)):xs.length<=sizeLine/\∃(its:List Value) (n:Nat),Vals xs its/\xs.length=its.length/\s.heap.get? l=some { cls:=.type "list",data:=.seq its.toArray n }:=by
 obtain⟨z,its,n,r,e⟩:=I.hok l _ hH
 exact⟨z,its,n,r,r.length,e⟩
theorem sT {n:Nat} (h:n<=sizeLine):Builtin.List.listTooLong n=false:=by
 unfold Builtin.List.listTooLong
 exact decide_eq_false (by omega)
end
section
variable {X:Cx}
def vN:V->List V->Hp->VK->Prop:=λx vs H Q=>∃ l xs y,x=.ref l/\vs=[y]/\H l=some (.lst xs)/\xs.length<sizeLine/\Q .non (upd H l (.lst (xs++[y])))
theorem qX:Ai X "list.append" vN:=by
 intro pins s σ H x vs v us Q I rx rv h
 obtain⟨l,xs,y,rfl,rfl,hH,hz,q⟩:=h
 cases rx
 obtain⟨u,rfl,ru⟩:=rv.one
 obtain⟨z,its,n,r,hl,e⟩:=I.qW hH
 refine call_meets F.slot_list_append ⟨_,e,rfl⟩ F.entry_list_append (F.args_list_append_2 _ _) (PySem.list_append l its.toArray n u (by rw [List.size_toArray];omega)) ⟨e,?_⟩
 refine⟨.non,_,I.xT (its':=its++[u]) hH e (by simp) (r.append (.cons ru .nil)) ?_,rfl,q⟩
 rw [List.length_append,List.length_singleton]
 omega
def vO:V->List V->Hp->VK->Prop:=λx vs H Q=>∃ l b xs zs,x=.ref l/\vs=[.ref b]/\H l=some (.lst xs)/\H b=some (.lst zs)/\xs.length+zs.length<=sizeLine/\Q .non (upd H l (.lst (xs++zs)))
theorem qY:Ai X "list.extend" vO:=by
 intro pins s σ H x vs v us Q I rx rv h
 obtain⟨l,b,xs,zs,rfl,rfl,hH,hB,hz,q⟩:=h
 cases rx
 obtain⟨u,rfl,ru⟩:=rv.one
 cases ru
 obtain⟨z,its,n,r,hl,e⟩:=I.qW hH
 obtain⟨z2,its2,n2,r2,hl2,e2⟩:=I.qW hB
 have hsz:its.toArray.size+its2.toArray.size<=sizeLine:=by rw [List.size_toArray,List.size_toArray];omega
 have hlong:¬(!its.toArray.isEmpty && Builtin.List.listTooLong (its.toArray.size+its2.toArray.size))=true:=by
  rw [sT hsz,Bool.and_false]
  exact Bool.false_ne_true
 refine call_meets F.slot_list_extend ⟨_,e,rfl⟩ F.entry_list_extend (F.args_list_extend_2 _ _)
  (AutoSeq1.list_extend_list_list_0 l its.toArray n b its2.toArray n2 hlong (by rw [List.size_toArray];omega) (by omega)) ⟨e,e2,?_⟩
 refine⟨.non,_,I.xT (its':=its++its2) hH e (by simp) (r.append r2) ?_,rfl,q⟩
 rw [List.length_append]
 omega
def AF:V->List V->Hp->VK->Prop:=λx vs H Q=>∃ l xs y,x=.ref l/\vs=[]/\H l=some (.lst xs)/\xs[xs.length-1]?=some y/\Q y (upd H l (.lst xs.dropLast))
theorem xV:Ai X "list.pop" AF:=by
 intro pins s σ H x vs v us Q I rx rv h
 obtain⟨l,xs,y,rfl,rfl,hH,hy,q⟩:=h
 cases rx
 have hus:=rv.zero
 subst hus
 obtain⟨z,its,n,r,hl,e⟩:=I.qW hH
 obtain⟨u,hu,ru⟩:=r.get hy
 have hy':its.toArray[its.toArray.size-1]?=some u:=by
  show its.toArray[its.length-1]?=some u
  rw [<- Array.getElem?_toList,<- hl]
  exact hu
 refine call_meets F.slot_list_pop ⟨_,e,rfl⟩ F.entry_list_pop (F.args_list_pop_1 _) (MeetsSeq.list_pop_last l its.toArray n u hy' (by rw [List.size_toArray];omega)) ⟨e,?_⟩
 refine⟨y,_,I.xT (its':=its.dropLast) hH e ?_ r.dropLast ?_,ru,q⟩
 ·show its.toArray.eraseIdxIfInBounds (its.toArray.size-1)=its.dropLast.toArray
  rw [List.size_toArray,List.eraseIdxIfInBounds_toArray,ou]
 ·rw [List.length_dropLast]
  omega
def AD:R2:=λx y H Q=>∃ l b xs zs,x=.ref l/\y=.ref b/\H l=some (.lst xs)/\H b=some (.lst zs)/\xs.length+zs.length<=sizeLine/\∀ p,H p=none->Q (.ref p) (upd H p (.lst (xs++zs)))
theorem tG:fz X (binaryOp .Add) AD:=by
 intro pins s σ H x y v u Q I rx ry h
 obtain⟨l,b,xs,zs,rfl,rfl,hH,hB,hz,q⟩:=h
 cases rx
 cases ry
 obtain⟨z,its,n,r,hl,e⟩:=I.qW hH
 obtain⟨z2,its2,n2,r2,hl2,e2⟩:=I.qW hB
 refine PySem.P.add_list e e2 ?_ (by rw [List.size_toArray,List.size_toArray];omega)
 have ea:its.toArray++its2.toArray=(its++its2).toArray:=by simp
 rw [ea]
 exact⟨.ref _,_,I.Ay (t':=s.toks) (r.append r2) (by rw [List.length_append];omega),rfl,q _ I.fresh⟩
end
section
variable {prog:Program} {w:World} {A:Around} {E:Value->Shared->Prop} {s:Shared}
end
section
variable {X:Cx}
end
end L2
namespace Att
open PySem PySem.W PySem.Calls PyProof.Rows
theorem iB {P:Params} {h:Heap}:∀(ns:List Int) (vs:List Value),WellAll P h vs (ns.map WData.int)->IntsAre vs ns:=by
 intro ns
 induction ns with
 | nil =>
  intro vs w
  rw [List.map_nil] at w
  cases w
  exact .nil
 | cons n ns ih =>
  intro vs w
  rw [List.map_cons] at w
  cases w with
  | cons a b =>
   cases a
   exact .cons _ _ (ih _ b)
theorem rH {l:OpenLaw} {n:Nat} (hn:l.most=some n) {P:Params} {h:Heap} {args:List WData} {vals:List Value}
  (hpre:l.row.toRowW.claim.pre args=true) (hwl:WellAll P h vals args) :
  ∃ a vs ns,vals=[Value.ref a]/\args=[WData.list (ns.map WData.int)]/\h.get? a=some { cls:=.type "list",data:=.seq vs.toArray }/\IntsAre vs ns/\ns.length<=n:=by
 have hsh:WShape.hasAll [] args [.list .int]=true:=(pre_splitW hpre).1
 have hc:l.pre.holds [] { args:=args }=true:=(pre_splitW hpre).2
 obtain⟨d,r,rfl,h1,h2⟩:=hasAllW_cons hsh
 obtain rfl:=hasAllW_nil h2
 obtain⟨xs,rfl,h3⟩:=hasW_list h1
 obtain⟨ns,rfl⟩:=items_int h3
 have hlen:ns.length<=n:=by
  unfold OpenLaw.pre at hc
  have h4:(WTm.not (.lt (.lit (.int (n:Int))) (.len (.arg 0)))).holds [] { args:=[.list (ns.map .int)] }=true:=by
   have h4:=(holds_andW hc).1
   rw [hn] at h4
   exact h4
  have h5:=condW_of h4 (w_not (w_lt w_lit (w_len_list (w_arg rfl))))
  rw [List.length_map] at h5
  refine Nat.le_of_not_lt λq=>?_
  have q':(n:Int)<((ns.length:Nat):Int):=by omega
  first
   | (rw [decide_eq_true q'] at h5;exact absurd h5 (by decide))
   | (simp at h5;omega)
 cases hwl with
 | cons w1 w2 =>
  cases w2
  cases w1 with
  | list ho hall=>exact⟨_,_,ns,rfl,rfl,ho,iB ns _ hall,hlen⟩
theorem rE (l:OpenLaw) (args:List WData):l.row.toRowW.claim.post args (.bool true) args=true :=
 postW_of (r:=l.row.toRowW) (X:=(true==true))
  (show WShape.has [] (.bool true) .bool=true by first | rfl | decide | simp [WShape.has,WShape.arms,WShape.armsAll])
  (show (WTm.eq .res (.lit (.bool true))).value [] { args:=args,res:=some (.bool true),after:=args }=some (.bool (true==true)) from w_eq_bool (w_res rfl) w_lit) rfl
theorem mw {l:OpenLaw} {n:Nat} {q:Program} {loose:List Str} {XP:(Str->Option Value)->Heap->Prop} {YP:World->Heap->Prop} {d:DefRec}
  (hn:l.most=some n) (hdf:d.params.defaults=[])
  (call:∀(w:World) (s₀ s₁:Shared) (mg mb:Str->Option Value) (fa:Addr) (o:Obj) (pm cd doc:Value) (a:Addr) (vs:List Value) (ns:List Int),
   Ground q loose [] XP w s₀ mg mb s₁.heap->YP w s₁.heap ->
   s₁.heap.get? fa=some o->o.data=.func (docDef d.name d.params d.body d.scope pm cd doc)->s₁.heap.CodeRec cd d.name->mg d.name=some (.ref fa) ->
   s₁.heap.get? a=some { cls:=.type "list",data:=.seq vs.toArray }->IntsAre vs ns->ns.length<=n->s₁.gens=#[] ->
   codeAny (model l.prog w) callerA (.call (.ref fa) ⟨[.ref a],[]⟩) (λr s'=>r=.ok (.ret (.bool true))/\OldK s₁.heap s'.heap/\s'.os=s₁.os/\AllBare s'.gens) s₁) :
  WalkO q loose XP YP l.row.toRowW d [] (λf vs=>PySem.call f vs):=by
 intro w s₀ s₁ mg mb G Y fa o pm cd doc dV kV ho hd hcd hD hmg hg args vals as hpre hlay hrd hwl hlo
 obtain rfl:dV=.none:=Dflts.none hD hdf
 obtain rfl:kV=.none:=Dflts.noKw hD
 obtain⟨a,vs,ns,rfl,rfl,hobj,hints,hlen⟩:=rH hn hpre hwl
 refine enter_call (codeAny_mono (call w s₀ s₁ mg mb fa o pm cd doc a vs ns G Y ho (fd_plain hd) hcd hmg hobj hints hlen hg) λr s' hq=>?_)
 obtain⟨rfl,h2,h3,h4⟩:=hq
 exact⟨.inl ⟨.bool true,.bool true,[],rfl,λ_=>rfl,.bool true,rE l _,λ_=>⟨List.Pairwise.nil,λ_ hm=>(nomatch hm)⟩⟩,h2,h3,h4⟩
section
variable {prog:Program} {w:World} {A:Around} {E:Value->Shared->Prop} {s:Shared} {K:Frag}
end
end Att
namespace L2
open PySem PySem.Spec PyProof.Rows
theorem kI:∀{vs:List Value} {ns:List Int},IntsAre vs ns->Vals (ns.map V.int) vs
 | _,_,.nil=>.nil
 | _,_,.cons n t h=>.cons ⟨t,rfl⟩ (kI h)
def uL (H:Hp):Prop:=∀ b,H b=none∨∃ o xs,H b=some (.frz o (.lst xs))
theorem sP {P:Program} {w:World} {K:PySem.W.Frag} {mg mb:Str->Option Value} {CX:jJ} {k:Nat} {fa a:Addr} {fd:FuncData} {x:Str} {sp:Sp} {s₁:Shared} {vs:List Value} {ns:List Int}
  (KX:K.In s₁.heap) (hns:s₁.heap.Ns mainGlobals mg) (hb:s₁.heap.Ns builtinsNs mb) (hbb:∀ x:Str,x ≠ "__name__"->mb x=bootBuiltins x) (hlim:s₁.heap.NoLimit) (hg:s₁.gens=#[])
  (ha:s₁.heap.get? a=some { cls:=.type "list",data:=.seq vs.toArray }) (hi:IntsAre vs ns) (hl:ns.length<=sizeLine) (hr:bW k callerA)
  (F:∀ base:Heap,K.In base->base.Ns mainGlobals mg->cL P w K mg base CX k fa fd [x] sp) (hbind:∀(s:Shared) (u:Value),BindsTo s fd ⟨[u],[]⟩ [(x,u)])
  (hsp:∀ H:Hp,uL H->aS K H a (ns.map V.int)->sp [.ref a] H (λv _=>v=.bl true) λ_ _ _=>False)
  (hCX:∀ H e s',CX [] H s₁ (λ_ _ _=>False) e s'->False) :
  codeAny (model P w) callerA (.call (.ref fa) ⟨[.ref a],[]⟩) (λr s'=>r=.ok (.ret (.bool true))/\OldK s₁.heap s'.heap/\s'.os=s₁.os/\AllBare s'.gens) s₁:=by
 have rv:=kI hi
 have lenV:=hi.length
 -- from an abstract heap in which nothing but the script may be tracked
 have core:∀ H:Hp,uL H->aS K H a (ns.map V.int)->ef P w H s₁.heap->(∀ b,H b≠none->b=a)->(H a≠none->K.lookup a=none) ->
   codeAny (model P w) callerA (.call (.ref fa) ⟨[.ref a],[]⟩) (λr s'=>r=.ok (.ret (.bool true))/\OldK s₁.heap s'.heap/\s'.os=s₁.os/\AllBare s'.gens) s₁:=by
  intro H hO hS hok hA hK
  have base_of:∀{b:Addr} {o:Obj},s₁.heap.get? b=some o->H b=none->(lh s₁.heap H).get? b=some o:=λe n=>sL e n
  have noA:∀{b:Addr} {o:Obj} {es:Array DictEntry} {ep:Nat},s₁.heap.get? b=some o->o.data=.dict es ep->H b=none:=λ{b o es ep} e d=>by
   cases q:H b with
   | none=>rfl
   | some u =>
    have e':b=a:=hA b (by rw [q];simp)
    subst e'
    rw [ha] at e;cases e
    have d':Data.seq vs.toArray _=Data.dict es ep:=d
    cases d'
  have nsK:∀{b:Addr} {m:Str->Option Value},s₁.heap.Ns b m->(lh s₁.heap H).Ns b m:=λ{b m} ⟨o,es,ep,e,d,r⟩=>⟨o,es,ep,base_of e (noA e d),d,r⟩
  have hKb:K.In (lh s₁.heap H):=λb o e=>base_of (KX b o e) (by
   cases q:H b with
   | none=>rfl
   | some u =>
    have e':b=a:=hA b (by rw [q];simp)
    subst e'
    rw [hK (by rw [q];simp)] at e;cases e)
  have hM:Mod K mg (lh s₁.heap H):=⟨hKb,nsK hns,⟨mb,nsK hb,hbb⟩,let ⟨mc,h1,h2⟩:=hlim;⟨mc,nsK h1,h2⟩⟩
  have e0:nU P w K mg (lh s₁.heap H) callerA [] s₁ H:=⟨rfl,hM,λb o e=>vt e,Nat.le_of_eq (qQ _ _),trivial,λb hb=>absurd (show b∈([]:List Addr) from hb) (by simp),hok,.of_eq hg⟩
  refine codeAny_mono ((F _ hKb (nsK hns)).run callerA [] s₁ H ⟨[.ref a],[]⟩ [.ref a] [.ref a] _ _ hr e0 (hbind s₁ (.ref a)) (.cons rfl .nil) (hsp H hO hS)) λr s' h=>?_
  cases r with
  | error e=>exact (hCX H e s' h).elim
  | ok fl =>
   cases fl with
   | next=>exact False.elim h
   | brk=>exact False.elim h
   | cont=>exact False.elim h
   | ret u =>
    obtain⟨v,H',os,bare,un,hok',r',q⟩:=h
    have q':v=.bl true:=q
    subst q'
    obtain rfl:u=Value.bool true:=r'
    refine⟨rfl,OldK.of_keep λb o e=>?_,os,bare⟩
    cases q:H b with
    | none=>exact un.keep b o e q (by intro z;exact absurd (show b∈([]:List Addr) from z) (by simp)) (by simp)
    | some u =>
     rcases hO b with z | ⟨ob,xs,z⟩
     ·rw [q] at z;cases z
     ·have z2:=un.frzs b ob _ z
      obtain⟨e1,_⟩:=hok b _ z
      obtain⟨e2,_⟩:=hok' b _ z2
      rw [e] at e1;cases e1
      exact e2
 cases hk:K.lookup a with
 | some o =>
  -- the script is one of the module's own objects
  have e:=KX a o hk
  rw [ha] at e
  cases e
  refine core (λ_=>none) (λ_=>.inl rfl) (.inr ⟨_,vs.toArray,_,hk,rfl,rfl,rfl,by rw [List.size_toArray,lenV];exact hl,by simpa using rv⟩) (λb u z=>by have z':(none:Option HO)=some u:=z;cases z') (λb z=>absurd rfl z) λz=>absurd rfl z
 | none =>
  refine core (λb=>if b=a then some (.frz { cls:=.type "list",data:=.seq vs.toArray } (.lst (ns.map V.int))) else none) (λb=>?_) (.inl (.inr ⟨{ cls:=.type "list",data:=.seq vs.toArray },if_pos rfl⟩)) (λb u z=>?_) (λb z=>?_) λ_=>hk
  ·by_cases hb:b=a
   ·exact .inr ⟨_,_,if_pos hb⟩
   ·exact .inl (if_neg hb)
  ·by_cases hb:b=a
   ·have z':=(if_pos hb).symm.trans z
    cases z'
    subst hb
    exact⟨ha,by rw [List.length_map];exact hl,vs,_,rv,ha⟩
   ·have z':=(if_neg hb).symm.trans z
    cases z'
  ·by_cases hb:b=a
   ·exact hb
   ·exact absurd (if_neg hb) z
abbrev dG {K:PySem.W.Frag} {h:Heap} (_:K.In h):PySem.W.Frag:=K
theorem qE {l:PySem.W.OpenLaw} {n k:Nat} {q:Program} {loose:List Str} {XP:(Str->Option Value)->Heap->Prop} {YP:World->Heap->Prop} {d:DefRec} {K:Params->PySem.W.Frag} {CX:World->jJ} {sp:World->Sp} {x:Str}
  (hn:l.most=some n) (hn2:n<=sizeLine) (hdf:d.params.defaults=[]) (hr:bW k callerA)
  (hY:∀(w:World) (h:Heap),YP w h->(K w.params).In h)
  (F:∀(w:World) (mg:Str->Option Value) (fa:Addr) (h:Heap),(K w.params).In h->h.Ns mainGlobals mg->mg d.name=some (.ref fa) ->
   ∃ fd:FuncData,(∀(s:Shared) (u:Value),BindsTo s fd ⟨[u],[]⟩ [(x,u)]) /\
    ∀ base:Heap,(K w.params).In base->base.Ns mainGlobals mg->cL l.prog w (K w.params) mg base (CX w) k fa fd [x] (sp w))
  (hsp:∀(w:World) (H:Hp) (a:Addr) (ns:List Int),ns.length<=n->uL H->aS (K w.params) H a (ns.map V.int)->sp w [.ref a] H (λv _=>v=.bl true) λ_ _ _=>False)
  (hCX:∀(w:World) (H:Hp) (s:Shared) (e:Value) (s':Shared),CX w [] H s (λ_ _ _=>False) e s'->False) :
  PySem.W.WalkO q loose XP YP l.row.toRowW d [] (λf vs=>PySem.call f vs):=by
 refine Att.mw hn hdf λw s₀ s₁ mg mb fa o pm cd doc a vs ns G Y ho hd hcd hmg hobj hints hlen hg=>?_
 have KX:=hY w _ Y
 obtain⟨fd,hb,hF⟩:=F w mg fa _ KX G.T.g hmg
 exact sP KX G.T.g G.T.b G.T.builtins G.T.nolimit hg hobj hints (Nat.le_trans hlen hn2) hr hF hb (λH hO hS=>hsp w H a ns hlen hO hS) λH e s'=>hCX w H s₁ e s'
theorem uB {l:PySem.W.OpenLaw} {n k:Nat} {q:Program} {loose:List Str} {XP:(Str->Option Value)->Heap->Prop} {YP:World->Heap->Prop} {d:DefRec} {K:Params->PySem.W.Frag} {CX:jJ} {sp:PySem.W.Frag->Sp} {x:Str}
  (hn:l.most=some n) (hn2:n<=sizeLine) (hdf:d.params.defaults=[]) (hr:bW k callerA)
  (hY:∀(w:World) (h:Heap),YP w h->(K w.params).In h)
  (F:∀(w:World) (mg:Str->Option Value) (fa:Addr) (h:Heap),(K w.params).In h->h.Ns mainGlobals mg->mg d.name=some (.ref fa) ->
   ∃ fd:FuncData,(∀(s:Shared) (u:Value),BindsTo s fd ⟨[u],[]⟩ [(x,u)]) /\
    ∀ base:Heap,(K w.params).In base->base.Ns mainGlobals mg->cL l.prog w (K w.params) mg base CX k fa fd [x] (sp (K w.params)))
  (hsp:∀(K:PySem.W.Frag) (H:Hp) (a:Addr) (ns:List Int),ns.length<=n->uL H->aS K H a (ns.map V.int)->sp K [.ref a] H (λv _=>v=.bl true) λ_ _ _=>False)
  (hCX:∀(H:Hp) (s:Shared) (e:Value) (s':Shared),CX [] H s (λ_ _ _=>False) e s'->False) :
  PySem.W.WalkO q loose XP YP l.row.toRowW d [] (λf vs=>PySem.call f vs) :=
 qE (K:=K) (CX:=λ_=>CX) (sp:=λw=>sp (K w.params)) hn hn2 hdf hr hY F (λw H a ns h1 h2 h3=>hsp (K w.params) H a ns h1 h2 h3) λ_ H s e s'=>hCX H s e s'
end L2
/- THE LAST THEOREM (shape;LID,My.* are yours):
   My.Adr: a structure of the addresses that your layer names (classes,functions);My.Txt K t: a structure (Prop) of the equations over K;
   My.txt_mk:{K} {implicit addresses ..} (e1:nsIn K mainGlobals "law"=some (some (.ref f))) (e2:K.lookup f=some ⟨oc,od,.func (fnOf "law" "law" params body scope dV kV doc pm an cdv ct),sl⟩) (e3:codeIn K cdv "law"=true) ..:∃ t,My.Txt K t
set_option maxRecDepth 100000 in
set_option maxHeartbeats 0 in
theorem PySem.Challenge.cw_LID_holds : PySem.Challenge.rw_LID.Holds := by
 w_on;o_law;k_head;(case hw=>w_witness2)
 k_fill
 refine L2.qE (l:=PySem.Challenge.rw_LID) (n:=63) (k:=40) (x := "script") (CX:=λw=>..) (sp:=λ_=>My.sp_law) rfl (by decide) rfl ⟨rfl,by decide,by decide⟩ (λw h Y=>PySem.W.kIn_of Y) ?F ?S ?C
 case F =>
  intro w mg fa h KX G hmg
  have T:∃ t,My.Txt (L2.dG KX) t:=by
   dsimp only [L2.dG]                          -- K must stand as «<heap const> w.params» for k_is
   refine' My.txt_mk ?e1 ?e2 ?e3 ..
   (case e1=>PySem.W.k_is)                    -- in the order: a name -> its address -> its object -> its parts
   (case e2=>PySem.W.k_is)
   ..
  obtain⟨t,T⟩:=T
  have e0:=hmg.symm.trans (PySem.W.mg_of KX G T.law)
  cases e0                                       -- fa is the law's own address
  exact⟨_,λs u=>.of_eq rfl,λbase kb nb=>My.law_fn T kb nb⟩     -- if «.of_eq rfl» comes too early: refine' ⟨_,?b,λbase kb nb=>My.law_fn T kb nb⟩;exact λs u=>.of_eq rfl
 case S=>exact λw H a ns hl hO hS=>..
 case C=>exact ..
(the tactic k_is has no namespace: write k_is) -/
namespace L2
open PySem PySem.Spec PyProof.Rows
def inClass (s:Stmt) (j:Nat):Stmt:=match s with
 | .ClassDef _ _ _ body _ _ _ _ _ _ _=>body.getD j (.Pass ⟨0,0,0,0⟩)
 | _=>.Pass ⟨0,0,0,0⟩
def bO (s:Stmt):Arguments:=match s with
 | .FunctionDef _ a _ _ _ _ _ _ _ _=>a
 | _=>{ posonlyargs:=[],args:=[],vararg:=none,kwonlyargs:=[],kw_defaults:=[],kwarg:=none,defaults:=[] }
def aQ (s:Stmt):List Stmt:=match s with
 | .FunctionDef _ _ b _ _ _ _ _ _ _=>b
 | _=>[]
def ai (s:Stmt):Scope:=match s with
 | .FunctionDef _ _ _ _ _ _ sc _ _ _=>sc
 | _=>{ kind:=.function,names:=[],isGenerator:=false,isCoroutine:=false }
abbrev aO:jJ:=λ_ _ _ _ _ _=>False
abbrev E0:XK:=λ_ _ _=>False
theorem aD {X:Cx}:Passes aO X E0:=λ_ _ _ _ _ _ _ h=>h.elim
structure uG (K:PySem.W.Frag) (x qual:Str) (st:Stmt) (f:Addr) (fd:FuncData):Prop where
 ex:∃(oc:Value) (od:Option Addr) (kV doc pm:Value) (an:Option Addr) (cdv ct:Value) (osl:Array (Option Value)),
  fd=PySem.W.fnOf x qual (bO st) (aQ st) (ai st) .none kV doc pm an cdv ct/\K.lookup f=some ⟨oc,od,.func fd,osl⟩/\PySem.W.codeIn K cdv qual=true
 kp:PySem.W.keepIn K (.ref f)=true
section
variable {P:Program} {w:World} {K:PySem.W.Frag} {mg:Str->Option Value} {base:Heap}
theorem uG.ok {x qual:Str} {st:Stmt} {f:Addr} {fd:FuncData} {N ps:List Str} {k:Nat} {sp:Sp} (F:uG K x qual st f fd) (S:aw N ps (ai st)) (len:∀ vs H Q E,sp vs H Q E->vs.length=ps.length)
  (hbody:∀(cdv:Value) (A:Around) (outer:List Env) (s:Shared) (H:Hp) (vs:List V) (Q:VK) (E:XK),bW k (A.deeper (envOfC qual (ai st) s.heap.objs.size f cdv))->sp vs H Q E ->
   ∃ t,jL (dH aO P w K mg base N qual (ai st) f cdv A outer s H E).pW (aQ st) t/\t { nx:=λ_ H'=>Q .non H',rt:=Q } (start N vs) H):cL P w K mg base aO (k+1) f fd ps sp:=by
 obtain⟨oc,od,kV,doc,pm,an,cdv,ct,osl,rfl,lk,hcd⟩:=F.ex
 refine wt lk hcd S len λA outer s H vs Q E hr hsp=>?_
 obtain⟨t,h,q⟩:=hbody cdv A outer s H vs Q E hr hsp
 exact⟨t,h.pW,q⟩
theorem uG.binds {x qual:Str} {st:Stmt} {f:Addr} {fd:FuncData} {ps:List Str} (F:uG K x qual st f fd)
  (h:∀(kV doc pm:Value) (an:Option Addr) (cdv ct:Value) (us:List Value),us.length=ps.length->bindArgs (PySem.W.fnOf x qual (bO st) (aQ st) (ai st) .none kV doc pm an cdv ct) ⟨us,[]⟩=pure (ps.zip us)):Binds K fd ps []:=by
 obtain⟨oc,od,kV,doc,pm,an,cdv,ct,osl,rfl,lk,hcd⟩:=F.ex
 exact .all (h kV doc pm an cdv ct)
theorem sG {x qual:Str} {st:Stmt} {f:Addr} {oc:Value} {od an:Option Addr} {osl:Array (Option Value)} {kV doc pm cdv ct:Value} (l:K.lookup f=some ⟨oc,od,.func (PySem.W.fnOf x qual (bO st) (aQ st) (ai st) .none kV doc pm an cdv ct),osl⟩)
  (c:PySem.W.codeIn K cdv qual=true) (k:PySem.W.keepIn K (.ref f)=true):uG K x qual st f (PySem.W.fnOf x qual (bO st) (aQ st) (ai st) .none kV doc pm an cdv ct):=⟨⟨oc,od,kV,doc,pm,an,cdv,ct,osl,rfl,l,c⟩,k⟩
end
theorem fA {A:Around} {k:Nat} (hr:bW k A):A.units+1<cLine:=Nat.lt_of_le_of_lt (Nat.add_le_add_left (by decide:1<=64) _) hr.units
section
variable {X:Cx}
theorem pv (i:Nat) {x:Str} {pos:Pos} (hN:X.N[i]?=some x:=by rfl) (hv:yF X.env.scope x:=by first | exact Or.inl rfl | exact Or.inr (Or.inl rfl) | exact Or.inr (Or.inr rfl)) (hd:(x==("__debug__":Str))=false:=by decide)
  (hcd:(x==("__classdict__":Str))=false:=by decide):PE X (.Name x pos) (rM i):=oU hN hv hd hcd
end
theorem aP {c A B:Prop} [Decidable c] (h1:c->A) (h2:¬c->B):if c then A else B:=by
 by_cases h:c
 ·rw [if_pos h]
  exact h1 h
 ·rw [if_neg h]
  exact h2 h
def az (H H':Hp):Prop:=∀ b o,H b=some o->H' b=some o
theorem az.refl (H:Hp):az H H:=λ_ _ h=>h
theorem az.trans {H H1 H2:Hp} (a:az H H1) (b:az H1 H2):az H H2:=λc o h=>b c o (a c o h)
theorem az.free {H H':Hp} (e:az H H') {l:Addr} (h:H' l=Option.none):H l=Option.none:=by
 cases q:H l with
 | none=>rfl
 | some o =>
  rw [e l o q] at h
  cases h
theorem az.seq {K:PySem.W.Frag} {H H':Hp} {a:Addr} {xs:List V} (e:az H H') (h:aS K H a xs):aS K H' a xs:=by
 rcases h with (h | ⟨o,h⟩) | h
 ·exact .inl (.inl (e _ _ h))
 ·exact .inl (.inr ⟨o,e _ _ h⟩)
 ·exact .inr h
end L2
set_option maxHeartbeats 1000000
namespace L2
open PySem PySem.Spec PyProof.Rows
theorem kT {Ex:Value->Shared->Prop} {prog:Program} {w:World} {A:Around} {R:Result->Shared->Prop} {s:Shared} {elt target:Expr} {gens:List Comprehension} {scope:Scope} {pos ps:Pos} {ifs:List Expr} {d:Nat} {B:Sem Unit} {it acc:Value} {env:Env} (I:Nat->Shared->Prop)
  (ht:compTurn (.ListComp elt gens scope pos) d it acc env=(do
   standAt ps
   match <- pyNext it with
   | none=>pure (.done .next)
   | some v =>
    letOwnedTupleGo target it v
    assign target env v
    let mut ok:=true
    for c in ifs do
     if ok then ok <- isTrue c env (eval c env)
    if ok then B
    again (.compLoop (.ListComp elt gens scope pos) d it acc env)))
  (turn:∀ n s,I n s->wpAny (model prog w) A (pyNext it) (λr s₁=>match r with
   | none=>R (.ok .next) s₁
   | some v=>wpAny (model prog w) A (letOwnedTupleGo target it v) (λ_ s₁'=>wpAny (model prog w) A (assign target env v) (λ_ s₂ =>
     wpAny (model prog w) A (forIn ifs true λc r=>if r=true then do let ok <- isTrue c env (eval c env);pure (ForInStep.yield ok) else pure (ForInStep.yield r)) (λok s₃ =>
      if ok=true then wpAny (model prog w) A B (λ_ s₅=>∃ m,m<n/\I m s₅) Ex s₃
      else ∃ m,m<n/\I m s₃) Ex s₂) Ex s₁') Ex s₁) Ex s)
  (n:Nat) (h:I n s) (hE:∀ e s',Ex e s'->notedBy (model prog w) A env (λe s''=>R (.error e) s'') e s') :
  codeAny (model prog w) A (.compLoop (.ListComp elt gens scope pos) d it acc env) R s:=by
 refine codeAny_loop rfl I (λn s hI=>?_) n h
 show wpAny _ A ((compTurn (.ListComp elt gens scope pos) d it acc env).onRaise (λx=>do noteFrame x env;theTreesLotGoes x)) _ _ s
 refine wpAny_noted ?_
 rw [ht]
 refine wpAny_bind (wpAny_standAt (wpAny_bind (wpAny_mono (turn n s hI) (λr s₁ h₁=>?_) λ_ _ h'=>hE _ _ h')))
 cases r with
 | none=>exact wpAny_pure h₁
 | some v =>
  refine wpAny_bind (wpAny_mono h₁ (λ_ s₁' h₁'=>?_) λ_ _ h'=>hE _ _ h')
  refine wpAny_bind (wpAny_mono h₁' (λ_ s₂ h₂=>wpAny_bind (wpAny_mono h₂ (λok s₃ h₃=>?_) λ_ _ h'=>hE _ _ h')) λ_ _ h'=>hE _ _ h')
  cases ok with
  | false=>exact wpAny_pure ⟨rfl,h₃⟩
  | true=>exact wpAny_bind (wpAny_mono h₃ (λ_ s₅ h₅=>wpAny_pure ⟨rfl,h₅⟩) λ_ _ h'=>hE _ _ h')
def o9 (elt:Expr) (acc:Value) (env:Env):Sem Unit:=do let _ <- call (.builtin "list.append") [acc,<- eval elt env]
theorem uv (elt target iter:Expr) (ifs:List Expr) (scope:Scope) (pos:Pos) (it acc:Value) (env:Env) :
  compTurn (.ListComp elt [⟨target,iter,ifs,0⟩] scope pos) 0 it acc env=(do
   standAt iter.pos
   match <- pyNext it with
   | none=>pure (.done .next)
   | some v =>
    letOwnedTupleGo target it v
    assign target env v
    let mut ok:=true
    for c in ifs do
     if ok then ok <- isTrue c env (eval c env)
    if ok then o9 elt acc env
    again (.compLoop (.ListComp elt [⟨target,iter,ifs,0⟩] scope pos) 0 it acc env)):=by rfl
def bI (X:Cx) (Ex:Value->Shared->Prop) (N':List Str) (scope:Scope) (cl:List (Str × Addr)) (C:Addr) (s₂:Shared) (H₂:Hp) (fp:List Addr):Cx :=
 { X with N:=N',s₀:=s₂,H₀:=H₂,env:=compEnvC scope (cellsFrom (C+1) scope.names cl) C X.env,outer:=X.stack,stack:=X.stack,ex:=fp,fn:=λx=>scope.names.lookup x==some .cell,pn:=[],xe:=Ex }
abbrev fN (X:Cx):=bI X λ_ _=>False
def AllIn (env:Env):List (Str × Addr)->Prop
 | []=>True
 | p::r=>env.cells.lookup p.1=some p.2/\AllIn env r
theorem AllIn.get {env:Env}:∀{l:List (Str × Addr)},AllIn env l->∀ y c,l.lookup y=some c->env.cells.lookup y=some c
 | [],_,_,_,h=>by simp at h
 | (z,d)::r,a,y,c,h=>by
  rw [List.lookup_cons] at h
  cases e:y==z with
  | true =>
   rw [e] at h
   have q:y=z:=by simpa using e
   subst q
   cases h
   exact a.1
  | false =>
   rw [e] at h
   exact AllIn.get a.2 y c h
def dc (js:List (Option Nat)) (σ:St):St:=js.map λo=>match o with | none=>none | some j=>(σ[j]?).join
structure fK (X:Cx) (N':List Str) (js:List (Option Nat)) (scope:Scope) (cl:List (Str × Addr)):Prop where
 clos:closureFor scope X.env=pure cl
 kind:scope.kind=.function
 nocell:∀ y∈scope.names,y.2=.cell->scope.names.lookup y.1=some .cell/\∀ p∈js.zip N',p.1.isSome=true->p.2≠y.1
 names:∀ y∈scope.names,y.2=.local->scope.names.lookup y.1=some .local
 sub:AllIn X.env cl
 has:∀ y∈scope.names,y.2=.free->(cl.lookup y.1).isSome=true
 jlen:js.length=N'.length
 jok:∀(i j:Nat) x,js[i]?=some (some j)->N'[i]?=some x->X.N[j]?=some x/\(cl.lookup x).isSome=true/\yF X.env.scope x/\X.env.kindOf x≠some .local/\((relabel scope X.env).names.lookup x=some .cell∨(relabel scope X.env).names.lookup x=some .free)
theorem iq {scope:Scope} {env:Env} {x:Str} {k:NameKind} (h:(relabel scope env).names.lookup x=some k) (hk:k=.cell∨k=.free):∃ y∈scope.names,y.1=x/\(y.2=.free∨y.2=.cell):=by
 have hm:=PySem.mem_of_lookup h
 obtain⟨⟨n,q⟩,hm',e⟩:=List.mem_map.mp hm
 dsimp only at e
 split at e
 ·rename_i hc
  have e1:n=x:=congrArg Prod.fst e
  refine⟨(n,q),hm',e1,.inl ?_⟩
  have:(q==NameKind.free)=true:=by
   simp only [Bool.and_eq_true] at hc
   exact hc.1.1
  simpa using this
 ·have e1:n=x:=congrArg Prod.fst e
  have e2:q=k:=congrArg Prod.snd e
  refine⟨(n,q),hm',e1,?_⟩
  rcases hk with hk | hk
  ·exact .inr (e2.trans hk)
  ·exact .inl (e2.trans hk)
theorem fX {x:Str} {c:Addr}:∀(ns:List (Str × NameKind)) (n:Nat) (acc:List (Str × Addr)),(cellsFrom n ns acc).lookup x=some c->acc.lookup x=some c∨n<=c
 | [],_,_,h=>.inl h
 | (y,k)::r,n,acc,h=>by
  unfold cellsFrom at h
  split at h
  ·rcases fX r _ _ h with z | z
   ·rw [List.lookup_cons] at z
    split at z
    ·cases z;exact .inr (Nat.le_refl _)
    ·exact .inl z
   ·exact .inr (Nat.le_of_succ_le z)
  ·exact fX r _ _ h
theorem oi {x:Str} {c:Addr}:∀(ns:List (Str × NameKind)) (n:Nat) (acc:List (Str × Addr)),ns.lookup x=some .cell->(cellsFrom n ns acc).lookup x=some c->n<=c
 | [],_,_,h,_=>by cases h
 | (y,k)::r,n,acc,h,e=>by
  rw [List.lookup_cons] at h
  unfold cellsFrom at e
  split at h
  ·rename_i hy
   cases h
   rcases fX r _ _ e with z | z
   ·rw [List.lookup_cons,hy] at z
    cases z;exact Nat.le_refl _
   ·exact Nat.le_of_succ_le z
  ·split at e
   ·exact Nat.le_of_succ_le (oi r _ _ h e)
   ·exact oi r _ _ h e
theorem kR {x:Str}:∀(ns:List (Str × NameKind)) (n:Nat) (acc:List (Str × Addr)),(∀ y∈ns,y.2=.cell->x≠y.1)->(cellsFrom n ns acc).lookup x=acc.lookup x
 | [],_,_,_=>rfl
 | (y,k)::r,n,acc,h=>by
  unfold cellsFrom
  split
  ·rename_i hk
   rw [kR r _ _ λz hz=>h z (List.mem_cons_of_mem _ hz),List.lookup_cons]
   have:(x==y)=false:=by simpa using h (y,k) List.mem_cons_self (by simpa using hk)
   rw [this]
  ·exact kR r _ _ λz hz=>h z (List.mem_cons_of_mem _ hz)
theorem oh:∀(ns:List (Str × NameKind)) (n:Nat) (acc:List (Str × Addr)),(∀ x c,acc.lookup x=some c->c<n)->(∀ x y c,acc.lookup x=some c->acc.lookup y=some c->x=y) ->
  ∀ x y c,(cellsFrom n ns acc).lookup x=some c->(cellsFrom n ns acc).lookup y=some c->x=y
 | [],_,_,_,h=>h
 | (z,k)::r,n,acc,hl,hi=>by
  unfold cellsFrom
  split
  ·refine oh r _ _ (λx c e=>?_) λx y c e1 e2=>?_
   ·rw [List.lookup_cons] at e
    split at e
    ·cases e;exact Nat.lt_succ_self _
    ·exact Nat.lt_succ_of_lt (hl x c e)
   ·rw [List.lookup_cons] at e1 e2
    split at e1<;>split at e2
    ·rename_i a _ b
     rw [eq_of_beq a,eq_of_beq b]
    ·cases e1;exact absurd (hl y _ e2) (Nat.lt_irrefl _)
    ·cases e2;exact absurd (hl x _ e1) (Nat.lt_irrefl _)
    ·exact hi x y c e1 e2
  ·exact oh r _ _ hl hi
theorem kQ:∀(ns:List (Str × NameKind)) (h:Heap) (acc:List (Str × Addr)),(∀ x c,acc.lookup x=some c->∃ v,h.IsCell c v)->∀ x c,(cellsFrom h.objs.size ns acc).lookup x=some c->∃ v,(pushCells h ns).IsCell c v
 | [],_,_,h=>h
 | (z,k)::r,h,acc,hl=>by
  unfold cellsFrom pushCells
  split
  ·have:=kQ r (h.push { cls:=.type "cell",data:=.cell none }) ((z,h.objs.size)::acc) λx c e=>by
    rw [List.lookup_cons] at e
    split at e
    ·cases e;exact⟨none,_,Heap.get?_push_size _ rfl,rfl⟩
    ·obtain⟨v,q⟩:=hl x c e
     exact⟨v,q.keeps λb o e=>Heap.get?_push_of_some _ e⟩
   rwa [Heap.size_push] at this
  ·exact kQ r h acc hl
theorem jV {M:Model} {A:Around} {E:Value->Shared->Prop} {s:Shared} {scope:Scope} {g:Addr} {cl:List (Str × Addr)} {qual:Str} {env:Env} {Q:Env->Shared->Prop}
  (h:Q (newEnv scope s.heap.objs.size g (cellsFrom (s.heap.objs.size+1) scope.names cl) qual none .none (some env) builtinsNs) { s with heap:=pushCells (s.heap.push { cls:=.type "dict",data:=.dict #[] }) scope.names }) :
  wpAny M A (newFunctionEnv scope g cl [] qual none .none (some env)) Q E s:=by
 simp only [newFunctionEnv,Option.isSome_some,if_true]
 refine wpAny_bind (wpAny_alloc ?_)
 refine wpAny_bind (wpAny_layCells _ (λname kind cells=>by cases hkc:kind==NameKind.cell<;>simp [hkc]) _ _ _ _ ?_)
 rw [show ({ s with heap:=s.heap.push { cls:=.type "dict",data:=.dict #[] } }:Shared).heap.objs.size=s.heap.objs.size+1 from Heap.size_push ..]
 exact wpAny_bind (wpAny_pure (wpAny_pure h))
def lobj (ys:List Value):Obj:={ cls:=.type "list",data:=.seq ys.toArray ys.length }
def nV (X:Cx) (ifs:List Expr) (t:TT):Prop :=
 ∀(pins:List (Addr × Obj)) (s:Shared) (σ:St) (H:Hp) (Q:Bool->Hp->Prop),Inv X pins σ H s->t σ H Q ->
  wpAny (model X.prog X.w) X.A (forIn ifs true λc r=>if r=true then do let ok <- isTrue c X.env (eval c X.env);pure (ForInStep.yield ok) else pure (ForInStep.yield r)) (TP X pins σ Q) X.xe s
def uk:TT:=λ_ H Q=>Q true H
theorem bA {X:Cx}:nV X [] uk:=λpins s σ H Q I h=>wpAny_tests_nil ⟨H,I,h⟩
theorem nq {X:Cx} {c:Expr} {t:TT} (h:PT X c t):nV X [c] t:=λpins s σ H Q I q=>wpAny_tests_one (h pins s σ H Q I q)
def bK:List (Option V)->List (Option V)->Prop
 | [],[]=>True
 | none::r,_::r'=>bK r r'
 | some v::r,some u::r'=>u=v/\bK r r'
 | _,_=>False
theorem bK.len:∀{a b:List (Option V)},bK a b->a.length=b.length
 | [],[],_=>rfl
 | none::r,_::r',h=>by simp [bK.len (a:=r) (b:=r') h]
 | some v::r,some u::r',h=>by simp [bK.len (a:=r) (b:=r') h.2]
 | some v::r,none::r',h=>h.elim
 | some v::r,[],h=>h.elim
 | none::r,[],h=>h.elim
 | [],_::_,h=>h.elim
theorem bK.get:∀{a b:List (Option V)},bK a b->∀(i:Nat) v,a[i]?=some (some v)->b[i]?=some (some v)
 | [],[],_,i,v,h=>by simp at h
 | none::r,_::r',h,0,v,e=>by simp at e
 | none::r,_::r',h,i+1,v,e=>by
  have:=bK.get (a:=r) (b:=r') h i v (by simpa using e)
  simpa using this
 | some v::r,some u::r',h,0,v',e=>by
  have q:v=v':=by simpa using e
  have:=h.1
  simp [this,q]
 | some v::r,some u::r',h,i+1,v',e=>by
  have:=bK.get (a:=r) (b:=r') h.2 i v' (by simpa using e)
  simpa using this
 | some v::r,none::r',h,_,_,_=>h.elim
 | some v::r,[],h,_,_,_=>h.elim
 | none::r,[],h,_,_,_=>h.elim
 | [],_::_,h,_,_,_=>h.elim
def Ac (js:List (Option Nat)) (wi:TI) (g:TG) (tt:TT) (te:TE):TE:=λσ H Q=>wi σ H λJ H1=>∃ W:Nat->Nat->List V->Hp->Prop,(∃ m,W 0 m [] H1)/\∀ i m ys H,W i m ys H ->
 (J.stop i H/\ys.length<=sizeLine/\∀ p,H p=none->Q (.ref p) (upd H p (.lst ys))) ∨
 (J.go i H/\ys.length<sizeLine/\∃ N:List V->Hp->Prop,(∀ ys' H',N ys' H'->∃ m',m'<m/\W (i+1) m' ys' H') /\
  ∀ x H',J.yld i H x H'->g x (dc js σ) H' λσ2 H2=>bK (dc js σ) σ2/\tt σ2 H2 λb H3=>if b=true then te σ2 H3 λv H4=>N (ys++[v]) H4 else N ys H3)
structure jK (X:Cx) (C:Addr) (s₂:Shared) (H₂:Hp) (fp:List Addr):Prop where
 inv:∃ pins σ,Inv X pins σ H₂ s₂
 new:∀ b∈fp,X.s₀.heap.objs.size<=b∨b∈X.ex
 nof:∀ b∈fu X.stack,b∉fp
 le:s₂.heap.objs.size<=C
def xt (X:Cx) (elt target:Expr) (gens:List Comprehension) (ifs:List Expr) (scope:Scope) (pos:Pos) (Bd:(Value->Shared->Prop)->Value->Env->(Shared->Prop)->Shared->Prop):Prop :=
 ∀(Ex:Value->Shared->Prop) (R:Result->Shared->Prop) (s:Shared) (it acc:Value) (env:Env) (I:Nat->Shared->Prop),
  (∀ n s,I n s->wpAny (model X.prog X.w) X.A (pyNext it) (λr s₁=>match r with
   | none=>R (.ok .next) s₁
   | some v=>wpAny (model X.prog X.w) X.A (letOwnedTupleGo target it v) (λ_ s₁'=>wpAny (model X.prog X.w) X.A (assign target env v) (λ_ s₂ =>
     wpAny (model X.prog X.w) X.A (forIn ifs true λc r=>if r=true then do let ok <- isTrue c env (eval c env);pure (ForInStep.yield ok) else pure (ForInStep.yield r)) (λok s₃ =>
      if ok=true then Bd Ex acc env (λs₅=>∃ m,m<n/\I m s₅) s₃ else ∃ m,m<n/\I m s₃) Ex s₂) Ex s₁') Ex s₁) Ex s) ->
  ∀ n,I n s->(∀ e s',Ex e s'->notedBy (model X.prog X.w) X.A env (λe s''=>R (.error e) s'') e s')->codeAny (model X.prog X.w) X.A (.compLoop (.ListComp elt gens scope pos) 0 it acc env) R s
structure oZ (Y:Cx) (D:Addr) (P:List (Addr × Obj)):Prop where
 ne:∀ p∈P,p.1≠D
 new:Y.s₀.heap.objs.size<=D
 cell:∀ x c,Y.env.cells.lookup x=some c->c≠D
theorem xS {X:Cx} {Ex:Addr->Shared->Hp->List Addr->Value->Shared->Prop} {elt target iter:Expr} {rest:List Comprehension} {ifs:List Expr} {scope:Scope} {pos:Pos} {N':List Str} {js:List (Option Nat)} {cl:List (Str × Addr)} {g:TG} {tt:TT} {Cc:List V->Prop} {tb:List V->St->Hp->(List V->Hp->Prop)->Prop} {Bd:(Value->Shared->Prop)->Value->Env->(Shared->Prop)->Shared->Prop} (hcalm:X.calm=true) (hloop:xt X elt target (⟨target,iter,ifs,0⟩::rest) ifs scope pos Bd)
  (K:fK X N' js scope cl)
  (hg:∀ C s₂ H₂ fp,jK X C s₂ H₂ fp->PG (bI X (Ex C s₂ H₂ fp) N' scope cl C s₂ H₂ fp) target g) (ht:∀ C s₂ H₂ fp,jK X C s₂ H₂ fp->nV (bI X (Ex C s₂ H₂ fp) N' scope cl C s₂ H₂ fp) ifs tt) (hB:∀ C s₂ H₂ fp,jK X C s₂ H₂ fp->∀(D:Addr) ys vys P σ H s N Ps,Inv (bI X (Ex C s₂ H₂ fp) N' scope cl C s₂ H₂ fp) ([(D,lobj ys)]++P) σ H s->Vals vys ys->oZ (bI X (Ex C s₂ H₂ fp) N' scope cl C s₂ H₂ fp) D P->Cc vys->tb vys σ H N ->
   (∀ ys' vys' H' s',Inv (bI X (Ex C s₂ H₂ fp) N' scope cl C s₂ H₂ fp) ([(D,lobj ys')]++P) σ H' s'->Vals vys' ys'->N vys' H'->Ps s')->Bd (Ex C s₂ H₂ fp) (.ref D) (bI X (Ex C s₂ H₂ fp) N' scope cl C s₂ H₂ fp).env Ps s)
  (herr:∀ C s₂ H₂ fp use Q' acc e s',Ex C s₂ H₂ fp e s'->notedBy (model X.prog X.w) X.A (compEnvC scope (cellsFrom (C+1) scope.names cl) C X.env) (λe s''=>compPost (model X.prog X.w) X.A X.xe use Q' acc C (.error e) s'') e s')
  {pins:List (Addr × Obj)} {σ:St} {Q:VK} {use:Option (Value->Sem Unit)} {Q':Value->Shared->Prop} {itv:Value} {s2:Shared}
  (h2:z7 X pins σ target (λJ H1=>∃ W:Nat->Nat->List V->Hp->Prop,(∃ m,W 0 m [] H1)/\∀ i m ys H,W i m ys H ->
 (J.stop i H/\ys.length<=sizeLine/\∀ p,H p=none->Q (.ref p) (upd H p (.lst ys))) ∨
 (J.go i H/\Cc ys/\∃ N:List V->Hp->Prop,(∀ ys' H',N ys' H'->∃ m',m'<m/\W (i+1) m' ys' H') /\
  ∀ x H',J.yld i H x H'->g x (dc js σ) H' λσ2 H2=>bK (dc js σ) σ2/\tt σ2 H2 λb H3=>if b=true then tb ys σ2 H3 N else N ys H3)) itv s2)
  (hok:∀ C D vys H4 s5,(∃ m,s5.heap.Ns C m)->s2.heap.objs.size<=D->D<=C->D≠C->H4 D=none->H4 C=none->(∀ h',Heap.SameBut C s5.heap h'->Inv X pins σ (upd H4 D (.lst vys)) { s5 with heap:=h' })->Q (.ref D) (upd H4 D (.lst vys))->compPost (model X.prog X.w) X.A X.xe use Q' (.ref D) C (.ok .next) s5) :
  wpAny (model X.prog X.w) X.A (newList []) (λacc s₃=>wpAny (model X.prog X.w) X.A (newFunctionEnv scope X.env.globals cl [] X.env.qual none .none (some X.env)) (λcenv s₄ =>
   codeAny (model X.prog X.w) X.A (.compStart (.ListComp elt (⟨target,iter,ifs,0⟩::rest) scope pos) 0 itv acc { cenv with scope:=relabel scope X.env }) (compPost (model X.prog X.w) X.A X.xe use Q' acc cenv.locals) s₄) X.xe s₃) X.xe s2:=by
 obtain⟨it,fp,tn,J,H2,e,I2,T,st2,f2,W,⟨m0,w0⟩,turn⟩:=h2
 subst e
 refine wpAny_newObj_type (jV ?_)
 dsimp only
 generalize hP2:s2.heap.push { cls:=.type "list",dict:=none,data:=.seq ([]:List Value).toArray }=P2
 generalize hh₁:pushCells (P2.push { cls:=.type "dict",data:=.dict #[] }) scope.names=h₁
 have hns₁:h₁.Ns P2.objs.size λ_=>none:=hh₁▸(Heap.Ns.new P2 (.type "dict")).keeps (pushCells_keeps _ _)
 have upP:∀ b o,P2.get? b=some o->h₁.get? b=some o:=λb o e=>hh₁▸pushCells_keeps _ _ b o (Heap.get?_push_of_some _ e)
 have hcel:∀ x c,(cellsFrom (P2.objs.size+1) scope.names cl).lookup x=some c->∃ v,h₁.IsCell c v:=by
  have:=kQ scope.names (P2.push { cls:=.type "dict",data:=.dict #[] }) cl λx c e=>by
   obtain⟨v,q⟩:=I2.cell x c (K.sub.get x c e)
   exact⟨v,q.keeps λb o e=>Heap.get?_push_of_some _ (hP2▸Heap.get?_push_of_some _ e)⟩
  rw [Heap.size_push,hh₁] at this
  exact this
 have hC:P2.objs.size=s2.heap.objs.size+1:=by rw [<- hP2,Heap.size_push]
 have hDC:s2.heap.objs.size≠P2.objs.size:=by rw [hC];exact Nat.ne_of_lt (Nat.lt_succ_self _)
 have below:∀ b,b<s2.heap.objs.size->b≠P2.objs.size/\b≠s2.heap.objs.size:=λb hb=>⟨by rw [hC];exact Nat.ne_of_lt (Nat.lt_succ_of_lt hb),Nat.ne_of_lt hb⟩
 have old:∀ b o,s2.heap.get? b=some o->h₁.get? b=some o:=λb o e=>upP b o (hP2▸Heap.get?_push_of_some _ e)
 have hacc:h₁.get? s2.heap.objs.size=some (lobj []):=upP _ _ (hP2▸Heap.get?_push_size _ rfl)
 generalize hCe:P2.objs.size=C at *
 generalize hDe:s2.heap.objs.size=D at *
 let Y:Cx:=bI X (Ex C s2 H2 fp) N' scope cl C s2 H2 fp
 have clLt:∀ y c,cl.lookup y=some c->c<D:=λy c e=>by
  obtain⟨v,q⟩:=I2.cell y c (K.sub.get y c e)
  rw [<- hDe]
  exact q.lt
 have cellsX:∀ y c,Y.env.cells.lookup y=some c->cl.lookup y=some c∨C+1<=c:=λy c e=>fX _ _ _ e
 have cellNe:∀ y c,Y.env.cells.lookup y=some c->c≠D:=λy c e=>by
  rcases cellsX y c e with z | z
  ·exact Nat.ne_of_lt (clLt y c z)
  ·exact Nat.ne_of_gt (by omega)
 have freshH:∀ a,D<=a->H2 a=none:=λa ha=>I2.hok.fresh (by rw [hDe];exact ha)
 have hDleC:D<=C:=by rw [hC];exact Nat.le_succ _
 have lc:jK X C s2 H2 fp:=⟨⟨pins,σ,I2⟩,λb hb=>((f2 b hb).2.2.2.1).symm,λb hf hb=>by
   rcases List.mem_cons.mp (I2.eV b hf) with z | z
   ·exact (f2 b hb).2.1 z
   ·exact (f2 b hb).2.2.1 z,by rw [hDe];exact hDleC⟩
 have hbelowfp:∀ b∈fp,b<D:=λb hb=>by
  obtain⟨o,e,_⟩:=T.obj _ _ st2 b hb
  rw [<- hDe]
  exact Heap.lt_size e
 have okY:Y.Ok:=by
  refine⟨I2.ok.mod,K.kind,I2.ok.glob,I2.ok.blt,?_,oh _ _ _ (λx c e=>Nat.lt_succ_of_lt (Nat.lt_of_lt_of_le (clLt x c e) hDleC)) (λx y c e1 e2=>I2.ok.inj x y c (K.sub.get x c e1) (K.sub.get y c e2)),λx hx=>?_,λx c hf hc=>?_,I2.ok.hd,I2.ok.frames,.inl rfl,λb hb=>?_,I2.bs,Nat.le_trans I2.ok.bsz I2.sz,λb o e hb=>?_,λb hb hf=>?_,I2.stack,I2.gI⟩
  ·show s2.heap.objs.size<=C
   rw [hDe];exact hDleC
  ·have hx':(relabel scope X.env).names.lookup x=some .cell∨(relabel scope X.env).names.lookup x=some .free:=hx
   have:∃ y∈scope.names,y.1=x/\(y.2=.free∨y.2=.cell):=by
    rcases hx' with q | q
    ·exact iq q (.inl rfl)
    ·exact iq q (.inr rfl)
   obtain⟨y,hm,e1,e2⟩:=this
   refine Option.isSome_iff_exists.mp (PySem.W.cellsFrom_some _ _ _ ?_)
   rcases e2 with e2 | e2
   ·have q:=K.has y hm e2
    rw [e1] at q
    exact .inr q
   ·exact .inl (e1▸(K.nocell y hm e2).1)
  ·have hf':scope.names.lookup x=some .cell:=by simpa using (show (scope.names.lookup x==some .cell)=true from hf)
   have:=oi _ _ _ hf' hc
   show s2.heap.objs.size<=c
   rw [hDe];exact Nat.le_trans hDleC (Nat.le_of_succ_le this)
  ·refine⟨Nat.ne_of_lt (Nat.lt_of_lt_of_le (hbelowfp b hb) hDleC),λx c e=>?_⟩
   rcases cellsX x c e with z | z
   ·exact (f2 b hb).2.2.2.2.1 x c (K.sub.get x c z)
   ·exact Nat.ne_of_gt (Nat.lt_of_lt_of_le (Nat.lt_of_lt_of_le (hbelowfp b hb) hDleC) (Nat.le_of_succ_le z))
  ·rcases (f2 b hb).2.2.2.1 with z | z
   ·exact I2.ok.noex b o e z
   ·exact absurd (Nat.lt_of_lt_of_le (Heap.lt_size e) (Nat.le_trans I2.ok.bsz z)) (Nat.lt_irrefl _)
  ·rcases List.mem_cons.mp (I2.eV b hf) with z | z
   ·exact (f2 b hb).2.1 z
   ·exact (f2 b hb).2.2.1 z
 -- the block's names
 have locY:∀{s':Shared} {H':Hp} {σ':St},True:=λ{_ _ _}=>trivial
 have invY0:Inv Y [(D,lobj [])] (dc js σ) H2 { s2 with heap:=h₁ }:=by
  refine⟨okY,rfl,I2.bare,Un.kept old,⟨_,hns₁,λi x v e1 e2 vis=>?_⟩,hcel,freshH C hDleC,λy c e=>?_,λp hp=>?_,I2.hok.kept old,?_⟩
  ·-- a name of the block that has a value stands outside in a cell
   have e2':(dc js σ)[i]?=some (some v):=e2
   unfold dc at e2'
   rw [List.getElem?_map] at e2'
   cases ej:js[i]? with
   | none=>rw [ej] at e2';cases e2'
   | some o =>
    rw [ej] at e2'
    cases o with
    | none=>cases e2'
    | some j =>
     obtain⟨n1,n2,n3,n4,n5⟩:=K.jok i j x ej e1
     have e3:(σ[j]?).join=some v:=by simpa using e2'
     have e4:σ[j]?=some (some v):=by
      cases q:σ[j]? with
      | none=>rw [q] at e3;cases e3
      | some z=>rw [q] at e3;simpa using e3
     obtain⟨m,hn,hl⟩:=I2.loc
     obtain⟨u,r,l⟩:=hl j x v n1 e4 n3
     refine⟨u,r,.inr ⟨n5,?_⟩⟩
     rcases l with⟨k,_⟩|⟨k,c,ec,z⟩
     ·exact absurd k n4
     ·obtain⟨c',ec'⟩:=Option.isSome_iff_exists.mp n2
      have ee:=K.sub.get x c' ec'
      rw [ec] at ee
      cases ee
      refine⟨c,(kR _ _ _ λy hy hk=>(K.nocell y hy hk).2 (some j,x) ?_ rfl).trans ec',?_⟩
      ·exact List.mem_of_getElem? (i:=i) (by rw [List.getElem?_zip_eq_some];exact⟨ej,e1⟩)
      obtain⟨o,ho,hd⟩:=z
      exact⟨o,old c o ho,hd⟩
  ·rcases cellsX y c e with z | z
   ·exact I2.freeC y c (K.sub.get y c z)
   ·exact freshH c (by omega)
  ·have hp':p∈[(D,lobj [])]:=hp
   have e:p=(D,lobj []):=by simpa using hp'
   subst e
   refine⟨hacc,freshH D (Nat.le_refl _),hDC,λz=>?_,λv z=>by cases z⟩
   rcases List.mem_cons.mp (I2.eV D z) with q | q
   ·exact absurd (q▸I2.lt) (by rw [hDe];exact Nat.lt_irrefl _)
   ·exact I2.vq (by rw [hDe];exact Nat.le_refl _) q
  ·show (dc js σ).length=N'.length
   unfold dc
   rw [List.length_map]
   exact K.jlen
 have hDfs:D∉Y.fs:=λz=>by
  rcases List.mem_cons.mp (I2.eV D z) with q | q
  ·exact absurd (q▸I2.lt) (by rw [hDe];exact Nat.lt_irrefl _)
  ·exact I2.vq (by rw [hDe];exact Nat.le_refl _) q
 have stat:∀{H':Hp} {ys:List Value},(∀ b∈fp,H' b=none)->∀ b∈fp,kJ Y [(D,lobj ys)] H' b:=λ{H' ys} hn b hb=>by
  refine⟨hn b hb,Nat.ne_of_lt (Nat.lt_of_lt_of_le (hbelowfp b hb) hDleC),okY.exfs b hb,.inl hb,okY.exf b hb |>.2,λp hp=>?_⟩
  have hp':p∈[(D,lobj ys)]:=hp
  have e:p=(D,lobj ys):=by simpa using hp'
  subst e
  exact Nat.ne_of_gt (hbelowfp b hb)
 have loop:∀ s3:Shared,s3={ s2 with heap:=h₁ } ->
   codeAny (model X.prog X.w) X.A (.compLoop (.ListComp elt (⟨target,iter,ifs,0⟩::rest) scope pos) 0 (.ref it) (.ref D) (compEnvC scope (cellsFrom (C+1) scope.names cl) C X.env)) (compPost (model X.prog X.w) X.A X.xe use Q' (.ref D) C) s3:=by
  rintro s3 rfl
  refine hloop _ _ _ _ _ _ (λn s'=>∃ i ys vys H',Inv Y [(D,lobj ys)] (dc js σ) H' s'/\tn i s'.heap/\(∀ b∈fp,H' b=none)/\Vals vys ys/\W i n vys H') ?_ m0
   ⟨0,[],[],H2,invY0,T.keep _ _ _ st2 λb _ o e=>old b o e,λb hb=>(f2 b hb).1,.nil,w0⟩ λe s' z=>herr C s2 H2 fp use Q' (.ref D) e s' z
  rintro n s4 ⟨i,ys,vys,H4,I4,st4,fr4,rv,w4⟩
  rcases turn i n vys H4 w4 with⟨stop,hz,qn⟩|⟨go,hz,Nn,hN,step⟩
  ·refine br (T.done Y rfl rfl rfl hcalm i _ s4 _ H4 (Ex C s2 H2 fp) I4 (stat fr4) st4 stop) λr s5 ⟨hr,I5⟩=>?_
   subst hr
   obtain⟨m5,hn5,_⟩:=I5.loc
   obtain⟨pD,nD,_,_,_⟩:=I5.pin (D,lobj ys) (by show _∈[(D,lobj ys)];simp)
   have nC:H4 C=none:=I5.free
   refine hok C D vys H4 s5 ⟨m5,hn5⟩ (Nat.le_refl _) hDleC hDC nD nC (λh' hsb=>?_) (qn D nD)
   have pD':h'.get? D=some (lobj ys):=hsb.extBut _ _ hDC pD
   refine I2.yR (s':={ s5 with heap:=h' }) (ch:=fp) I5.os ?_ ?_ I5.bare (λb hb=>?_)
   ·-- kept
    have u:=I5.base
    have neC:∀ b o,s2.heap.get? b=some o->b≠C/\b≠D:=λb o e=>by
     have:=Heap.lt_size e
     rw [hDe] at this
     exact⟨Nat.ne_of_lt (Nat.lt_of_lt_of_le this hDleC),Nat.ne_of_lt this⟩
    refine⟨λb o e nn hb hx=>hsb.extBut b o (neC b o e).1 (u.keep b o e nn hb hx),λb o e nn hb hx=>?_,λb o e nn hx=>?_,λb o e hx=>?_,λb xs e=>?_,λb o xs e=>?_,λb ps e=>?_⟩
    ·obtain⟨sl,q⟩:=u.slot b o e nn hb hx
     exact⟨sl,hsb.extBut b _ (neC b o e).1 q⟩
    ·rw [ao (neC b o e).2]
     exact u.free b o e nn hx
    ·obtain⟨o',q⟩:=u.there b o e hx
     exact⟨o',hsb.extBut b _ (neC b o e).1 q⟩
    ·rw [ao (aT (u.tups b xs e) nD)]
     exact u.tups b xs e
    ·rw [ao (aT (u.frzs b o xs e) nD)]
     exact u.frzs b o xs e
    ·obtain⟨more,q⟩:=u.tbls b ps e
     exact⟨more,by rw [ao (aT q nD)];exact q⟩
   ·intro b o e
    by_cases hb:b=D
    ·subst hb
     rw [ah] at e
     cases e
     exact⟨hz,ys,_,rv,pD'⟩
    ·rw [ao hb] at e
     refine (I5.hok b o e).jH (λc w' hc q=>hsb.extBut c w' ?_ q) (λc q=>by rw [ao (aT q nD)];exact q) λc xs q=>by rw [ao (aT q nD)];exact q
     rintro rfl
     rcases hc with rfl | hc
     ·rw [nC] at e;cases e
     ·rw [nC] at hc;cases hc
   ·exact⟨(f2 b hb).2.2.2.1,(f2 b hb).2.1,(f2 b hb).2.2.2.2.1,(f2 b hb).2.2.2.2.2⟩
  ·refine br (T.item Y rfl rfl rfl hcalm i _ s4 _ H4 (Ex C s2 H2 fp) I4 (stat fr4) st4 go) λr s5 ⟨u,hr,h5⟩=>?_
   subst hr
   refine br h5 λ_ s6 ⟨x,H6,I6,r6,y6,st6,fr6⟩=>?_
   have I6':=I6.pinned (stat fr6) (T.obj _ _ st6)
   refine br (hg C s2 H2 fp lc _ s6 _ H6 x u _ I6' r6 (step x H6 y6)) λ_ s7 ⟨σ7,H7,I7,k7,q7⟩=>?_
   refine br (ht C s2 H2 fp lc _ s7 σ7 H7 _ I7 q7) λb s8 ⟨H8,I8,q8⟩=>?_
   -- behind the tests and the element: the state goes back to what the next turn wants
   have again:∀{ys':List Value} {s9:Shared} {H9:Hp},Inv Y ([(D,lobj ys')]++gW fp s6.heap) σ7 H9 s9->Inv Y [(D,lobj ys')] (dc js σ) H9 s9/\tn (i+1) s9.heap/\∀ b∈fp,H9 b=none:=λ{ys' s9 H9} I9=>by
    refine⟨(I9.gL).weak k7.len k7.get,T.keep _ _ _ st6 λb hb o e=>(I9.pin (b,o) (List.mem_append_right _ (List.mem_append_right _ (dJ hb e)))).1,λb hb=>?_⟩
    obtain⟨o,e,d⟩:=T.obj _ _ st6 b hb
    exact (I9.pin (b,o) (List.mem_append_right _ (List.mem_append_right _ (dJ hb e)))).2.1
   cases b with
   | false =>
    rw [if_neg Bool.false_ne_true] at q8 ⊢
    obtain⟨m',hm,w8⟩:=hN _ _ q8
    obtain⟨J8,t8,f8⟩:=again I8
    exact⟨m',hm,i+1,ys,vys,H8,J8,t8,f8,rv,w8⟩
   | true =>
    rw [if_pos rfl] at q8 ⊢
    have aok:oZ Y D (gW fp s6.heap):=⟨λp hp z=>absurd (hbelowfp p.1 (kn hp).1) (by rw [z];exact Nat.lt_irrefl _),by show s2.heap.objs.size<=D;rw [hDe];exact Nat.le_refl _,λx c e=>cellNe x c e⟩
    refine hB C s2 H2 fp lc D ys vys _ σ7 H8 s8 Nn _ I8 rv aok hz q8 λys' vys' H9 s9 I9 rv' q9=>?_
    obtain⟨J9,t9,f9⟩:=again I9
    obtain⟨m',hm,w9⟩:=hN _ _ q9
    exact⟨m',hm,i+1,ys',vys',H9,J9,t9,f9,rv',w9⟩
 exact codeAny_compStart_list (loop _ rfl) (T.self _ 0 _ _ _ (T.keep _ _ _ st2 λb _ o e=>old b o e) (loop _ rfl))
theorem uQ {Y:Cx} {D:Addr} {ys:List Value} {P:List (Addr × Obj)} {σ:St} {H:Hp} {s:Shared} {y:Value} {Q:Value->Shared->Prop} {E:Value->Shared->Prop} (hpn:Y.pn=[]) (I:Inv Y ([(D,lobj ys)]++P) σ H s) (ok:oZ Y D P) (z:ys.length<sizeLine)
  (q:∀ s',Inv Y ([(D,lobj (ys++[y]))]++P) σ H s'->Q .none s'):wpAny (model Y.prog Y.w) Y.A (call (.builtin "list.append") [.ref D,y]) Q E s:=by
 obtain⟨pD,nD,neD,nfD,_⟩:=I.pin (D,lobj ys) (by rw [hpn];simp)
 refine append_at (hsz:=by show ys.toArray.size<=sizeLine;rw [List.size_toArray];exact Nat.le_of_lt z) (show s.heap.get? D=some { cls:=.type "list",data:=.seq ys.toArray ys.length } from pD) λh' hsb hD'=>q _ ?_
 have eD:h'.get? D=some (lobj (ys++[y])):=by
  rw [hD']
  unfold lobj
  rw [List.length_append,List.length_singleton,List.push_toArray]
 have J1:Inv Y P σ H s:=I.fj λp hp=>I.pin p (List.mem_append_right _ (List.mem_append_right _ hp))
 have J2:Inv Y P σ H { s with heap:=h' }:=J1.turned (t':=s.toks) (it:=D) (λb o hb e=>hsb.extBut b o hb e) nD neD (.inr ok.new) ok.cell λp hp=>ok.ne p (by rw [hpn] at hp;simpa using hp)
 refine J2.fj λp hp=>?_
 rcases List.mem_append.mp hp with hp | hp
 ·have e:p=(D,lobj (ys++[y])):=by simpa using hp
  subst e
  exact⟨eD,nD,neD,nfD,λv z=>by cases z⟩
 ·exact J2.pin p (List.mem_append_right _ hp)
theorem rV {Y:Cx} {D:Addr} {ys:List Value} {vys:List V} {P:List (Addr × Obj)} {σ:St} {H:Hp} {s:Shared} {elt:Expr} {te:TE} {N:List V->Hp->Prop} {Ps:Shared->Prop} (hpn:Y.pn=[]) (he:PE Y elt te) (I:Inv Y ([(D,lobj ys)]++P) σ H s) (rv:Vals vys ys) (ok:oZ Y D P) (z:vys.length<sizeLine) (q:te σ H λv H4=>N (vys++[v]) H4)
  (k:∀ ys' vys' H' s',Inv Y ([(D,lobj ys')]++P) σ H' s'->Vals vys' ys'->N vys' H'->Ps s'):wpAny (model Y.prog Y.w) Y.A (o9 elt (.ref D) Y.env) (λ_ s'=>Ps s') Y.xe s:=by
 unfold o9
 refine wpAny_bind (br (he _ s σ H _ I q) λy s9 ⟨vy,H9,I9,r9,q9⟩=>?_)
 exact wpAny_bind (uQ hpn I9 ok (by rw [<- rv.length];exact z) λs' I'=>wpAny_pure (k _ _ _ _ I' (rv.append (.cons r9 .nil)) q9))
theorem pU {X:Cx} {Ex:Addr->Shared->Hp->List Addr->Value->Shared->Prop} {elt target iter:Expr} {ifs:List Expr} {scope:Scope} {pos:Pos} {N':List Str} {js:List (Option Nat)} {cl:List (Str × Addr)} {g:TG} {tt:TT} {te:TE} (hcalm:X.calm=true)
  (K:fK X N' js scope cl)
  (hg:∀ C s₂ H₂ fp,jK X C s₂ H₂ fp->PG (bI X (Ex C s₂ H₂ fp) N' scope cl C s₂ H₂ fp) target g) (ht:∀ C s₂ H₂ fp,jK X C s₂ H₂ fp->nV (bI X (Ex C s₂ H₂ fp) N' scope cl C s₂ H₂ fp) ifs tt) (he:∀ C s₂ H₂ fp,jK X C s₂ H₂ fp->PE (bI X (Ex C s₂ H₂ fp) N' scope cl C s₂ H₂ fp) elt te)
  (herr:∀ C s₂ H₂ fp use Q' acc e s',Ex C s₂ H₂ fp e s'->notedBy (model X.prog X.w) X.A (compEnvC scope (cellsFrom (C+1) scope.names cl) C X.env) (λe s''=>compPost (model X.prog X.w) X.A X.xe use Q' acc C (.error e) s'') e s')
  {pins:List (Addr × Obj)} {σ:St} {Q:VK} {use:Option (Value->Sem Unit)} {Q':Value->Shared->Prop} {itv:Value} {s2:Shared}
  (h2:z7 X pins σ target (λJ H1=>∃ W:Nat->Nat->List V->Hp->Prop,(∃ m,W 0 m [] H1)/\∀ i m ys H,W i m ys H ->
 (J.stop i H/\ys.length<=sizeLine/\∀ p,H p=none->Q (.ref p) (upd H p (.lst ys))) ∨
 (J.go i H/\ys.length<sizeLine/\∃ N:List V->Hp->Prop,(∀ ys' H',N ys' H'->∃ m',m'<m/\W (i+1) m' ys' H') /\
  ∀ x H',J.yld i H x H'->g x (dc js σ) H' λσ2 H2=>bK (dc js σ) σ2/\tt σ2 H2 λb H3=>if b=true then te σ2 H3 λv H4=>N (ys++[v]) H4 else N ys H3)) itv s2)
  (hok:∀ C D vys H4 s5,(∃ m,s5.heap.Ns C m)->s2.heap.objs.size<=D->D<=C->D≠C->H4 D=none->H4 C=none->(∀ h',Heap.SameBut C s5.heap h'->Inv X pins σ (upd H4 D (.lst vys)) { s5 with heap:=h' })->Q (.ref D) (upd H4 D (.lst vys))->compPost (model X.prog X.w) X.A X.xe use Q' (.ref D) C (.ok .next) s5) :
  wpAny (model X.prog X.w) X.A (newList []) (λacc s₃=>wpAny (model X.prog X.w) X.A (newFunctionEnv scope X.env.globals cl [] X.env.qual none .none (some X.env)) (λcenv s₄ =>
   codeAny (model X.prog X.w) X.A (.compStart (.ListComp elt [⟨target,iter,ifs,0⟩] scope pos) 0 itv acc { cenv with scope:=relabel scope X.env }) (compPost (model X.prog X.w) X.A X.xe use Q' acc cenv.locals) s₄) X.xe s₃) X.xe s2 :=
 xS (Bd:=λEx acc env Ps s=>wpAny (model X.prog X.w) X.A (o9 elt acc env) (λ_ s'=>Ps s') Ex s) (Cc:=λys=>ys.length<sizeLine) (tb:=λys σ2 H3 N=>te σ2 H3 λv H4=>N (ys++[v]) H4) hcalm
  (λ_ _ _ it acc env I turn n h hE=>kT I (uv elt target iter ifs scope pos it acc env) turn n h hE) K hg ht
  (λC s₂ H₂ fp lc D ys vys P σ H s N Ps I rv ok z q k=>rV rfl (he C s₂ H₂ fp lc) I rv ok z q k) herr h2 hok
theorem dW {X:Cx} {elt target iter:Expr} {ifs:List Expr} {scope:Scope} {pos:Pos} {N':List Str} {js:List (Option Nat)} {cl:List (Str × Addr)} {wi:TI} {g:TG} {tt:TT} {te:TE} (hcalm:X.calm=true)
  (K:fK X N' js scope cl) (hi:PI X target iter wi)
  (hg:∀ C s₂ H₂ fp,PG (fN X N' scope cl C s₂ H₂ fp) target g) (ht:∀ C s₂ H₂ fp,nV (fN X N' scope cl C s₂ H₂ fp) ifs tt) (he:∀ C s₂ H₂ fp,PE (fN X N' scope cl C s₂ H₂ fp) elt te)
  (hs:∀ x,foldedSetIterable iter X.env x=pure x:=by intro _;rfl):PE X (.ListComp elt [⟨target,iter,ifs,0⟩] scope pos) (Ac js wi g tt te):=by
 intro pins s σ H Q I h
 rw [eval_ListComp]
 refine wpAny_comprehension_free (use:=none) rfl hs K.clos K.kind K.names (br (hi pins s σ H _ I h) λv s1 h1=>br h1 λitv s2 h2=>?_)
 exact pU (Ex:=λ_ _ _ _ _ _=>False) hcalm K (λC s H f _=>hg C s H f) (λC s H f _=>ht C s H f) (λC s H f _=>he C s H f) (λ_ _ _ _ _ _ _ _ _ z=>z.elim) h2 λC D vys H4 s5 ⟨m,hn⟩ _ _ _ _ _ hI q=>⟨m,hn,λh' hsb=>⟨.ref D,_,hI h' hsb,rfl,q⟩⟩
def Bd (i:Int):Prop:=i.natAbs<2^4000
theorem rT:(10:Nat)^250<=2^4000:=by decide +kernel
theorem Bd.of {i:Int} (h1:-(10^250)<i) (h2:i<10^250):Bd i:=by
 refine Nat.lt_of_lt_of_le ?_ rT
 have:((10:Nat)^250:Nat)=((10:Int)^250).toNat:=by decide +kernel
 rw [this]
 omega
theorem Bd.mono {i j:Int} (h:Bd j) (h':i.natAbs<=j.natAbs):Bd i:=Nat.lt_of_le_of_lt h' h
theorem Bd.bits {i:Int} (h:Bd i):Builtin.Int.intBits i<=2^20 :=
 Nat.le_trans (intBits_le h) (by decide)
theorem Bd.AY {i j:Int} (h:Bd j):Builtin.divisionGoesByPylong i j=false:=by
 refine PyProof.noPylong_of_log2 ?_
 by_cases z:j.natAbs=0
 ·rw [z];decide
 ·exact Nat.lt_of_lt_of_le ((Nat.log2_lt z).mpr h) (by decide)
section
variable {X:Cx}
theorem bw:fz X (binaryOp .Mult) (rI (λi j=>Bd i/\Bd j) λi j=>.int (i*j)):=yJ λ_ _ _ _ _ _ _ hc q=>mul_int q (IntMulOk.of_bits hc.1.bits hc.2.bits)
theorem bQ:fz X (binaryOp .FloorDiv) (rI (λ_ j=>0<j/\Bd j) λi j=>.int (i/j)):=yJ λi j _ _ _ _ _ hc q=>by
 have h1:(0:Int)<j:=hc.1
 exact floordiv_int (by omega) (by rw [Int.fdiv_eq_ediv_of_nonneg i (by omega)];exact q) (.inl hc.2.AY)
theorem mS:fz X (inplaceOp .FloorDiv) (rI (λ_ j=>0<j/\Bd j) λi j=>.int (i/j)):=yJ λi j _ _ _ _ _ hc q=>by
 have h1:(0:Int)<j:=hc.1
 exact ifloordiv_int (by omega) (by rw [Int.fdiv_eq_ediv_of_nonneg i (by omega)];exact q) (.inl hc.2.AY)
theorem mT:fz X (inplaceOp .Mult) (rI (λi j=>Bd i/\Bd j) λi j=>.int (i*j)):=yJ λ_ _ _ _ _ _ _ hc q=>imul_int q (IntMulOk.of_bits hc.1.bits hc.2.bits)
theorem iW {op:Operator} {r:R2} (ho:fz X (inplaceOp op) r):AV X op r:=λpins s σ H x y v u Q I r1 r2 h=>ho pins s σ H x y v u Q I r1 r2 h
def xh (i j k:Nat) (ta:TA):TS:=λD σ H=>ta σ H λvs H1=>∃ v w u,vs=[v,w,u]/\D.nx (((σ.set i (some v)).set j (some w)).set k (some u)) H1
theorem qe {i j k:Nat} {x y z:Str} {a b c:Expr} {ta:TA} {px py pz pt pos:Pos} {kt k2 pt2} (hc:X.calm=true) (hN:X.N.Nodup) (hi:X.N[i]?=some x) (hj:X.N[j]?=some y) (hk:X.N[k]?=some z) (hij:i≠j) (hik:i≠k) (hjk:j≠k)
  (hx:X.env.scope.names.lookup x=some .local) (hy:X.env.scope.names.lookup y=some .local) (hz:X.env.scope.names.lookup z=some .local) (ha:PA X [a,b,c] ta)
  (hw:swappedStores [.Tuple [.Name x px,.Name y py,.Name z pz] kt pt] (.Tuple [a,b,c] k2 pt2) X.env=pure (some [x,y,z]))
  (hs:swapsWithSole [.Tuple [.Name x px,.Name y py,.Name z pz] kt pt] (.Tuple [a,b,c] k2 pt2) pos.line X.env=pure false:=by rfl) :
  PS X (.Assign [.Tuple [.Name x px,.Name y py,.Name z pz] kt pt] (.Tuple [a,b,c] k2 pt2) pos) (xh i j k ta):=by
 intro pins s σ H D I h
 rw [exec_Assign_arm]
 refine wpAny_bind (wpAny_standAt ?_)
 rw [hs]
 refine wpAny_bind (wpAny_pure ?_)
 rw [if_neg (by decide)]
 refine wpAny_bind (Tuple_ (br (ha _ pins s σ H _ I h) λus s1 ⟨vs,H1,I1,r1,q1⟩=>?_))
 obtain⟨v,w,u,e1,q1⟩:=q1
 subst e1
 obtain⟨u1,u2,u3,rfl,rv,rw',ru⟩:∃ u1 u2 u3,us=[u1,u2,u3]/\RelV v u1/\RelV w u2/\RelV u u3:=by
  cases r1 with
  | cons p q =>
   cases q with
   | cons p' q' =>
    cases q' with
    | cons p'' q'' =>
     cases q''
     exact⟨_,_,_,rfl,p,p',p''⟩
 refine wpAny_newObj_type ?_ (by show 3<=sizeLine;decide)
 have I2:Inv X pins σ H1 { s1 with heap:=s1.heap.push { cls:=.type "tuple",data:=.seq [u1,u2,u3].toArray } }:=I1.kept (t':=s1.toks) λb o e=>Heap.get?_push_of_some _ e
 rw [hw]
 refine wpAny_bind (wpAny_pure ?_)
 show wpAny (model X.prog X.w) X.A (do rule "assign.swapped-stores";let items <- unpackItems (.ref s1.heap.objs.size) 3 none;assignInOrder [λv=>bindName X.env z v,λv=>bindName X.env y v,λv=>bindName X.env x v] items.reverse;pure Flow.next) _ _ _
 refine wpAny_bind (wpAny_rule (wpAny_bind (unpackItems_tuple (items:=#[u1,u2,u3]) (I.ok.hd hc) (IsTup.new s1.heap _) λh' hx'=>?_)))
 have I3:=I2.kept (h':=h') (t':=s1.toks) λb o e=>hx' b o (Nat.ne_of_lt (Heap.lt_size e)) e
 show wpAny _ _ (assignInOrder [λv=>bindName X.env z v,λv=>bindName X.env y v,λv=>bindName X.env x v] [u3,u2,u1] >>= λ_=>pure Flow.next) _ _ _
 refine wpAny_bind (assignInOrder_cons (wpAny_bindName (cm I3 hN hk (.inl hz) ru (λs2 I4=>?_) (.inr hz))))
 refine assignInOrder_cons (wpAny_bindName (cm I4 hN hj (.inl hy) rw' (λs3 I5=>?_) (.inr hy)))
 refine assignInOrder_cons (wpAny_bindName (cm I5 hN hi (.inl hx) rv (λs4 I6=>assignInOrder_nil (wpAny_pure ?_)) (.inr hx)))
 have e:((σ.set k (some u)).set j (some w)).set i (some v)=((σ.set i (some v)).set j (some w)).set k (some u):=by
  rw [List.set_comm _ _ (Ne.symm hij),List.set_comm _ _ (Ne.symm hik),List.set_comm _ _ (Ne.symm hjk)]
 rw [e] at I6
 exact⟨_,H1,I6,q1⟩
def vM (K:PySem.W.Frag):List V->Hp->VK->Prop:=λxs H Q=>∃(a:Addr) (bs:List Bool),xs=[.ref a]/\aS K H a (bs.map V.bl)/\Q (.bl (bs.all id)) H
theorem iQ (hc:X.calm=true):cQ X (.builtin "all") (vM X.K):=by
 intro pins s σ H xs us Q I r h
 obtain⟨a,bs,rfl,hq,q⟩:=h
 obtain⟨u,rfl,ru⟩:=vals1 r
 cases ru
 obtain⟨its,rv,p,hz⟩:=I.list hq
 have hl:=p.isList
 have hlt:a<s.heap.objs.size:=by obtain⟨_,e,_⟩:=hl;exact Heap.lt_size e
 have hb:∀(i:Nat) v,its[i]?=some v->∃ b,bs[i]?=some b/\v=.bool b:=λi v e=>by
  have hi:i<its.length:=(List.getElem?_eq_some_iff.mp e).1
  have hi2:i<bs.length:=by have:=rv.length;rw [List.length_map] at this;omega
  obtain⟨u,e1,e2⟩:=rv.get (i:=i) (x:=V.bl bs[i]) (by rw [List.getElem?_map,List.getElem?_eq_getElem hi2];rfl)
  rw [e] at e1
  cases e1
  exact⟨bs[i],List.getElem?_eq_getElem hi2,e2⟩
 have hln:its.length=bs.length:=by have:=rv.length;rw [List.length_map] at this;omega
 refine call_all_walk (wpAny_pyIter_list hl ?_)
 refine⟨s.heap.objs.size,[s.heap.objs.size,a],[s.heap.objs.size],its.toArray.size,_,_,λi=>(bs[i]?).getD true,rfl,Walks.list (A:=X.A.in1) (I.ok.hd hc) _ a (Nat.ne_of_lt hlt) its.toArray,
  ⟨⟨_,Heap.get?_push_size _ rfl,rfl,rfl⟩,hl.push _⟩,λi v s' Q' E' hP hQ=>?_,λh' tk hk=>?_⟩
 ·obtain⟨b,e,rfl⟩:=hb i v (by simpa using hP)
  simp only [e,Option.getD_some] at hQ
  exact wpAny_truthy_bool hQ
 ·have e:((List.range its.toArray.size).all λi=>(bs[i]?).getD true)=bs.all id:=by
   rw [List.size_toArray,hln,Bool.eq_iff_iff]
   simp only [List.all_eq_true,List.mem_range,id]
   constructor
   ·intro z b hb'
    obtain⟨i,hi,rfl⟩:=List.mem_iff_getElem.mp hb'
    have:=z i hi
    rwa [List.getElem?_eq_getElem hi,Option.getD_some] at this
   ·intro z i hi
    rw [List.getElem?_eq_getElem hi,Option.getD_some]
    exact z _ (List.getElem_mem hi)
  rw [e]
  exact⟨.bl _,H,I.kept λb o eb=>hk b o (λhm=>by rw [List.mem_singleton.mp hm] at eb;exact Nat.lt_irrefl _ (Heap.lt_size eb)) (Heap.get?_push_of_some _ eb),rfl,q⟩
end
def au (K:PySem.W.Frag) (mg:Str->Option Value) (x:Str) (st:Stmt):Prop:=∃ f fd,uG K x x st f fd/\mg x=some (.ref f)
structure Callee (P:Program) (w:World) (K:PySem.W.Frag) (mg:Str->Option Value) (base:Heap) (CX:jJ) (k:Nat) (x:Str) (ps:List Str) (sp:Sp):Prop where
 ex:∃ f fd,cL P w K mg base CX k f fd ps sp/\mg x=some (.ref f)/\PySem.W.keepIn K (.ref f)=true/\Binds K fd ps []
section
variable {P:Program} {w:World} {K:PySem.W.Frag} {mg:Str->Option Value} {base:Heap} {CX:jJ} {k:Nat} {x:Str} {ps:List Str} {sp:Sp}
theorem Callee.imp {sp':Sp} (C:Callee P w K mg base CX k x ps sp) (h:∀ vs H Q E,sp' vs H Q E->sp vs H Q E):Callee P w K mg base CX k x ps sp':=by
 obtain⟨f,fd,F,a,b,c⟩:=C.ex
 exact⟨f,fd,F.imp h,a,b,c⟩
theorem Callee.mono {j:Nat} (C:Callee P w K mg base CX k x ps sp) (h:k<=j):Callee P w K mg base CX j x ps sp:=by
 obtain⟨f,fd,F,a,b,c⟩:=C.ex
 exact⟨f,fd,F.mono h,a,b,c⟩
theorem bf {X:Cx} {E:XK} {e:Expr} {es:List Expr} {t:TA} {p pos:Pos} (C:Callee X.prog X.w X.K X.mg X.base CX k x ps sp) (hr:bW k X.A) (hg:Gl X x) (hx:Passes CX X E)
  (ha:PA X (e::es) t) (hdb:(x==("__debug__":Str))=false:=by decide) (he:starEach (e::es) X.env=(false,eval e X.env)::starEach es X.env:=by rfl) (hpl:(backTo pos (starEach es X.env)).any (·.1)=false:=by rfl) :
  PE X (.Call (.Name x p) (e::es) [] pos) (nK sp [] E t):=by
 obtain⟨f,fd,F,hm,hk,hb⟩:=C.ex
 exact vI F hr hg hm hk hb .nil hx ha hdb he hpl
theorem qJ {st:Stmt} {N:List Str} (D:au K mg x st)
  (hb:∀(kV doc pm:Value) (an:Option Addr) (cdv ct:Value) (us:List Value),us.length=ps.length->bindArgs (PySem.W.fnOf x x (bO st) (aQ st) (ai st) .none kV doc pm an cdv ct) ⟨us,[]⟩=pure (ps.zip us))
  (S:aw N ps (ai st)) (len:∀ vs H Q E,sp vs H Q E->vs.length=ps.length)
  (hbody:∀(f:Addr) (cdv:Value) (A:Around) (outer:List Env) (s:Shared) (H:Hp) (vs:List V) (Q:VK) (E:XK),bW k (A.deeper (envOfC x (ai st) s.heap.objs.size f cdv))->sp vs H Q E ->
   ∃ t,jL (dH aO P w K mg base N x (ai st) f cdv A outer s H E).pW (aQ st) t/\t { nx:=λ_ H'=>Q .non H',rt:=Q } (start N vs) H):Callee P w K mg base aO (k+1) x ps sp:=by
 obtain⟨f,fd,F,hm⟩:=D
 exact⟨f,fd,F.ok S len λcdv A outer s H vs Q E hr h=>hbody f cdv A outer s H vs Q E hr h,hm,F.kp,F.binds hb⟩
theorem rZ {h:Heap} {f:Addr} {st:Stmt} {oc:Value} {od an:Option Addr} {osl:Array (Option Value)} {kV doc pm cdv ct:Value} (X:K.In h) (G:h.Ns mainGlobals mg)
  (a:PySem.W.nsIn K mainGlobals x=some (some (.ref f))) (l:K.lookup f=some ⟨oc,od,.func (PySem.W.fnOf x x (bO st) (aQ st) (ai st) .none kV doc pm an cdv ct),osl⟩)
  (c:PySem.W.codeIn K cdv x=true) (kk:PySem.W.keepIn K (.ref f)=true):au K mg x st:=⟨f,_,sG l c kk,PySem.W.mg_of X G a⟩
end
def gN (cl:List (Str × Addr)):List (Str × NameKind)->Prop
 | []=>True
 | y::r=>(match y.2 with | .free=>(cl.lookup y.1).isSome=true | _=>True)/\gN cl r
theorem gN.get {cl:List (Str × Addr)}:∀{l:List (Str × NameKind)},gN cl l->∀ y∈l,y.2=.free->(cl.lookup y.1).isSome=true
 | [],_,_,h,_=>nomatch h
 | z::r,a,y,h,e=>by
  rcases List.mem_cons.mp h with q | q
  ·subst q
   have:=a.1
   rw [e] at this
   exact this
  ·exact gN.get a.2 y q e
def fV (X:Cx) (scope:Scope) (cl:List (Str × Addr)):List (Option Nat)->List Str->Prop
 | none::r,_::n=>fV X scope cl r n
 | some j::r,x::n=>(X.N[j]?=some x/\(cl.lookup x).isSome=true/\(X.env.scope.names.lookup x=some .cell∨X.env.scope.names.lookup x=some .free)/\((relabel scope X.env).names.lookup x=some .cell∨(relabel scope X.env).names.lookup x=some .free))/\fV X scope cl r n
 | [],[]=>True
 | _,_=>False
theorem fV.len {X:Cx} {scope:Scope} {cl:List (Str × Addr)}:∀{js:List (Option Nat)} {N:List Str},fV X scope cl js N->js.length=N.length
 | [],[],_=>rfl
 | none::r,_::n,h=>by
  have h':fV X scope cl r n:=h
  simp [fV.len h']
 | some j::r,x::n,h=>by
  have h':fV X scope cl r n:=h.2
  simp [fV.len h']
 | [],_::_,h=>h.elim
 | none::_,[],h=>h.elim
 | some _::_,[],h=>h.elim
theorem fV.get {X:Cx} {scope:Scope} {cl:List (Str × Addr)}:∀{js:List (Option Nat)} {N:List Str},fV X scope cl js N->∀(i j:Nat) x,js[i]?=some (some j)->N[i]?=some x ->
  X.N[j]?=some x/\(cl.lookup x).isSome=true/\yF X.env.scope x/\X.env.kindOf x≠some .local/\((relabel scope X.env).names.lookup x=some .cell∨(relabel scope X.env).names.lookup x=some .free)
 | [],[],_,i,j,x,e,_=>by simp at e
 | none::r,y::n,h,0,j,x,e,_=>by simp at e
 | none::r,y::n,h,i+1,j,x,e,e2=>fV.get (js:=r) (N:=n) h i j x (by simpa using e) (by simpa using e2)
 | some k::r,y::n,h,0,j,x,e,e2=>by
  have q:k=j:=by simpa using e
  have q2:y=x:=by simpa using e2
  subst q;subst q2
  obtain⟨a,b,c,d⟩:=h.1
  refine⟨a,b,?_,?_,d⟩
  ·rcases c with c | c
   ·exact .inr (.inl c)
   ·exact .inr (.inr c)
  ·intro z
   have z':X.env.scope.names.lookup y=some .local:=z
   rcases c with c | c
   ·rw [c] at z';cases z'
   ·rw [c] at z';cases z'
 | some k::r,y::n,h,i+1,j,x,e,e2=>fV.get (js:=r) (N:=n) h.2 i j x (by simpa using e) (by simpa using e2)
 | [],_::_,h,_,_,_,_,_=>h.elim
 | none::_,[],h,_,_,_,_,_=>h.elim
 | some _::_,[],h,_,_,_,_,_=>h.elim
theorem xD {X:Cx} {N':List Str} {js:List (Option Nat)} {scope:Scope} {cl:List (Str × Addr)} (clos:closureFor scope X.env=pure cl) (kind:scope.kind=.function) (nocell:∀ y∈scope.names,y.2=.cell->scope.names.lookup y.1=some .cell/\∀ p∈js.zip N',p.1.isSome=true->p.2≠y.1)
  (names:∀ y∈scope.names,y.2=.local->scope.names.lookup y.1=some .local) (sub:AllIn X.env cl) (has:gN cl scope.names) (j:fV X scope cl js N'):fK X N' js scope cl :=
 ⟨clos,kind,nocell,names,sub,has.get,j.len,j.get⟩
theorem boot_int:bootBuiltins "int"=some (.type "int"):=by decide +kernel
theorem boot_bool:bootBuiltins "bool"=some (.type "bool"):=by decide +kernel
theorem boot_tuple:bootBuiltins "tuple"=some (.type "tuple"):=by decide +kernel
theorem boot_list:bootBuiltins "list"=some (.type "list"):=by decide +kernel
theorem boot_abs:bootBuiltins "abs"=some (.builtin "abs"):=by decide +kernel
theorem boot_all:bootBuiltins "all"=some (.builtin "all"):=by decide +kernel
theorem boot_min:bootBuiltins "min"=some (.builtin "min"):=by decide +kernel
theorem ak {H:Hp} {p:Addr} {o:HO} (h:H p=none):az H (upd H p o):=λb u q=>by rw [ao (aT q h)];exact q
theorem bC {α:Type} {c:TT} {tb:TS} {D:Ends} {σ:St} {H:Hp} (S:α->St) (Pv:α->Hp->Prop) (μ:α->Nat) (x₀:α) (hσ:σ=S x₀) (h0:Pv x₀ H)
  (hs:∀ x H,Pv x H->c (S x) H λb H1=>if b=true then (∃ N:St->Hp->Prop,(∀ σ' H',N σ' H'->∃ y,σ'=S y/\Pv y H'/\μ y<μ x)/\tb { D with nx:=N,ct:=N,bk:=D.nx } (S x) H1) else D.nx (S x) H1):uo c tb D σ H:=by
 subst hσ
 refine⟨λm σ H=>∃ x,σ=S x/\Pv x H/\m=μ x,⟨_,x₀,rfl,h0,rfl⟩,?_⟩
 rintro m σ H ⟨x,rfl,p,rfl⟩
 have q:=hs x H p
 have e:(λb H1=>if b=true then (∃ N:St->Hp->Prop,(∀ σ' H',N σ' H'->∃ y,σ'=S y/\Pv y H'/\μ y<μ x)/\tb { D with nx:=N,ct:=N,bk:=D.nx } (S x) H1) else D.nx (S x) H1) =
   (λb H1=>if b=true then (∃ N:St->Hp->Prop,(∀ σ' H',N σ' H'->∃ m',m'<μ x/\∃ y,σ'=S y/\Pv y H'/\m'=μ y)/\tb { D with nx:=N,ct:=N,bk:=D.nx } (S x) H1) else D.nx (S x) H1):=by
  funext b H1
  cases b with
  | false=>rfl
  | true =>
   simp only [if_true]
   refine propext ⟨fun⟨N,hN,z⟩=>⟨N,λσ' H' n=>?_,z⟩,fun⟨N,hN,z⟩=>⟨N,λσ' H' n=>?_,z⟩⟩
   ·obtain⟨y,e1,e2,e3⟩:=hN σ' H' n
    exact⟨_,e3,y,e1,e2,rfl⟩
   ·obtain⟨m',l,y,e1,e2,e3⟩:=hN σ' H' n
    exact⟨y,e1,e2,e3▸l⟩
 rw [e] at q
 exact q
end L2
namespace Gcd
structure J (A B g u v ng nu nv:Int):Prop where
 g0:0<=g
 n0:0<=ng
 e1:u*A+v*B=g
 e2:nu*A+nv*B=ng
 ex:∃ s U NU V NV:Int,(s=1∨s = -1)/\0<=U/\0<=NU/\0<=V/\0<=NV/\u=s*U/\nu = -s*NU/\v = -s*V/\nv=s*NV/\g*NU+ng*U=B/\g*NV+ng*V=A /\
  (U<=1∨U<=B)/\(NU<=1∨NU<=B)/\(V<=1∨V<=A)/\(NV<=1∨NV<=A)
theorem J.start {A B:Int} (ha:0<=A) (hb:0<=B):J A B A 1 0 B 0 1 :=
 ⟨ha,hb,by grind,by grind,1,1,0,0,1,.inl rfl,by decide,by decide,by decide,by decide,by grind,by grind,by grind,by grind,by grind,by grind,.inl (by decide),.inl (by decide),.inl (by decide),.inl (by decide)⟩
theorem kh {n x B:Int} (hn:0<n) (hx:0<=x) (h:n*x<=B):x<=B:=by
 have:1*x<=n*x:=Int.mul_le_mul_of_nonneg_right hn hx
 omega
theorem J.turn {A B g u v ng nu nv:Int} (j:J A B g u v ng nu nv) (hn:0<ng) :
  J A B ng nu nv (g-g/ng*ng) (u-g/ng*nu) (v-g/ng*nv)/\(g-g/ng*ng)<ng/\0<=g/ng/\g/ng<=g:=by
 have q0:0<=g/ng:=Int.ediv_nonneg j.g0 j.n0
 have r:=Int.emod_def g ng
 have r0:=Int.emod_nonneg g (show ng≠0 by omega)
 have r1:=Int.emod_lt_of_pos g hn
 have ql:g/ng<=g:=Int.ediv_le_self ng j.g0
 have e1:=j.e1
 have e2:=j.e2
 have hc:g/ng*ng=ng*(g/ng):=Int.mul_comm _ _
 generalize g/ng=q at *
 obtain⟨s,U,NU,V,NV,hs,hU,hNU,hV,hNV,eu,enu,ev,env,b1,b2,l1,l2,l3,l4⟩:=j.ex
 have hqNU:0<=q*NU:=Int.mul_nonneg q0 hNU
 have hqNV:0<=q*NV:=Int.mul_nonneg q0 hNV
 have rr:0<=g-q*ng:=by omega
 have i1:ng*(U+q*NU)+(g-q*ng)*NU=B:=by grind
 have i2:ng*(V+q*NV)+(g-q*ng)*NV=A:=by grind
 have n1:0<=(g-q*ng)*NU:=Int.mul_nonneg rr hNU
 have n2:0<=(g-q*ng)*NV:=Int.mul_nonneg rr hNV
 refine⟨⟨j.n0,rr,e2,by grind,-s,NU,U+q*NU,NV,V+q*NV,by omega,hNU,by omega,hNV,by omega,by grind,by grind,by grind,by grind,i1,i2,l2,.inr (kh hn (by omega) (by omega)),l4,.inr (kh hn (by omega) (by omega))⟩,by omega,q0,ql⟩
structure zZ (a b g u v:Int):Prop where
 g0:0<=g
 lin:u*a+v*b=g
 da:g∣a
 db:g∣b
 bu:u.natAbs<=max 1 b.natAbs
 bv:v.natAbs<=max 1 a.natAbs
theorem J.done {a b g u v nu nv:Int} (j:J (if a<0 then -a else a) (if b<0 then -b else b) g u v 0 nu nv):zZ a b g (if a<0 then -u else u) (if b<0 then -v else v):=by
 have e1:=j.e1
 obtain⟨s,U,NU,V,NV,hs,hU,hNU,hV,hNV,eu,enu,ev,env,b1,b2,l1,l2,l3,l4⟩:=j.ex
 have hu:u.natAbs=U.toNat:=by
  rcases hs with rfl | rfl
  ·omega
  ·omega
 have hv:v.natAbs=V.toNat:=by
  rcases hs with rfl | rfl
  ·omega
  ·omega
 refine⟨j.g0,?_,?_,?_,?_,?_⟩
 ·split<;>split<;>rename_i h1 h2<;>simp only [h1,h2,if_true,if_false] at e1<;>grind
 ·have:g∣(if a<0 then -a else a):=⟨NV,by omega⟩
  by_cases h:a<0
  ·rw [if_pos h] at this
   exact Int.dvd_neg.mp this
  ·rw [if_neg h] at this
   exact this
 ·have:g∣(if b<0 then -b else b):=⟨NU,by omega⟩
  by_cases h:b<0
  ·rw [if_pos h] at this
   exact Int.dvd_neg.mp this
  ·rw [if_neg h] at this
   exact this
 ·have:(if a<0 then -u else u).natAbs=u.natAbs:=by split<;>omega
  rw [this,hu]
  split at l1<;>omega
 ·have:(if b<0 then -v else v).natAbs=v.natAbs:=by split<;>omega
  rw [this,hv]
  split at l3<;>omega
theorem J.small {A B g u v ng nu nv M:Int} (j:J A B g u v ng nu nv) (hA:0<=A) (hB:0<=B) (hAM:A<=M) (hBM:B<=M) (hM:1<=M):(-M<=u/\u<=M)/\(-M<=v/\v<=M)/\(-M<=nu/\nu<=M)/\(-M<=nv/\nv<=M):=by
 obtain⟨s,U,NU,V,NV,hs,hU,hNU,hV,hNV,eu,enu,ev,env,b1,b2,l1,l2,l3,l4⟩:=j.ex
 rcases hs with rfl | rfl
 ·refine⟨⟨?_,?_⟩,⟨?_,?_⟩,⟨?_,?_⟩,⟨?_,?_⟩⟩<;>omega
 ·refine⟨⟨?_,?_⟩,⟨?_,?_⟩,⟨?_,?_⟩,⟨?_,?_⟩⟩<;>omega
end Gcd
namespace L2
open PySem PySem.Spec PyProof.Rows
theorem az.upd {H H1:Hp} {p:Addr} {o:HO} (h:az H H1) (hp:H p=none):az H (upd H1 p o):=λb u q=>by rw [ao (aT q hp)];exact h b u q
theorem xA {α:Type} {xs:List α} {k:Int} (h0:0<=k) (h1:k<xs.length):∃ v,o7 xs k=some v/\xs[k.toNat]?=some v:=by
 have hk:k.toNat<xs.length:=by omega
 refine⟨xs[k.toNat],?_,List.getElem?_eq_getElem hk⟩
 have:=kM (xs:=xs) (j:=k.toNat) (List.getElem?_eq_getElem hk)
 rwa [Int.toNat_of_nonneg h0] at this
theorem lu {K:PySem.W.Frag} {H:Hp} {p:Addr} {xs:List V} {k:Int} {Q:VK} (h:aS K H p xs) (h0:0<=k) (h1:k<xs.length) (q:∀ v∈xs,Q v H):yk K (.ref p) (.int k) H Q:=by
 obtain⟨v,e,e2⟩:=xA h0 h1
 exact⟨p,xs,k,v,rfl,rfl,h,e,q v (List.mem_of_getElem? e2)⟩
def Loop (J:It) (g:TG) (tb:TS) (D:Ends) (σ:St) (H:Hp):Prop:=∃ W:Nat->Nat->St->Hp->Prop,(∃ m,W 0 m σ H)/\∀ i m σ H,W i m σ H ->
 (J.stop i H/\D.nx σ H)∨(J.go i H/\∃ N:St->Hp->Prop,(∀ σ' H',N σ' H'->∃ m',m'<m/\W (i+1) m' σ' H')/\∀ x H',J.yld i H x H'->g x σ H' λσ2 H2=>tb { D with nx:=N,ct:=N,bk:=D.nx } σ2 H2)
theorem vZ {wi:TI} {g:TG} {tb:TS} {D:Ends} {σ:St} {H:Hp}:zQ wi g tb D σ H=wi σ H λJ H1=>Loop J g tb D σ H1:=rfl
theorem dI {lo:Int} {n:Nat} {g:TG} {tb:TS} {D:Ends} {σ:St} {H:Hp} (Pv:Nat->St->Hp->Prop) (h0:Pv 0 σ H)
  (hs:∀ i σ H,i<n->Pv i σ H->g (.int (lo+i)) σ H λσ2 H2=>tb { D with nx:=Pv (i+1),ct:=Pv (i+1),bk:=D.nx } σ2 H2) (hd:∀ σ H,Pv n σ H->D.nx σ H):Loop (wb lo n) g tb D σ H:=qP Pv h0 hs hd
theorem fe {K:PySem.W.Frag} {a:Addr} {xs:List V} {g:TG} {tb:TS} {D:Ends} {σ:St} {H:Hp} (Pv:Nat->St->Hp->Prop) (h0:Pv 0 σ H) (hl:∀ i σ H,i<=xs.length->Pv i σ H->aS K H a xs)
  (hs:∀ i x σ H,xs[i]?=some x->Pv i σ H->g x σ H λσ2 H2=>tb { D with nx:=Pv (i+1),ct:=Pv (i+1),bk:=D.nx } σ2 H2) (hd:∀ σ H,Pv xs.length σ H->D.nx σ H):Loop (xp K a) g tb D σ H:=sE Pv h0 hl hs hd
theorem sQ {K:PySem.W.Frag} {a:Addr} {xs:List V} {g:TG} {tb:TS} {D:Ends} {σ:St} {H:Hp} (Pv:Nat->St->Hp->Prop) (h0:Pv 0 σ H) (hl:∀ i σ H,i<=xs.length->Pv i σ H->bS K H a xs)
  (hs:∀ i x σ H,xs[i]?=some x->Pv i σ H->g x σ H λσ2 H2=>tb { D with nx:=Pv (i+1),ct:=Pv (i+1),bk:=D.nx } σ2 H2) (hd:∀ σ H,Pv xs.length σ H->D.nx σ H):Loop (xq K a) g tb D σ H:=u9 Pv h0 hl hs hd
def mj (J:It) (js:List (Option Nat)) (g:TG) (tt:TT) (te:TE) (σ:St) (Q:VK) (H1:Hp):Prop:=∃ W:Nat->Nat->List V->Hp->Prop,(∃ m,W 0 m [] H1)/\∀ i m ys H,W i m ys H ->
 (J.stop i H/\ys.length<=sizeLine/\∀ p,H p=none->Q (.ref p) (upd H p (.lst ys))) ∨
 (J.go i H/\ys.length<sizeLine/\∃ N:List V->Hp->Prop,(∀ ys' H',N ys' H'->∃ m',m'<m/\W (i+1) m' ys' H') /\
  ∀ x H',J.yld i H x H'->g x (dc js σ) H' λσ2 H2=>bK (dc js σ) σ2/\tt σ2 H2 λb H3=>if b=true then te σ2 H3 λv H4=>N (ys++[v]) H4 else N ys H3)
theorem yA {js:List (Option Nat)} {wi:TI} {g:TG} {tt:TT} {te:TE} {σ:St} {H:Hp} {Q:VK}:Ac js wi g tt te σ H Q=wi σ H λJ H1=>mj J js g tt te σ Q H1:=rfl
theorem bX {K:PySem.W.Frag} {a:Addr} {xs:List V} {js:List (Option Nat)} {g:TG} {tt:TT} {te:TE} {σ:St} {Q:VK} {H1:Hp} (Pv:Nat->List V->Hp->Prop) (h0:Pv 0 [] H1) (hx:xs.length<=sizeLine) (hl:∀ i ys H,i<=xs.length->Pv i ys H->aS K H a xs/\ys.length<=i)
  (hs:∀ i x ys H,xs[i]?=some x->Pv i ys H->g x (dc js σ) H λσ2 H2=>bK (dc js σ) σ2/\tt σ2 H2 λb H3=>if b=true then te σ2 H3 λv H4=>Pv (i+1) (ys++[v]) H4 else Pv (i+1) ys H3)
  (hd:∀ ys H p,Pv xs.length ys H->H p=none->Q (.ref p) (upd H p (.lst ys))):mj (xp K a) js g tt te σ Q H1:=by
 refine⟨λi m ys H=>m=xs.length-i/\i<=xs.length/\Pv i ys H,⟨xs.length,by simp,Nat.zero_le _,h0⟩,?_⟩
 rintro i m ys H ⟨rfl,hi,p⟩
 obtain⟨q,hy⟩:=hl i ys H hi p
 by_cases hlt:i<xs.length
 ·refine .inr ⟨⟨xs,xs[i],q,by simp [hlt]⟩,by omega,Pv (i+1),λys' H' p'=>⟨xs.length-(i+1),by omega,rfl,hlt,p'⟩,λx H' y=>?_⟩
  obtain⟨e,y⟩:=y
  subst e
  exact hs i x ys _ (y xs q) p
 ·have e:i=xs.length:=by omega
  subst e
  exact .inl ⟨⟨xs,q,Nat.le_refl _⟩,by omega,λp' hp'=>hd ys H p' p hp'⟩
theorem cP {K:PySem.W.Frag} {a:Addr} {xs:List V} {js:List (Option Nat)} {g:TG} {tt:TT} {te:TE} {σ:St} {Q:VK} {H1:Hp} (Pv:Nat->List V->Hp->Prop) (h0:Pv 0 [] H1) (hx:xs.length<=sizeLine) (hl:∀ i ys H,i<=xs.length->Pv i ys H->bS K H a xs/\ys.length<=i)
  (hs:∀ i x ys H,xs[i]?=some x->Pv i ys H->g x (dc js σ) H λσ2 H2=>bK (dc js σ) σ2/\tt σ2 H2 λb H3=>if b=true then te σ2 H3 λv H4=>Pv (i+1) (ys++[v]) H4 else Pv (i+1) ys H3)
  (hd:∀ ys H p,Pv xs.length ys H->H p=none->Q (.ref p) (upd H p (.lst ys))):mj (xq K a) js g tt te σ Q H1:=by
 refine⟨λi m ys H=>m=xs.length-i/\i<=xs.length/\Pv i ys H,⟨xs.length,by simp,Nat.zero_le _,h0⟩,?_⟩
 rintro i m ys H ⟨rfl,hi,p⟩
 obtain⟨q,hy⟩:=hl i ys H hi p
 by_cases hlt:i<xs.length
 ·refine .inr ⟨⟨xs,xs[i],q,by simp [hlt]⟩,by omega,Pv (i+1),λys' H' p'=>⟨xs.length-(i+1),by omega,rfl,hlt,p'⟩,λx H' y=>?_⟩
  obtain⟨e,y⟩:=y
  subst e
  exact hs i x ys _ (y xs q) p
 ·have e:i=xs.length:=by omega
  subst e
  exact .inl ⟨⟨xs,q,Nat.le_refl _⟩,by omega,λp' hp'=>hd ys H p' p hp'⟩
theorem Bi {CX:jJ} {P:Program} {w:World} {K:PySem.W.Frag} {mg:Str->Option Value} {base:Heap} {N:List Str} {qual:Str} {scope:Scope} {f:Addr} {cd:Value} {A:Around} {outer:List Env} {s:Shared} {H:Hp} {E:XK} :
  (dH CX P w K mg base N qual scope f cd A outer s H E).K=K:=rfl
theorem yS {X:Cx} {N':List Str} {scope:Scope} {cl:List (Str × Addr)} {C:Addr} {s₂:Shared} {H₂:Hp} {fp:List Addr}:(fN X N' scope cl C s₂ H₂ fp).K=X.K:=rfl
theorem aN {K:PySem.W.Frag} {b k:Bool} {H:Hp}:uN K (.bl b) H k=(k=b):=rfl
theorem uu {K:PySem.W.Frag} {i:Int} {k:Bool} {H:Hp}:uN K (.int i) H k=(k=(i != 0)):=rfl
def yo (K:PySem.W.Frag):List V->Hp->VK->Prop:=λxs H Q=>∃ p ys,xs=[.ref p]/\(aS K H p ys∨bS K H p ys)/\Q (.int ys.length) H
theorem cq {X:Cx}:cQ X (.builtin "len") (yo X.K):=kN
theorem gj {K:PySem.W.Frag} {H:Hp} {p:Addr} {xs:List V} {Q:VK} (h:aS K H p xs) (q:Q (.int xs.length) H):yo K [.ref p] H Q:=⟨p,xs,rfl,.inl h,q⟩
theorem iM {K:PySem.W.Frag} {H:Hp} {p:Addr} {xs:List V} {Q:VK} (h:bS K H p xs) (q:Q (.int xs.length) H):yo K [.ref p] H Q:=⟨p,xs,rfl,.inr h,q⟩
theorem rS {K:PySem.W.Frag} {H:Hp} {p:Addr} {bs:List Bool} {Q:VK} (h:aS K H p (bs.map V.bl)) (q:Q (.bl (bs.all id)) H):vM K [.ref p] H Q:=⟨p,bs,rfl,h,q⟩
theorem gz {a b:Int}:lQ (.int a) (.int b)=true:=rfl
theorem vP {a b:Bool}:lQ (.bl a) (.bl b)=true:=rfl
theorem vR {a:Int}:lQ (.int a) .non=true:=rfl
theorem vS {a:Int}:lQ .non (.int a)=true:=rfl
theorem vT:lQ .non .non=true:=rfl
theorem vQ {a:Bool}:lQ (.bl a) .non=true:=rfl
theorem vU {a b:Str}:lQ (.str a) (.str b)=true:=rfl
def AK (t:TS):TS:=λD σ H=>∃ R:St->Hp->Prop,t { D with nx:=R } σ H/\∀ σ' H',R σ' H'->D.nx σ' H'
theorem gX {X:Cx} {st:Stmt} {t:TS} (h:PS X st t):PS X st (AK t):=by
 intro pins s σ H D I ⟨R,hw,hR⟩
 refine br (h pins s σ H _ I hw) λf s' q=>?_
 cases f with
 | next=>obtain⟨σ',H',I',r⟩:=q;exact⟨σ',H',I',hR _ _ r⟩
 | brk=>exact q
 | cont=>exact q
 | ret u=>exact q
theorem uZ {P:Program} {w:World} {K:PySem.W.Frag} {mg:Str->Option Value} {base:Heap} {k:Nat} {x:Str} {ps:List Str} {sp:Sp} {st:Stmt} {N:List Str} {f:Addr} {fd:FuncData} (F:uG K x x st f fd)
  (S:aw N ps (ai st)) (len:∀ vs H Q E,sp vs H Q E->vs.length=ps.length)
  (hbody:∀(cdv:Value) (A:Around) (outer:List Env) (s:Shared) (H:Hp) (vs:List V) (Q:VK) (E:XK),bW k (A.deeper (envOfC x (ai st) s.heap.objs.size f cdv))->sp vs H Q E ->
   ∃ t,jL (dH aO P w K mg base N x (ai st) f cdv A outer s H E).pW (aQ st) t/\t { nx:=λ_ H'=>Q .non H',rt:=Q } (start N vs) H):cL P w K mg base aO (k+1) f fd ps sp :=
 F.ok S len λcdv A outer s H vs Q E hr h=>hbody cdv A outer s H vs Q E hr h
theorem vk {P:Program} {w:World} {K:PySem.W.Frag} {mg:Str->Option Value} {k:Nat} {x y:Str} {sp:Sp} {st:Stmt} {fa:Addr} (hfa:mg x=some (.ref fa)) (D:au K mg x st)
  (hb:∀(kV doc pm:Value) (an:Option Addr) (cdv ct:Value) (u:Value),bindArgs (PySem.W.fnOf x x (bO st) (aQ st) (ai st) .none kV doc pm an cdv ct) ⟨[u],[]⟩=pure [(y,u)])
  (ok:∀(base:Heap) (f:Addr) (fd:FuncData),K.In base->uG K x x st f fd->cL P w K mg base aO k f fd [y] sp) :
  ∃ fd:FuncData,(∀(s:Shared) (u:Value),BindsTo s fd ⟨[u],[]⟩ [(y,u)])/\∀ base:Heap,K.In base->base.Ns mainGlobals mg->cL P w K mg base aO k fa fd [y] sp:=by
 obtain⟨f,fd,F,hm⟩:=D
 have e:=hfa.symm.trans hm
 cases e
 refine⟨fd,λs u=>?_,λbase kb _=>ok base _ _ kb F⟩
 obtain⟨oc,od,kV,doc,pm,an,cdv,ct,osl,rfl,lk,hcd⟩:=F.ex
 exact .of_eq (hb kV doc pm an cdv ct u)
end L2
namespace L2
open PySem PySem.Spec PyProof.Rows PySem.W
def bV:List Value:=[.type "ValueError",.type "Exception",.type "BaseException",.type "object"]
def bL:List Value->Bool
 | .ref _::r=>bL r
 | l=>l==bV
theorem nE (self:Value):refuseLoop self "__setattr__" bV=pure ():=by kernel_rfl
theorem jo (self:Value):∀{l:List Value},bL l=true->refuseLoop self "__setattr__" l=pure ()
 | .ref c::r,e=>by rw [refuseLoop_ref];exact jo self (l:=r) e
 | [],e=>by cases e
 | .type n::r,e=>by
  have:Value.type n::r=bV:=by simpa [bL] using e
  rw [this];exact nE self
 | .none::r,e=>by simp [bL,bV] at e
 | .bool _::r,e=>by simp [bL,bV] at e
 | .int _ _::r,e=>by simp [bL,bV] at e
 | .str _ _::r,e=>by simp [bL,bV] at e
 | .bytes _ _::r,e=>by simp [bL,bV] at e
 | .float _ _::r,e=>by simp [bL,bV] at e
 | .builtin _::r,e=>by simp [bL,bV] at e
theorem k9 {l:List Value}:bL l=true->l.contains (.type "object")=true/\l.contains (.type "BaseException")=true/\l.isEmpty=false:=by
 intro h
 induction l with
 | nil=>cases h
 | cons a r ih =>
  cases a with
  | ref c =>
   obtain⟨h1,h2,_⟩:=ih h
   exact⟨by rw [List.contains_cons,h1,Bool.or_true],by rw [List.contains_cons,h2,Bool.or_true],rfl⟩
  | type n =>
   have e:Value.type n::r=bV:=by simpa [bL] using h
   rw [e]
   exact⟨by decide,by decide,rfl⟩
  | _=>simp [bL,bV] at h
section
variable {prog:Program} {w:World} {A:Around} {E:Value->Shared->Prop} {s:Shared} {K:PySem.W.Frag} {x C:Addr} {name:Str} {v:Value} {cd:ClassData}
theorem uY {vs:Array Value} {sl:Array (Option Value)} {Q:Unit->Shared->Prop} (X:K.In s.heap) (hx:s.heap.get? x=some ⟨.ref C,none,.fields vs,sl⟩) (hc:clsIn K C=some cd) (hm:bL cd.mro=true) (hh:cd.hasDict=true)
  (hs:findIn K (.ref C) "__setattr__"=some (some (.builtin "object.__setattr__"))) (hn:findIn K (.ref C) name=some none)
  (h:∀ h',h'.get? x=some ⟨.ref C,some s.heap.objs.size,.fields vs,sl⟩->h'.Ns1 s.heap.objs.size (λy=>if y=name then some v else none)->(∀ b ob,b≠x->s.heap.get? b=some ob->h'.get? b=some ob)->Q () { s with heap:=h',toks:=s.toks+2 }) :
  wpAny (model prog w) A (setAttr (.ref x) name v) Q E s:=by
 have I:PySem.W.InstAt s.heap x ⟨.ref C,none,.fields vs,sl⟩ C none:=⟨hx,rfl,rfl,True.intro⟩
 obtain⟨m1,m2,m3⟩:=k9 hm
 refine PySem.W.set_plain X I hs ?_
 have SF:=PySem.F.store_object
 have sub:Looks (model prog w) s.heap (isInstance (.ref x) (.type "object")) true:=I.type.andThen (looks_mroIn X (by unfold mroIn;rw [hc,Option.bind_some,if_neg (by rw [m3];decide),m1]))
 refine codeAny_call_builtin SF.slot.plain SF.entry (@check_slot (model prog w) _ _ { s with toks:=s.toks+1 } "object.__setattr__" "object" "__setattr__" (.ref x) [.str name s.toks,v] [] _ SF.kind SF.split sub (SF.args (.ref x) (.str name s.toks) v) ?_)
 have L1:Looks (model prog w) s.heap (mroOf (.ref C)) cd.mro:=(looks_clsIn X hc).andThen .now
 rw [osa_eq,refuse_eq]
 refine wpAny_bind (wpAny_bind (Looks.here (s:={ s with toks:=s.toks+1 }) I.type (wpAny_bind (Looks.here (s:={ s with toks:=s.toks+1 }) L1 ?_))))
 rw [jo _ hm]
 refine wpAny_pure (wpAny_bind (Looks.here (s:={ s with toks:=s.toks+1 }) I.type (wpAny_bind (Looks.here (s:={ s with toks:=s.toks+1 }) (looks_findIn X hn) (wpAny_bind (wpAny_pure ?_))))))
 show wpAny _ _ (Builtin.ObjectAttr.storeInOwnDict (.ref x) (.ref C) (.str name s.toks) name v false) _ _ _
 refine wpAny_bind (wpAny_pure (wpAny_bind (wpAny_bind (wpAny_loadPart hx (wpAny_bind (Looks.here (s:={ s with toks:=s.toks+1 }) (looks_clsIn X hc) ?_))))))
 rw [hh]
 refine wpAny_bind (wpAny_alloc ?_)
 have hlt:x≠s.heap.objs.size:=Nat.ne_of_lt (Heap.lt_size hx)
 have hp:(s.heap.push { cls:=.type "dict",data:=.dict #[] }).get? x=some ⟨.ref C,none,.fields vs,sl⟩:=Heap.get?_push_of_some _ hx
 refine wpAny_bind (wpAny_update (s:={ s with toks:=s.toks+1,heap:=s.heap.push { cls:=.type "dict",data:=.dict #[] } }) hp ?_)
 refine wpAny_pure ?_
 show wpAny _ _ (Builtin.ObjectAttr.storeInDict s.heap.objs.size (.str name s.toks) name v) _ _ _
 generalize hu:(s.heap.push { cls:=.type "dict",data:=.dict #[] }).update x (λo=>{ o with dict:=some s.heap.objs.size })=h1
 have g1:h1.get? x=some ⟨.ref C,some s.heap.objs.size,.fields vs,sl⟩:=by rw [<- hu];exact Heap.get?_update_self _ hp rfl
 have g2:∀ b,b≠x->h1.get? b=(s.heap.push { cls:=.type "dict",data:=.dict #[] }).get? b:=λb hb=>by rw [<- hu];exact Heap.get?_update_other _ _ (Ne.symm hb)
 have g3:h1.Ns1 s.heap.objs.size (λ_=>none):=by
  have e1:h1.get? s.heap.objs.size=some { cls:=.type "dict",data:=.dict #[] }:=by rw [g2 _ (Ne.symm hlt)];exact Heap.get?_push_size _ rfl
  have e3:h1.Ns s.heap.objs.size (λ_=>none):=⟨_,#[],_,e1,rfl,(λe he=>absurd he (by simp)),λ_=>rfl⟩
  exact Heap.Ns1.of_empty e3
 refine wpAny_bind (wpAny_pure (wpAny_bind ?_))
 refine wpAny_nsSet1 (s:={ s with toks:=s.toks+1,heap:=h1 }) g3 λh' hn2 hs2=>?_
 obtain⟨oD,esD,epD,hoD,hdD,hcD⟩:=hn2.count (ns:=[name]) (PySem.Within.cons name v (ns:=[]) (λy hy=>absurd rfl hy))
 refine wpAny_bind (wpAny_lookBehind hoD (by rw [hdD];exact pastItsLine_dict (Nat.le_trans hcD (by show 1<=sizeLine+1;decide))) ?_)
 refine wpAny_pure (h h' ((hs2.2 _ hlt).trans g1) hn2 λb ob hb e=>?_)
 have hb2:b≠s.heap.objs.size:=Nat.ne_of_lt (Heap.lt_size e)
 exact (hs2.2 b hb2).trans ((g2 b hb).trans (Heap.get?_push_of_some _ e))
structure dj (K:PySem.W.Frag) (C:Addr):Prop where
 cls:∃ cd,clsIn K C=some cd/\bL cd.mro=true/\cd.hasDict=true
 at_:∃ od cd sl,K.lookup C=some ⟨.type "type",od,.cls cd,sl⟩
 sa:findIn K (.ref C) "__setattr__"=some (some (.builtin "object.__setattr__"))
 ga:findIn K (.ref C) "__getattribute__"=some (some (.builtin "BaseException.__getattribute__"))
 gx:findIn K (.ref C) "__getattr__"=some none
 ca:findIn K (.ref C) "__class__"=some (some (.builtin "object.__class__"))
 gs:specialIn K (.builtin "object.__class__") "__get__"=some (some (.builtin "getset_descriptor.__get__"))
 tk:takesIn K (.builtin "object.__class__")=some true
theorem dj.there (c:dj K C) {h:Heap} (X:K.In h):∃ oc od cd sl,h.get? C=some ⟨oc,od,.cls cd,sl⟩:=by
 obtain⟨cd,hc,_⟩:=c.cls
 unfold clsIn at hc
 split at hc
 ·rename_i c' d' cd' sl' ho
  exact⟨_,_,_,_,X _ _ ho⟩
 ·cases hc
end
section
variable {prog:Program} {w:World} {A:Around} {E:Value->Shared->Prop} {h:Heap} {g:Array GenState} {d:Drawn} {t:Nat} {os:OsState}
variable {nm q:Str} {C N:Addr} {bs bm:List Value} {hdct:Bool} {sn:List Str} {sub:List Value} {ab:Bool} {col:Option Bool} {dd:Option Addr} {k0 k1 k2 k3 k5:Option Value}
abbrev jU:String := "ValueError.__new__"
abbrev newExc (C a:Addr):Obj:={ cls:=.ref C,data:=.fields #[.ref a,.none,.none,.none,.bool false,.none] }
theorem uX (hB:bm.contains (.type "ValueError")=true) (hA:bm.contains (.type "AttributeError")=false) (hN:bm.contains (.type "NameError")=false) {rest:List Value} {R:Result->Shared->Prop}
  (hC:h.get? C=some (excClassObj nm q C N bs bm hdct sn sub ab col dd k0 k1 k2 k3 k5 jU)) (hrest:rest.length<=sizeLine)
  (hq:R (.ok (.ret (.ref (h.objs.size+1)))) ⟨(h.push { cls:=.type "tuple",data:=.seq rest.toArray }).push (newExc C h.objs.size),g,d,t,os⟩) :
  codeAny (model prog w) A (.builtin jU ⟨.ref C::rest,[]⟩) R ⟨h,g,d,t,os⟩:=by
 have Fn:=PySem.F.excBase_ValueError
 have hends:=Fn.ends
 have cB:(Value.ref C::bm).contains (.type "ValueError")=true:=by rw [List.contains_cons,hB,Bool.or_true]
 have cA:(Value.ref C::bm).contains (.type "AttributeError")=false:=by rw [List.contains_cons,hA];rfl
 have cN:(Value.ref C::bm).contains (.type "NameError")=false:=by rw [List.contains_cons,hN];rfl
 refine codeAny_builtinAt Fn.entry ?_
 unfold Builtin.«BaseException.__new__»
 refine PySem.wpAt_bind ?_
 show PySem.wpAt _ _ _ (stack >>= _) _ _ _
 refine PySem.wpAt_bind (PySem.wpAt_stack λp below=>PySem.wpAt_of_wpAny ?_)
 wp_walk
 refine PySem.wpAt_of_wpAny ?_
 rw [Fn.owner]
 repeat (first | with_reducible refine wpAny_madeHere_exc Fn.canon hC ?_ | with_reducible refine wpAny_loadPart_at hC ?_ | (with_reducible refine wpAny_isSubtype_exc hC ?_;first | rw [cB] | rw [cA] | rw [cN]) | wp_step)
 show R _ _
 rw [Heap.size_push]
 exact hq
theorem jM (hB:bm.contains (.type "ValueError")=true) {rest:List Value} {M:Model} {Q:Unit->Shared->Prop} (hC:h.get? C=some (excClassObj nm q C N bs bm hdct sn sub ab col dd k0 k1 k2 k3 k5 jU))
  (hq:Q () ⟨h,g,d,t,os⟩):wpAny M A (checkBuiltinCall jU ⟨.ref C::rest,[]⟩) Q E ⟨h,g,d,t,os⟩:=by
 have Fn:=PySem.F.excBase_ValueError
 have cB:(Value.ref C::bm).contains (.type "ValueError")=true:=by rw [List.contains_cons,hB,Bool.or_true]
 have hstar:=Fn.noStar
 simp only [checkBuiltinCall,Fn.newKind,Fn.newSplit,Fn.newRow]
 repeat (first | refine wpAny_loadPart_at hC ?_ | (refine wpAny_isSubtype_exc hC ?_;rw [cB]) | refine wpAny_staticBase_exc hC ?_ | refine wpAny_madeBy_exc hC ?_ | simp only [bne_self_eq_false,Bool.false_eq_true,if_false] | wp_step)
 exact hq
theorem la {K:PySem.W.Frag} {i:Value} {rest:List Value} {Q:Fin->Shared->Prop} (X:K.In h) (hB:bm.contains (.type "ValueError")=true) (hA:bm.contains (.type "AttributeError")=false) (hN:bm.contains (.type "NameError")=false)
  (hC:h.get? C=some (excClassObj nm q C N bs bm hdct sn sub ab col dd k0 k1 k2 k3 k5 jU)) (hrest:rest.length<=sizeLine) (hi:findIn K (.ref C) "__init__"=some (some i)) {j:Value}
  (hb:Looks (model prog w) h (bindSpecial i (.ref (h.objs.size+1))) (j,[.ref (h.objs.size+1)]))
  (hq:codeAny (model prog w) A (.call j ⟨.ref (h.objs.size+1)::rest,[]⟩) (λr s'=>match r with | .ok (.ret v)=>v=.none/\Q (.done (.ret (.ref (h.objs.size+1)))) s' | .ok _=>False | .error e=>E e s')
   ⟨(h.push { cls:=.type "tuple",data:=.seq rest.toArray }).push (newExc C h.objs.size),g,d,t,os⟩) :
  wpAny (model prog w) A (Builtin.«type.__call__» ⟨.ref C::rest,[]⟩) Q E ⟨h,g,d,t,os⟩:=by
 have Fn:=PySem.F.excBase_ValueError
 repeat (first | with_reducible refine wpAny_loadPart_at hC ?_ | with_reducible refine wpAny_madeBy_exc hC ?_ | wp_step)
 refine codeAny_call_builtin_code (Code.quiet_builtin _ Fn.quiet) (jM hB hC ?_)
 refine uX hB hA hN hC hrest ?_
 show wpAny _ _ _ _ _ _
 have kp:∀ b o,h.get? b=some o->((h.push { cls:=.type "tuple",data:=.seq rest.toArray }).push (newExc C h.objs.size)).get? b=some o:=λb o e=>Heap.get?_push_of_some _ (Heap.get?_push_of_some _ e)
 have hget:((h.push { cls:=.type "tuple",data:=.seq rest.toArray }).push (newExc C h.objs.size)).get? (h.objs.size+1)=some (newExc C h.objs.size):=by
  have:=Heap.get?_push_size (h.push { cls:=.type "tuple",data:=.seq rest.toArray }) (o:=newExc C h.objs.size) rfl
  rwa [Heap.size_push] at this
 have cC:(Value.ref C::bm).contains (.ref C)=true:=by simp
 have hC₁:=kp _ _ hC
 have L1:=(looks_findIn (M:=model prog w) X hi).keeps kp
 have L2:=hb.keeps kp
 unfold isInstance
 repeat (first | with_reducible refine wpAny_loadPart_at hget ?_ | (with_reducible refine wpAny_isSubtype_exc hC₁ ?_;rw [cC]) | wp_step)
 show wpAny _ _ (typeLookup (.ref C) _) _ _ _
 refine L1.at (wpAny_holding (wpAny_bind (L2.at (wpAny_bind (wpAny_call (codeAny_mono hq λr s' z=>?_))))))
 rcases r with e | (_ | _ | _ | v)
 ·exact z
 ·exact z.elim
 ·exact z.elim
 ·exact z.elim
 ·obtain⟨rfl,z⟩:=z
  exact wpAny_pure (wpAny_pure z)
theorem mP {K:PySem.W.Frag} {i:Value} {rest:List Value} {Q:Value->Shared->Prop} (X:K.In h) (hB:bm.contains (.type "ValueError")=true) (hA:bm.contains (.type "AttributeError")=false) (hN:bm.contains (.type "NameError")=false)
  (hC:h.get? C=some (excClassObj nm q C N bs bm hdct sn sub ab col dd k0 k1 k2 k3 k5 jU)) (hrest:rest.length<=sizeLine) (hi:findIn K (.ref C) "__init__"=some (some i)) {j:Value}
  (hb:Looks (model prog w) h (bindSpecial i (.ref (h.objs.size+1))) (j,[.ref (h.objs.size+1)]))
  (hq:codeAny (model prog w) (A.under (.builtin "type.__call__" ⟨.ref C::rest,[]⟩)) (.call j ⟨.ref (h.objs.size+1)::rest,[]⟩) (λr s'=>match r with | .ok (.ret v)=>v=.none/\Q (.ref (h.objs.size+1)) s' | .ok _=>False | .error e=>E e s')
   ⟨(h.push { cls:=.type "tuple",data:=.seq rest.toArray }).push (newExc C h.objs.size),g,d,t,os⟩) :
  wpAny (model prog w) A (call (.ref C) rest) Q E ⟨h,g,d,t,os⟩:=by
 have f1:=tc_lookup
 have f2:=tc_bind (.ref C)
 have hT:(⟨h,g,d,t,os⟩:Shared).TypeIs (.ref C) "type":=⟨_,hC,rfl⟩
 refine wpAny_call (codeAny_of_tree ?_)
 show wpAny _ _ (callAny (.ref C) _) _ _ _
 repeat (any_goals (first | assumption | with_reducible refine wpAny_loadPart_at hC ?_ | wp_step))
 refine⟨rfl,?_⟩
 refine codeAny_call_builtin_at (Code.quiet_builtin _ (by decide +kernel)) entry_typeCall (wpAny_check_type_call_sub hC ?_)
 exact la X hB hA hN hC hrest hi hb hq
end
def Tr (h:Heap) (e:Addr) (C:Value) (dd:Option Addr) (T:Addr) (fl:Value):Prop :=
 ∃ vs sl oT ts,h.get? e=some ⟨C,dd,.fields vs,sl⟩/\vs[1]?=some (.ref T)/\T≠e/\h.get? T=some oT/\oT.data=.fields ts/\ts[3]?=some fl
structure Kp (fs ch:List Addr) (h h':Heap):Prop where
 keep:∀ b o,b∉ch->b∉fs->h.get? b=some o->h'.get? b=some o
 slot:∀ b o,b∉ch->h.get? b=some o->∃ sl,h'.get? b=some { o with slots:=sl }
theorem Kp.trans {fs ch:List Addr} {h h' h'':Heap} (a:Kp fs ch h h') (b:Kp fs ch h' h''):Kp fs ch h h'' :=
 ⟨λc o hc hf e=>b.keep c o hc hf (a.keep c o hc hf e),λc o hc e=>by
  obtain⟨sl,e1⟩:=a.slot c o hc e
  obtain⟨sl',e2⟩:=b.slot c _ hc e1
  exact⟨sl',e2⟩⟩
theorem Kp.mono {fs ch ch':List Addr} {h h':Heap} (a:Kp fs ch h h') (hs:∀ b∈ch,b∈ch'):Kp fs ch' h h' :=
 ⟨λc o hc hf e=>a.keep c o (λz=>hc (hs c z)) hf e,λc o hc e=>a.slot c o (λz=>hc (hs c z)) e⟩
section
variable {M:Model} {A:Around} {E:Value->Shared->Prop} {s:Shared} {base:Heap} {env:Env} {outer:List Env} {L e T:Addr} {C:Value} {dd:Option Addr} {fl:Value}
theorem mR {vs:Array Value} {sl:Array (Option Value)} {head:Value} {hadNext:Bool} {Q:Unit->Shared->Prop} (hfr:A.frames=some (env::outer)) (hl:s.heap.FunFrames base (env::outer)) (hf:env.frame=some L)
  (he:s.heap.get? e=some ⟨C,dd,.fields vs,sl⟩) (hsz:1<vs.size)
  (h:∀ h' T,Tr h' e C dd T (rawInt L)->s.heap.objs.size<=T->Kp (fu (env::outer)) [e] s.heap h'->Q () { s with heap:=h' }) :
  wpAny M A (do let a <- frameOf env;let pl <- entryPlaceOf L hadNext;let b <- EntryCells.newEntry head a .none (rawInt L) .none pl;setField (.ref e) 1 b) Q E s:=by
 have hne:e∉fu (env::outer):=λhm=>by
  obtain⟨_,o,ho,hnf⟩:=hl.mem hm
  rw [he] at ho
  cases ho
  exact hnf vs rfl
 refine wpAny_bind (wpAny_frameOf_fun hfr hl hf λh1 so=>?_)
 refine wpAny_bind (wpAny_entryPlaceOf λpl hpl=>?_)
 unfold EntryCells.newEntry newFields
 refine wpAny_bind (wpAny_newObj_type ?_ (hpl.sizeOk5 _ _ _ _ _))
 have e1:h1.get? e=some ⟨C,dd,.fields vs,sl⟩:=(so.2.1 e hne).trans he
 generalize hO:({ cls:=.type "traceback",dict:=none,data:=.fields ([head,.ref L,.none,rawInt L,.none]++(if pl.isEmpty then List.replicate 6 Value.none else pl)).toArray }:Obj)=oT
 have hTd:oT.data=.fields ([head,.ref L,.none,rawInt L,.none]++(if pl.isEmpty then List.replicate 6 Value.none else pl)).toArray:=by rw [<- hO]
 have hTf:oT.isFreed=false:=by rw [<- hO];rfl
 have e2:(h1.push oT).get? e=some ⟨C,dd,.fields vs,sl⟩:=Heap.get?_push_of_some oT e1
 refine wpAny_setField e2 rfl hsz (h _ h1.objs.size ?_ ?_ ?_)
 ·have ne:h1.objs.size≠e:=Nat.ne_of_gt (Heap.lt_size e1)
  refine⟨vs.setIfInBounds 1 (.ref h1.objs.size),sl,oT,_,Heap.get?_update_self _ e2 rfl,by simp [hsz],ne,?_,hTd,by simp⟩
  rw [Heap.get?_update_other _ _ (Ne.symm ne)]
  exact Heap.get?_push_size h1 hTf
 ·exact Nat.le_of_eq (Eq.symm so.1)
 ·refine⟨λb o hb hf' q=>?_,λb o hb q=>?_⟩
  ·have hb':b≠e:=λz=>hb (by simp [z])
   rw [Heap.get?_update_other _ _ (Ne.symm hb')]
   exact Heap.get?_push_of_some oT ((so.2.1 b hf').trans q)
  ·have hb':b≠e:=λz=>hb (by simp [z])
   obtain⟨sl',q'⟩:=so.2.2 b o q
   refine⟨sl',?_⟩
   rw [Heap.get?_update_other _ _ (Ne.symm hb')]
   exact Heap.get?_push_of_some oT q'
theorem oH {vs:Array Value} {sl:Array (Option Value)} {Q:Unit->Shared->Prop} (hfr:A.frames=some (env::outer)) (hl:s.heap.FunFrames base (env::outer)) (hf:env.frame=some L)
  (he:s.heap.get? e=some ⟨C,dd,.fields vs,sl⟩) (h1:vs[1]?=some .none)
  (h:∀ h' T,Tr h' e C dd T (rawInt L)->s.heap.objs.size<=T->Kp (fu (env::outer)) [e] s.heap h'->Q () { s with heap:=h' }):wpAny M A (noteFrame (.ref e) env) Q E s:=by
 unfold noteFrame
 simp only [hf]
 refine wpAny_bind (wpAny_field he rfl h1 ?_)
 rw [if_neg (by decide)]
 exact mR hfr hl hf he (Array.getElem?_eq_some_iff.mp h1).1 h
theorem qZ {Q:Unit->Shared->Prop} (hfr:A.frames=some (env::outer)) (hl:s.heap.FunFrames base (env::outer)) (hf:env.frame=some L) (ht:Tr s.heap e C dd T .none)
  (h:∀ h' T',Tr h' e C dd T' (rawInt L)->s.heap.objs.size<=T'->Kp (fu (env::outer)) [e,T] s.heap h'->Q () { s with heap:=h' }):wpAny M A (noteFrame (.ref e) env) Q E s:=by
 obtain⟨vs,sl,oT,ts,he,h1,hTe,hT,hdT,h3⟩:=ht
 unfold noteFrame
 simp only [hf]
 refine wpAny_bind (wpAny_field he rfl h1 ?_)
 rw [if_pos (show (Value.ref T != Value.none)=true from by simp)]
 refine wpAny_bind (wpAny_field hT hdT h3 ?_)
 rw [if_neg (show ¬((Value.none==rawInt L)=true) from by simp [rawInt])]
 refine wpAny_bind (wpAny_setField hT hdT (Array.getElem?_eq_some_iff.mp h3).1 ?_)
 generalize hu:s.heap.update T (Obj.mapFields (·.setIfInBounds 3 Value.none))=h1'
 have oth:∀ b,b≠T->h1'.get? b=s.heap.get? b:=λb hb=>by rw [<- hu];exact Heap.get?_update_other _ _ (Ne.symm hb)
 have hT1:∃ o,h1'.get? T=some o:=⟨_,by rw [<- hu];exact Heap.get?_update_self _ hT (Obj.isFreed_of_fields (Obj.data_mapFields hdT _))⟩
 have hl1:h1'.FunFrames base (env::outer):=hl.of_keeps λb o hb hnf=>⟨o,(oth b λq=>by rw [q,hT] at hb;cases hb;exact hnf ts hdT).trans hb,rfl⟩
 refine mR (s:={ s with heap:=h1' }) hfr hl1 hf ((oth e (Ne.symm hTe)).trans he) (Array.getElem?_eq_some_iff.mp h1).1 λh' T' t' n' k'=>h h' T' t' ?_ ?_
 ·have z:h1'.objs.size=s.heap.objs.size:=by rw [<- hu];exact Heap.size_update ..
  rw [<- z];exact n'
 ·refine⟨λb o hb hf' q=>k'.keep b o (λz=>hb (by simp at z;simp [z])) hf' ((oth b λz=>hb (by simp [z])).trans q),λb o hb q=>k'.slot b o (λz=>hb (by simp at z;simp [z])) ((oth b λz=>hb (by simp [z])).trans q)⟩
theorem land {Q:Unit->Shared->Prop} {fs:List Addr} (ht:Tr s.heap e C dd T fl) (h:∀ h',Tr h' e C dd T .none->Kp fs [T] s.heap h'->Q () { s with heap:=h' }):wpAny M A (setFlight (.ref e) none) Q E s:=by
 obtain⟨vs,sl,oT,ts,he,h1,hTe,hT,hdT,h3⟩:=ht
 unfold setFlight
 refine wpAny_bind (wpAny_field he rfl h1 ?_)
 rw [if_pos (show (Value.ref T != Value.none)=true from by simp)]
 have hsz:=(Array.getElem?_eq_some_iff.mp h3).1
 refine wpAny_setField hT hdT hsz (h _ ?_ ?_)
 ·refine⟨vs,sl,_,_,(Heap.get?_update_other _ _ hTe).trans he,h1,hTe,Heap.get?_update_self _ hT (Obj.isFreed_of_fields (Obj.data_mapFields hdT _)),Obj.data_mapFields hdT _,by simp [hsz]⟩
 ·refine⟨λb o hb _ q=>(Heap.get?_update_other _ _ λz=>hb (by simp [z])).trans q,λb o hb q=>⟨o.slots,(Heap.get?_update_other _ _ λz=>hb (by simp [z])).trans q⟩⟩
theorem mV {vs:Array Value} {sl:Array (Option Value)} {Q:Unit->Shared->Prop} (hfr:A.frames=some (env::outer)) (hl:s.heap.FunFrames base (env::outer)) (hf:env.frame=some L)
  (he:s.heap.get? e=some ⟨C,dd,.fields vs,sl⟩) (h1:vs[1]?=some .none)
  (h:∀ h' T,Tr h' e C dd T .none->s.heap.objs.size<=T->Kp (fu (env::outer)) [e] s.heap h'->Q () { s with heap:=h' }):wpAny M A (leaving env (.ref e)) Q E s:=by
 unfold leaving
 refine wpAny_bind (oH hfr hl hf he h1 λh1' T t1 n1 k1=>?_)
 refine land (fs:=fu (env::outer)) t1 λh2 t2 k2=>h h2 T t2 n1 ⟨λb o hb hf' q=>?_,λb o hb q=>?_⟩
 ·exact k2.keep b o (λz=>by simp at z;rw [z] at q;exact absurd (Heap.lt_size q) (Nat.not_lt.mpr n1)) hf' (k1.keep b o hb hf' q)
 ·obtain⟨s1,q1⟩:=k1.slot b o hb q
  obtain⟨s2,q2⟩:=k2.slot b _ (λz=>by simp at z;rw [z] at q;exact absurd (Heap.lt_size q) (Nat.not_lt.mpr n1)) q1
  exact⟨s2,q2⟩
theorem oA {Q:Unit->Shared->Prop} (hfr:A.frames=some (env::outer)) (hl:s.heap.FunFrames base (env::outer)) (hf:env.frame=some L) (ht:Tr s.heap e C dd T .none)
  (h:∀ h' T',Tr h' e C dd T' .none->s.heap.objs.size<=T'->Kp (fu (env::outer)) [e,T] s.heap h'->Q () { s with heap:=h' }):wpAny M A (leaving env (.ref e)) Q E s:=by
 unfold leaving
 refine wpAny_bind (qZ hfr hl hf ht λh1' T' t1 n1 k1=>?_)
 refine land (fs:=fu (env::outer)) t1 λh2 t2 k2=>h h2 T' t2 n1 ⟨λb o hb hf' q=>?_,λb o hb q=>?_⟩
 ·exact k2.keep b o (λz=>by simp at z;rw [z] at q;exact absurd (Heap.lt_size q) (Nat.not_lt.mpr n1)) hf' (k1.keep b o hb hf' q)
 ·obtain⟨s1,q1⟩:=k1.slot b o hb q
  obtain⟨s2,q2⟩:=k2.slot b _ (λz=>by simp at z;rw [z] at q;exact absurd (Heap.lt_size q) (Nat.not_lt.mpr n1)) q1
  exact⟨s2,q2⟩
end
def XO (x C:Addr) (dd:Option Addr):HO:=.ext λh=>∃ vs sl,h.get? x=some ⟨.ref C,dd,.fields vs,sl⟩
def XN (x C:Addr) (dd:Option Addr):HO:=.ext λh=>∃ t sl,h.get? x=some ⟨.ref C,dd,.fields #[.ref t,.none,.none,.none,.bool false,.none],sl⟩
section
variable {P:Program} {w:World} {H H':Hp} {h h':Heap} {x C:Addr} {dd:Option Addr}
theorem XO.ok {vs:Array Value} {sl:Array (Option Value)} (e:h.get? x=some ⟨.ref C,dd,.fields vs,sl⟩):ba P w H h x (XO x C dd) :=
 ⟨⟨vs,sl,e⟩,⟨_,e⟩,λ_ _ ⟨vs,sl,q⟩ k=>⟨vs,sl,k _ q⟩⟩
theorem XN.ok {t:Addr} {sl:Array (Option Value)} (e:h.get? x=some ⟨.ref C,dd,.fields #[.ref t,.none,.none,.none,.bool false,.none],sl⟩):ba P w H h x (XN x C dd) :=
 ⟨⟨t,sl,e⟩,⟨_,e⟩,λ_ _ ⟨vs,sl,q⟩ k=>⟨vs,sl,k _ q⟩⟩
theorem XN.get (hok:ef P w H h) (e:H x=some (XN x C dd)):∃ t sl,h.get? x=some ⟨.ref C,dd,.fields #[.ref t,.none,.none,.none,.bool false,.none],sl⟩:=by
 obtain⟨q,_⟩:=(show ba P w H h x (XN x C dd) from hok x _ e)
 exact q
end
def iE (P:Program) (w:World):jJ:=λouter H s E e s'=>∃(x C T:Addr) (dd:Option Addr) (H':Hp),e=.ref x/\s'.os=s.os/\AllBare s'.gens/\Un (fu outer) [] H H' s.heap s'.heap/\ef P w H' s'.heap /\
 Tr s'.heap x (.ref C) dd T .none/\s.heap.get? x=none/\s.heap.get? T=none/\H' T=none/\H' x=some (XO x C dd)/\E (.ref C) (some x) H'
theorem pN {base h h':Heap} {H H':Hp} {ex:List Addr}:∀{l:List Env} {fs:List Addr},h.FunFrames base l->Un fs ex H H' h h'->(∀ b∈fu l,H b=none)->(∀ b∈fu l,b∉ex)->h'.FunFrames base l
 | [],_,_,_,_,_=>trivial
 | env::r,fs,hl,u,hn,hx=>by
  obtain⟨hk,⟨L,o,hf,hb,ho,hd⟩,hr⟩:=hl
  have hL:L∈fu (env::r):=by unfold fu;rw [List.filterMap_cons,hf];exact List.mem_cons_self
  have sub:∀ b∈fu r,b∈fu (env::r):=λb hb'=>by unfold fu;rw [List.filterMap_cons,hf];exact List.mem_cons_of_mem _ hb'
  obtain⟨sl,e⟩:=u.any ho (hn L hL) (hx L hL)
  exact⟨hk,⟨L,_,hf,hb,e,hd⟩,pN hr u (λb hb'=>hn b (sub b hb')) λb hb'=>hx b (sub b hb')⟩
theorem pM {P:Program} {w:World} {H':Hp} {h h':Heap} {x C:Addr} {dd:Option Addr} {fs ch:List Addr} (hok:ef P w H' h) (k:Kp fs ch h h') (hch:∀ b∈ch,b=x∨H' b=none) (hfs:∀ b∈fs,H' b=none)
  (hx:H' x=some (XO x C dd)) {vs:Array Value} {sl:Array (Option Value)} (e:h'.get? x=some ⟨.ref C,dd,.fields vs,sl⟩):ef P w H' h':=by
 intro b o q
 by_cases hb:b=x
 ·subst hb
  rw [hx] at q
  cases q
  exact XO.ok e
 ·refine (hok b o q).jH (λc u hc r=>k.keep c u (λz=>?_) (λz=>?_) r) (λ_ r=>r) λ_ _ r=>r
  ·rcases hch c z with q1 | q1
   ·rcases hc with q2 | q2
    ·exact hb (q2.symm.trans q1)
    ·rw [q1,hx] at q2;cases q2
   ·rcases hc with q2 | q2
    ·rw [q2,q] at q1;cases q1
    ·rw [q2] at q1;cases q1
  ·have q1:=hfs c z
   rcases hc with q2 | q2
   ·rw [q2,q] at q1;cases q1
   ·rw [q2] at q1;cases q1
theorem tO {P:Program} {w:World} {K:PySem.W.Frag} {mg:Str->Option Value} {base:Heap} {N:List Str} {qual:Str} {scope:Scope} {f:Addr} {cd:Value} {A:Around} {outer:List Env} {s:Shared} {H:Hp} {E:XK} :
  Passes (iE P w) (dH (iE P w) P w K mg base N qual scope f cd A outer s H E) E:=by
 intro pins σ H1 s1 e s' I hq
 obtain⟨x,C,T,dd,H',rfl,os,bare,un,hok,tr,nx,nT,hT,hx,hE⟩:=hq
 have hl:=pN I.stack un I.gI (λb _=>by simp)
 have frN:∀ b∈fu (envOfC qual scope s.heap.objs.size f cd::outer),H' b=none:=λb hb=>by
  obtain⟨_,o,ho,_⟩:=I.stack.mem hb
  exact un.free b o ho (I.gI b hb) (by simp)
 show wpAny (model P w) (A.deeper (envOfC qual scope s.heap.objs.size f cd)) (leaving (envOfC qual scope s.heap.objs.size f cd) (.ref x)) _ _ s'
 refine oA (L:=s.heap.objs.size) I.ok.frames hl rfl tr λh'' T' t' n' k'=>?_
 have old:∀ b o,s.heap.get? b=some o->b∉[x,T]:=λb o q hb=>by
  obtain⟨o1,q1⟩:=I.base.there b o q (by intro z;exact absurd (show b∈([]:List Addr) from z) (by simp))
  rcases List.mem_cons.mp hb with z | z
  ·rw [z,nx] at q1;cases q1
  ·rw [List.mem_singleton.mp z,nT] at q1;cases q1
 have nex:∀ b:Addr,b∉(dH (iE P w) P w K mg base N qual scope f cd A outer s H E).ex:=λb z=>absurd (show b∈([]:List Addr) from z) (by simp)
 have nfr:∀ b o,s.heap.get? b=some o->b∉fu outer->b∉fu (envOfC qual scope s.heap.objs.size f cd::outer):=λb o q hb hm=>by
  rcases List.mem_cons.mp (I.eV b hm) with z | z
  ·exact absurd (Heap.lt_size q) (by rw [z];exact Nat.lt_irrefl _)
  ·exact hb z
 obtain⟨vs,sl,oT,ts,he,r'⟩:=t'
 have tr':Tr h'' x (.ref C) dd T' .none:=⟨vs,sl,oT,ts,he,r'⟩
 refine⟨x,C,T',dd,H',rfl,os.trans I.os,bare,?_,?_,tr',?_,?_,hok.fresh n',hx,hE⟩
 ·refine⟨λb o q nn hb _=>?_,λb o q nn hb _=>?_,λb o q nn _=>?_,λb o q _=>?_,λb xs q=>un.tups b xs (I.base.tups b xs q),λb o xs q=>un.frzs b o xs (I.base.frzs b o xs q),λb ps q=>?_⟩
  ·have q1:=I.base.keep b o q nn hb (nex b)
   have q2:=un.keep b o q1 (I.base.free b o q nn (nex b)) (nfr b o q hb) (by simp)
   exact k'.keep b o (old b o q) (nfr b o q hb) q2
  ·obtain⟨s1',q1⟩:=I.base.slot b o q nn hb (nex b)
   obtain⟨s2',q2⟩:=un.any q1 (I.base.free b o q nn (nex b)) (by simp)
   obtain⟨s3',q3⟩:=k'.slot b _ (old b o q) q2
   exact⟨s3',q3⟩
  ·obtain⟨o1,q1⟩:=I.base.there b o q (nex b)
   exact un.free b o1 q1 (I.base.free b o q nn (nex b)) (by simp)
  ·obtain⟨o1,q1⟩:=I.base.there b o q (nex b)
   obtain⟨o2,q2⟩:=un.there b o1 q1 (by simp)
   obtain⟨s3',q3⟩:=k'.slot b _ (old b o q) q2
   exact⟨_,q3⟩
  ·obtain⟨m1,e1⟩:=I.base.tbls b ps q
   obtain⟨m2,e2⟩:=un.tbls b _ e1
   exact⟨m1++m2,by rw [e2,Array.append_assoc]⟩
 ·exact pM hok k' (λb hb=>by
   rcases List.mem_cons.mp hb with z | z
   ·exact .inl z
   ·exact .inr (by rw [List.mem_singleton.mp z];exact hT)) frN hx he
 ·cases q:s.heap.get? x with
  | none=>rfl
  | some o=>exact absurd (List.mem_cons_self) (old x o q)
 ·cases q:s.heap.get? T' with
  | none=>rfl
  | some o =>
   obtain⟨o1,q1⟩:=I.base.there T' o q (nex T')
   obtain⟨o2,q2⟩:=un.there T' o1 q1 (by simp)
   exact absurd (Heap.lt_size q2) (Nat.not_lt.mpr n')
section
variable {prog:Program} {w:World} {A:Around} {E:Value->Shared->Prop} {s:Shared} {K:PySem.W.Frag} {env:Env}
theorem jN {x:Sem Value} {Q:Flow->Shared->Prop} (hh:A.handled=none)
  (h:wpAny (model prog w) A x (λv s₁=>∃ e C t dd sl,v=.ref e/\K.In s₁.heap/\dj K C/\s₁.heap.get? e=some ⟨.ref C,dd,.fields #[.ref t,.none,.none,.none,.bool false,.none],sl⟩/\E (.ref e) s₁) E s) :
  wpAny (model prog w) A (raiseStmt env (some x) none) Q E s:=by
 unfold raiseStmt
 refine wpAny_bind (wpAny_mono h (λv s₁ h₁=>?_) λ_ _ z=>z)
 obtain⟨e,C,t,dd,sl,rfl,X,c,he,hE⟩:=h₁
 obtain⟨hp,g,d,tk,os⟩:=s₁
 have L1:Looks (model prog w) hp (isSubtype (.ref C) (.type "BaseException")) true:=by
  obtain⟨cd,hc,hm,_⟩:=c.cls
  obtain⟨m1,m2,m3⟩:=k9 hm
  exact looks_mroIn X (by unfold mroIn;rw [hc,Option.bind_some,if_neg (by rw [m3];decide),m2])
 obtain⟨od,cd,sc,hk⟩:=c.at_
 have hC:=X _ _ hk
 repeat (first | with_reducible refine wpAny_loadPart_at he ?_ | with_reducible refine wpAny_loadPart_at hC ?_ | with_reducible refine Looks.at L1 ?_ | wp_step)
 exact wpAny_raiseNew_none hh hE
end
def um (K:PySem.W.Frag) (H₀:Hp) (E:XK) (te:TE):TS:=λ_ σ H=>te σ H λv H1=>∃ x C dd,v=.ref x/\H1 x=some (XN x C dd)/\dj K C/\H₀ x=none/\E (.ref C) (some x) (upd H1 x (XO x C dd))
section
variable {P:Program} {w:World} {K:PySem.W.Frag} {mg:Str->Option Value} {base:Heap} {N:List Str} {qual:Str} {scope:Scope} {f:Addr} {cd:Value} {A:Around} {outer:List Env} {s:Shared} {H:Hp} {E:XK}
theorem rG {pins:List (Addr × Obj)} {σ:St} {H2:Hp} {s2:Shared} {x C:Addr} {dd:Option Addr} (I:Inv (dH (iE P w) P w K mg base N qual scope f cd A outer s H E) pins σ H2 s2) (hx:H2 x=some (XN x C dd)) (hn:H x=none)
  (hE:E (.ref C) (some x) (upd H2 x (XO x C dd))):(dH (iE P w) P w K mg base N qual scope f cd A outer s H E).xe (.ref x) s2:=by
 obtain⟨t,sl,he⟩:=XN.get I.hok hx
 have nex:∀ b:Addr,b∉(dH (iE P w) P w K mg base N qual scope f cd A outer s H E).ex:=λb z=>absurd (show b∈([]:List Addr) from z) (by simp)
 have nx:s.heap.get? x=none:=by
  cases q:s.heap.get? x with
  | none=>rfl
  | some o =>
   have:=I.base.free x o q hn (nex x)
   rw [hx] at this
   cases this
 have old:∀ b o,s.heap.get? b=some o->b≠x:=λb o q z=>by rw [z,nx] at q;cases q
 have nfr:∀ b o,s.heap.get? b=some o->b∉fu outer->b∉fu (envOfC qual scope s.heap.objs.size f cd::outer):=λb o q hb hm=>by
  rcases List.mem_cons.mp (I.eV b hm) with z | z
  ·exact absurd (Heap.lt_size q) (by rw [z];exact Nat.lt_irrefl _)
  ·exact hb z
 have hok':ef P w (upd H2 x (XO x C dd)) s2.heap:=λb o q=>by
  by_cases hb:b=x
  ·subst hb
   rw [ah] at q
   cases q
   exact XO.ok he
  ·rw [ao hb] at q
   refine (I.hok b o q).jH (λ_ _ _ r=>r) (λc r=>?_) λc xs r=>?_
   ·rw [ao (λz=>by rw [z,hx] at r;cases r)];exact r
   ·rw [ao (λz=>by rw [z,hx] at r;cases r)];exact r
 show wpAny (model P w) (A.deeper (envOfC qual scope s.heap.objs.size f cd)) (leaving (envOfC qual scope s.heap.objs.size f cd) (.ref x)) _ _ s2
 refine mV (L:=s.heap.objs.size) I.ok.frames I.stack rfl he rfl λh'' T t' n' k'=>?_
 obtain⟨vs,sl',oT,ts,he',r'⟩:=t'
 have tr':Tr h'' x (.ref C) dd T .none:=⟨vs,sl',oT,ts,he',r'⟩
 have nT:T≠x:=r'.2.1
 refine⟨x,C,T,dd,upd H2 x (XO x C dd),rfl,I.os,I.bare,?_,?_,tr',nx,?_,?_,ah,hE⟩
 ·refine⟨λb o q nn hb _=>?_,λb o q nn hb _=>?_,λb o q nn _=>?_,λb o q _=>?_,λb xs q=>?_,λb o xs q=>?_,λb ps q=>?_⟩
  ·exact k'.keep b o (by simp [old b o q]) (nfr b o q hb) (I.base.keep b o q nn hb (nex b))
  ·obtain⟨s1',q1⟩:=I.base.slot b o q nn hb (nex b)
   obtain⟨s3',q3⟩:=k'.slot b _ (by simp [old b o q]) q1
   exact⟨s3',q3⟩
  ·rw [ao (old b o q)]
   exact I.base.free b o q nn (nex b)
  ·obtain⟨o1,q1⟩:=I.base.there b o q (nex b)
   obtain⟨s3',q3⟩:=k'.slot b _ (by simp [old b o q]) q1
   exact⟨_,q3⟩
  ·have:=I.base.tups b xs q
   rw [ao (λz=>by rw [z,hx] at this;cases this)];exact this
  ·have:=I.base.frzs b o xs q
   rw [ao (λz=>by rw [z,hx] at this;cases this)];exact this
  ·obtain⟨m1,e1⟩:=I.base.tbls b ps q
   exact⟨m1,by rw [ao (λz=>by rw [z,hx] at e1;cases e1)];exact e1⟩
 ·exact pM hok' k' (λb hb=>.inl (by simpa using hb)) (λb hb=>by
   have z:=I.gI b hb
   rw [ao (λy=>by rw [y,hx] at z;cases z)];exact z) ah he'
 ·cases q:s.heap.get? T with
  | none=>rfl
  | some o =>
   obtain⟨o1,q1⟩:=I.base.there T o q (nex T)
   exact absurd (Heap.lt_size q1) (Nat.not_lt.mpr n')
 ·rw [ao nT]
  exact I.hok.fresh n'
theorem ny {e:Expr} {te:TE} {pos:Pos} (he:PE (dH (iE P w) P w K mg base N qual scope f cd A outer s H E) e te):PS (dH (iE P w) P w K mg base N qual scope f cd A outer s H E) (.Raise (some e) none pos) (um K H E te):=by
 intro pins s1 σ H1 D I h
 rw [arm_exec_Raise]
 refine wpAny_bind (wpAny_standAt (jN (K:=K) (I.ok.hd rfl) (wpAny_bind (br (he pins s1 σ H1 _ I h) λv s2 ⟨y,H2,I2,r,x,C,dd,ey,hx,c,hn,hE⟩=>?_))))
 subst ey
 obtain rfl:v=Value.ref x:=r
 obtain⟨t,sl,hg⟩:=XN.get I2.hok hx
 exact wpAny_bind (wpAny_standAt (wpAny_pure ⟨x,C,t,dd,sl,rfl,I2.eA,c,hg,rG I2 hx hn hE⟩))
end
section
variable {prog:Program} {w:World} {A:Around} {E:Value->Shared->Prop} {h:Heap} {g:Array GenState} {d:Drawn} {t:Nat} {os:OsState}
variable {nm q:Str} {C N:Addr} {bs bm:List Value} {hdct:Bool} {sn:List Str} {sub:List Value} {ab:Bool} {col:Option Bool} {dd:Option Addr} {k0 k1 k2 k3 k5:Option Value}
theorem qO {R:Result->Shared->Prop} {e a:Addr} (hB:bm.contains (.type "ValueError")=true) (hC:h.get? C=some (excClassObj nm q C N bs bm hdct sn sub ab col dd k0 k1 k2 k3 k5 jU)) (he:h.get? e=some (newExc C a))
  (hq:∀ h',h'.get? e=some (newExc C h.objs.size)->(∀ b o,b≠e->h.get? b=some o->h'.get? b=some o)->R (.ok (.ret .none)) ⟨h',g,d,t,os⟩) :
  codeAny (model prog w) A (.call (.builtin "ValueError.__init__") ⟨[.ref e],[]⟩) R ⟨h,g,d,t,os⟩:=by
 have Fn:=PySem.F.excBase_ValueError
 have cB:(Value.ref C::bm).contains (.type "ValueError")=true:=by rw [List.contains_cons,hB,Bool.or_true]
 have hshort:=Fn.noStar
 refine codeAny_call_builtin Fn.init.plain Fn.initEntry ?_
 have chk:∀{Q:Unit->Shared->Prop} {E:Value->Shared->Prop} {A:Around},Q () ⟨h,g,d,t,os⟩->wpAny (model prog w) A (checkBuiltinCall "ValueError.__init__" ⟨[.ref e],[]⟩) Q E ⟨h,g,d,t,os⟩:=by
  intro Q E A hq
  simp only [checkBuiltinCall,Fn.initKind,Fn.initSplit,Fn.initRow]
  repeat (first | with_reducible refine wpAny_loadPart_at he ?_ | with_reducible refine wpAny_loadPart_at hC ?_ | (with_reducible refine wpAny_isSubtype_exc hC ?_;rw [cB]) | wp_step)
  exact hq
 refine chk ?_
 wp_walk
 have hp:=Heap.get?_push_of_some (h:=h) { cls:=.type "tuple",data:=.seq ([]:List Value).toArray } he
 refine hq _ ?_ λb o hb z=>?_
 ·exact Heap.get?_update_self _ hp rfl
 ·rw [Heap.get?_update_other _ _ (Ne.symm hb)]
  exact Heap.get?_push_of_some _ z
end
theorem cL.any {P:Program} {w:World} {K:PySem.W.Frag} {mg:Str->Option Value} {base:Heap} {CX:jJ} {k:Nat} {f:Addr} {fd:FuncData} {ps:List Str} {sp:Sp} (F:cL P w K mg base aO k f fd ps sp):cL P w K mg base CX k f fd ps sp :=
 ⟨F.len,λA outer s H args us vs Q E hr he hb hv hs=>codeAny_mono (F.run A outer s H args us vs Q E hr he hb hv hs) λr s' q=>by
  cases r with
  | error e=>exact False.elim q
  | ok fl =>
   cases fl with
   | ret u=>exact q
   | next=>exact q
   | brk=>exact q
   | cont=>exact q⟩
def zH (K:PySem.W.Frag) (ta tv:TE) (f:Str):TS:=λD σ H=>tv σ H λy H1=>ta σ H1 λxv H2=>∃ x C,xv=.ref x/\H2 x=some (XN x C none)/\dj K C/\findIn K (.ref C) f=some none /\
 ∀ dx,H2 dx=none->dx≠x->D.nx σ (upd (upd H2 dx (.xd [(f,y)])) x (XN x C (some dx)))
section
variable {X:Cx} {o value:Expr} {f:Str} {pos pos':Pos} {ta tv:TE}
theorem vK (ha:PE X o ta) (hv:PE X value tv) (hs:swapsWith value (some (.Attribute o f pos')) pos.line X.env=pure false:=by rfl):PS X (.Assign [.Attribute o f pos'] value pos) (zH X.K ta tv f):=by
 intro pins s σ H D I h
 refine plainObj_wpAny_Assign_Attribute (br (hv pins s σ H _ I h) λu s1 ⟨y,H1,I1,ry,q⟩=>br (ha pins s1 σ H1 _ I1 q) λov s2 ⟨xv,H2,I2,rx,x,C,ex,hx,c,hf,q2⟩=>?_) hs
 subst ex
 obtain rfl:ov=Value.ref x:=rx
 obtain⟨t,sl,hg⟩:=XN.get I2.hok hx
 obtain⟨cd,hc,hm,hh⟩:=c.cls
 refine uY I2.eA hg hc hm hh c.sa hf λh' g1 g2 g3=>?_
 have hd0:H2 s2.heap.objs.size=none:=I2.hok.fresh (Nat.le_refl _)
 have hne:s2.heap.objs.size≠x:=λz=>by rw [z,hx] at hd0;cases hd0
 have bx:∀ b,H2 b=none->b≠x:=λb z y=>by rw [y,hx] at z;cases z
 have bd:∀ b o,s2.heap.get? b=some o->b≠s2.heap.objs.size:=λb o q=>Nat.ne_of_lt (Heap.lt_size q)
 have tb:∀ b u,H2 b=some u->b≠s2.heap.objs.size:=λb u q z=>by rw [z,hd0] at q;cases q
 refine⟨σ,upd (upd H2 s2.heap.objs.size (.xd [(f,y)])) x (XN x C (some s2.heap.objs.size)),I2.un ⟨λb o q n _ _=>g3 b o (bx b n) q,λb o q n _ _=>⟨o.slots,g3 b o (bx b n) q⟩,λb o q n _=>?_,λb o q _=>?_,λb xs q=>?_,λb o xs q=>?_,λb ps q=>?_⟩ ?_,q2 _ hd0 hne⟩
 ·rw [ao (bx b n),ao (bd b o q)];exact n
 ·by_cases z:b=x
  ·exact⟨_,by rw [z];exact g1⟩
  ·exact⟨o,g3 b o z q⟩
 ·rw [ao (λz=>by rw [z,hx] at q;cases q),ao (tb b _ q)];exact q
 ·rw [ao (λz=>by rw [z,hx] at q;cases q),ao (tb b _ q)];exact q
 ·exact⟨#[],by rw [ao (λz=>by rw [z,hx] at q;cases q),ao (tb b _ q),q];simp⟩
 ·intro b o q
  by_cases z:b=x
  ·subst z
   rw [ah] at q
   cases q
   exact XN.ok g1
  ·rw [ao z] at q
   by_cases z2:b=s2.heap.objs.size
   ·subst z2
    rw [ah] at q
    cases q
    refine⟨_,g2,λk=>?_⟩
    show fW (List.lookup k [(f,y)]) (if k=f then some u else none)
    by_cases e:k=f
    ·subst e
     rw [if_pos rfl,List.lookup_cons,beq_self_eq_true]
     exact ry
    ·have e':(k==f)=false:=by simpa using e
     rw [if_neg e,List.lookup_cons,e']
     exact True.intro
   ·rw [ao z2] at q
    refine (I2.hok b o q).jH (λc' u' hc' r=>g3 c' u' (λz3=>?_) r) (λc' r=>?_) λc' xs r=>?_
    ·rcases hc' with e | e
     ·exact z (e.symm.trans z3)
     ·rw [z3,hx] at e;cases e
    ·rw [ao (λz3=>by rw [z3,hx] at r;cases r),ao (tb c' _ r)];exact r
    ·rw [ao (λz3=>by rw [z3,hx] at r;cases r),ao (tb c' _ r)];exact r
end
structure wd (K:PySem.W.Frag) (C:Addr):Prop where
 obj:∃ nm q N bs bm hdct sn sub ab col dd k0 k1 k2 k3 k5,K.lookup C=some (excClassObj nm q C N bs bm hdct sn sub ab col dd k0 k1 k2 k3 k5 jU)/\bm.contains (.type "ValueError")=true/\bm.contains (.type "AttributeError")=false/\bm.contains (.type "NameError")=false
 kp:keepIn K (.ref C)=true
def lU (K:PySem.W.Frag) (f:Str):Sp:=λvs H Q _=>∃ x C v,vs=[.ref x,v]/\H x=some (XN x C none)/\dj K C/\findIn K (.ref C) f=some none /\
 ∀ dx,H dx=none->dx≠x->Q .non (upd (upd H dx (.xd [(f,v)])) x (XN x C (some dx)))
def yC (C:Addr) (f:Str) (t:TA):TE:=λσ H Q=>t σ H λvs H1=>∃ v,vs=[v]/\∀ x dx,H1 x=none->H1 dx=none->dx≠x->Q (.ref x) (upd (upd (upd H1 x (XN x C none)) dx (.xd [(f,v)])) x (XN x C (some dx)))
def yB (C:Addr):TE:=λ_ H Q=>∀ x,H x=none->Q (.ref x) (upd H x (XN x C none))
section
variable {X:Cx} {C fi:Addr} {fd:FuncData} {p f x:Str} {k:Nat} {pos np:Pos} {e:Expr} {t:TA}
theorem Inv.newExc {pins:List (Addr × Obj)} {σ:St} {H:Hp} {s:Shared} (I:Inv X pins σ H s) (us:List Value):Inv X pins σ (upd H (s.heap.objs.size+1) (XN (s.heap.objs.size+1) C none))
  { s with heap:=(s.heap.push { cls:=.type "tuple",data:=.seq us.toArray }).push (L2.newExc C s.heap.objs.size) }:=by
 have I1:Inv X pins σ H { s with heap:=s.heap.push { cls:=.type "tuple",data:=.seq us.toArray } }:=I.kept (t':=s.toks) λb u q=>Heap.get?_push_of_some _ q
 refine I1.laid (a:=s.heap.objs.size+1) (t':=s.toks) (λb u q=>Heap.get?_push_of_some _ q) (Nat.le_of_eq (Heap.size_push _ _)) ?_
 refine XN.ok (t:=s.heap.objs.size) (sl:=#[]) ?_
 have:=Heap.get?_push_size (s.heap.push { cls:=.type "tuple",data:=.seq us.toArray }) (o:=L2.newExc C s.heap.objs.size) rfl
 rwa [Heap.size_push] at this
theorem rC (M:wd X.K C) (c:dj X.K C) (hi:findIn X.K (.ref C) "__init__"=some (some (.ref fi))) (fn:isFn X.K (.ref fi)=true) (hf:findIn X.K (.ref C) f=some none) (F:cL X.prog X.w X.K X.mg X.base aO k fi fd ["self",p] (lU X.K f)) (hr:bW (k+1) X.A) (hg:Gl X x)
  (hm:X.mg x=some (.ref C)) (hb:Binds X.K fd ["self",p] []) (ha:PA X [e] t) (hdb:(x==("__debug__":Str))=false:=by decide) (he:starEach [e] X.env=(false,eval e X.env)::starEach [] X.env:=by rfl) (hpl:(backTo pos (starEach [] X.env)).any (·.1)=false:=by rfl) :
  PE X (.Call (.Name x np) [e] [] pos) (yC C f t):=by
 intro pins s σ H Q I h
 refine wpAny_Call_Name_kw (lz I hg hm ?_ hdb)
 refine PySem.W.callWith_K (h₀:=X.base) I.ok.mod.kin M.kp (br (ha pos pins s σ H _ I h) λus s1 ⟨vs,H1,I1,r,q⟩=>⟨I1.eA,?_⟩) he hpl
 obtain⟨v,rfl,q⟩:=q
 obtain⟨u,rfl,ru⟩:=vals1 r
 obtain⟨nm,qn,Nn,bs,bm,hdct,sn,sub,ab,col,dd,k0,k1,k2,k3,k5,hk,hB,hA,hN⟩:=M.obj
 have I2:=Inv.newExc (C:=C) I1 [u]
 have n1:H1 (s1.heap.objs.size+1)=none:=I1.hok.fresh (Nat.le_succ _)
 have r2:Vals [V.ref (s1.heap.objs.size+1),v] [Value.ref (s1.heap.objs.size+1),u]:=.cons rfl (.cons ru .nil)
 have hq:lU X.K f [V.ref (s1.heap.objs.size+1),v] (upd H1 (s1.heap.objs.size+1) (XN (s1.heap.objs.size+1) C none)) (λz H3=>z=.non/\Q (.ref (s1.heap.objs.size+1)) H3) E0 :=
  ⟨_,C,v,rfl,ah,c,hf,λdx hd hne=>⟨rfl,q _ dx n1 (by rw [ao hne] at hd;exact hd) hne⟩⟩
 obtain⟨hh,g,d,tk,os⟩:=s1
 refine mP (K:=X.K) I1.eA hB hA hN (I1.eA _ _ hk) (by show 1<=sizeLine;decide) hi (bind_fn I1.eA _ (beq_iff_eq.mp fn)) ?_
 refine codeAny_mono (F.run _ X.stack _ _ ⟨[Value.ref (hh.objs.size+1),u],[]⟩ [Value.ref (hh.objs.size+1),u] _ _ E0 (hr.make C [u] []) (I2.yU.make C [u] []) (by have:=hb _ [Value.ref (hh.objs.size+1),u] I2.eA rfl;rwa [List.append_nil] at this) r2 hq) λr s' hq'=>?_
 cases r with
 | error e=>exact False.elim hq'
 | ok fl =>
  cases fl with
  | ret u' =>
   obtain⟨v',H',I3,rv,ev,q3⟩:=I2.after hq'
   subst ev
   exact⟨rv,⟨V.ref (hh.objs.size+1),H',I3,rfl,q3⟩⟩
  | next=>exact False.elim hq'
  | brk=>exact False.elim hq'
  | cont=>exact False.elim hq'
theorem rB (M:wd X.K C) (hi:findIn X.K (.ref C) "__init__"=some (some (.builtin "ValueError.__init__"))) (hg:Gl X x) (hm:X.mg x=some (.ref C)) (hdb:(x==("__debug__":Str))=false:=by decide) :
  PE X (.Call (.Name x np) [] [] pos) (yB C):=by
 intro pins s σ H Q I h
 refine wpAny_Call_Name_kw (lz I hg hm ?_ hdb)
 refine PySem.W.callWith_K0 I.eA M.kp ?_
 obtain⟨nm,qn,Nn,bs,bm,hdct,sn,sub,ab,col,dd,k0,k1,k2,k3,k5,hk,hB,hA,hN⟩:=M.obj
 have I2:=Inv.newExc (C:=C) I []
 have n1:H (s.heap.objs.size+1)=none:=I.hok.fresh (Nat.le_succ _)
 have Fn:=PySem.F.excBase_ValueError
 obtain⟨hh,g,d,tk,os⟩:=s
 have hC:=I.eA _ _ hk
 refine mP (K:=X.K) I.eA hB hA hN hC (by show 0<=sizeLine;decide) hi (j:=.builtin "ValueError.__init__") (Looks.of_pure (Fn.init.bind _)) ?_
 have hC2:((hh.push { cls:=.type "tuple",data:=.seq ([]:List Value).toArray }).push (L2.newExc C hh.objs.size)).get? C=some _:=Heap.get?_push_of_some _ (Heap.get?_push_of_some _ hC)
 have he2:((hh.push { cls:=.type "tuple",data:=.seq ([]:List Value).toArray }).push (L2.newExc C hh.objs.size)).get? (hh.objs.size+1)=some (L2.newExc C hh.objs.size):=by
  have:=Heap.get?_push_size (hh.push { cls:=.type "tuple",data:=.seq ([]:List Value).toArray }) (o:=L2.newExc C hh.objs.size) rfl
  rwa [Heap.size_push] at this
 refine qO hB hC2 he2 λh' g1 g3=>⟨rfl,.ref (hh.objs.size+1),_,?_,rfl,h _ n1⟩
 have e:upd (upd H (hh.objs.size+1) (XN (hh.objs.size+1) C none)) (hh.objs.size+1) (XN (hh.objs.size+1) C none)=upd H (hh.objs.size+1) (XN (hh.objs.size+1) C none):=by
  funext b
  by_cases z:b=hh.objs.size+1
  ·rw [z,ah,ah]
  ·rw [ao z]
 have W:=I2.write (x:=hh.objs.size+1) (e:=hh.objs.size+1) (o:=XN (hh.objs.size+1) C none) (h':=h') (t':=tk) (by rw [ah];exact True.intro) (.inl rfl) (λb u hb q=>g3 b u hb q) ⟨_,g1⟩ (XN.ok g1)
 rw [e] at W
 exact W
end
def Bf (H:Hp) (x C:Addr) (dd:Option Addr):Prop:=H x=some (XO x C dd)∨H x=some (XN x C dd)
def Bp (K:PySem.W.Frag) (ta:TE) (f:Str):TE:=λσ H Q=>ta σ H λxv H1=>∃ x C dx fs v,xv=.ref x/\Bf H1 x C (some dx)/\dj K C/\findIn K (.ref C) f=some none/\H1 dx=some (.xd fs)/\fs.lookup f=some v/\Q v H1
section
variable {X:Cx} {e:Expr} {f:Str} {pos:Pos} {ta:TE}
end
section
variable {prog:Program} {w:World} {A:Around} {E:Value->Shared->Prop} {K:PySem.W.Frag} {h:Heap} {g:Array GenState} {d:Drawn} {t:Nat} {os:OsState} {x C B:Addr}
theorem dj.base (c:dj K C):mroIn K C (.type "BaseException")=some true:=by
 obtain⟨cd,hc,hm,_⟩:=c.cls
 obtain⟨m1,m2,m3⟩:=k9 hm
 unfold mroIn
 rw [hc,Option.bind_some,if_neg (by rw [m3];decide),m2]
end
section
variable {M:Model} {A:Around} {E:Value->Shared->Prop} {s:Shared}
end
section
variable {X:Cx} {pins:List (Addr × Obj)} {σ:St} {H:Hp} {s:Shared} {M:Model} {A:Around} {E:Value->Shared->Prop}
end
section
variable {X:Cx} {pins:List (Addr × Obj)} {σ:St} {H:Hp} {s:Shared} {x:Addr}
def vd (n:Option Nat) (x:Addr) (σ:St):St:=match n with | some i=>σ.set i (some (.ref x)) | none=>σ
def pP (n:Option Nat) (D:Ends):Ends:=match n with
 | some i=>{ nx:=λσ H=>D.nx (σ.set i none) H,rt:=D.rt,bk:=λσ H=>D.bk (σ.set i none) H,ct:=λσ H=>D.ct (σ.set i none) H }
 | none=>D
end
def AN (K:PySem.W.Frag) (B:Addr) (n:Option Nat) (sp:Sp) (ta:TA) (put:V->St->St) (ts:TS):TS:=λD σ H=>ta σ H λvs H1=>sp vs H1 (λv H2=>D.nx (put v σ) H2)
 (λcv xo H2=>∃ C x dd,cv=.ref C/\xo=some x/\H2 x=some (XO x C dd)/\dj K C/\mroIn K C (.ref B)=some true/\ts (pP n D) (vd n x σ) H2)
section
variable {X:Cx} {B:Addr} {n:Option Nat} {hd:ExceptHandler} {ts:TS}
variable {k:Nat} {f:Str} {ps:List Str} {sp:Sp} {e:Expr} {es:List Expr} {t:TA} {p cpos epos pos:Pos}
end
section
variable {P:Program} {w:World} {K:PySem.W.Frag} {mg:Str->Option Value} {base:Heap} {k:Nat} {x:Str} {ps:List Str} {sp:Sp}
theorem n8 {st:Stmt} {N:List Str} (D:au K mg x st)
  (hb:∀(kV doc pm:Value) (an:Option Addr) (cdv ct:Value) (us:List Value),us.length=ps.length->bindArgs (PySem.W.fnOf x x (bO st) (aQ st) (ai st) .none kV doc pm an cdv ct) ⟨us,[]⟩=pure (ps.zip us))
  (S:aw N ps (ai st)) (len:∀ vs H Q E,sp vs H Q E->vs.length=ps.length)
  (hbody:∀(f:Addr) (cdv:Value) (A:Around) (outer:List Env) (s:Shared) (H:Hp) (vs:List V) (Q:VK) (E:XK),bW k (A.deeper (envOfC x (ai st) s.heap.objs.size f cdv))->sp vs H Q E ->
   ∃ t,jL (dH (iE P w) P w K mg base N x (ai st) f cdv A outer s H E) (aQ st) t/\t { nx:=λ_ H'=>Q .non H',rt:=Q } (start N vs) H):Callee P w K mg base (iE P w) (k+1) x ps sp:=by
 obtain⟨f,fd,F,hm⟩:=D
 obtain⟨oc,od,kV,doc,pm,an,cdv,ct,osl,rfl,lk,hcd⟩:=F.ex
 exact⟨f,_,wt lk hcd S len λA outer s H vs Q E hr h=>hbody f cdv A outer s H vs Q E hr h,hm,F.kp,F.binds hb⟩
theorem Callee.any {CX:jJ} (C:Callee P w K mg base aO k x ps sp):Callee P w K mg base CX k x ps sp:=by
 obtain⟨f,fd,F,a,b,c⟩:=C.ex
 exact⟨f,fd,F.any,a,b,c⟩
end
theorem vf {P:Program} {w:World} {K:PySem.W.Frag} {mg:Str->Option Value} {base:Heap} {qual f p:Str} {st:Stmt} {fi:Addr} {fd:FuncData} {p1 p2 p3 p4:Pos} (F:uG K "__init__" qual st fi fd) (S:aw ["self",p] ["self",p] (ai st))
  (hb:aQ st=[.Assign [.Attribute (.Name "self" p1) f p2] (.Name p p3) p4]) (h1:(ai st).names.lookup ("self":Str)=some .local) (h2:(ai st).names.lookup p=some .local) (hd:(p==("__debug__":Str))=false) (hcd:(p==("__classdict__":Str))=false)
  (ab:∀ env:Env,attributeBase (.Name "self" p1) f env (eval (.Name "self" p1) env)=eval (.Name "self" p1) env) (sw:∀ env:Env,swapsWith (.Name p p3) (some (.Attribute (.Name "self" p1) f p2)) p4.line env=pure false):cL P w K mg base aO 1 fi fd ["self",p] (lU K f):=by
 refine F.ok S (λvs H Q E h=>?_) (λcdv A outer s H vs Q E hr h=>?_)
 ·obtain⟨x,C,v,rfl,_⟩:=h
  rfl
 ·obtain⟨x,C,v,rfl,hx,c,hf,q⟩:=h
  rw [hb]
  refine⟨_,aj (vK (oU (i:=0) rfl (.inl h1) (by decide) (by decide)) (oU (i:=1) rfl (.inl h2) hd hcd) (sw _)),?_⟩
  exact⟨v,rfl,.ref x,rfl,x,C,rfl,hx,c,hf,λdx n ne=>q dx n ne⟩
structure xx (P:Program) (w:World) (K:PySem.W.Frag) (mg:Str->Option Value) (base:Heap) (x:Str) (C:Addr) (f:Str):Prop where
 mkd:wd K C
 cls:dj K C
 at_:mg x=some (.ref C)
 nof:findIn K (.ref C) f=some none
 ex:∃ fi fd p,findIn K (.ref C) "__init__"=some (some (.ref fi))/\isFn K (.ref fi)=true/\cL P w K mg base aO 1 fi fd ["self",p] (lU K f)/\Binds K fd ["self",p] []
structure xw (K:PySem.W.Frag) (mg:Str->Option Value) (x:Str) (C:Addr):Prop where
 mkd:wd K C
 cls:dj K C
 at_:mg x=some (.ref C)
 ini:findIn K (.ref C) "__init__"=some (some (.builtin "ValueError.__init__"))
section
variable {X:Cx} {C:Addr} {f x:Str} {pos np:Pos} {e:Expr} {t:TA}
theorem yg (c:xx X.prog X.w X.K X.mg X.base x C f) (hr:bW 2 X.A) (hg:Gl X x) (ha:PA X [e] t) (hdb:(x==("__debug__":Str))=false:=by decide)
  (he:starEach [e] X.env=(false,eval e X.env)::starEach [] X.env:=by rfl) (hpl:(backTo pos (starEach [] X.env)).any (·.1)=false:=by rfl):PE X (.Call (.Name x np) [e] [] pos) (yC C f t):=by
 obtain⟨fi,fd,p,hi,fn,F,hb⟩:=c.ex
 exact rC c.mkd c.cls hi fn c.nof F hr hg c.at_ hb ha hdb he hpl
theorem yf (c:xw X.K X.mg x C) (hg:Gl X x) (hdb:(x==("__debug__":Str))=false:=by decide):PE X (.Call (.Name x np) [] [] pos) (yB C):=rB c.mkd c.ini hg c.at_ hdb
end
inductive xn (K:PySem.W.Frag) (H:Hp):Nat->V->V->Bool->Prop
 | flat {d:Nat} {y x:V}:en y=true->en x=true->xn K H d y x (sr y x)
 | same {d:Nat} {p:Addr}:xn K H d (.ref p) (.ref p) true
 | lists {d:Nat} {p q:Addr} {xs ys:List V} {e:Nat->Bool}:p≠q->aS K H p xs->aS K H q ys->xs.length=ys.length->(∀ j y x,xs[j]?=some y->ys[j]?=some x->xn K H d y x (e j))->xn K H (d+1) (.ref p) (.ref q) ((List.range xs.length).all e)
 | unlike {d:Nat} {p q:Addr} {xs ys:List V}:p≠q->aS K H p xs->aS K H q ys->xs.length≠ys.length->xn K H (d+1) (.ref p) (.ref q) false
 | tups {d:Nat} {p q:Addr} {xs ys:List V} {e:Nat->Bool}:p≠q->bS K H p xs->bS K H q ys->(∀ j y x,xs[j]?=some y->ys[j]?=some x->xn K H d y x (e j))->xn K H (d+1) (.ref p) (.ref q) ((List.range (min xs.length ys.length)).all e && xs.length==ys.length)
section
variable {X:Cx} {pins:List (Addr × Obj)} {σ:St} {H:Hp} {s:Shared}
theorem Vals.at {xs:List V} {us:List Value} (r:Vals xs us):∀{j:Nat} {u:Value},us[j]?=some u->∃ x,xs[j]?=some x/\RelV x u:=by
 induction r with
 | nil=>intro j u h;simp at h
 | cons r t ih =>
  intro j u h
  cases j with
  | zero=>simp only [List.getElem?_cons_zero,Option.some.injEq] at h;subst h;exact⟨_,rfl,r⟩
  | succ j=>simp only [List.getElem?_cons_succ] at h ⊢;exact ih h
theorem Vals.len {xs:List V} {us:List Value} (r:Vals xs us):us.length=xs.length:=by
 induction r with
 | nil=>rfl
 | cons r t ih=>simp only [List.length_cons,ih]
end
theorem kU {A B:Prop} (a:A) (f:A->B):B:=f a
section
variable {K:PySem.W.Frag} {mg:Str->Option Value} {h:Heap} {x f p qual:Str} {C D fi N:Addr}
section
variable {nm q:Str} {bs bm:List Value} {hdct ab:Bool} {sn:Option Str} {od:Option Addr} {cd:ClassData} {sl:Array (Option Value)}
theorem yE {o:Obj} (l:K.lookup C=some o) (ob:∃ nm q N bs bm hdct sn sub ab col dd k0 k1 k2 k3 k5,o=excClassObj nm q C N bs bm hdct sn sub ab col dd k0 k1 k2 k3 k5 jU/\bm.contains (.type "ValueError")=true/\bm.contains (.type "AttributeError")=false/\bm.contains (.type "NameError")=false) (kp:keepIn K (.ref C)=true):wd K C:=by
 obtain⟨nm,q,N,bs,bm,hdct,sn,sub,ab,col,dd,k0,k1,k2,k3,k5,e,r⟩:=ob
 subst e
 exact⟨⟨nm,q,N,bs,bm,hdct,sn,sub,ab,col,dd,k0,k1,k2,k3,k5,l,r⟩,kp⟩
theorem v8 (l:K.lookup C=some ⟨.type "type",od,.cls cd,sl⟩) (h2:bL cd.mro=true) (h3:cd.hasDict=true)
  (sa:findIn K (.ref C) "__setattr__"=some (some (.builtin "object.__setattr__"))) (ga:findIn K (.ref C) "__getattribute__"=some (some (.builtin "BaseException.__getattribute__"))) (gx:findIn K (.ref C) "__getattr__"=some none)
  (ca:findIn K (.ref C) "__class__"=some (some (.builtin "object.__class__"))) (gs:specialIn K (.builtin "object.__class__") "__get__"=some (some (.builtin "getset_descriptor.__get__"))) (tk:takesIn K (.builtin "object.__class__")=some true):L2.dj K C :=
 ⟨⟨cd,by unfold clsIn;rw [l],h2,h3⟩,⟨_,_,_,l⟩,sa,ga,gx,ca,gs,tk⟩
theorem qF (a:mg x=some (.ref C)) (M:wd K C) (c:dj K C) (ini:findIn K (.ref C) "__init__"=some (some (.builtin "ValueError.__init__"))):xw K mg x C:=⟨M,c,a,ini⟩
structure rR (qual f p:Str) (st:Stmt):Prop where
 S:aw ["self",p] ["self",p] (ai st)
 hb:∃ p1 p2 p3 p4,aQ st=[.Assign [.Attribute (.Name "self" p1) f p2] (.Name p p3) p4]/\(∀ env:Env,attributeBase (.Name "self" p1) f env (eval (.Name "self" p1) env)=eval (.Name "self" p1) env)/\(∀ env:Env,swapsWith (.Name p p3) (some (.Attribute (.Name "self" p1) f p2)) p4.line env=pure false)
 h1:(ai st).names.lookup ("self":Str)=some .local
 h2:(ai st).names.lookup p=some .local
 hd:(p==("__debug__":Str))=false
 hcd:(p==("__classdict__":Str))=false
 bd:∀(kV doc pm:Value) (an:Option Addr) (cdv ct:Value) (us:List Value),us.length=2->bindArgs (PySem.W.fnOf "__init__" qual (bO st) (aQ st) (ai st) .none kV doc pm an cdv ct) ⟨us,[]⟩=pure ((["self",p]:List Str).zip us)
theorem v7 {st:Stmt} {oc:Value} {od an:Option Addr} {osl:Array (Option Value)} {kV doc pm cdv ct:Value} (I:rR qual f p st) (a:mg x=some (.ref C)) (M:wd K C) (c:dj K C) (nof:findIn K (.ref C) f=some none)
  (ini:findIn K (.ref C) "__init__"=some (some (.ref fi))) (fn:isFn K (.ref fi)=true) (l:K.lookup fi=some ⟨oc,od,.func (PySem.W.fnOf "__init__" qual (bO st) (aQ st) (ai st) .none kV doc pm an cdv ct),osl⟩) (cc:codeIn K cdv qual=true) (kk:keepIn K (.ref fi)=true) :
  ∀(P:Program) (w:World) (base:Heap),xx P w K mg base x C f:=λP w base=>by
 obtain⟨p1,p2,p3,p4,hb,ab,sw⟩:=I.hb
 have F:=sG l cc kk
 exact⟨M,c,a,nof,fi,_,p,ini,fn,vf F I.S hb I.h1 I.h2 I.hd I.hcd ab sw,F.binds I.bd⟩
end
theorem me {od:Option Addr} {cd:ClassData} {sl:Array (Option Value)} (_:K.In h) (_:mg x=some (.ref C)) (l:K.lookup C=some ⟨.type "type",od,.cls cd,sl⟩) (h2:bL cd.mro=true) (h3:cd.hasDict=true)
  (sa:findIn K (.ref C) "__setattr__"=some (some (.builtin "object.__setattr__"))) (ga:findIn K (.ref C) "__getattribute__"=some (some (.builtin "BaseException.__getattribute__"))) (gx:findIn K (.ref C) "__getattr__"=some none)
  (ca:findIn K (.ref C) "__class__"=some (some (.builtin "object.__class__"))) (gs:specialIn K (.builtin "object.__class__") "__get__"=some (some (.builtin "getset_descriptor.__get__"))) (tk:takesIn K (.builtin "object.__class__")=some true)
  (ob:∃ nm q N bs bm hdct sn sub ab col dd k0 k1 k2 k3 k5,(⟨.type "type",od,.cls cd,sl⟩:Obj)=excClassObj nm q C N bs bm hdct sn sub ab col dd k0 k1 k2 k3 k5 jU/\bm.contains (.type "ValueError")=true/\bm.contains (.type "AttributeError")=false/\bm.contains (.type "NameError")=false) (kp:keepIn K (.ref C)=true):dj K C/\wd K C :=
 ⟨v8 l h2 h3 sa ga gx ca gs tk,yE l ob kp⟩
end
end L2
namespace Pw
theorem gq (x n:Int):∀ k:Nat,(x%n)^k%n=x^k%n
 | 0=>by rw [Int.pow_zero,Int.pow_zero]
 | k+1=>by rw [Int.pow_succ,Int.pow_succ,Int.mul_emod,gq x n k,Int.emod_emod,<- Int.mul_emod]
theorem uh (b:Int):∀ k:Nat,(b*b)^k=b^(2*k)
 | 0=>by rw [Nat.mul_zero,Int.pow_zero,Int.pow_zero]
 | k+1=>by
  rw [Int.pow_succ,uh b k,Nat.mul_add,Nat.mul_one,Int.pow_succ,Int.pow_succ,Int.mul_assoc]
theorem wJ (x y n:Int):x%n*y%n=x*y%n:=by rw [Int.mul_emod,Int.emod_emod,<- Int.mul_emod]
theorem wI {x x' y y' n:Int} (h:x%n=x'%n) (h':y%n=y'%n):x*y%n=x'*y'%n:=by rw [Int.mul_emod,h,h',<- Int.mul_emod]
theorem step (r b n:Int) (l:Nat):(if l%2=1 then r*b%n else r)*(b*b%n)^(l/2)%n=r*b^l%n:=by
 have e:(b*b%n)^(l/2)%n=b^(2*(l/2))%n:=by rw [gq,uh]
 by_cases c:l%2=1
 ·rw [if_pos c]
  have h:l=2*(l/2)+1:=by omega
  have e2:b^l=b^(2*(l/2))*b:=by rw [<- Int.pow_succ];exact congrArg _ h
  rw [wI (Int.emod_emod_of_dvd (r*b) (Int.dvd_refl n)) e,e2]
  congr 1
  rw [Int.mul_assoc,Int.mul_comm b]
 ·rw [if_neg c]
  have h:l=2*(l/2):=by omega
  rw [wI (rfl:r%n=r%n) e,<- h]
theorem pow_add (a:Int) (m:Nat):∀ k:Nat,a^(m+k)=a^m*a^k
 | 0=>by rw [Nat.add_zero,Int.pow_zero,Int.mul_one]
 | k+1=>by rw [<- Nat.add_assoc,Int.pow_succ,pow_add a m k,Int.pow_succ,Int.mul_assoc]
theorem mul_pow (a b:Int):∀ k:Nat,(a*b)^k=a^k*b^k
 | 0=>by rw [Int.pow_zero,Int.pow_zero,Int.pow_zero,Int.mul_one]
 | k+1=>by
  rw [Int.pow_succ,Int.pow_succ,Int.pow_succ,mul_pow a b k]
  grind
theorem pow_mul (a:Int) (m:Nat):∀ k:Nat,a^(m*k)=(a^m)^k
 | 0=>by rw [Nat.mul_zero,Int.pow_zero,Int.pow_zero]
 | k+1=>by rw [Nat.mul_add,Nat.mul_one,pow_add,pow_mul a m k,Int.pow_succ]
theorem one_pow:∀ k:Nat,(1:Int)^k=1
 | 0=>Int.pow_zero 1
 | k+1=>by rw [Int.pow_succ,one_pow k,Int.mul_one]
theorem xy {n x y:Int}:x%n=y%n↔n∣x-y:=by
 rw [Int.emod_eq_emod_iff_emod_sub_eq_zero,Int.dvd_iff_emod_eq_zero]
end Pw
namespace L2
open PySem PySem.Spec PyProof.Rows
end L2
namespace L2
open PySem PySem.Spec PyProof.Rows PySem.W
def AM (K:PySem.W.Frag) (te:TE) (tk:TO):TE:=λσ H Q=>te σ H λx H1=>tk σ H1 λo H2=>o=some (-1)/\∃ a xs,x=.ref a/\aS K H2 a xs/\∀ p,H2 p=none->Q (.ref p) (upd H2 p (.lst xs.reverse))
section
variable {X:Cx} {e k:Expr} {te:TE} {tk:TO} {p2 pos:Pos}
end
mutual
def dv (K:PySem.W.Frag) (H:Hp):PyData->V->Prop
 | .none,v=>v=.non
 | .bool b,v=>v=.bl b
 | .int i,v=>v=.int i
 | .str x,v=>v=.str x
 | .list ds,v=>∃ p xs,v=.ref p/\aS K H p xs/\aJ K H ds xs
 | .tuple ds,v=>∃ p xs,v=.ref p/\bS K H p xs/\aJ K H ds xs
 | .dict _,_=>False
def aJ (K:PySem.W.Frag) (H:Hp):List PyData->List V->Prop
 | [],xs=>xs=[]
 | d::ds,xs=>∃ x r,xs=x::r/\dv K H d x/\aJ K H ds r
end
section
variable {K:PySem.W.Frag} {H H':Hp}
theorem Rd.same {a:Addr} {o:HO} (h:Rd H a o) (s:az H H'):Rd H' a o:=by
 rcases h with h | ⟨b,h⟩
 ·exact .inl (s _ _ h)
 ·exact .inr ⟨b,s _ _ h⟩
theorem aS.same {a:Addr} {xs:List V} (h:aS K H a xs) (s:az H H'):aS K H' a xs:=h.imp (λz=>z.same s) id
theorem bS.same {a:Addr} {xs:List V} (h:bS K H a xs) (s:az H H'):bS K H' a xs:=h.imp (λz=>z.same s) id
mutual
theorem dv.same (s:az H H'):∀(d:PyData) {v:V},dv K H d v->dv K H' d v
 | .none,_,h=>h
 | .bool _,_,h=>h
 | .int _,_,h=>h
 | .str _,_,h=>h
 | .list ds,_,⟨p,xs,e,h,t⟩=>⟨p,xs,e,h.same s,aJ.same s ds t⟩
 | .tuple ds,_,⟨p,xs,e,h,t⟩=>⟨p,xs,e,h.same s,aJ.same s ds t⟩
 | .dict _,_,h=>h.elim
theorem aJ.same (s:az H H'):∀(ds:List PyData) {xs:List V},aJ K H ds xs->aJ K H' ds xs
 | [],_,h=>h
 | d::ds,_,⟨x,r,e,h,t⟩=>⟨x,r,e,dv.same s d h,aJ.same s ds t⟩
end
theorem aJ.length:∀{ds:List PyData} {xs:List V},aJ K H ds xs->xs.length=ds.length
 | [],_,h=>by cases h;rfl
 | d::ds,_,⟨x,r,e,h,t⟩=>by subst e;rw [List.length_cons,List.length_cons,aJ.length t]
theorem aJ.get:∀{ds:List PyData} {xs:List V},aJ K H ds xs->∀{i:Nat} {x:V},xs[i]?=some x->∃ d,ds[i]?=some d/\dv K H d x
 | [],_,h,i,x,e=>by cases h;simp at e
 | d::ds,_,⟨y,r,ey,h,t⟩,0,x,e=>by subst ey;simp at e;subst e;exact⟨d,rfl,h⟩
 | d::ds,_,⟨y,r,ey,h,t⟩,i+1,x,e=>by subst ey;simp at e;simpa using aJ.get t e
theorem aJ.append:∀{ds es:List PyData} {xs ys:List V},aJ K H ds xs->aJ K H es ys->aJ K H (ds++es) (xs++ys)
 | [],_,_,_,h,h'=>by cases h;exact h'
 | d::ds,_,_,_,⟨x,r,e,h,t⟩,h'=>by subst e;exact⟨x,_,rfl,h,t.append h'⟩
theorem aJ.one {d:PyData} {x:V} (h:dv K H d x):aJ K H [d] [x]:=⟨x,[],rfl,h,rfl⟩
theorem dv.lst {p:Addr} {xs:List V} {ds:List PyData} (h:H p=some (.lst xs)) (t:aJ K H ds xs):dv K H (.list ds) (.ref p):=⟨p,xs,rfl,aS.of h,t⟩
theorem dv.tup {p:Addr} {xs:List V} {ds:List PyData} (h:H p=some (.tup xs)) (t:aJ K H ds xs):dv K H (.tuple ds) (.ref p):=⟨p,xs,rfl,bS.of h,t⟩
mutual
def yI:PyData->Bool
 | .list _=>false
 | .tuple ds=>jQ ds
 | _=>true
def jQ:List PyData->Bool
 | []=>true
 | d::ds=>yI d && jQ ds
end
def SameBut (p:Addr) (H H':Hp):Prop:=∀ b o,b≠p->H b=some o->H' b=some o
theorem bS.but {p a:Addr} {us xs:List V} (hp:H p=some (.lst us)) (s:SameBut p H H') (h:bS K H a xs):bS K H' a xs:=by
 rcases h with (h | ⟨o,h⟩) | h
 ·exact .inl (.inl (s _ _ (λe=>by rw [e,hp] at h;cases h) h))
 ·exact .inl (.inr ⟨o,s _ _ (λe=>by rw [e,hp] at h;cases h) h⟩)
 ·exact .inr h
mutual
theorem dv.but {p:Addr} {us:List V} (hp:H p=some (.lst us)) (s:SameBut p H H'):∀(d:PyData) {v:V},yI d=true->dv K H d v->dv K H' d v
 | .none,_,_,h=>h
 | .bool _,_,_,h=>h
 | .int _,_,_,h=>h
 | .str _,_,_,h=>h
 | .list ds,_,z,_=>by cases z
 | .tuple ds,_,z,⟨q,xs,e,h,t⟩=>⟨q,xs,e,h.but hp s,aJ.but hp s ds z t⟩
 | .dict _,_,_,h=>h.elim
theorem aJ.but {p:Addr} {us:List V} (hp:H p=some (.lst us)) (s:SameBut p H H'):∀(ds:List PyData) {xs:List V},jQ ds=true->aJ K H ds xs->aJ K H' ds xs
 | [],_,_,h=>h
 | d::ds,_,z,⟨x,r,e,h,t⟩=>by
  have z':yI d=true/\jQ ds=true:=by simpa [jQ] using z
  exact⟨x,r,e,dv.but hp s d z'.1 h,aJ.but hp s ds z'.2 t⟩
end
theorem m8 {α:Type} {f:α->PyData} (h:∀ x,yI (f x)=true):∀ xs:List α,jQ (xs.map f)=true
 | []=>rfl
 | x::xs=>by rw [List.map_cons,jQ,h,m8 h xs];rfl
end
section
variable {X:Cx} {pins:List (Addr × Obj)} {σ:St} {H:Hp} {s:Shared}
mutual
theorem jk (I:Inv X pins σ H s):∀(d:PyData) {v:V} {u:Value},dv X.K H d v->RelV v u->∃ as,Reads s.heap u d as
 | .none,_,u,h,r=>by cases h;cases r;exact⟨_,.none⟩
 | .bool _,_,u,h,r=>by cases h;cases r;exact⟨_,.bool _⟩
 | .int _,_,u,h,r=>by cases h;obtain⟨t,rfl⟩:=r;exact⟨_,.int _ _⟩
 | .str _,_,u,h,r=>by cases h;obtain⟨t,rfl⟩:=r;exact⟨_,.str _ _⟩
 | .list ds,_,u,⟨p,xs,e,h,t⟩,r=>by
  subst e
  cases r
  obtain⟨its,rr,pl,_⟩:=I.list h
  obtain⟨o,h1,h2,n,h3⟩:=pl.isList
  obtain⟨as,ra⟩:=eJ I ds t rr
  exact⟨_,.list h1 h2 h3 (by simpa using ra)⟩
 | .tuple ds,_,u,⟨p,xs,e,h,t⟩,r=>by
  subst e
  cases r
  obtain⟨its,rr,pl,_⟩:=I.tuple h
  obtain⟨o,h1,h2,n,h3⟩:=pl
  obtain⟨as,ra⟩:=eJ I ds t rr
  exact⟨_,.tuple h1 h2 h3 (by simpa using ra)⟩
 | .dict _,_,_,h,_=>h.elim
theorem eJ (I:Inv X pins σ H s):∀(ds:List PyData) {xs:List V} {us:List Value},aJ X.K H ds xs->Vals xs us->∃ as,ReadsAll s.heap us ds as
 | [],_,us,h,r=>by cases h;cases r;exact⟨_,.nil⟩
 | d::ds,_,us,⟨x,r,e,h,t⟩,rr=>by
  subst e
  cases rr with
  | cons r1 r2 =>
   obtain⟨a1,q1⟩:=jk I d h r1
   obtain⟨a2,q2⟩:=eJ I ds t r2
   exact⟨_,.cons q1 q2⟩
end
def AE (K:PySem.W.Frag) (neg:Bool):R2:=λy x H Q=>∃ d e,dv K H d y/\dv K H e x/\d.canLay0=true/\e.canLay0=true/\min d.depth e.depth<=60/\Q (.bl (if neg then !PyData.eqv d e else PyData.eqv d e)) H
theorem x9 (hu:X.A.units+64<cLine):fz X (compareOp .Eq) (AE X.K false):=by
 intro pins s σ H y x u v Q I ry rx h
 obtain⟨d,e,hd,he,c1,c2,c3,q⟩:=h
 obtain⟨as,ra⟩:=jk I d hd ry
 obtain⟨bs,rb⟩:=jk I e he rx
 exact SeqAt.compareEq_reads ra rb c1 c2 (by omega) ⟨.bl _,H,I,rfl,q⟩
end
end L2
namespace Pw
def lst (xs:List Nat):Nat:=xs.getLast?.getD 0
end Pw
namespace L2
open PySem PySem.Spec PyProof.Rows PySem.W
def AQ (C:Addr) (H:Hp) (E:XK):Prop:=∀ x H',az H H'->H x=none->H' x=some (XO x C none)->E (.ref C) (some x) H'
theorem qN {K:PySem.W.Frag} {C x:Addr} {H H1:Hp} {E:XK} (c:dj K C) (hs:az H H1) (hx:H1 x=none) (e:AQ C H E) :
  ∃(C':Addr) (dd:Option Addr),upd H1 x (XN x C none) x=some (XN x C' dd)/\dj K C'/\H x=none/\E (.ref C') (some x) (upd (upd H1 x (XN x C none)) x (XO x C' dd)):=by
 refine⟨C,none,ah,c,hs.free hx,e x _ ?_ (hs.free hx) ah⟩
 intro b o q
 have q1:=hs _ _ q
 have bx:b≠x:=λy=>by rw [y,hx] at q1;cases q1
 rw [ao bx,ao bx]
 exact q1
end L2
namespace Ld
structure fw (n r:Int):Prop where
 two:2<=r
 dv:r∣n
 no:∀ d:Int,2<=d->d<r->¬d∣n
theorem fw.one {n r r':Int} (h:fw n r) (h':fw n r'):r=r':=by
 rcases Int.lt_trichotomy r r' with c | c | c
 ·exact absurd h.dv (h'.no r h.two c)
 ·exact c
 ·exact absurd h'.dv (h.no r' h'.two c)
theorem fw.le {n r:Int} (h:fw n r) (hn:0<n):r<=n:=Int.le_of_dvd hn h.dv
structure Inv (n k:Int):Prop where
 two:2<=k
 odd:k=2∨k%2=1
 no:∀ d:Int,2<=d->d<k->¬d∣n
theorem Inv.step {n k:Int} (h:Inv n k) (hk:¬k∣n):Inv n (k+if k=2 then 1 else 2):=by
 have h2:=h.two
 by_cases c:k=2
 ·rw [if_pos c]
  refine⟨by omega,.inr (by omega),λd d0 d1=>?_⟩
  have:d=k:=by omega
  rw [this];exact hk
 ·rw [if_neg c]
  have ho:k%2=1:=by rcases h.odd with z | z;exact absurd z c;exact z
  refine⟨by omega,.inr (by omega),λd d0 d1 hd=>?_⟩
  rcases (by omega:d<k∨d=k∨d=k+1) with z | z | z
  ·exact h.no d d0 z hd
  ·subst z;exact hk hd
  ·have e2:(2:Int)∣d:=Int.dvd_of_emod_eq_zero (by omega)
   exact h.no 2 (by omega) (by omega) (Int.dvd_trans e2 hd)
theorem Inv.found {n k:Int} (h:Inv n k) (hk:k∣n):fw n k:=⟨h.two,hk,h.no⟩
theorem Inv.done {n k:Int} (h:Inv n k) (hn:2<=n) (hk:n<k*k):fw n n:=by
 refine⟨hn,Int.dvd_refl n,λd d0 d1 hd=>?_⟩
 obtain⟨c,hc⟩:=hd
 have h2:=h.two
 by_cases z:d<k
 ·exact h.no d d0 z ⟨c,hc⟩
 ·have c0:0<c:=by
   rcases (by omega:c<=0∨0<c) with y | y
   ·have:=Int.mul_nonpos_of_nonneg_of_nonpos (show 0<=d by omega) y
    omega
   ·exact y
  have c2:2<=c:=by
   rcases (by omega:c=1∨2<=c) with y | y
   ·subst y;omega
   ·exact y
  have ck:c<k:=by
   rcases (by omega:c<k∨k<=c) with y | y
   ·exact y
   ·have:=Int.mul_le_mul (show k<=d by omega) y (by omega) (by omega)
    omega
  exact h.no c c2 ck ⟨d,by rw [Int.mul_comm];exact hc⟩
end Ld
namespace L2
open PySem PySem.Spec PyProof.Rows PySem.W
section
variable {K:PySem.W.Frag} {H:Hp}
mutual
theorem eqv_refl:∀ d:PyData,d.canLay0=true->PyData.eqv d d=true
 | .none,_=>by simp [PyData.eqv]
 | .bool _,_=>by simp [PyData.eqv]
 | .int _,_=>by simp [PyData.eqv]
 | .str _,_=>by simp [PyData.eqv]
 | .list ds,h=>by simpa [PyData.eqv] using gP ds h
 | .tuple ds,h=>by simpa [PyData.eqv] using gP ds h
 | .dict _,h=>by simp [PyData.canLay0] at h
theorem gP:∀ ds:List PyData,PyData.canLayAll0 ds=true->PyData.eqvAll ds ds=true
 | [],_=>by simp [PyData.eqvAll]
 | d::ds,h=>by
  have h':d.canLay0=true/\PyData.canLayAll0 ds=true:=by simpa [PyData.canLayAll0] using h
  simp [PyData.eqvAll,eqv_refl d h'.1,gP ds h'.2]
end
end
end L2
namespace L2
open PySem PySem.Spec PyProof.Rows
def Ag (lo k:Int) (n:Nat):It:=⟨λi _=>i<n,λi H x H'=>H'=H/\x=.int (lo+i*k),λi _=>n<=i⟩
def zk (lo hi k:Int):Nat:=if lo<hi then ((hi-lo-1)/k+1).toNat else 0
def yZ (ta:TA):TI:=λσ H R=>ta σ H λvs H1=>∃ i j k:Int,vs=[.int i,.int j,.int k]/\(-(2^60)<=i/\i<2^60 /\ -(2^60)<=j/\j<2^60/\0<k/\k<2^29)/\R (Ag i k (zk i j k)) H1
section
variable {X:Cx} {tg:Expr}
end
end L2
namespace Sv
def yz (d:Nat) (arr:Nat->Bool):Nat->Bool:=λj=>arr j || (decide (d*d<=j) && decide (j%d=0))
def sv:Nat->(Nat->Bool) × List Nat
 | 0=>(λ_=>false,[])
 | i+1=>if (sv i).1 (i+2) then sv i else (yz (i+2) (sv i).1,(sv i).2++[i+2])
theorem len:∀ i,(sv i).2.length<=i
 | 0=>Nat.le_refl _
 | i+1=>by
  have:=len i
  rw [sv]
  split
  ·omega
  ·rw [List.length_append,List.length_singleton];omega
end Sv
namespace L2
open PySem PySem.Spec PyProof.Rows
theorem qH {X:Cx}:cQ X (.type "int") (λxs H Q=>∃ k,xs=[.bl k]/\Q (.int (if k=true then 1 else 0)) H):=λpins s σ H xs us Q I r h=>qG pins s σ H xs us Q I r (.inr h)
section
variable {X:Cx} {pins:List (Addr × Obj)} {σ:St} {H:Hp} {s:Shared} {h':Heap}
theorem Inv.qA {t':Nat} {ch:List Addr} (I:Inv X pins σ H s) (k:∀ b o,b∉ch->s.heap.get? b=some o->h'.get? b=some o) (hf:∀ b∈ch,kJ X pins H b):Inv X pins σ H { s with heap:=h',toks:=t' }:=by
 have nit:∀ b u,H b=some u->b∉ch:=λb u e z=>by rw [(hf b z).1] at e;cases e
 refine I.step (g':=s.gens) (d':=s.drawn) (ch:=ch) (λb hb=>?_) (λb o _ _ hc e _=>k b o hc e) (λb o _ _ hc e _=>⟨o.slots,k b o hc e⟩) (λ_ _ _ _ n=>n)
  (λb o hc e=>⟨o,k b o hc e⟩) (λ_ _ e=>e) (λ_ _ _ e=>e) (λb ps e=>⟨#[],by rw [e];simp⟩) (λm hm=>?_) (λb u e=>?_) I.bare
 ·obtain⟨_,f1,_,f3,f4,f5⟩:=hf b hb
  exact⟨f3,f1,f4,f5⟩
 ·obtain⟨o,es,ep,ho,r⟩:=hm
  exact⟨o,es,ep,k _ o (λz=>(hf _ z).2.1 rfl) ho,r⟩
 ·refine (I.hok b u e).jH (λc v hc q=>k c v ?_ q) (λ_ q=>q) λ_ _ q=>q
  rcases hc with z | z
  ·rw [z];exact nit b u e
  ·exact nit c _ z
theorem Inv.adopt {T:Addr} {o:HO} (I:Inv X pins σ H s) (hf:kJ X pins H T) (new:ba X.prog X.w (upd H T o) s.heap T o):Inv X pins σ (upd H T o) s:=by
 have nT:∀ b u,H b=some u->b≠T:=λb u e z=>by rw [z,hf.1] at e;cases e
 refine I.step (h':=s.heap) (g':=s.gens) (d':=s.drawn) (t':=s.toks) (ch:=[T]) (λb hb=>?_) (λb o _ _ hc e _=>e) (λb o _ _ hc e _=>⟨o.slots,e⟩) (λb o hc e n=>by rw [ao (λz=>hc (by simp [z]))];exact n)
  (λb o hc e=>⟨o,e⟩) (λb xs e=>by rw [ao (nT _ _ e)];exact e) (λb o u e=>by rw [ao (nT _ _ e)];exact e) (λb ps e=>⟨#[],by rw [ao (nT _ _ e),e];simp⟩) (λm hm=>hm) (λb u e=>?_) I.bare
 ·have e:b=T:=by simpa using hb
  subst e
  obtain⟨_,f1,_,f3,f4,f5⟩:=hf
  exact⟨f3,f1,f4,f5⟩
 ·by_cases z:b=T
  ·subst z
   rw [ah] at e
   cases e
   exact new
  ·rw [ao z] at e
   exact (I.hok b u e).jH (λc v _ q=>q) (λc q=>by rw [ao (nT _ _ q)];exact q) λc xs q=>by rw [ao (nT _ _ q)];exact q
end
def A9 (K:PySem.W.Frag) (a:Addr):It :=
 ⟨λi H=>∃ xs x,aS K H a xs/\xs[i]?=some x,λi H x H'=>∃ p v,H p=none/\x=.ref p/\(∀ xs,aS K H a xs->xs[i]?=some v)/\H'=upd H p (.tup [.int i,v]),λi H=>∃ xs,aS K H a xs/\xs.length<=i⟩
def yX (K:PySem.W.Frag) (ta:TA):TI:=λσ H R=>ta σ H λvs H1=>∃ a,vs=[.ref a]/\(∃ xs,aS K H1 a xs)/\R (A9 K a) H1
end L2
namespace Crt
structure G (a b g:Int):Prop where
 pos:0<g
 da:g∣a
 db:g∣b
 lin:∃ u v:Int,u*a+v*b=g
theorem G.gr {a b g d:Int} (h:G a b g) (h1:d∣a) (h2:d∣b):d∣g:=by
 obtain⟨u,v,e⟩:=h.lin
 rw [<- e]
 exact Int.dvd_add (Int.dvd_mul_of_dvd_right h1) (Int.dvd_mul_of_dvd_right h2)
theorem G.one {a b g g':Int} (h:G a b g) (h':G a b g'):g=g':=Int.le_antisymm (Int.le_of_dvd h'.pos (h'.gr h.da h.db)) (Int.le_of_dvd h.pos (h.gr h'.da h'.db))
theorem a1 {g u A v L:Int} (e:u*(g*A)+v*(g*L)=g):g*(u*A+v*L)=g*1:=by grind
theorem a2 {g A k L l y:Int} (h1:y=g*A*k) (h2:y=g*L*l):g*(A*k)=g*(L*l):=by grind
theorem a3 {u A v L k l:Int} (e4:u*A+v*L=1) (e5:A*k=L*l):k=L*(u*l+v*k):=by
 have z:k*(u*A+v*L)=k:=by rw [e4,Int.mul_one]
 grind
theorem a4 {A D r L q1 t:Int} (et:L*q1+t=D*r):A*t=A*(D*r)-A*(L*q1):=by grind
theorem a5 {D r A L c:Int} (hc:r*A-1=L*c):D*(r*A)-D=D*(L*c):=by rw [<- hc];grind
theorem a6 {M L t q2 N x:Int} (ex:M*L*q2+x=N+M*t):x-N=M*(t-L*q2):=by grind
theorem a7 {g A L t q1 q2 c D r N x:Int} (z3:x=N+g*A*t-g*A*L*q2) (z1:A*t=A*(D*r)-A*(L*q1)) (z2:D*(r*A)-D=D*(L*c)):x-(N+g*D)=g*L*(c*D-q1*A-A*q2):=by grind
theorem a8 {M L k w:Int} (h:k=L*w):M*k=M*L*w:=by rw [h,Int.mul_assoc]
structure A8 (M N m n W x:Int):Prop where
 pos:0<W
 dM:M∣W
 dm:m∣W
 le:∀ y:Int,M∣y->m∣y->W∣y
 x0:0<=x
 x1:x<W
 eM:M∣x-N
 em:m∣x-n
theorem Af:∀(b a:Nat),0<a->∃ g,G (a:Int) (b:Int) g:=by
 intro b
 induction b using Nat.strongRecOn with
 | ind b ih =>
  intro a ha
  rcases Nat.eq_zero_or_pos b with z | z
  ·subst z
   exact⟨a,by omega,Int.dvd_refl _,Int.dvd_zero _,1,0,by simp⟩
  ·obtain⟨g,h⟩:=ih (a%b) (Nat.mod_lt a z) b z
   obtain⟨u,v,e⟩:=h.lin
   have ed:(a:Int)=(b:Int)*((a/b:Nat):Int)+((a%b:Nat):Int):=by
    have:=Nat.div_add_mod a b
    rw [<- Int.natCast_mul,<- Int.natCast_add,this]
   refine⟨g,h.pos,?_,h.da,v,u-v*((a/b:Nat):Int),?_⟩
   ·rw [ed]
    exact Int.dvd_add (Int.dvd_mul_of_dvd_left h.da) h.db
   ·rw [ed,<- e]
    generalize ((a/b:Nat):Int)=q
    generalize ((a%b:Nat):Int)=r
    generalize (b:Int)=b'
    grind
theorem yM {a b:Int} (ha:0<a) (hb:0<b):∃ g,G a b g:=by
 obtain⟨g,h⟩:=Af b.toNat a.toNat (by omega)
 rw [Int.toNat_of_nonneg (by omega),Int.toNat_of_nonneg (by omega)] at h
 exact⟨g,h⟩
structure Told (ps:List (Int × Int)) (M N:Int):Prop where
 pos:0<M
 x0:0<=N
 x1:N<M
 dv:∀ p∈ps,p.1∣M
 le:∀ y:Int,(∀ p∈ps,p.1∣y)->M∣y
 al:∀ p∈ps,p.1∣N-p.2
theorem Told.nil:Told [] 1 0:=⟨by decide,by decide,by decide,λ_ h=>by simp at h,λy _=>⟨y,by omega⟩,λ_ h=>by simp at h⟩
theorem Told.one {ps:List (Int × Int)} {M N M' N':Int} (h:Told ps M N) (h':Told ps M' N'):M=M'/\N=N':=by
 have e:M=M':=Int.le_antisymm (Int.le_of_dvd h'.pos (h.le _ h'.dv)) (Int.le_of_dvd h.pos (h'.le _ h.dv))
 subst e
 refine⟨rfl,?_⟩
 have z:M∣N-N':=h.le _ λp hp=>by
  have:=Int.dvd_sub (h.al p hp) (h'.al p hp)
  rwa [show N-p.2-(N' - p.2)=N-N' by omega] at this
 have w:=Int.emod_emod_of_dvd
 have:=(Int.emod_eq_emod_iff_emod_sub_eq_zero (m:=N) (n:=M) (k:=N')).mpr (Int.emod_eq_zero_of_dvd z)
 rwa [Int.emod_eq_of_lt h.x0 h.x1,Int.emod_eq_of_lt h'.x0 h'.x1] at this
end Crt
namespace Num
def Al (n x y:Int):Prop:=n∣x-y
theorem Al.refl (n x:Int):Al n x x:=⟨0,by omega⟩
theorem Al.symm {n x y:Int} (h:Al n x y):Al n y x:=by
 have:=(Int.dvd_neg).mpr h
 rwa [show -(x-y)=y-x by omega] at this
theorem Al.trans {n x y z:Int} (h:Al n x y) (h':Al n y z):Al n x z:=by
 have:=Int.dvd_add h h'
 rwa [show x-y+(y-z)=x-z by omega] at this
theorem Al.mul {n x y u v:Int} (h:Al n x y) (h':Al n u v):Al n (x*u) (y*v):=by
 have h1:n∣(x-y)*u:=Int.dvd_mul_of_dvd_left h
 have h2:n∣y*(u-v):=Int.dvd_mul_of_dvd_right h'
 have:=Int.dvd_add h1 h2
 rwa [show (x-y)*u+y*(u-v)=x*u-y*v by rw [Int.sub_mul,Int.mul_sub];omega] at this
theorem Al.pow {n x y:Int} (h:Al n x y):∀ k:Nat,Al n (x^k) (y^k)
 | 0=>by rw [Int.pow_zero,Int.pow_zero];exact Al.refl _ _
 | k+1=>by rw [Int.pow_succ,Int.pow_succ];exact (Al.pow h k).mul h
theorem Al.iff {n x y:Int}:Al n x y↔x%n=y%n:=Pw.xy.symm
theorem Al.rest (n x:Int):Al n (x%n) x:=Al.iff.mpr (Int.emod_emod_of_dvd x (Int.dvd_refl n))
def Co (a n:Int):Prop:=∃ u v:Int,u*a+v*n=1
theorem Co.dvd {a n b:Int} (h:Co a n) (hd:n∣a*b):n∣b:=by
 obtain⟨u,v,e⟩:=h
 have h1:n∣u*(a*b):=Int.dvd_mul_of_dvd_right hd
 have h2:n∣(v*b)*n:=⟨v*b,Int.mul_comm _ _⟩
 have:=Int.dvd_add h1 h2
 have e2:u*(a*b)+v*b*n=(u*a+v*n)*b:=by
  rw [Int.add_mul,Int.mul_assoc u a b,Int.mul_assoc v n b,Int.mul_comm n b,Int.mul_assoc v b n]
 rw [e2,e,Int.one_mul] at this
 exact this
theorem Co.cancel {a n x y:Int} (h:Co a n) (e:Al n (a*x) (a*y)):Al n x y:=by
 refine h.dvd ?_
 rw [Int.mul_sub]
 exact e
theorem Co.mul {a b n:Int} (h:Co a n) (h':Co b n):Co (a*b) n:=by
 obtain⟨u,v,e⟩:=h
 obtain⟨u',v',e'⟩:=h'
 refine⟨u*u',u*a*v'+v*(u'*b+v'*n),?_⟩
 have:(u*a+v*n)*(u'*b+v'*n)=1:=by rw [e,e'];rfl
 grind
theorem Co.pow {a n:Int} (h:Co a n):∀ k:Nat,Co (a^k) n
 | 0=>⟨1,0,by rw [Int.pow_zero];simp⟩
 | k+1=>by rw [Int.pow_succ];exact (Co.pow h k).mul h
theorem Co.zp {a b n:Int} (h:Co a n) (e:Al n a b):Co b n:=by
 obtain⟨u,v,e1⟩:=h
 obtain⟨c,hc⟩:=e
 refine⟨u,v+u*c,?_⟩
 have:b=a-n*c:=by omega
 rw [this]
 grind
theorem aM {n a:Int} {d k:Nat} (h:Al n (a^d) 1):Al n (a^(d*k)) 1:=by
 rw [Pw.pow_mul]
 have:=h.pow k
 rwa [Pw.one_pow] at this
structure Ord (n a:Int) (m:Nat):Prop where
 pos:0<m
 one:Al n (a^m) 1
 dv:∀ j:Nat,Al n (a^j) 1->m∣j
theorem pow_mod {n a:Int} {m j:Nat} (h:Al n (a^m) 1) (hj:Al n (a^j) 1):Al n (a^(j%m)) 1:=by
 have e:a^j=a^(m*(j/m))*a^(j%m):=by rw [<- Pw.pow_add,Nat.div_add_mod]
 rw [e] at hj
 have h1:=(aM (k:=j/m) h).mul (Al.refl n (a^(j%m)))
 rw [Int.one_mul] at h1
 exact h1.symm.trans hj
theorem dN {n a:Int} {m:Nat} (pos:0<m) (one:Al n (a^m) 1) (no:∀ j,0<j->j<m->¬Al n (a^j) 1):Ord n a m:=by
 refine⟨pos,one,λj hj=>?_⟩
 have h:=pow_mod one hj
 rcases Nat.eq_zero_or_pos (j%m) with z | z
 ·exact Nat.dvd_of_mod_eq_zero z
 ·exact absurd h (no _ z (Nat.mod_lt _ pos))
theorem eC {P:Nat->Prop}:∀ N:Nat,P N->∃ m,P m/\∀ j,j<m->¬P j:=by
 intro N
 induction N using Nat.strongRecOn with
 | ind N ih =>
  intro h
  by_cases z:∃ j,j<N/\P j
  ·obtain⟨j,hj,pj⟩:=z
   exact ih j hj pj
  ·exact⟨N,h,λj hj pj=>z ⟨j,hj,pj⟩⟩
theorem gU {n a:Int} {N:Nat} (pos:0<N) (h:Al n (a^N) 1):∃ m,Ord n a m/\m<=N:=by
 obtain⟨m,⟨m0,m1⟩,no⟩:=eC (P:=λj=>0<j/\Al n (a^j) 1) N ⟨pos,h⟩
 refine⟨m,dN m0 m1 λj j0 jm z=>no j jm ⟨j0,z⟩,?_⟩
 by_cases z:m<=N
 ·exact z
 ·exact absurd ⟨pos,h⟩ (no N (by omega))
theorem Ord.i8 {n a:Int} {m m':Nat} (h:Ord n a m) (h':Ord n a m'):m=m':=Nat.dvd_antisymm (h.dv _ h'.one) (h'.dv _ h.one)
theorem Ord.inj {n a:Int} {m i j:Nat} (h:Ord n a m) (c:Co a n) (hi:i<m) (hj:j<m) (e:Al n (a^i) (a^j)):i=j:=by
 have aux:∀ i j:Nat,i<m->j<m->i<=j->Al n (a^i) (a^j)->i=j:=by
  intro i j hi hj hij e
  have e1:a^j=a^i*a^(j-i):=by rw [<- Pw.pow_add];congr 1;omega
  rw [e1] at e
  have e2:Al n (a^i*1) (a^i*a^(j-i)):=by rw [Int.mul_one];exact e
  have e3:=(c.pow i).cancel e2
  have:=h.dv _ e3.symm
  rcases Nat.eq_zero_or_pos (j-i) with z | z
  ·omega
  ·have:=Nat.le_of_dvd z this
   omega
 rcases Nat.le_total i j with z | z
 ·exact aux i j hi hj z e
 ·exact (aux j i hj hi z e.symm).symm
theorem jf:∀(n:Nat) (l:List Nat),l.Nodup->(∀ x∈l,x<n)->l.length<=n:=by
 intro n
 induction n with
 | zero =>
  intro l _ h
  cases l with
  | nil=>exact Nat.le_refl _
  | cons x r=>exact absurd (h x (by simp)) (by omega)
 | succ n ih =>
  intro l nd h
  by_cases c:n∈l
  ·have h1:=ih (l.erase n) (nd.erase n) λx hx=>by
    have hx':=List.mem_of_mem_erase hx
    have ne:x≠n:=λz=>by
     subst z
     exact absurd hx (List.Nodup.not_mem_erase nd)
    have:=h x hx'
    omega
   rw [List.length_erase_of_mem c] at h1
   omega
  ·have h1:=ih l nd λx hx=>by
    have:=h x hx
    have ne:x≠n:=λz=>c (z▸hx)
    omega
   omega
end Num
namespace Num
structure Pm (p:Int):Prop where
 two:2<=p
 no:∀ d:Int,2<=d->d<p->¬d∣p
theorem Pm.co {p a:Int} (h:Pm p) (ha:¬p∣a):Co a p:=by
 have h2:=h.two
 have r0:=Int.emod_nonneg a (show p≠0 by omega)
 have r1:=Int.emod_lt_of_pos a (show 0<p by omega)
 have rn:a%p≠0:=λz=>ha (Int.dvd_of_emod_eq_zero z)
 obtain⟨g,G⟩:=Crt.yM (a:=a%p) (b:=p) (by omega) (by omega)
 have gl:=Int.le_of_dvd (show 0<a%p by omega) G.da
 have g1:g=1:=by
  have g0:=G.pos
  rcases (by omega:g=1∨2<=g) with z | z
  ·exact z
  ·exact absurd G.db (h.no g z (by omega))
 obtain⟨u,v,e⟩:=G.lin
 rw [g1] at e
 exact Co.zp ⟨u,v,e⟩ (Al.rest p a)
theorem Pm.or {p a b:Int} (h:Pm p) (hd:p∣a*b) (ha:¬p∣a):p∣b:=(h.co ha).dvd hd
def H:Int->List Int->Int->Int
 | acc,[],_=>acc
 | acc,c::cs,x=>H (acc*x+c) cs x
theorem rQ (x:Int):∀(cs:List Int) (a b:Int),H (a+b) cs x=H a cs x+b*x^cs.length
 | [],a,b=>by rw [List.length_nil,Int.pow_zero,Int.mul_one];rfl
 | c::cs,a,b=>by
  show H ((a+b)*x+c) cs x=H (a*x+c) cs x+b*x^(cs.length+1)
  rw [show (a+b)*x+c=(a*x+c)+b*x by rw [Int.add_mul];omega,rQ x cs,Int.pow_succ,Int.mul_assoc,Int.mul_comm x]
def vL (r:Int):Int->List Int->List Int
 | _,[]=>[]
 | _,[_]=>[]
 | c0,c::c'::cs=>(c0*r+c)::vL r (c0*r+c) (c'::cs)
theorem lP (r:Int):∀(cs:List Int) (c0:Int),(vL r c0 cs).length=cs.length-1
 | [],_=>rfl
 | [_],_=>rfl
 | c::c'::cs,c0=>by
  show (vL r (c0*r+c) (c'::cs)).length+1=_
  rw [lP r (c'::cs)]
  simp
theorem factor (x r:Int):∀(cs:List Int) (c0:Int),cs≠[]->H c0 cs x-H c0 cs r=(x-r)*H c0 (vL r c0 cs) x
 | [],_,h=>absurd rfl h
 | [c],c0,_=>by
  show c0*x+c-(c0*r+c)=(x-r)*c0
  rw [Int.sub_mul,Int.mul_comm c0 x,Int.mul_comm c0 r]
  omega
 | c::c'::cs,c0,_=>by
  have ih:=factor x r (c'::cs) (c0*r+c) (by simp)
  show H (c0*x+c) (c'::cs) x-H (c0*r+c) (c'::cs) r=(x-r)*H (c0*x+(c0*r+c)) (vL r (c0*r+c) (c'::cs)) x
  have e1:c0*x+c=(c0*r+c)+c0*(x-r):=by rw [Int.mul_sub];omega
  have e2:H (c0*x+(c0*r+c)) (vL r (c0*r+c) (c'::cs)) x=H (c0*r+c) (vL r (c0*r+c) (c'::cs)) x+c0*x*x^cs.length:=by
   rw [Int.add_comm (c0*x),rQ,lP]
   simp
  rw [e1,rQ,e2,List.length_cons,Int.pow_succ,Int.mul_add,<- ih]
  generalize H (c0*r+c) (c'::cs) x=A
  generalize H (c0*r+c) (c'::cs) r=B
  generalize x^cs.length=Y
  grind
theorem roots {p:Int} (hp:Pm p):∀(n:Nat) (cs:List Int) (c0:Int),cs.length=n->¬p∣c0->∀ rs:List Int,rs.Pairwise (λa b=>¬Al p a b)->(∀ r∈rs,p∣H c0 cs r)->rs.length<=n:=by
 intro n
 induction n with
 | zero =>
  intro cs c0 hl h0 rs hr hz
  have:cs=[]:=List.eq_nil_of_length_eq_zero hl
  subst this
  cases rs with
  | nil=>exact Nat.le_refl _
  | cons r rs=>exact absurd (hz r (by simp)) h0
 | succ n ih =>
  intro cs c0 hl h0 rs hr hz
  cases rs with
  | nil=>exact Nat.zero_le _
  | cons r rs =>
   have hne:cs≠[]:=λz=>by rw [z] at hl;simp at hl
   obtain⟨h1,h2⟩:=List.pairwise_cons.mp hr
   have:=ih (vL r c0 cs) c0 (by rw [lP,hl];rfl) h0 rs h2 λs hs=>by
    have e:=factor s r cs c0 hne
    have d1:=hz s (List.mem_cons_of_mem _ hs)
    have d2:=hz r (by simp)
    have d3:=Int.dvd_sub d1 d2
    rw [e] at d3
    exact hp.or d3 λz=>h1 s hs (Al.symm z)
   simpa using this
theorem wa (x:Int):∀(n:Nat) (a:Int),H a (List.replicate n 0++[-1]) x=a*x^(n+1)-1
 | 0,a=>by
  show a*x + -1=_
  rw [Int.pow_succ,Int.pow_zero,Int.one_mul];omega
 | n+1,a=>by
  show H (a*x+0) (List.replicate n 0++[-1]) x=_
  rw [wa x n,Int.add_zero,Int.pow_succ x (n+1),Int.mul_comm (x^(n+1)) x,Int.mul_assoc]
theorem uP {p:Int} (hp:Pm p) {n:Nat} (hn:0<n) (h:∀ a:Int,¬p∣a->Al p (a^n) 1):p-1<=n:=by
 have h2:=hp.two
 obtain⟨m,rfl⟩:∃ m,n=m+1:=⟨n-1,by omega⟩
 have key:=roots hp (m+1) (List.replicate m 0++[-1]) 1 (by simp) (λz=>by have:=Int.le_of_dvd (by decide) z;omega) ((List.range (p-1).toNat).map λi:Nat=>(i:Int)+1) ?_ ?_
 ·rw [List.length_map,List.length_range] at key
  omega
 ·rw [List.pairwise_map]
  refine List.Pairwise.imp_of_mem (R:=(·<·)) (λ{a b} ha hb hab z=>?_) List.pairwise_lt_range
  have hb':=List.mem_range.mp hb
  have:=Int.le_of_dvd (by omega) (Al.symm z)
  omega
 ·intro r hr
  obtain⟨i,hi,rfl⟩:=List.mem_map.mp hr
  have hi':=List.mem_range.mp hi
  rw [wa,Int.one_mul]
  exact h _ λz=>by have:=Int.le_of_dvd (by omega) z;omega
theorem gT {f:Nat->Nat} {n:Nat} (h:∀ i j,i<j->j<n->f i≠f j):((List.range n).map f).Nodup:=by
 show List.Pairwise _ _
 rw [List.pairwise_map]
 exact List.Pairwise.imp_of_mem (R:=(·<·)) (λ{a b} ha hb hab=>h a b hab (List.mem_range.mp hb)) List.pairwise_lt_range
theorem rest_eq {p x y:Int} (hp:0<p) (e:(x%p).toNat=(y%p).toNat):Al p x y:=by
 have h1:=Int.emod_nonneg x (show p≠0 by omega)
 have h2:=Int.emod_nonneg y (show p≠0 by omega)
 exact Al.iff.mpr (by omega)
theorem back {n a:Int} (hn:2<=n) (c:Co a n):∃ d:Nat,0<d/\(d:Int)<=n/\Al n (a^d) 1:=by
 by_cases z:∃ i j:Nat,i<j/\j<n.toNat+1/\Al n (a^i) (a^j)
 ·obtain⟨i,j,ij,jn,e⟩:=z
  refine⟨j-i,by omega,by omega,?_⟩
  have e1:a^j=a^i*a^(j-i):=by rw [<- Pw.pow_add];congr 1;omega
  rw [e1] at e
  have e2:Al n (a^i*1) (a^i*a^(j-i)):=by rw [Int.mul_one];exact e
  exact ((c.pow i).cancel e2).symm
 ·exfalso
  have nd:=gT (f:=λi=>(a^i%n).toNat) (n:=n.toNat+1) λi j ij jn e=>z ⟨i,j,ij,jn,rest_eq (by omega) e⟩
  have:=jf n.toNat _ nd λx hx=>by
   obtain⟨i,_,rfl⟩:=List.mem_map.mp hx
   have h1:=Int.emod_nonneg (a^i) (show n≠0 by omega)
   have h2:=Int.emod_lt_of_pos (a^i) (show 0<n by omega)
   show (a^i%n).toNat<n.toNat
   omega
  rw [List.length_map,List.length_range] at this
  omega
def fact:Nat->Nat
 | 0=>1
 | n+1=>(n+1)*fact n
theorem mQ:∀ n,0<fact n
 | 0=>by decide
 | n+1=>Nat.mul_pos (Nat.succ_pos n) (mQ n)
theorem mL {d:Nat}:∀ n,0<d->d<=n->d∣fact n
 | 0,h,h'=>by omega
 | n+1,h,h'=>by
  by_cases c:d=n+1
  ·subst c;exact⟨fact n,rfl⟩
  ·exact Nat.dvd_trans (mL n h (by omega)) ⟨n+1,Nat.mul_comm _ _⟩
theorem Ord.mul {n a b:Int} {k m:Nat} (ha:Ord n a k) (hb:Ord n b m) (ca:Co a n) (cb:Co b n) (co:Nat.Coprime k m):Ord n (a*b) (k*m):=by
 refine⟨Nat.mul_pos ha.pos hb.pos,?_,λj hj=>?_⟩
 ·rw [Pw.mul_pow]
  have h1:=aM (k:=m) ha.one
  have h2:=aM (k:=k) hb.one
  rw [Nat.mul_comm m k] at h2
  exact h1.mul h2
 ·rw [Pw.mul_pow] at hj
  have d1:k∣j:=by
   have e:=hj.pow m
   rw [Pw.one_pow,Pw.mul_pow,<- Pw.pow_mul,<- Pw.pow_mul] at e
   have h2:=aM (k:=j) hb.one
   rw [Nat.mul_comm m j] at h2
   have e2:Al n (a^(j*m)) 1:=by
    have:=(Al.refl n (a^(j*m))).mul h2.symm
    rw [Int.mul_one] at this
    exact this.trans e
   exact Nat.Coprime.dvd_of_dvd_mul_right co (ha.dv _ e2)
  have d2:m∣j:=by
   have e:=hj.pow k
   rw [Pw.one_pow,Pw.mul_pow,<- Pw.pow_mul,<- Pw.pow_mul] at e
   have h2:=aM (k:=j) ha.one
   rw [Nat.mul_comm k j] at h2
   have e2:Al n (b^(j*k)) 1:=by
    have:=h2.symm.mul (Al.refl n (b^(j*k)))
    rw [Int.one_mul] at this
    exact this.trans e
   exact Nat.Coprime.dvd_of_dvd_mul_right co.symm (hb.dv _ e2)
  exact Nat.Coprime.mul_dvd_of_dvd_of_dvd co d1 d2
end Num
namespace Num
def Nm (q:Nat):Prop:=2<=q/\∀ d,2<=d->d<q->¬d∣q
theorem wK {m:Nat} (h:2<=m):∃ q,Nm q/\q∣m:=by
 obtain⟨q,⟨q2,qm⟩,no⟩:=eC (P:=λd=>2<=d/\d∣m) m ⟨h,Nat.dvd_refl m⟩
 exact⟨q,⟨q2,λd d2 dq hd=>no d dq ⟨d2,Nat.dvd_trans hd qm⟩⟩,qm⟩
theorem Nm.co {q m:Nat} (h:Nm q) (hm:¬q∣m):Nat.Coprime q m:=by
 have hg:=Nat.gcd_dvd_left q m
 have g0:0<Nat.gcd q m:=Nat.gcd_pos_of_pos_left m (by have:=h.1;omega)
 have gl:=Nat.le_of_dvd (by have:=h.1;omega) hg
 rcases (by omega:Nat.gcd q m=1∨(2<=Nat.gcd q m/\Nat.gcd q m<q)∨Nat.gcd q m=q) with z | ⟨z1,z2⟩ | z
 ·exact z
 ·exact absurd hg (h.2 _ z1 z2)
 ·exact absurd (z▸Nat.gcd_dvd_right q m) hm
theorem jG {q:Nat} (hq:2<=q):∀ m:Nat,0<m->∃ k m',m=q^k*m'/\¬q∣m':=by
 intro m
 induction m using Nat.strongRecOn with
 | ind m ih =>
  intro hm
  by_cases c:q∣m
  ·obtain⟨t,ht⟩:=c
   have t0:0<t:=by
    rcases Nat.eq_zero_or_pos t with z | z
    ·subst z;omega
    ·exact z
   have tm:t<m:=by
    rw [ht]
    have:=Nat.mul_le_mul_right t hq
    omega
   obtain⟨k,m',e,hn⟩:=ih t tm t0
   exact⟨k+1,m',by rw [ht,e,Nat.pow_succ,Nat.mul_comm (q^k) q,Nat.mul_assoc],hn⟩
  ·exact⟨0,m,by simp,c⟩
theorem qa {q:Nat} (h:Nm q):∀(k d:Nat),d∣q^(k+1)->¬d∣q^k->d=q^(k+1):=by
 intro k
 induction k with
 | zero =>
  intro d h1 h2
  rw [Nat.zero_add,Nat.pow_one] at h1 ⊢
  rw [Nat.pow_zero] at h2
  have q2:=h.1
  have d0:0<d:=Nat.pos_of_dvd_of_pos h1 (by omega)
  have dl:=Nat.le_of_dvd (by omega) h1
  rcases (by omega:d=1∨(2<=d/\d<q)∨d=q) with z | ⟨z1,z2⟩ | z
  ·exact absurd (z▸Nat.dvd_refl 1) h2
  ·exact absurd h1 (h.2 d z1 z2)
  ·exact z
 | succ k ih =>
  intro d h1 h2
  by_cases c:q∣d
  ·obtain⟨t,ht⟩:=c
   have q0:0<q:=by have:=h.1;omega
   rw [ht,Nat.pow_succ,Nat.mul_comm (q^(k+1)) q] at h1
   rw [ht,Nat.pow_succ,Nat.mul_comm (q^k) q] at h2
   have e1:=Nat.dvd_of_mul_dvd_mul_left q0 h1
   have e2:¬t∣q^k:=λz=>h2 (Nat.mul_dvd_mul_left q z)
   rw [ht,ih t e1 e2,Nat.pow_succ q (k+1),Nat.mul_comm]
  ·have co:Nat.Coprime (q^(k+1+1)) d:=Nat.Coprime.pow_left _ (h.co c)
   have:d∣1:=by
    have:=Nat.dvd_gcd h1 (Nat.dvd_refl d)
    rwa [co] at this
   exact absurd (Nat.dvd_trans this (Nat.one_dvd _)) h2
section
variable {p:Int} {L:Nat}
structure Ex (p:Int) (L:Nat):Prop where
 pos:0<L
 all:∀ a:Int,¬p∣a->Al p (a^L) 1
 no:∀ j,0<j->j<L->∃ a:Int,¬p∣a/\¬Al p (a^j) 1
theorem Pm.unit {p a:Int} (hp:Pm p) (c:Co a p):¬p∣a:=λh=>by
 obtain⟨u,v,e⟩:=c
 have h1:p∣u*a:=Int.dvd_mul_of_dvd_right h
 have h2:p∣v*p:=⟨v,Int.mul_comm _ _⟩
 have:=Int.dvd_add h1 h2
 rw [e] at this
 have:=Int.le_of_dvd (by decide) this
 have:=hp.two
 omega
theorem wo (hp:Pm p):∃ L,Ex p L:=by
 have h2:=hp.two
 have uni:∀ a:Int,¬p∣a->Al p (a^fact p.toNat) 1:=λa ha=>by
  obtain⟨d,d0,d1,e⟩:=back h2 (hp.co ha)
  obtain⟨t,ht⟩:=mL p.toNat d0 (by omega)
  rw [ht]
  exact aM e
 obtain⟨L,⟨l0,l1⟩,no⟩:=eC (P:=λj=>0<j/\∀ a:Int,¬p∣a->Al p (a^j) 1) (fact p.toNat) ⟨mQ _,uni⟩
 refine⟨L,l0,l1,λj j0 jl=>?_⟩
 have:=no j jl
 by_cases z:∃ a:Int,¬p∣a/\¬Al p (a^j) 1
 ·exact z
 ·exact absurd ⟨j0,λa ha=>Classical.byContradiction λw=>z ⟨a,ha,w⟩⟩ this
theorem nj (hp:Pm p) (h:Ex p L):∀ m:Nat,0<m->m∣L->∃ x:Int,Co x p/\Ord p x m:=by
 intro m
 induction m using Nat.strongRecOn with
 | ind m ih =>
  intro hm hd
  by_cases c:m=1
  ·subst c
   exact⟨1,⟨1,0,by omega⟩,by decide,by rw [Int.pow_succ,Int.pow_zero];exact Al.refl _ _,λj _=>Nat.one_dvd j⟩
  ·obtain⟨q,hq,qm⟩:=wK (show 2<=m by omega)
   obtain⟨k,m',e,hn⟩:=jG hq.1 m hm
   have q0:0<q:=by have:=hq.1;omega
   obtain⟨k',rfl⟩:∃ k',k=k'+1:=by
    cases k with
    | zero=>rw [Nat.pow_zero,Nat.one_mul] at e;exact absurd (e▸qm) hn
    | succ k'=>exact⟨k',rfl⟩
   have m0:0<m':=by
    rcases Nat.eq_zero_or_pos m' with z | z
    ·rw [z,Nat.mul_zero] at e;omega
    ·exact z
   have qk:2<=q^(k'+1):=by
    rw [Nat.pow_succ]
    have:=Nat.mul_le_mul (Nat.pow_pos (n:=k') q0) hq.1
    omega
   have mm:m'<m:=by
    rw [e]
    have:=Nat.mul_le_mul_right m' qk
    omega
   obtain⟨y,cy,oy⟩:=ih m' mm m0 (Nat.dvd_trans ⟨q^(k'+1),by rw [e,Nat.mul_comm]⟩ hd)
   have dq:q^(k'+1)∣L:=Nat.dvd_trans ⟨m',e⟩ hd
   obtain⟨T,hT⟩:=dq
   have T0:0<T:=by
    rcases Nat.eq_zero_or_pos T with z | z
    ·rw [z,Nat.mul_zero] at hT;have:=h.pos;omega
    ·exact z
   have eL:L=q*(q^k'*T):=by rw [hT,Nat.pow_succ,Nat.mul_comm (q^k') q,Nat.mul_assoc]
   have jp:0<q^k'*T:=Nat.mul_pos (Nat.pow_pos q0) T0
   have jl:q^k'*T<L:=by
    rw [eL]
    have:=Nat.mul_le_mul_right (q^k'*T) hq.1
    omega
   obtain⟨a,ha,hna⟩:=h.no _ jp jl
   have ca:=hp.co ha
   have z1:Al p ((a^T)^(q^(k'+1))) 1:=by
    rw [<- Pw.pow_mul,Nat.mul_comm,<- hT]
    exact h.all a ha
   have z2:¬Al p ((a^T)^(q^k')) 1:=by
    rw [<- Pw.pow_mul,Nat.mul_comm]
    exact hna
   obtain⟨d,od,_⟩:=gU (Nat.pow_pos q0) z1
   have d1:=od.dv _ z1
   have d2:¬d∣q^k':=λw=>z2 (by obtain⟨t,ht⟩:=w;rw [ht];exact aM od.one)
   have ed:=qa hq k' d d1 d2
   subst ed
   refine⟨a^T*y,(ca.pow T).mul cy,?_⟩
   rw [e]
   exact od.mul oy (ca.pow T) cy (Nat.Coprime.pow_left _ (hq.co hn))
theorem wq (hp:Pm p) (h:Ex p L):(L:Int)=p-1:=by
 have h2:=hp.two
 have h1:=uP hp h.pos h.all
 obtain⟨g,cg,og⟩:=nj hp h L h.pos (Nat.dvd_refl L)
 have nd:=gT (f:=λi=>(g^i%p).toNat-1) (n:=L) λi j ij jn e=>by
  have r1:∀ k:Nat,1<=(g^k%p).toNat:=λk=>by
   have a1:=Int.emod_nonneg (g^k) (show p≠0 by omega)
   have:g^k%p≠0:=λz=>hp.unit (cg.pow k) (Int.dvd_of_emod_eq_zero z)
   omega
  have e':(g^i%p).toNat=(g^j%p).toNat:=by
   have:=r1 i
   have:=r1 j
   have e:(g^i%p).toNat-1=(g^j%p).toNat-1:=e
   omega
  have:=og.inj cg (by omega) jn (rest_eq (by omega) e')
  omega
 have:=jf (p-1).toNat _ nd λx hx=>by
  obtain⟨i,_,rfl⟩:=List.mem_map.mp hx
  have a1:=Int.emod_nonneg (g^i) (show p≠0 by omega)
  have a2:=Int.emod_lt_of_pos (g^i) (show 0<p by omega)
  have:g^i%p≠0:=λz=>hp.unit (cg.pow i) (Int.dvd_of_emod_eq_zero z)
  show (g^i%p).toNat-1<(p-1).toNat
  omega
 rw [List.length_map,List.length_range] at this
 omega
theorem xI (hp:Pm p) {a:Int} (ha:¬p∣a):Al p (a^(p-1).toNat) 1:=by
 obtain⟨L,h⟩:=wo hp
 have:=wq hp h
 rw [show (p-1).toNat=L by omega]
 exact h.all a ha
theorem oq (hp:Pm p) {m:Nat} (h0:0<m) (hd:m∣(p-1).toNat):∃ x:Int,1<=x/\x<p/\Ord p x m:=by
 obtain⟨L,h⟩:=wo hp
 have:=wq hp h
 have h2:=hp.two
 obtain⟨x,cx,ox⟩:=nj hp h m h0 (by rwa [show (p-1).toNat=L by omega] at hd)
 have a1:=Int.emod_nonneg x (show p≠0 by omega)
 have a2:=Int.emod_lt_of_pos x (show 0<p by omega)
 have a3:x%p≠0:=λz=>hp.unit cx (Int.dvd_of_emod_eq_zero z)
 refine⟨x%p,by omega,a2,ox.pos,((Al.rest p x).pow m).trans ox.one,λj hj=>ox.dv j (((Al.rest p x).pow j).symm.trans hj)⟩
theorem vc (hp:Pm p):∃ g:Int,1<=g/\g<p/\Ord p g (p-1).toNat:=oq hp (by have:=hp.two;omega) (Nat.dvd_refl _)
end
end Num
namespace Num
theorem ya {n a:Int} {e:Nat} (h0:0<e) (h1:Al n (a^e) 1) (no:∀ q,Nm q->q∣e->¬Al n (a^(e/q)) 1):Ord n a e:=by
 obtain⟨m,om,_⟩:=gU h0 h1
 have d:=om.dv _ h1
 by_cases z:m=e
 ·subst z;exact om
 ·exfalso
  obtain⟨t,ht⟩:=d
  have t2:2<=t:=by
   rcases (by omega:t=0∨t=1∨2<=t) with w | w | w
   ·rw [w] at ht;omega
   ·rw [w,Nat.mul_one] at ht;exact absurd ht.symm z
   ·exact w
  obtain⟨q,hq,r,hr⟩:=wK t2
  have q0:0<q:=by have:=hq.1;omega
  have e1:e=q*(m*r):=by rw [ht,hr,<- Nat.mul_assoc,Nat.mul_comm m q,Nat.mul_assoc]
  refine no q hq ⟨m*r,e1⟩ ?_
  rw [e1,Nat.mul_div_cancel_left _ q0]
  exact aM om.one
theorem Ord.Bh {n a:Int} {e:Nat} (h:Ord n a e) {q:Nat} (hq:Nm q) (hd:q∣e):¬Al n (a^(e/q)) 1:=λz=>by
 have q0:0<q:=by have:=hq.1;omega
 obtain⟨r,hr⟩:=hd
 rw [hr,Nat.mul_div_cancel_left _ q0] at z
 have d:=h.dv _ z
 have r0:0<r:=by
  rcases Nat.eq_zero_or_pos r with w | w
  ·rw [w,Nat.mul_zero] at hr;have:=h.pos;omega
  ·exact w
 have:=Nat.le_of_dvd r0 d
 have:=Nat.mul_le_mul_right r hq.1
 omega
end Num
namespace Num
theorem tV {n r:Int} (h:Ld.fw n r):Pm r:=⟨h.two,λd d2 dr hd=>h.no d d2 dr (Int.dvd_trans hd h.dv)⟩
def aH:List (Int × Int)->Int
 | []=>1
 | p::r=>p.1^p.2.toNat*aH r
theorem jh:∀(ps:List (Int × Int)) (p:Int × Int),aH (ps++[p])=aH ps*p.1^p.2.toNat
 | [],p=>by show p.1^_*1=1*_;omega
 | q::r,p=>by
  show q.1^q.2.toNat*aH (r++[p])=q.1^q.2.toNat*aH r*_
  rw [jh r p,Int.mul_assoc]
structure Part (n:Int) (ps:List (Int × Int)):Prop where
 ok:∀ p∈ps,Pm p.1/\1<=p.2/\p.2<=30
 rise:ps.Pairwise λa b=>a.1<b.1
 prod:aH ps=n
theorem aA {q:Int} (h:0<q):∀ k:Nat,0<q^k
 | 0=>by rw [Int.pow_zero];decide
 | k+1=>by rw [Int.pow_succ];exact Int.mul_pos (aA h k) h
theorem two_pow_le {q:Int} (h:2<=q):∀ k:Nat,(2:Int)^k<=q^k
 | 0=>by rw [Int.pow_zero,Int.pow_zero];exact Int.le_refl _
 | k+1=>by
  rw [Int.pow_succ,Int.pow_succ]
  exact Int.mul_le_mul (two_pow_le h k) h (by decide) (Int.le_of_lt (aA (by omega) k))
theorem two_le:∀{k:Nat},(2:Int)^k<=10^9->k<=29:=by
 intro k h
 by_cases c:k<=29
 ·exact c
 ·exfalso
  have e:k=30+(k-30):=by omega
  rw [e,Pw.pow_add] at h
  have:=aA (show (0:Int)<2 by decide) (k-30)
  have h2:=Int.mul_le_mul_of_nonneg_left (show (1:Int)<=2^(k-30) by omega) (show (0:Int)<=2^30 by decide)
  have:(2:Int)^30=1073741824:=by decide
  omega
structure Way (n:Int) (ps:List (Int × Int)) (left prime:Int):Prop where
 ok:∀ p∈ps,Pm p.1/\1<=p.2/\p.2<=30
 rise:ps.Pairwise λa b=>a.1<b.1
 prod:aH ps*left=n
 pos:1<=left
 inv:Ld.Inv left prime
 le:∀ p∈ps,p.1<=prime
 gone:ps=[]∨¬prime∣left
 two:(2:Int)^ps.length*left<=n
theorem Way.start {n:Int} (h:1<=n):Way n [] n 2:=⟨λ_ z=>by simp at z,List.Pairwise.nil,by show 1*n=n;omega,h,⟨by decide,.inl rfl,λd d0 d1=>by omega⟩,λ_ z=>by simp at z,.inl rfl,by rw [List.length_nil,Int.pow_zero];omega⟩
theorem Way.step {n left prime r left':Int} {ps:List (Int × Int)} {k:Nat} (w:Way n ps left prime) (hn:n<=10^9) (hl:1<left) (h:Ld.fw left r) (e:left=r^k*left') (l0:1<=left') (hk:1<=k) (hg:¬r∣left'):Way n (ps++[(r,(k:Int))]) left' r:=by
 have r2:=h.two
 have pm:=tV h
 have rp:prime<=r:=by
  rcases (by omega:prime<=r∨r<prime) with z | z
  ·exact z
  ·exact absurd h.dv (w.inv.no r r2 z)
 have rk:=aA (show 0<r by omega) k
 have k2:=two_pow_le r2 k
 have kl:(2:Int)^k<=left:=by
  have:=Int.mul_le_mul k2 l0 (by decide) (Int.le_of_lt rk)
  rw [Int.mul_one] at this
  omega
 have ln:left<=n:=by
  have z:=w.two
  have p0:=aA (show (0:Int)<2 by decide) ps.length
  have:=Int.mul_le_mul_of_nonneg_right (show (1:Int)<=2^ps.length by omega) (show 0<=left by omega)
  omega
 have k29:=two_le (k:=k) (by omega)
 refine⟨λp hp=>?_,?_,?_,l0,?_,λp hp=>?_,.inr hg,?_⟩
 ·rcases List.mem_append.mp hp with z | z
  ·exact w.ok p z
  ·rw [List.mem_singleton.mp z]
   exact⟨pm,by show (1:Int)<=k;omega,by show (k:Int)<=30;omega⟩
 ·refine List.pairwise_append.mpr ⟨w.rise,List.pairwise_singleton _ _,λa ha b hb=>?_⟩
  rw [List.mem_singleton.mp hb]
  show a.1<r
  have:=w.le a ha
  rcases w.gone with z | z
  ·rw [z] at ha;simp at ha
  ·have:prime≠r:=λy=>z (y▸h.dv)
   omega
 ·rw [jh,<- w.prod,e]
  show aH ps*r^((k:Int).toNat)*left'=_
  rw [Int.toNat_natCast,Int.mul_assoc]
 ·refine⟨r2,?_,λd d0 d1 hd=>h.no d d0 d1 (by rw [e];exact Int.dvd_mul_of_dvd_right hd)⟩
  rcases (by omega:r=2∨2<r) with z | z
  ·exact .inl z
  ·refine .inr ?_
   rcases (by omega:r%2=1∨r%2=0) with y | y
   ·exact y
   ·exact absurd (Int.dvd_of_emod_eq_zero y) (pm.no 2 (by decide) z)
 ·rcases List.mem_append.mp hp with z | z
  ·have:=w.le p z;omega
  ·rw [List.mem_singleton.mp z];exact Int.le_refl _
 ·rw [List.length_append,List.length_singleton,Pw.pow_add,Int.pow_succ,Int.pow_zero,Int.one_mul,Int.mul_assoc]
  refine Int.le_trans (Int.mul_le_mul_of_nonneg_left ?_ (Int.le_of_lt (aA (by decide) _))) w.two
  rw [e]
  obtain⟨k',rfl⟩:∃ k',k=k'+1:=⟨k-1,by omega⟩
  have p0:=aA (show 0<r by omega) k'
  have h1:r<=r^(k'+1):=by
   rw [Int.pow_succ]
   have:=Int.mul_le_mul_of_nonneg_right (show 1<=r^k' by omega) (show 0<=r by omega)
   omega
  exact Int.mul_le_mul_of_nonneg_right (show 2<=r^(k'+1) by omega) (show 0<=left' by omega)
theorem Way.done {n prime:Int} {ps:List (Int × Int)} (w:Way n ps 1 prime):Part n ps:=⟨w.ok,w.rise,by have:=w.prod;omega⟩
theorem Way.len {n left prime:Int} {ps:List (Int × Int)} (w:Way n ps left prime) (hn:n<=10^9):ps.length<=29:=by
 refine two_le ?_
 have z:=w.two
 have p0:=aA (show (0:Int)<2 by decide) ps.length
 have:=Int.mul_le_mul_of_nonneg_left w.pos (Int.le_of_lt p0)
 omega
end Num
namespace Num
open PySem
theorem cG:∀{ps:List (Int × Int)} {p:Int × Int},p∈ps->1<=p.2->p.1∣aH ps
 | a::r,p,h,hk=>by
  rcases List.mem_cons.mp h with z | z
  ·subst z
   obtain⟨k,hk'⟩:∃ k,p.2.toNat=k+1:=⟨p.2.toNat-1,by omega⟩
   show p.1∣p.1^p.2.toNat*aH r
   rw [hk',Int.pow_succ]
   exact Int.dvd_mul_of_dvd_left ⟨p.1^k,Int.mul_comm _ _⟩
  ·exact Int.dvd_mul_of_dvd_right (cG z hk)
theorem zD {q:Nat} (h:Nm q):Pm (q:Int):=⟨by have:=h.1;omega,λd d2 dq hd=>h.2 d.toNat (by omega) (by omega) (by
 obtain⟨c,hc⟩:=hd
 have:(d.toNat:Int)=d:=by omega
 exact Int.natCast_dvd_natCast.mp (by rw [this];exact⟨c,hc⟩))⟩
theorem i5 {p:Int} (h:Pm p):Nm p.toNat:=⟨by have:=h.two;omega,λd d2 dp hd=>h.no d (by omega) (by omega) (by
 have:=Int.natCast_dvd_natCast.mpr hd
 rwa [show (p.toNat:Int)=p by have:=h.two;omega] at this)⟩
theorem tW {p q:Int} (hp:Pm p) (hq:Pm q):∀ k:Nat,q∣p^k->q=p
 | 0,h=>by
  rw [Int.pow_zero] at h
  have:=Int.le_of_dvd (by decide) h
  have:=hq.two
  omega
 | k+1,h=>by
  rw [Int.pow_succ] at h
  by_cases c:q∣p^k
  ·exact tW hp hq k c
  ·have d:=hq.or h c
   have l:=Int.le_of_dvd (by have:=hp.two;omega) d
   rcases (by omega:q<p∨q=p) with z | z
   ·exact absurd d (hp.no q hq.two z)
   ·exact z
theorem dy {q:Int} (hq:Pm q):∀{ps:List (Int × Int)},(∀ p∈ps,Pm p.1)->q∣aH ps->∃ p∈ps,p.1=q
 | [],_,h=>by
  have:=Int.le_of_dvd (by decide) (show q∣1 from h)
  have:=hq.two
  omega
 | a::r,hp,h=>by
  by_cases c:q∣a.1^a.2.toNat
  ·exact⟨a,by simp,(tW (hp a (by simp)) hq _ c).symm⟩
  ·obtain⟨p,h1,h2⟩:=dy hq (λp z=>hp p (List.mem_cons_of_mem _ z)) (hq.or h c)
   exact⟨p,List.mem_cons_of_mem _ h1,h2⟩
theorem tN {n a e:Int} {ps:List (Int × Int)} (h:Part e ps) (he:1<=e):(Al n (a^e.toNat) 1/\∀ q∈ps.map (·.1),¬Al n (a^(e/q).toNat) 1)↔Ord n a e.toNat:=by
 constructor
 ·rintro⟨h1,h2⟩
  refine ya (by omega) h1 λq hq hd=>?_
  have hd':(q:Int)∣e:=by
   have:=Int.natCast_dvd_natCast.mpr hd
   rwa [show (e.toNat:Int)=e by omega] at this
  obtain⟨p,hp,ep⟩:=dy (zD hq) (λp z=>(h.ok p z).1) (by rw [h.prod];exact hd')
  have:=h2 q (List.mem_map.mpr ⟨p,hp,ep⟩)
  rwa [show (e/(q:Int)).toNat=e.toNat/q by
   have:e/(q:Int)=((e.toNat/q:Nat):Int):=by rw [Int.natCast_ediv];congr 1;omega
   rw [this,Int.toNat_natCast]] at this
 ·intro h1
  refine⟨h1.one,λq hq=>?_⟩
  obtain⟨p,hp,rfl⟩:=List.mem_map.mp hq
  obtain⟨o1,o2,_⟩:=h.ok p hp
  have d:p.1∣e:=by rw [<- h.prod];exact cG hp o2
  have t:=o1.two
  have:=h1.Bh (i5 o1) (by
   have:(p.1.toNat:Int)∣(e.toNat:Int):=by rw [show (p.1.toNat:Int)=p.1 by omega,show (e.toNat:Int)=e by omega];exact d
   exact Int.natCast_dvd_natCast.mp this)
  rwa [show e.toNat/p.1.toNat=(e/p.1).toNat by
   have:e/p.1=((e.toNat/p.1.toNat:Nat):Int):=by rw [Int.natCast_ediv];congr 1<;>omega
   rw [this,Int.toNat_natCast]] at this
structure LF (p g:Int):Prop where
 one:1<=g
 lt:g<p
 ord:Ord p g (p-1).toNat
 no:∀ a:Int,1<=a->a<g->¬Ord p a (p-1).toNat
def rowsOf (ps:List (Int × Int)) (ds:Nat->PyData):List PyData:=(List.range ps.length).map λi=>.tuple [ds i,.int (ps.getD i (0,0)).2]
theorem aV {ps:List (Int × Int)} {ds:Nat->PyData}:(rowsOf ps ds).length=ps.length:=by unfold rowsOf;rw [List.length_map,List.length_range]
theorem cY {ps:List (Int × Int)} {ds:Nat->PyData} {i:Nat} {p:Int × Int} (h:ps[i]?=some p):(rowsOf ps ds)[i]?=some (.tuple [ds i,.int p.2]):=by
 have hi:=(List.getElem?_eq_some_iff.mp h).1
 unfold rowsOf
 rw [List.getElem?_map,List.getElem?_range hi]
 show some (PyData.tuple [ds i,.int (ps.getD i (0,0)).2])=_
 rw [List.getD_eq_getElem?_getD,h]
 rfl
inductive fb:Int->PyData->Prop
 | mk (p g:Int) (ps:List (Int × Int)) (ds:Nat->PyData):Pm p->p<=10^9->LF p g->Part (p-1) ps->ps.length<=29->(∀ i q k,ps[i]?=some (q,k)->fb q (ds i))->fb p (.tuple [.int p,.int g,.tuple (rowsOf ps ds)])
theorem fb.head {p:Int} {d:PyData} (h:fb p d):∃ g rows,d=.tuple [.int p,.int g,.tuple rows]:=by
 cases h
 exact⟨_,_,rfl⟩
def Ht:Nat->Int->Prop
 | 0,_=>False
 | L+1,n=>∀ q:Int,Pm q->q∣n-1->Ht L q
theorem wu:∀(L:Nat) (n:Int),Pm n->n<2^(L+2)->Ht (L+2) n
 | 0,n,h,hn=>by
  have h2:=h.two
  have hn':n<4:=hn
  intro q hq hd
  intro q' hq' hd'
  have q2:=hq.two
  have l:=Int.le_of_dvd (by rcases (by omega:n=2∨n=3) with z | z;exfalso;rw [z] at hd;have:=Int.le_of_dvd (by decide) hd;omega;omega) hd
  have qq:q=2:=by omega
  rw [qq] at hd'
  have:=Int.le_of_dvd (by decide) hd'
  have:=hq'.two
  omega
 | L+1,n,h,hn=>by
  intro q hq hd
  have q2:=hq.two
  have h2:=h.two
  refine wu L q hq ?_
  have e:(2:Int)^(L+1+2)=2^(L+2)*2:=by rw [<- Int.pow_succ]
  rw [e] at hn
  have four:(4:Int)<=2^(L+2):=by
   have:=aA (show (0:Int)<2 by decide) L
   have e4:(2:Int)^(L+2)=2^L*4:=by rw [Pw.pow_add];rfl
   omega
  obtain⟨c,hc⟩:=hd
  rcases (by omega:n<=3∨3<n) with z | z
  ·have:q<=n-1:=Int.le_of_dvd (by
    rcases (by omega:n=2∨n=3) with y | y
    ·exfalso
     rw [y] at hc
     have:=Int.le_of_dvd (by decide) (show q∣1 from ⟨c,hc⟩)
     omega
    ·omega) ⟨c,hc⟩
   omega
  ·rcases (by omega:n%2=0∨n%2=1) with y | y
   ·exact absurd (Int.dvd_of_emod_eq_zero y) (h.no 2 (by decide) (by omega))
   ·rcases (by omega:q=2∨2<q) with x | x
    ·omega
    ·have qo:q%2=1:=by
      rcases (by omega:q%2=1∨q%2=0) with w | w
      ·exact w
      ·exact absurd (Int.dvd_of_emod_eq_zero w) (hq.no 2 (by decide) x)
     have ce:c%2=0:=by
      rcases (by omega:c%2=0∨c%2=1) with w | w
      ·exact w
      ·exfalso
       have:(q*c)%2=1:=by rw [Int.mul_emod,qo,w];rfl
       omega
     have c2:2<=c:=by
      rcases (by omega:c<=0∨2<=c) with w | w
      ·have:=Int.mul_nonpos_of_nonneg_of_nonpos (show 0<=q by omega) w
       omega
      ·exact w
     have:=Int.mul_le_mul_of_nonneg_left c2 (show 0<=q by omega)
     omega
theorem sM {n:Int} (h:Pm n) (hn:n<=10^9):Ht 30 n:=wu 28 n h (by
 have:(2:Int)^(28+2)=1073741824:=by decide
 omega)
end Num
namespace L2
open PySem PySem.Spec PyProof.Rows
def A7:PyData->String
 | .none => "NoneType"
 | .bool _ => "bool"
 | .int _ => "int"
 | .str _ => "str"
 | .list _ => "list"
 | .tuple _ => "tuple"
 | .dict _ => "dict"
def wA:PyData->Bool
 | .int _=>true
 | _=>false
def Av:PyData->Bool
 | .bool _=>true
 | _=>false
def y8:PyData->Bool
 | .tuple _=>true
 | _=>false
def AX:PyData->Bool
 | .list _=>true
 | _=>false
section
variable {X:Cx} {K:PySem.W.Frag}
def nB (K:PySem.W.Frag):List V->Hp->VK->Prop:=λxs H Q=>∃ d x n b,xs=[x,.ty n]/\dv K H d x/\PySem.W.kitOne K (.type (A7 d)) (.type n)=some b/\Q (.bl b) H
theorem bo:cQ X (.builtin "isinstance") (nB X.K):=by
 intro pins s σ H xs us Q I r h
 obtain⟨d,x,n,b,rfl,hd,ek,q⟩:=h
 obtain⟨u,w',rfl,rx,rc⟩:=vals2 r
 have e:w'=.type n:=rc
 subst e
 have fin:∀ tk,∃ v' H',Inv X pins σ H' { s with toks:=tk }/\RelV v' (.bool b)/\Q v' H':=λtk=>⟨.bl b,H,I.tok _,rfl,q⟩
 cases d with
 | none=>cases hd;exact fc I rx ft.non ek fin
 | bool y=>cases hd;exact fc I rx (ft.bl _) ek fin
 | int y=>cases hd;exact fc I rx (ft.int _) ek fin
 | str y=>cases hd;exact fc I rx (ft.str _) ek fin
 | list ds =>
  obtain⟨p,ys,rfl,h,t⟩:=hd
  cases rx
  obtain⟨its,rr,pl,_⟩:=I.list h
  obtain⟨o,h1,h2,_⟩:=pl.isList
  exact PySem.W.kia_one PySem.W.kitx_list I.eA ⟨o,h1,h2⟩ ek (λz=>nomatch z) fin
 | tuple ds =>
  obtain⟨p,ys,rfl,h,t⟩:=hd
  cases rx
  obtain⟨its,rr,pl,_⟩:=I.tuple h
  obtain⟨o,h1,h2,_⟩:=pl
  exact PySem.W.kia_one PySem.W.kitx_tuple I.eA ⟨o,h1,h2⟩ ek (λz=>nomatch z) fin
 | dict _=>exact hd.elim
theorem pT {H:Hp} {d:PyData} {x:V} {Q:VK} (h:dv K H d x) (q:Q (.bl (wA d || Av d)) H):nB K [x,.ty "int"] H Q:=by
 refine⟨d,x,"int",_,rfl,h,?_,q⟩
 cases d<;>first | exact h.elim | with_unfolding_all rfl
theorem dk {H:Hp} {d:PyData} {x:V} {Q:VK} (h:dv K H d x) (q:Q (.bl (Av d)) H):nB K [x,.ty "bool"] H Q:=by
 refine⟨d,x,"bool",_,rfl,h,?_,q⟩
 cases d<;>first | exact h.elim | with_unfolding_all rfl
theorem lq {H:Hp} {d:PyData} {x:V} {Q:VK} (h:dv K H d x) (q:Q (.bl (y8 d)) H):nB K [x,.ty "tuple"] H Q:=by
 refine⟨d,x,"tuple",_,rfl,h,?_,q⟩
 cases d<;>first | exact h.elim | with_unfolding_all rfl
theorem iL {H:Hp} {d:PyData} {x:V} {Q:VK} (h:dv K H d x) (q:Q (.bl (AX d)) H):nB K [x,.ty "list"] H Q:=by
 refine⟨d,x,"list",_,rfl,h,?_,q⟩
 cases d<;>first | exact h.elim | with_unfolding_all rfl
end
def yV (i:Int) (n:Nat):List V:=(List.range n).map fun(k:Nat)=>V.int (i+(k:Int))
def Bo (ta:TA):TE:=λσ H Q=>ta σ H λvs H1=>∃ i j:Int,vs=[.int i,.int j]/\(-(2^62)<=i/\i<2^62 /\ -(2^62)<=j/\j<2^62)/\j-i<=10^6/\∀ l,H1 l=none->Q (.ref l) (upd H1 l (.lst (yV i (j-i).toNat)))
variable {X:Cx}
section
variable {X:Cx} {K:PySem.W.Frag}
def wO (K:PySem.W.Frag):List V->Hp->VK->Prop:=λxs H Q=>∃ d x p b,xs=[x,.ref p]/\dv K H d x/\H p=some (.tup [.ty "list",.ty "tuple"])/\PySem.W.kitAny K (.type (A7 d)) [.type "list",.type "tuple"]=some b/\Q (.bl b) H
theorem j4:cQ X (.builtin "isinstance") (wO X.K):=by
 intro pins s σ H xs us Q I r h
 obtain⟨d,x,p,b,rfl,hd,hp,ek,q⟩:=h
 obtain⟨u,w',rfl,rx,rc⟩:=vals2 r
 cases rc
 obtain⟨its,rv,pl,hz⟩:=I.tuple (bS.of hp)
 obtain⟨o,h1,h2,n,h3⟩:=pl
 have ei:its=[.type "list",.type "tuple"]:=by
  cases rv with
  | cons r1 r2 =>
   cases r2 with
   | cons r3 r4 =>
    cases r4
    cases (show _=Value.type "list" from r1)
    cases (show _=Value.type "tuple" from r3)
    rfl
 subst ei
 obtain⟨oc,od,odt,os⟩:=o
 cases h2
 cases h3
 have fin:∀ tk,∃ v' H',Inv X pins σ H' { s with toks:=tk }/\RelV v' (.bool b)/\Q v' H':=λtk=>⟨.bl b,H,I.tok _,rfl,q⟩
 cases d with
 | none=>cases hd;cases (show u=Value.none from rx);exact PySem.W.kia_tup PySem.W.kitx_none I.eA True.intro h1 ek (λz=>nomatch z) fin
 | bool y=>cases hd;cases (show u=Value.bool y from rx);exact PySem.W.kia_tup PySem.W.kitx_bool I.eA True.intro h1 ek (λz=>nomatch z) fin
 | int y=>cases hd;obtain⟨t,e⟩:=(show ∃ t,u=Value.int y t from rx);cases e;exact PySem.W.kia_tup PySem.W.kitx_int I.eA True.intro h1 ek (λz=>nomatch z) fin
 | str y=>cases hd;obtain⟨t,e⟩:=(show ∃ t,u=Value.str y t from rx);cases e;exact PySem.W.kia_tup PySem.W.kitx_str I.eA True.intro h1 ek (λz=>nomatch z) fin
 | list ds =>
  obtain⟨p',ys,rfl,h,t⟩:=hd
  cases rx
  obtain⟨its,rr,pl,_⟩:=I.list h
  obtain⟨o,g1,g2,_⟩:=pl.isList
  exact PySem.W.kia_tup PySem.W.kitx_list I.eA ⟨o,g1,g2⟩ h1 ek (λz=>nomatch z) fin
 | tuple ds =>
  obtain⟨p',ys,rfl,h,t⟩:=hd
  cases rx
  obtain⟨its,rr,pl,_⟩:=I.tuple h
  obtain⟨o,g1,g2,_⟩:=pl
  exact PySem.W.kia_tup PySem.W.kitx_tuple I.eA ⟨o,g1,g2⟩ h1 ek (λz=>nomatch z) fin
 | dict _=>exact hd.elim
theorem fO {H:Hp} {d:PyData} {x:V} {p:Addr} {Q:VK} (h:dv K H d x) (hp:H p=some (.tup [.ty "list",.ty "tuple"])) (q:Q (.bl (AX d || y8 d)) H):wO K [x,.ref p] H Q:=by
 refine⟨d,x,p,_,rfl,h,hp,?_,q⟩
 cases d<;>first | exact h.elim | with_unfolding_all rfl
end
section
variable {κ:Type} [DecidableEq κ]
def d7 (kvs:List (κ × V)) (k:κ):Option V:=(kvs.find? λkv=>decide (kv.1=k)).map (·.2)
def putK (kvs:List (κ × V)) (k:κ) (v:V):List (κ × V) :=
 if (kvs.any λkv=>decide (kv.1=k))=true then kvs.map (λkv=>if kv.1=k then (kv.1,v) else kv) else kvs++[(k,v)]
theorem eY {p:κ × V} {r:List (κ × V)} {k:κ} (e:p.1=k):d7 (p::r) k=some p.2:=by simp [d7,List.find?_cons,e]
theorem eX {p:κ × V} {r:List (κ × V)} {k:κ} (e:¬p.1=k):d7 (p::r) k=d7 r k:=by simp [d7,List.find?_cons,e]
theorem nR (k:κ):∀ kvs:List (κ × V),(kvs.any λkv=>decide (kv.1=k))=(d7 kvs k).isSome
 | []=>rfl
 | p::r=>by
  rw [List.any_cons]
  by_cases e:p.1=k
  ·simp only [eY e,decide_eq_true e,Bool.true_or,Option.isSome_some]
  ·rw [eX e,decide_eq_false e,Bool.false_or];exact nR k r
theorem eF (kvs:List (κ × V)) (k:κ) (v:V):(putK kvs k v).length<=kvs.length+1:=by
 unfold putK
 split
 ·rw [List.length_map];omega
 ·rw [List.length_append,List.length_cons,List.length_nil];omega
theorem fW.qS {o:Option V} {u:Option Value} (r:fW o u):o.isSome=u.isSome:=by
 cases o with
 | none=>cases u with
  | none=>rfl
  | some _=>exact (show False from r).elim
 | some _=>cases u with
  | none=>exact (show False from r).elim
  | some _=>rfl
theorem fW.getD {o:Option V} {u:Option Value} {d:V} {d':Value} (r:fW o u) (rd:RelV d d'):RelV (o.getD d) (u.getD d'):=by
 cases o with
 | none=>cases u with
  | none=>exact rd
  | some _=>exact (show False from r).elim
 | some _=>cases u with
  | none=>exact (show False from r).elim
  | some _=>exact r
theorem KV.val {kvs:List (κ × V)} {vs:List (κ × Value)} (r:KV kvs vs) (k:κ):fW (d7 kvs k) (valueAt vs k):=by
 unfold KV at r
 induction r with
 | nil=>exact True.intro
 | @cons p q ps qs h t ih =>
  obtain⟨h1,h2⟩:=h
  by_cases e:p.1=k
  ·have e':q.1=k:=h1.symm.trans e
   have b:valueAt (q::qs) k=some q.2:=by simp [valueAt,List.find?_cons,e']
   rw [eY e,b];exact h2
  ·have e':¬q.1=k:=λz=>e (h1.trans z)
   have b:valueAt (q::qs) k=valueAt qs k:=by simp [valueAt,List.find?_cons,e']
   rw [eX e,b];exact ih
theorem KV.any {kvs:List (κ × V)} {vs:List (κ × Value)} (r:KV kvs vs) (k:κ):(kvs.any λkv=>decide (kv.1=k))=vs.any λkv=>decide (kv.1=k):=by
 unfold KV at r
 induction r with
 | nil=>rfl
 | cons h t ih=>rw [List.any_cons,List.any_cons,ih,h.1]
theorem KV.yq {kvs:List (κ × V)} {vs:List (κ × Value)} (r:KV kvs vs) (k:κ) {y:V} {u:Value} (ry:RelV y u) :
  KV (kvs.map λkv=>if kv.1=k then (kv.1,y) else kv) (vs.map λkv=>if kv.1=k then (kv.1,u) else kv):=by
 unfold KV at r ⊢
 induction r with
 | nil=>exact .nil
 | @cons p q ps qs h t ih =>
  rw [List.map_cons,List.map_cons]
  refine .cons ?_ ih
  obtain⟨h1,h2⟩:=h
  by_cases e:p.1=k
  ·rw [if_pos e,if_pos (h1.symm.trans e)];exact⟨h1,ry⟩
  ·rw [if_neg e,if_neg (λz=>e (h1.trans z))];exact⟨h1,h2⟩
theorem KV.put {kvs:List (κ × V)} {vs:List (κ × Value)} (r:KV kvs vs) (k:κ) {y:V} {u:Value} (ry:RelV y u):KV (putK kvs k y) (stored vs k u):=by
 unfold putK stored
 rw [r.any k]
 by_cases e:(vs.any λkv=>decide (kv.1=k))=true
 ·rw [if_pos e,if_pos e];exact r.yq k ry
 ·rw [if_neg e,if_neg e];exact Paired.snoc r ⟨rfl,ry⟩
theorem KV.keys {kvs:List (κ × V)} {vs:List (κ × Value)} (r:KV kvs vs):kvs.map (·.1)=vs.map (·.1):=by
 unfold KV at r
 induction r with
 | nil=>rfl
 | cons h t ih=>rw [List.map_cons,List.map_cons,ih,h.1]
theorem KV.length {kvs:List (κ × V)} {vs:List (κ × Value)} (r:KV kvs vs):kvs.length=vs.length:=Paired.length r
end
theorem mU {P:Program} {w:World} {k:Key} {u:Value} (r:RelV (kV k) u):(aI P w).is k u=true:=by
 cases k with
 | inl i=>obtain⟨t,e⟩:=(show ∃ t,u=Value.int i t from r);subst e;exact mZ P w i t
 | inr x=>obtain⟨t,e⟩:=(show ∃ t,u=Value.str x t from r);subst e;exact m6 P w x t
theorem j9 {P:Program} {w:World}:∀{ks:List Key} {us:List Value},Vals (ks.map kV) us->ItemsAre (aI P w) ks us
 | [],_,r=>by rw [List.map_nil] at r;cases r;exact .nil
 | k::ks,_,r=>by
  rw [List.map_cons] at r
  cases r with
  | cons h t=>exact .cons (mU h) (j9 t)
abbrev KT (H:Hp):List (List Key × V)->List (List Key × Addr × Value)->Prop:=Paired λp q=>p.1=q.1/\H q.2.1=some (.tup (p.1.map kV))/\RelV p.2 q.2.2
theorem KT.val {H:Hp} {kvs:List (List Key × V)} {xs:List (List Key × Addr × Value)} (r:KT H kvs xs) (k:List Key):fW (d7 kvs k) ((atKey xs k).map (·.2)):=by
 induction r with
 | nil=>exact True.intro
 | @cons p q ps qs h t ih =>
  obtain⟨h1,_,h2⟩:=h
  by_cases e:p.1=k
  ·have e':q.1=k:=h1.symm.trans e
   have b:atKey (q::qs) k=some q.2:=by simp [atKey,List.find?_cons,e']
   rw [eY e,b];exact h2
  ·have e':¬q.1=k:=λz=>e (h1.trans z)
   have b:atKey (q::qs) k=atKey qs k:=by simp [atKey,List.find?_cons,e']
   rw [eX e,b];exact ih
theorem KT.yq {H:Hp} {kvs:List (List Key × V)} {xs:List (List Key × Addr × Value)} (r:KT H kvs xs) (k:List Key) {y:V} {u:Value} (ry:RelV y u) :
  KT H (kvs.map λkv=>if kv.1=k then (kv.1,y) else kv) (xs.map (putAt k u)):=by
 induction r with
 | nil=>exact .nil
 | @cons p q ps qs h t ih =>
  rw [List.map_cons,List.map_cons]
  refine .cons ?_ ih
  obtain⟨h1,h2,h3⟩:=h
  unfold putAt
  by_cases e:p.1=k
  ·rw [if_pos e,if_pos (h1.symm.trans e)];exact⟨h1,h2,ry⟩
  ·rw [if_neg e,if_neg (λz=>e (h1.trans z))];exact⟨h1,h2,h3⟩
theorem KT.put {H:Hp} {kvs:List (List Key × V)} {xs:List (List Key × Addr × Value)} (r:KT H kvs xs) (k:List Key) {b:Addr} {y:V} {u:Value} (hb:H b=some (.tup (k.map kV))) (ry:RelV y u) :
  KT H (putK kvs k y) (storedH xs k b u):=by
 have e:(kvs.any λkv=>decide (kv.1=k))=(atKey xs k).isSome:=by
  rw [nR,(r.val k).qS,Option.isSome_map]
 unfold putK storedH
 rw [e]
 by_cases q:(atKey xs k).isSome=true
 ·rw [if_pos q,if_pos q];exact r.yq k ry
 ·rw [if_neg q,if_neg q];exact Paired.snoc r ⟨rfl,hb,ry⟩
theorem KT.keeps {H H':Hp} {kvs:List (List Key × V)} {xs:List (List Key × Addr × Value)} (r:KT H kvs xs) (ht:∀ b ys,H b=some (.tup ys)->H' b=some (.tup ys)):KT H' kvs xs :=
 Paired.xU r λ_ _ z=>⟨z.1,ht _ _ z.2.1,z.2.2⟩
section
variable {P:Program} {w:World} {H:Hp} {h:Heap} {a:Addr}
theorem wQ {u:HO} (ok:ef P w H h) (e:Rd H a u):ba P w H h a u:=e.ok ok
theorem mI {kvs:List (Key × V)} (ok:ef P w H h) (e:Rd H a (.dK kvs)):kvs.length<=sizeLine/\(a==sysModules)=false/\∃ vs,KV kvs vs/\h.DictOf (aI P w) a vs :=
 show ba P w H h a (.dK kvs) from wQ ok e
theorem sg {kvs:List (Key × V)} (ok:ef P w H h) (e:H a=some (.dK kvs)):kvs.length<=sizeLine/\(a==sysModules)=false/\∃ vs,KV kvs vs/\h.DictOf (aI P w) a vs:=mI ok (.inl e)
theorem lx {ks:List Key} (ok:ef P w H h) (e:H a=some (.tup (ks.map kV))):(tupleKind (aI P w)).is h ks a:=by
 obtain⟨_,its,r,o,h1,h2,n,h3⟩:=(show ba P w H h a (.tup (ks.map kV)) from ok a _ e)
 exact⟨o,its.toArray,n,h1,h2,h3,by simpa using j9 r⟩
theorem mJ {kvs:List (List Key × V)} (ok:ef P w H h) (e:Rd H a (.dT kvs)):kvs.length<=sizeLine/\(a==sysModules)=false /\
  ∃ xs,KT H kvs xs/\h.DictOfH (tupleKind (aI P w)) a xs:=by
 obtain⟨z,y,xs,r,o,es,ep,h1,h2,h3,h4,h5⟩:=(show ba P w H h a (.dT kvs) from wQ ok e)
 refine⟨z,y,xs,r,o,es,ep,h1,h2,h3,h4,λx hx=>?_,h5⟩
 have all:∀{l:List (List Key × V)} {m:List (List Key × Addr × Value)},KT H l m->∀ x∈m,(tupleKind (aI P w)).is h x.1 x.2.1:=by
  intro l m q
  induction q with
  | nil=>intro x hx;exact nomatch hx
  | @cons p q ps qs hq t ih =>
   intro x hx
   rcases List.mem_cons.mp hx with e | hx
   ·subst e
    exact lx ok (by rw [<- hq.1];exact hq.2.1)
   ·exact ih x hx
 exact all r x hx
theorem yT {kvs:List (List Key × V)} (ok:ef P w H h) (e:H a=some (.dT kvs)):kvs.length<=sizeLine/\(a==sysModules)=false /\
  ∃ xs,KT H kvs xs/\h.DictOfH (tupleKind (aI P w)) a xs:=mJ ok (.inl e)
end
def fL (H:Hp) (a:Addr) (y:V) (r:Option V):Prop :=
 (∃ kvs k,Rd H a (.dK kvs)/\y=kV k/\r=d7 kvs k)∨∃ kvs k b,Rd H a (.dT kvs)/\y=.ref b/\H b=some (.tup (k.map kV))/\r=d7 kvs k
def mq (H:Hp) (a:Addr) (y v:V) (H':Hp):Prop :=
 (∃ kvs k,H a=some (.dK kvs)/\y=kV k/\kvs.length<sizeLine/\H'=upd H a (.dK (putK kvs k v))) ∨
 ∃ kvs k b,H a=some (.dT kvs)/\y=.ref b/\H b=some (.tup (k.map kV))/\kvs.length<sizeLine/\H'=upd H a (.dT (putK kvs k v))
theorem fL.k {H:Hp} {a:Addr} {kvs:List (Key × V)} {k:Key} (e:H a=some (.dK kvs)):fL H a (kV k) (d7 kvs k):=.inl ⟨kvs,k,.inl e,rfl,rfl⟩
theorem fL.t {H:Hp} {a b:Addr} {kvs:List (List Key × V)} {k:List Key} (e:H a=some (.dT kvs)) (eb:H b=some (.tup (k.map kV))):fL H a (.ref b) (d7 kvs k):=.inr ⟨kvs,k,b,.inl e,rfl,eb,rfl⟩
theorem mq.k {H:Hp} {a:Addr} {kvs:List (Key × V)} {k:Key} {v:V} (e:H a=some (.dK kvs)) (hl:kvs.length<sizeLine):mq H a (kV k) v (upd H a (.dK (putK kvs k v))):=.inl ⟨kvs,k,e,rfl,hl,rfl⟩
theorem mq.t {H:Hp} {a b:Addr} {kvs:List (List Key × V)} {k:List Key} {v:V} (e:H a=some (.dT kvs)) (eb:H b=some (.tup (k.map kV))) (hl:kvs.length<sizeLine) :
  mq H a (.ref b) v (upd H a (.dT (putK kvs k v))):=.inr ⟨kvs,k,b,e,rfl,eb,hl,rfl⟩
section
variable {X:Cx} {pins:List (Addr × Obj)} {σ:St} {H:Hp} {s:Shared} {a:Addr} {y v:V} {u r:Value} {o:Option V} {A:Around} {E:Value->Shared->Prop}
theorem Inv.big (I:Inv X pins σ H s):sysModules<s.heap.objs.size:=by
 have h:mainGlobals<s.heap.objs.size:=(I.mod.glob.keeps I.bk).lt
 exact Nat.lt_trans (by decide) h
theorem qL {Q:Value->Shared->Prop} (hu:A.units+1<cLine) (I:Inv X pins σ H s) (g:fL H a y (some v)) (ry:RelV y u) (h:∀ w' s',Inv X pins σ H s'->RelV v w'->Q w' s') :
  wpAny (model X.prog X.w) A (getItem (.ref a) u) Q E s:=by
 rcases g with⟨kvs,k,e,ey,l⟩|⟨kvs,k,b,e,ey,eb,l⟩
 ·subst ey
  obtain⟨z,hd,vs,rel,dd⟩:=mI I.hok e
  obtain⟨w',hw,rw'⟩:=fW.some_of (v:=v) (o:=valueAt vs k) (by rw [l];exact rel.val k)
  exact wpAny_getItem_of (mU ry) dd.mapOf hw (h w' _ (I.tok _) rw')
 ·subst ey
  cases (show u=Value.ref b from ry)
  obtain⟨z,hd,xs,rel,dd⟩:=mJ I.hok e
  obtain⟨w',hw,rw'⟩:=fW.some_of (v:=v) (o:=(atKey xs k).map (·.2)) (by rw [l];exact rel.val k)
  obtain⟨p,hp,hp2⟩:=Option.map_eq_some_iff.mp hw
  refine wpAny_getItem_heap (tupleKind_room_in1 hu) (lx I.hok eb) dd hp ?_
  rw [hp2]
  exact h w' _ (I.tok _) rw'
theorem kW {h':Heap} {t':Nat} {ob:HO} (I:Inv X pins σ H s) (mu:yO (H a)) (hs:Heap.SameBut a s.heap h') (he:∃ q,h'.get? a=some q) (new:ba X.prog X.w (upd H a ob) h' a ob) :
  Inv X pins σ (upd H a ob) { s with heap:=h',toks:=t' } :=
 I.write (x:=a) (e:=a) mu (.inl rfl) (λb q hb z=>(hs.2 b hb).trans z) he new
theorem sf {P:Program} {w:World} {H':Hp} {h':Heap} {kvs:List (Key × V)} {vs:List (Key × Value)} (z:kvs.length<=sizeLine) (hd:(a==sysModules)=false) (rel:KV kvs vs) (dd:h'.DictOf (aI P w) a vs) :
  ba P w H' h' a (.dK kvs):=⟨z,hd,vs,rel,dd⟩
theorem qM {H':Hp} {Q:Unit->Shared->Prop} (hu:A.units+1<cLine) (I:Inv X pins σ H s) (g:mq H a y v H') (ry:RelV y u) (rv:RelV v r) (h:∀ s',Inv X pins σ H' s'->Q () s') :
  wpAny (model X.prog X.w) A (setItem (.ref a) u r) Q E s:=by
 rcases g with⟨kvs,k,e,ey,l,eH⟩|⟨kvs,k,b,e,ey,eb,l,eH⟩
 ·subst ey eH
  obtain⟨z,hd,vs,rel,dd⟩:=sg I.hok e
  have hz:vs.length<=sizeLine:=by rw [<- rel.length];exact z
  have hl:(putK kvs k v).length<=sizeLine:=by have:=eF kvs k v;omega
  refine wpAny_setItem_pairs (hsz:=hz) (mU ry) dd λh' dd' hs=>h _ ?_
  have he:∃ q,h'.get? a=some q:=let ⟨q,_,_,hq,_⟩:=dd';⟨q,hq⟩
  exact kW I (by rw [e];exact True.intro) hs he (sf hl hd (rel.put k rv) dd')
 ·subst ey eH
  cases (show u=Value.ref b from ry)
  obtain⟨z,hd,xs,rel,dd⟩:=yT I.hok e
  have hz:xs.length<=sizeLine:=by rw [<- Paired.length rel];exact z
  have hl:(putK kvs k v).length<=sizeLine:=by have:=eF kvs k v;omega
  refine wpAny_setItem_heap (hsz:=hz) (tupleKind_room_in1 hu) (lx I.hok eb) dd λh' dd' hs=>h _ ?_
  obtain⟨q,es,ep,hq,h2,h3,h4,_,h5⟩:=dd'
  refine kW I (by rw [e];exact True.intro) hs ⟨q,hq⟩ ⟨hl,hd,_,(rel.put k eb rv).keeps λc ys ec=>?_,q,es,ep,hq,h2,h3,h4,h5⟩
  rw [ao (zo ec e (λz=>nomatch z))]
  exact ec
end
section
variable {X:Cx} {pins:List (Addr × Obj)} {σ:St} {H:Hp} {s:Shared} {a:Addr} {kvs:List (Key × V)} {k:Key} {u:Value} {A:Around} {E:Value->Shared->Prop}
end
def yP (i:Expr):Prop:=∀ ov iv,subscripted i false ov iv=operate [ov,iv] (getItem ov iv)
theorem vW {prog:Program} {w:World} {A:Around} {E:Value->Shared->Prop} {s:Shared} {env:Env} {value slice:Expr} {pos:Pos} {T id:String} {Q:Value->Shared->Prop}
  (hl:typeLookup (.type T) "__getitem__"=pure (some (.builtin id))) (hs:yP slice)
  (h:wpAny (model prog w) A (eval value env) (λo s₁=>wpAny (model prog w) A (eval slice env) (λi s₂=>s₂.TypeIs o T/\wpAny (model prog w) A (getItem o i) Q E s₂) E s₁) E s) :
  wpAny (model prog w) A (eval (.Subscript value slice pos) env) Q E s:=by
 refine Subscript_ (wpAny_mono h (λo s₁ h₁=>wpAny_mono h₁ (λi s₂ h₂=>?_) λ_ _ x=>x) λ_ _ x=>x)
 obtain⟨hT,h₂⟩:=h₂
 unfold subscriptTail
 refine wpAny_bind ?_
 rw [getitemInPython_of_ne hT.not_modules]
 refine wpAny_bind (wpAny_specialOf hT hl ?_)
 have fin:wpAny (model prog w) A (subscripted slice false o i) (λr s₃=>wpAny (model prog w) A (letTemporaryGo value o r >>= λ_=>pure r) Q E s₃) E s₂:=by
  rw [hs o i]
  exact wpAny_operating (wpAny_mono h₂ (λr s₃ h₃=>wpAny_bind (wpAny_letTemporaryGo (wpAny_pure h₃))) λ_ _ x=>x)
 first
  | exact wpAny_pure (wpAny_bind fin)
  | exact wpAny_bind (wpAny_pure (wpAny_bind fin))
  | exact wpAny_bind fin
theorem mH {X:Cx} {pins:List (Addr × Obj)} {σ:St} {H:Hp} {s:Shared} {a:Addr} {y:V} {o:Option V} (I:Inv X pins σ H s) (g:fL H a y o):s.TypeIs (.ref a) "dict":=by
 rcases g with⟨kvs,k,e,_,_⟩|⟨kvs,k,b,e,_,_,_⟩
 ·obtain⟨_,_,vs,_,dd⟩:=mI I.hok e
  exact dd.typeIs
 ·obtain⟨_,_,xs,_,dd⟩:=mJ I.hok e
  exact dd.typeIs
def w5 (td ty:TE):TE:=λσ H Q=>td σ H λx H1=>ty σ H1 λy H2=>∃ a v,x=.ref a/\fL H2 a y (some v)/\Q v H2
def wR (td ty tv:TE):TS:=λD σ H=>tv σ H λv H1=>td σ H1 λx H2=>ty σ H2 λy H3=>∃ a H4,x=.ref a/\mq H3 a y v H4/\D.nx σ H4
section
variable {X:Cx} {o i e value:Expr} {pos pos' tpos:Pos} {td ty tv:TE}
theorem fg (hu:X.A.units+1<cLine) (ho:PE X o td) (hi:PE X i ty) (hs:yP i):PE X (.Subscript o i pos) (w5 td ty):=by
 intro pins s σ H Q I h
 refine vW PySem.F.slot_dict_getitem.lookup hs (br (ho pins s σ H _ I h) λu s1 ⟨x,H1,I1,rx,q1⟩=>br (hi pins s1 σ H1 _ I1 q1) λiv s2 ⟨y,H2,I2,ry,a,v,ex,g,q2⟩=>?_)
 subst ex
 obtain rfl:u=Value.ref a:=rx
 exact⟨mH I2 g,qL hu I2 g ry λw' s3 I3 rw'=>⟨v,H2,I3,rw',q2⟩⟩
theorem lK (hu:X.A.units+1<cLine) (ho:PE X o td) (hi:PE X i ty) (hv:PE X value tv) (hs:swapsWith value (some (.Subscript o i pos')) pos.line X.env=pure false) :
  PS X (.Assign [.Subscript o i pos'] value pos) (wR td ty tv):=by
 intro pins s σ H D I h
 refine wpAny_Assign_Subscript (br (hv pins s σ H _ I h) λr s1 ⟨v,H1,I1,rv,q1⟩=>br (ho pins s1 σ H1 _ I1 q1) λu s2 ⟨x,H2,I2,rx,q2⟩=>br (hi pins s2 σ H2 _ I2 q2) λiv s3 ⟨y,H3,I3,ry,a,H4,ex,g,q3⟩=>?_) hs
 subst ex
 obtain rfl:u=Value.ref a:=rx
 exact qM hu I3 g ry rv λs4 I4=>⟨σ,H4,I4,q3⟩
end
theorem r8 {P:Program} {w:World} {H:Hp} (h:Heap) (hb:sysModules<h.objs.size):ba P w H (h.push { cls:=.type "dict",data:=.dict #[] }) h.objs.size (.dK []) :=
 ⟨Nat.zero_le _,beq_eq_false_iff_ne.mpr (Ne.symm (Nat.ne_of_lt hb)),[],.nil,Heap.DictOf.new h⟩
section
variable {X:Cx} {pos:Pos}
end
def lY:List (TE × TE)->St->Hp->(List (V × V)->Hp->Prop)->Prop
 | [],_,H,Q=>Q [] H
 | (tk,tv)::r,σ,H,Q=>tk σ H λx H1=>tv σ H1 λy H2=>lY r σ H2 λps H3=>Q ((x,y)::ps) H3
abbrev VV:List (V × V)->List (Value × Value)->Prop:=Paired λp q=>RelV p.1 q.1/\RelV p.2 q.2
def z8 (X:Cx) (pos:Pos) (keys:List (Option Expr)) (values:List Expr) (trs:List (TE × TE)):Prop :=
 ∀(pins:List (Addr × Obj)) (s:Shared) (σ:St) (H:Hp) (Q:List (V × V)->Hp->Prop),Inv X pins σ H s->lY trs σ H Q ->
  wpAny (model X.prog X.w) X.A (evalPairs (pairTrees keys values X.env pos)) (λvs s'=>∃ ps H',Inv X pins σ H' s'/\VV ps vs/\Q ps H') X.xe s
theorem qc {X:Cx} {pos:Pos}:z8 X pos [] [] []:=λpins s σ H Q I h=>pairTrees_nil_walk ⟨[],H,I,.nil,h⟩
theorem gu {X:Cx} {pos:Pos} {k v:Expr} {ks:List (Option Expr)} {vs:List Expr} {tk tv:TE} {trs:List (TE × TE)} (hk:PE X k tk) (hv:PE X v tv) (hr:z8 X pos ks vs trs) :
  z8 X pos (some k::ks) (v::vs) ((tk,tv)::trs):=λpins s σ H Q I h =>
 pairTrees_cons_walk (br (hk pins s σ H _ I h) λu s1 ⟨x,H1,I1,rx,q1⟩=>br (hv pins s1 σ H1 _ I1 q1) λw2 s2 ⟨y,H2,I2,ry,q2⟩ =>
  br (hr pins s2 σ H2 _ I2 q2) λws s3 ⟨ps,H3,I3,rel,q3⟩=>⟨(x,y)::ps,H3,I3,.cons ⟨rx,ry⟩ rel,q3⟩)
def iZ (kvs more:List (Key × V)):List (Key × V):=more.foldl (λacc kv=>putK acc kv.1 kv.2) kvs
theorem KV.merge:∀{more:List (Key × V)} {rs:List (Key × Value)} {kvs:List (Key × V)} {vs:List (Key × Value)},KV more rs->KV kvs vs->KV (iZ kvs more) (merged vs rs):=by
 intro more rs kvs vs r
 unfold KV at r
 induction r generalizing kvs vs with
 | nil=>intro q;exact q
 | @cons p q ps qs h t ih =>
  intro r0
  have e:KV (putK kvs p.1 p.2) (stored vs q.1 q.2):=by
   have:=r0.put p.1 h.2
   rw [<- h.1];exact this
  exact ih e
theorem fB:∀(more kvs:List (Key × V)),(iZ kvs more).length<=kvs.length+more.length
 | [],kvs=>by show kvs.length<=kvs.length+0;omega
 | p::r,kvs=>by
  have h1:=fB r (putK kvs p.1 p.2)
  have h2:=eF kvs p.1 p.2
  show (iZ (putK kvs p.1 p.2) r).length<=_
  rw [List.length_cons];omega
theorem iR {P:Program} {w:World}:∀{kvs:List (Key × V)} {ws:List (Value × Value)},VV (kvs.map λkv=>(kV kv.1,kv.2)) ws->∃ rs,Carries (aI P w) ws rs/\KV kvs rs
 | [],_,r=>by rw [List.map_nil] at r;cases r;exact⟨[],True.intro,.nil⟩
 | p::kvs,_,r=>by
  rw [List.map_cons] at r
  cases r with
  | @cons a b as bs h t =>
   obtain⟨rs,c,q⟩:=iR (P:=P) (w:=w) t
   obtain⟨b1,b2⟩:=b
   exact⟨(p.1,b2)::rs,⟨mU h.1,rfl,c⟩,.cons ⟨rfl,h.2⟩ q⟩
def w6 (trs:List (TE × TE)):TE:=λσ H Q=>∀ p,H p=none->lY trs σ (upd H p (.dK [])) λps H2=>H2 p=some (.dK [])/\∃ kvs:List (Key × V),ps=kvs.map (λkv=>(kV kv.1,kv.2))/\kvs.length<=15/\Q (.ref p) (upd H2 p (.dK (iZ [] kvs)))
theorem pZ {X:Cx} {pos:Pos} {keys:List (Option Expr)} {values:List Expr} {trs:List (TE × TE)} (h:z8 X pos keys values trs) (hall:keys.all (·.isSome)=true) (hl:keys.length=values.length) (h0:keys≠[])
  (h15:keys.length<=15):PE X (.Dict keys values pos) (w6 trs):=by
 intro pins s σ H Q I q
 have hn:=I.hok.fresh (Nat.le_refl s.heap.objs.size)
 have I1:=I.laid (a:=s.heap.objs.size) (o:=.dK []) (h':=s.heap.push { cls:=.type "dict",data:=.dict #[] }) (t':=s.toks) (λ_ _ q=>Heap.get?_push_of_some _ q) (Nat.le_refl _) (r8 s.heap I.big)
 refine wpAny_Dict_walk (knd:=aI X.prog X.w) hall hl h0 h15 (br (h pins _ σ _ _ I1 (q _ hn)) λws s2 ⟨ps,H2,I2,rel,e,kvs,ep,lk,q2⟩=>?_)
 subst ep
 obtain⟨rs,c,rk⟩:=iR (P:=X.prog) (w:=X.w) rel
 obtain⟨z,hd,vs0,r0,dd⟩:=sg I2.hok e
 cases r0
 refine⟨rs,c,dd,λh' dd' hs=>⟨.ref s.heap.objs.size,_,?_,rfl,q2⟩⟩
 have hz:(iZ [] kvs).length<=sizeLine:=by
  have h1:=fB kvs []
  rw [List.length_nil] at h1
  rw [sizeLine_eq];omega
 have he:∃ q,h'.get? s.heap.objs.size=some q:=let ⟨q,_,_,hq,_⟩:=dd';⟨q,hq⟩
 exact kW I2 (by rw [e];exact True.intro) hs he (sf hz hd (rk.merge .nil) dd')
structure M1 (X:Cx) (o:Expr) (m:Str) (apos:Pos) (e:Expr) (cpos:Pos):Prop where
 base:attributeBase o m X.env (eval o X.env)=eval o X.env
 uH:((backTo cpos (starEach [e] X.env)).all (λx=>!x.1) && (backToKw cpos (keywordEach [] X.env)).all (λx=>x.1.isSome)
  && decide (([e]:List Expr).length+([]:List Keyword).length+(if ([]:List Keyword).isEmpty then 0 else 1)<30))=true
 line:(apos.endLine==cpos.line)=true
 trees:backTo cpos (starEach [e] X.env)=[(false,eval e X.env)]
structure M2 (X:Cx) (o:Expr) (m:Str) (apos:Pos) (e f:Expr) (cpos:Pos):Prop where
 base:attributeBase o m X.env (eval o X.env)=eval o X.env
 uH:((backTo cpos (starEach [e,f] X.env)).all (λx=>!x.1) && (backToKw cpos (keywordEach [] X.env)).all (λx=>x.1.isSome)
  && decide (([e,f]:List Expr).length+([]:List Keyword).length+(if ([]:List Keyword).isEmpty then 0 else 1)<30))=true
 line:(apos.endLine==cpos.line)=true
 trees:backTo cpos (starEach [e,f] X.env)=[(false,eval e X.env),(false,eval f X.env)]
def AS (H:Hp) (a:Addr):Prop:=(∃ kvs,Rd H a (.dK kvs))∨∃ kvs,Rd H a (.dT kvs)
theorem xM {X:Cx} {pins:List (Addr × Obj)} {σ:St} {H:Hp} {s:Shared} {a:Addr} (I:Inv X pins σ H s) (d:AS H a) :
  s.TypeIs (.ref a) "dict"/\(∀ b,Value.ref a=.ref b->∃ ob,s.heap.get? b=some ob/\ob.dict=none)/\(a==sysModules)=false:=by
 rcases d with⟨kvs,e⟩|⟨kvs,e⟩
 ·obtain⟨_,hd,vs,_,dd⟩:=mI I.hok e
  refine⟨dd.typeIs,λb q=>?_,hd⟩
  cases q
  obtain⟨ob,_,_,h1,h2,_⟩:=dd
  exact⟨ob,h1,h2.2.1⟩
 ·obtain⟨_,hd,xs,_,dd⟩:=mJ I.hok e
  refine⟨dd.typeIs,λb q=>?_,hd⟩
  cases q
  obtain⟨ob,_,_,h1,h2,_⟩:=dd
  exact⟨ob,h1,h2.2.1⟩
section
variable {X:Cx} {pins:List (Addr × Obj)} {σ:St} {H:Hp} {s:Shared} {a:Addr} {y d:V} {u r:Value} {o:Option V} {A:Around} {E:Value->Shared->Prop}
theorem xF {Q:Value->Shared->Prop} (hu:A.units+1<cLine) (I:Inv X pins σ H s) (g:fL H a y o) (ry:RelV y u) (rd:RelV d r) (h:∀ w' s',Inv X pins σ H s'->RelV (o.getD d) w'->Q w' s') :
  wpAny (model X.prog X.w) A (call (.builtin "dict.get") [.ref a,u,r]) Q E s:=by
 rcases g with⟨kvs,k,e,ey,l⟩|⟨kvs,k,b,e,ey,eb,l⟩
 ·subst ey
  obtain⟨z,hd,vs,rel,dd⟩:=mI I.hok e
  refine call_meetsIn PySem.F.slot_dict_get dd.typeIs PySem.F.entry_dict_get (PySem.F.args_dict_get_3 _ _ _) (meets_dict_get_default (aI X.prog X.w) a (mU ry) hd r) ⟨_,dd.mapOf,h _ _ (I.tok _) ?_⟩
  rw [l]
  exact (rel.val k).getD rd
 ·subst ey
  cases (show u=Value.ref b from ry)
  obtain⟨z,hd,xs,rel,dd⟩:=mJ I.hok e
  refine call_meetsIn PySem.F.slot_dict_get dd.typeIs PySem.F.entry_dict_get (PySem.F.args_dict_get_3 _ _ _) (meetsH_dict_get_default (tupleKind (aI X.prog X.w)) a b hd r) ⟨tupleKind_room_in1 hu,k,xs,lx I.hok eb,dd,h _ _ (I.tok _) ?_⟩
  rw [l]
  exact (rel.val k).getD rd
end
def uj (td ty tx:TE):TE:=λσ H Q=>td σ H λx H1=>∃ a,x=.ref a/\AS H1 a/\ty σ H1 λy H2=>tx σ H2 λz H3=>∃ o,fL H3 a y o/\Q (o.getD z) H3
section
variable {X:Cx} {o e f:Expr} {apos cpos:Pos} {td ty tx:TE}
theorem tR (hu:X.A.units+1<cLine) (ho:PE X o td) (he:PE X e ty) (hf:PE X f tx) (m:M2 X o "get" apos e f cpos):PE X (.Call (.Attribute o "get" apos) [e,f] [] cpos) (uj td ty tx):=by
 intro pins s σ H Q I h
 refine wpAny_Call_method m.base m.uH m.line PySem.F.plainAttrs_dict PySem.F.slot_dict_get PySem.F.type_dict_get (br (ho pins s σ H _ I h) λu s1 ⟨x,H1,I1,rx,a,ex,d,q1⟩=>?_)
 subst ex
 obtain rfl:u=Value.ref a:=rx
 obtain⟨t1,t2,_⟩:=xM I1 d
 refine⟨t1,t2,?_⟩
 rw [m.trees]
 refine Calls.callWith_builtin rfl (Calls.evalArgs_plain (Calls.spliced_cons (br (he pins s1 σ H1 _ I1 q1) λiv s2 ⟨y,H2,I2,ry,q2⟩ =>
  Calls.spliced_cons (br (hf pins s2 σ H2 _ I2 q2) λfv s3 ⟨z,H3,I3,rz,ov,g,q3⟩=>Calls.spliced_nil ?_))))
 exact xF hu I3 g ry rz λw' s4 I4 rw'=>⟨_,H3,I4,rw',q3⟩
end
section
variable {X:Cx} {pins:List (Addr × Obj)} {σ:St} {H:Hp} {s:Shared} {a:Addr} {kvs:List (Key × V)} {A:Around} {E:Value->Shared->Prop}
end
section
variable {X:Cx} {pins:List (Addr × Obj)} {σ:St} {H:Hp} {s:Shared} {a:Addr} {y:V} {u:Value} {A:Around} {E:Value->Shared->Prop}
end
def lW (l:Int) (b:Bool):HO:=.dK [(Sum.inr "left",.int l),(Sum.inr "free",.bl b)]
def sV (l:Int) (b:Bool):Prop:=b=true∨(0<=l/\l<2147483647)
def Up (p:Addr) (b:Bool) (H H':Hp):Prop:=∃ l,sV l b/\H'=upd H p (lW l b)
theorem hZ {H:Hp} {p:Addr} {o o':HO}:upd (upd H p o) p o'=upd H p o':=by
 funext c
 by_cases e:c=p
 ·subst e;rw [ah,ah]
 ·rw [ao e,ao e,ao e]
theorem Up.trans {p:Addr} {b:Bool} {H H1 H2:Hp} (h:Up p b H H1) (h':Up p b H1 H2):Up p b H H2:=by
 obtain⟨l,_,rfl⟩:=h
 obtain⟨l',k',rfl⟩:=h'
 exact⟨l',k',hZ⟩
theorem Up.at {p:Addr} {b:Bool} {H H1:Hp} (h:Up p b H H1):∃ l,sV l b/\H1 p=some (lW l b):=by
 obtain⟨l,k,rfl⟩:=h
 exact⟨l,k,ah⟩
theorem Up.ne {p q:Addr} {b:Bool} {H H1:Hp} (h:Up p b H H1) (n:q≠p):H1 q=H q:=by
 obtain⟨l,k,rfl⟩:=h
 exact ao n
theorem gc {H:Hp} {p:Addr} {l:Int} {b:Bool} (h:H p=some (lW l b)):fL H p (.str "left") (some (.int l)):=fL.k (k:=Sum.inr "left") h
theorem sH {H:Hp} {p:Addr} {l:Int} {b:Bool} (h:H p=some (lW l b)):fL H p (.str "free") (some (.bl b)):=fL.k (k:=Sum.inr "free") h
theorem nA {H:Hp} {p:Addr} {l l':Int} {b:Bool} (h:H p=some (lW l b)):mq H p (.str "left") (.int l') (upd H p (lW l' b)):=.inl ⟨_,Sum.inr "left",h,rfl,by show 2<sizeLine;decide,rfl⟩
def Us (p:Addr) (b:Bool) (H H':Hp):Prop:=(∃ l,sV l b/\H' p=some (lW l b))/\∀ q o,q≠p->H q=some o->H' q=some o
theorem Up.us {p:Addr} {b:Bool} {H H':Hp} (h:Up p b H H'):Us p b H H':=⟨h.at,λq o n e=>by rw [h.ne n];exact e⟩
theorem Us.trans {p:Addr} {b:Bool} {H H1 H2:Hp} (h:Us p b H H1) (h':Us p b H1 H2):Us p b H H2:=⟨h'.1,λq o n e=>h'.2 q o n (h.2 q o n e)⟩
theorem Us.lay {p q:Addr} {b:Bool} {H H1:Hp} {o:HO} (h:Us p b H H1) (f:H1 q=none):Us p b H (upd H1 q o):=by
 obtain⟨⟨l,k,e⟩,s⟩:=h
 exact⟨⟨l,k,by rw [ao (λz=>by rw [<- z,e] at f;cases f)];exact e⟩,λr u n er=>by
  have:=s r u n er
  rw [ao (λz=>by rw [z,f] at this;cases this)];exact this⟩
theorem Us.refl {p:Addr} {b:Bool} {H:Hp} {l:Int} (h:H p=some (lW l b)) (k:sV l b):Us p b H H:=⟨⟨l,k,h⟩,λ_ _ _ e=>e⟩
theorem Us.free {p q:Addr} {b:Bool} {H H1:Hp} (h:Us p b H H1) (f:H1 q=none):H q=none:=by
 cases e:H q with
 | none=>rfl
 | some o =>
  by_cases n:q=p
  ·subst n
   obtain⟨l,_,z⟩:=h.1
   rw [z] at f;cases f
  ·rw [h.2 q o n e] at f;cases f
theorem Us.set {p q:Addr} {b:Bool} {H H1:Hp} {o:HO} (h:Us p b H H1) (f:H q=none) (n:q≠p):Us p b H (upd H1 q o):=by
 obtain⟨⟨l,k,e⟩,s⟩:=h
 exact⟨⟨l,k,by rw [ao (Ne.symm n)];exact e⟩,λr u n er=>by rw [ao (λz=>by rw [z,f] at er;cases er)];exact s r u n er⟩
theorem Us.same {p:Addr} {b:Bool} {H H0 H1:Hp} (h:Us p b H H1) (s:az H0 H) (f:H0 p=none):az H0 H1:=λc o e=>h.2 c o (λz=>by rw [z,f] at e;cases e) (s c o e)
section
variable {K:PySem.W.Frag} {H H':Hp}
theorem bS.kd {a:Addr} {xs:List V} (k:∀ a xs,Rd H a (.tup xs)->Rd H' a (.tup xs)) (h:bS K H a xs):bS K H' a xs:=h.imp (λz=>k _ _ z) id
mutual
theorem dv.kd (k:∀ a xs,Rd H a (.tup xs)->Rd H' a (.tup xs)):∀(d:PyData) {v:V},yI d=true->dv K H d v->dv K H' d v
 | .none,_,_,h=>h
 | .bool _,_,_,h=>h
 | .int _,_,_,h=>h
 | .str _,_,_,h=>h
 | .list ds,_,z,_=>by cases z
 | .tuple ds,_,z,⟨q,xs,e,h,t⟩=>⟨q,xs,e,h.kd k,aJ.kd k ds z t⟩
 | .dict _,_,_,h=>h.elim
theorem aJ.kd (k:∀ a xs,Rd H a (.tup xs)->Rd H' a (.tup xs)):∀(ds:List PyData) {xs:List V},jQ ds=true->aJ K H ds xs->aJ K H' ds xs
 | [],_,_,h=>h
 | d::ds,_,z,⟨x,r,e,h,t⟩=>by
  have z':yI d=true/\jQ ds=true:=by simpa [jQ] using z
  exact⟨x,r,e,dv.kd k d z'.1 h,aJ.kd k ds z'.2 t⟩
end
theorem aJ.set:∀{ds:List PyData} {us:List V} (i:Nat) {d:PyData} {v:V},aJ K H ds us->dv K H d v->aJ K H (ds.set i d) (us.set i v)
 | [],_,_,_,_,h,_=>by cases h;exact rfl
 | e::ds,_,0,_,_,⟨x,r,ex,h,t⟩,hv=>by subst ex;exact⟨_,_,rfl,hv,t⟩
 | e::ds,_,i+1,_,_,⟨x,r,ex,h,t⟩,hv=>by subst ex;exact⟨_,_,rfl,h,aJ.set i t hv⟩
end
theorem Us.ref {p:Addr} {b:Bool} {H H1:Hp} (h:Us p b H H1):∃ l,sV l b/\H1 p=some (lW l b):=h.1
theorem tY {X:Cx} {Ex:Addr->Shared->Hp->List Addr->Value->Shared->Prop} {elt target iter:Expr} {ifs:List Expr} {scope:Scope} {pos:Pos} {N':List Str} {js:List (Option Nat)} {cl:List (Str × Addr)} {wi:TI} {g:TG} {tt:TT} {te:TE} {i0:Nat} {x0:Str} {pos' pos2:Pos} (hN0:X.N.Nodup) (hi0:X.N[i0]?=some x0) (hx0:Loc X.env.scope x0) (hcalm:X.calm=true)
  (K:fK X N' js scope cl) (hi:PI X target iter wi)
  (hg:∀ C s₂ H₂ fp,jK X C s₂ H₂ fp->PG (bI X (Ex C s₂ H₂ fp) N' scope cl C s₂ H₂ fp) target g) (ht:∀ C s₂ H₂ fp,jK X C s₂ H₂ fp->nV (bI X (Ex C s₂ H₂ fp) N' scope cl C s₂ H₂ fp) ifs tt) (he:∀ C s₂ H₂ fp,jK X C s₂ H₂ fp->PE (bI X (Ex C s₂ H₂ fp) N' scope cl C s₂ H₂ fp) elt te)
  (herr:∀ C s₂ H₂ fp use Q' acc e s',Ex C s₂ H₂ fp e s'->notedBy (model X.prog X.w) X.A (compEnvC scope (cellsFrom (C+1) scope.names cl) C X.env) (λe s''=>compPost (model X.prog X.w) X.A X.xe use Q' acc C (.error e) s'') e s')
  (hsw:swapsWith (.ListComp elt [⟨target,iter,ifs,0⟩] scope pos) (some (.Name x0 pos')) pos2.line X.env=pure true) (hf0:X.fn x0=true∨X.env.scope.names.lookup x0=some .local)
  (hs:∀ x,foldedSetIterable iter X.env x=pure x:=by intro _;rfl):PS X (.Assign [.Name x0 pos'] (.ListComp elt [⟨target,iter,ifs,0⟩] scope pos) pos2) (rL (Ac js wi g tt te) (cH i0)):=by
 intro pins s σ H Dn I h
 rw [exec_Assign_Name_used _ _ _ _ hsw]
 refine wpAny_bind (wpAny_standAt (wpAny_bind ?_))
 unfold evalThenUse
 refine wpAny_bind ?_
 refine wpAny_comprehension_free (use:=some (assign (.Name x0 pos') X.env)) rfl hs K.clos K.kind K.names (br (hi pins s σ H _ I h) λv s1 h1=>br h1 λitv s2 h2=>?_)
 obtain⟨H2,I2⟩:∃ H2,Inv X pins σ H2 s2:=by obtain⟨_,_,_,_,H2,_,I2,_⟩:=h2;exact⟨H2,I2⟩
 refine pU (Ex:=Ex) (Q:=λx H1=>cH i0 x σ H1 Dn.nx) hcalm K hg ht he herr h2 λC D vys H4 s5 hm hDe hDleC hDC nD nC hI qn=>?_
 obtain⟨m5,hn5⟩:=hm
 have le:=Nat.le_trans hDe hDleC
 have key:Inv X pins σ (upd H4 D (.lst vys)) s5:=hI s5.heap ⟨rfl,λ_ _=>rfl⟩
 have nC':upd H4 D (.lst vys) C=none:=by rw [ao (Ne.symm hDC)];exact nC
 have CL:C≠X.env.locals:=λz=>by
  have:=I2.lt
  rw [<- z] at this
  exact Nat.lt_irrefl _ (Nat.lt_of_lt_of_le this le)
 have Cfs:C∉X.fs:=λz=>I2.vq le z
 obtain⟨oC,es,ep,gC,dC,skC,fdC⟩:=hn5
 have J1:Inv X ((C,oC)::pins) σ (upd H4 D (.lst vys)) s5:=key.fj λp hp=>by
  rcases List.mem_cons.mp hp with z | z
  ·subst z
   exact⟨gC,nC',CL,Cfs,λv z=>by rw [dC] at z;cases z⟩
  ·exact key.pin p (List.mem_append_right _ z)
 show wpAny _ _ (assign (.Name x0 pos') X.env (.ref D)) _ _ _
 refine PyProof.Rows.assign_Name ?_
 refine cm J1 hN0 hi0 hx0 (show RelV (.ref D) (.ref D) from rfl) (λs6 I6=>?_) hf0
 have pC:=(I6.pin (C,oC) (List.mem_append_right _ (List.mem_cons_self ..))).1
 refine⟨m5,⟨oC,es,ep,pC,dC,skC,fdC⟩,λh' hsb'=>?_⟩
 have I7:Inv X pins (σ.set i0 (some (.ref D))) (upd H4 D (.lst vys)) s6:=I6.fj λp hp=>I6.pin p (List.mem_append_right _ (List.mem_cons_of_mem _ hp))
 have I8:=I7.turned (t':=s6.toks) (it:=C) (λb o hb e=>hsb'.extBut b o hb e) nC' CL (.inr (Nat.le_trans I2.sz le))
  (λx c e=>by
   obtain⟨v,q⟩:=I2.cell x c e
   exact Nat.ne_of_lt (Nat.lt_of_lt_of_le q.lt le))
  (λp hp=>Nat.ne_of_lt (Nat.lt_of_lt_of_le (Heap.lt_size (I2.pin p hp).1) le))
 exact wpAny_pure (wpAny_pure ⟨_,_,I8,qn⟩)
theorem lM {X:Cx} {elt target iter:Expr} {ifs:List Expr} {scope:Scope} {pos:Pos} {N':List Str} {js:List (Option Nat)} {cl:List (Str × Addr)} {wi:TI} {g:TG} {tt:TT} {te:TE} {i0:Nat} {x0:Str} {pos' pos2:Pos} (hN0:X.N.Nodup) (hi0:X.N[i0]?=some x0) (hx0:Loc X.env.scope x0) (hcalm:X.calm=true)
  (K:fK X N' js scope cl) (hi:PI X target iter wi)
  (hg:∀ C s₂ H₂ fp,PG (fN X N' scope cl C s₂ H₂ fp) target g) (ht:∀ C s₂ H₂ fp,nV (fN X N' scope cl C s₂ H₂ fp) ifs tt) (he:∀ C s₂ H₂ fp,PE (fN X N' scope cl C s₂ H₂ fp) elt te)
  (hsw:swapsWith (.ListComp elt [⟨target,iter,ifs,0⟩] scope pos) (some (.Name x0 pos')) pos2.line X.env=pure true) (hf0:X.fn x0=true∨X.env.scope.names.lookup x0=some .local)
  (hs:∀ x,foldedSetIterable iter X.env x=pure x:=by intro _;rfl):PS X (.Assign [.Name x0 pos'] (.ListComp elt [⟨target,iter,ifs,0⟩] scope pos) pos2) (rL (Ac js wi g tt te) (cH i0)) :=
 tY (Ex:=λ_ _ _ _ _ _=>False) hN0 hi0 hx0 hcalm K hi (λC s H f _=>hg C s H f) (λC s H f _=>ht C s H f) (λC s H f _=>he C s H f) (λ_ _ _ _ _ _ _ _ _ z=>z.elim) hsw hf0 hs
theorem ma (it t:Addr) (i:Nat) (items:Array Value) (x:Value) (hx:items[i]?=some x):Meets (Builtin.«tuple_iterator.__next__» ⟨[.ref it],[]⟩)
  (λ_ R s=>s.heap.IsTupleIter it t i/\s.heap.IsTuple t items/\∀ h',h'.IsTupleIter it t (i+1)->Heap.SameBut it s.heap h'->R (.ok (.ret x)) { s with heap:=h' }) :=
 .of_wp λprog w A R s h=>by
  obtain⟨⟨o,e,c,d⟩,⟨o2,e2,c2,n2,d2⟩,q⟩:=h
  have hx':items[(i:Int).toNat]?=some x:=by simpa using hx
  wp_walk using wpAny_field (i:=0) (x:=Value.ref t) e d rfl,wpAny_field (i:=1) (x:=Value.int i 0) e d rfl,wpAny_seqItems e2 d2
  rw [hx']
  refine wpAny_bind (wpAny_setField e d (show 1<2 by decide) ?_)
  obtain⟨oc,od,odt,os⟩:=o
  cases c
  cases d
  wp_walk
  refine⟨x,rfl,q _ ⟨_,Heap.get?_update_self _ e rfl,rfl,?_⟩ (Heap.SameBut.update ..)⟩
  show Data.fields _=_
  simp [rawInt]
theorem nN (it t:Addr) (i:Nat) (items:Array Value) (hx:items[i]?=none):Meets (Builtin.«tuple_iterator.__next__» ⟨[.ref it],[]⟩)
  (λA R s=>A.handled=none/\s.heap.IsTupleIter it t i/\s.heap.IsTuple t items/\∀ h' e,Heap.ExtBut it s.heap h'->(∃ o,h'.get? e=some o/\o.cls=.type "StopIteration")->R (.error (.ref e)) { s with heap:=h' }) :=
 .of_wp λprog w A R s h=>by
  obtain⟨hn,⟨o,e,c,d⟩,⟨o2,e2,c2,n2,d2⟩,q⟩:=h
  have hx':items[(i:Int).toNat]?=none:=by simpa using hx
  wp_walk using wpAny_field (i:=0) (x:=Value.ref t) e d rfl,wpAny_field (i:=1) (x:=Value.int i 0) e d rfl,wpAny_seqItems e2 d2
  rw [hx']
  wp_walk using wpAny_setField e d (show 0<2 by decide)
  refine wpAny_raiseNew_none hn (q _ _ (λb o hb e=>Heap.get?_push_of_some _ (Heap.get?_push_of_some _ ((Heap.get?_update_other _ _ (Ne.symm hb)).trans e))) ⟨_,Heap.get?_push_size _ rfl,rfl⟩)
section
variable {prog:Program} {w:World} {A:Around} {E:Value->Shared->Prop} {s:Shared} {it t:Addr} {i:Nat} {items:Array Value} {Q:Value->Shared->Prop}
theorem iC {x:Value} (h1:s.heap.IsTupleIter it t i) (h2:s.heap.IsTuple t items) (hx:items[i]?=some x) (q:∀ h',h'.IsTupleIter it t (i+1)->Heap.SameBut it s.heap h'->Q x { s with heap:=h' }) :
  wpAny (model prog w) A (Builtin.SmallTypes.nextOf (.ref it)) Q E s:=by
 have ty:s.TypeIs (.ref it) "tuple_iterator":=by obtain⟨o,e,c,_⟩:=h1;exact⟨o,e,c⟩
 unfold Builtin.SmallTypes.nextOf
 refine wpAny_bind (wpAny_callSpecial?_slot ty slot_tupleiter_next (call_meets slot_tupleiter_next ty entry_tupleiter_next (args_tupleiter_next _) (ma it t i items x hx) ⟨h1,h2,λh' a b=>?_⟩))
 exact wpAny_pure (q h' a b)
theorem i4 (hn:A.handled=none) (h1:s.heap.IsTupleIter it t i) (h2:s.heap.IsTuple t items) (hx:items[i]?=none) (q:∀ h' e,Heap.ExtBut it s.heap h'->(∃ o,h'.get? e=some o/\o.cls=.type "StopIteration")->E (.ref e) { s with heap:=h' }) :
  wpAny (model prog w) A (Builtin.SmallTypes.nextOf (.ref it)) Q E s:=by
 have ty:s.TypeIs (.ref it) "tuple_iterator":=by obtain⟨o,e,c,_⟩:=h1;exact⟨o,e,c⟩
 unfold Builtin.SmallTypes.nextOf
 exact wpAny_bind (wpAny_callSpecial?_slot ty slot_tupleiter_next (call_meets slot_tupleiter_next ty entry_tupleiter_next (args_tupleiter_next _) (nN it t i items hx) ⟨hn,h1,h2,λh' e a b=>q h' e a b⟩))
end
inductive Sd
 | l
 | t
def Sd.It:Sd->Heap->Addr->Addr->Nat->Prop
 | .l=>Heap.IsListIter
 | .t=>Heap.IsTupleIter
def Sd.Sq:Sd->Heap->Addr->Array Value->Prop
 | .l=>Heap.IsList
 | .t=>Heap.IsTuple
def Sd.io (k:Sd) (a:Addr):Obj:=match k with
 | .l=>{ cls:=.type "list_iterator",data:=.fields #[.ref a,.int 0 0] }
 | .t=>{ cls:=.type "tuple_iterator",data:=.fields #[.ref a,.int 0 0] }
theorem Sd.It.at {k:Sd} {h h':Heap} {it a:Addr} {i:Nat} (x:k.It h it a i) (e:∀ o,h.get? it=some o->h'.get? it=some o):k.It h' it a i:=by
 cases k<;>(obtain⟨o,e1,r⟩:=x;exact⟨o,e o e1,r⟩)
theorem Sd.It.there {k:Sd} {h:Heap} {it a:Addr} {i:Nat} (x:k.It h it a i):∃ o,h.get? it=some o/\∀ v,o.data≠.cell v:=by
 cases k<;>(obtain⟨o,e1,_,d⟩:=x;exact⟨o,e1,λv z=>by rw [d] at z;cases z⟩)
theorem Sd.Sq.at {k:Sd} {h h':Heap} {a:Addr} {xs:Array Value} (x:k.Sq h a xs) (e:∀ o,h.get? a=some o->h'.get? a=some o):k.Sq h' a xs:=by
 cases k<;>(obtain⟨o,e1,r⟩:=x;exact⟨o,e o e1,r⟩)
theorem Sd.Sq.lt {k:Sd} {h:Heap} {a:Addr} {xs:Array Value} (x:k.Sq h a xs):a<h.objs.size:=by
 cases k<;>(obtain⟨o,e1,r⟩:=x;exact Heap.lt_size e1)
theorem Sd.start (k:Sd) {h:Heap} {it a:Addr} (e:h.get? it=some (k.io a)):k.It h it a 0:=by
 cases k<;>exact⟨_,e,rfl,rfl⟩
section
variable {prog:Program} {w:World} {A:Around} {E:Value->Shared->Prop} {s:Shared} {it a:Addr} {i:Nat} {xs:Array Value} {Q:Value->Shared->Prop} {k:Sd}
theorem Sd.item {x:Value} (h1:k.It s.heap it a i) (h2:k.Sq s.heap a xs) (hx:xs[i]?=some x) (q:∀ h',k.It h' it a (i+1)->Heap.SameBut it s.heap h'->Q x { s with heap:=h' }) :
  wpAny (model prog w) A (Builtin.SmallTypes.nextOf (.ref it)) Q E s:=by
 cases k
 ·exact wpAny_nextOf_list_item h1 h2 hx q
 ·exact iC h1 h2 hx q
theorem Sd.fin (hn:A.handled=none) (h1:k.It s.heap it a i) (h2:k.Sq s.heap a xs) (hx:xs[i]?=none) (q:∀ h' e,Heap.ExtBut it s.heap h'->(∃ o,h'.get? e=some o/\o.cls=.type "StopIteration")->E (.ref e) { s with heap:=h' }) :
  wpAny (model prog w) A (Builtin.SmallTypes.nextOf (.ref it)) Q E s:=by
 cases k
 ·exact wpAny_nextOf_list_end hn h1 h2 hx q
 ·exact i4 hn h1 h2 hx q
theorem Sd.iter (h2:k.Sq s.heap a xs) (q:Q (.ref s.heap.objs.size) { s with heap:=s.heap.push (k.io a) }):wpAny (model prog w) A (pyIter (.ref a)) Q E s:=by
 cases k
 ·exact wpAny_pyIter_list h2 q
 ·exact wpAny_pyIter_tuple h2 q
end
theorem v9 (k1 k2:Sd) (l1 l2:Addr) (xs ys:Array Value):Meets (Builtin.«zip.__new__» ⟨[.type "zip",.ref l1,.ref l2],[]⟩)
  (λ_ R s=>k1.Sq s.heap l1 xs/\k2.Sq s.heap l2 ys/\∀ h',IsZip h' (s.heap.objs.size+4) (s.heap.objs.size+2) (s.heap.objs.size+3) .none->IsPair h' (s.heap.objs.size+2) (.ref s.heap.objs.size) (.ref (s.heap.objs.size+1)) ->
   IsPair h' (s.heap.objs.size+3) .none .none->k1.It h' s.heap.objs.size l1 0->k2.It h' (s.heap.objs.size+1) l2 0->(∀ c o,s.heap.get? c=some o->h'.get? c=some o)->R (.ok (.ret (.ref (s.heap.objs.size+4)))) { s with heap:=h' }) :=
 .of_wp λprog w A R s h=>by
  obtain⟨h1,h2,q⟩:=h
  have f1:=sub_zip
  have h2':k2.Sq (s.heap.push (k1.io l1)) l2 ys:=h2.at λo e=>Heap.get?_push_of_some _ e
  wp_walk using Sd.iter h1,Sd.iter (s:={ s with heap:=s.heap.push (k1.io l1) }) h2'
  refine⟨_,rfl,?_⟩
  have e5:((((s.heap.push (k1.io l1)).push (k2.io l2)).push { cls:=.type "tuple",data:=.seq #[.ref s.heap.objs.size,.ref (s.heap.push (k1.io l1)).objs.size] }).push { cls:=.type "tuple",data:=.seq #[.none,.none] }).objs.size=s.heap.objs.size+4:=by simp only [Heap.size_push]
  have e4:(((s.heap.push (k1.io l1)).push (k2.io l2)).push { cls:=.type "tuple",data:=.seq #[.ref s.heap.objs.size,.ref (s.heap.push (k1.io l1)).objs.size] }).objs.size=s.heap.objs.size+3:=by simp only [Heap.size_push]
  have e3:((s.heap.push (k1.io l1)).push (k2.io l2)).objs.size=s.heap.objs.size+2:=by simp only [Heap.size_push]
  have e2:(s.heap.push (k1.io l1)).objs.size=s.heap.objs.size+1:=by simp only [Heap.size_push]
  show R (.ok (.ret (.ref ((((s.heap.push (k1.io l1)).push (k2.io l2)).push { cls:=.type "tuple",data:=.seq #[.ref s.heap.objs.size,.ref (s.heap.push (k1.io l1)).objs.size] }).push { cls:=.type "tuple",data:=.seq #[.none,.none] }).objs.size))) { s with heap:=((((s.heap.push (k1.io l1)).push (k2.io l2)).push { cls:=.type "tuple",data:=.seq #[.ref s.heap.objs.size,.ref (s.heap.push (k1.io l1)).objs.size] }).push { cls:=.type "tuple",data:=.seq #[.none,.none] }).push { cls:=.type "zip",data:=.fields #[.none,.bool false,.bool false,.ref ((s.heap.push (k1.io l1)).push (k2.io l2)).objs.size,.ref (((s.heap.push (k1.io l1)).push (k2.io l2)).push { cls:=.type "tuple",data:=.seq #[.ref s.heap.objs.size,.ref (s.heap.push (k1.io l1)).objs.size] }).objs.size] } }
  have g0:(s.heap.push (k1.io l1)).get? s.heap.objs.size=some (k1.io l1):=Heap.get?_push_size _ (by cases k1<;>rfl)
  have g1:((s.heap.push (k1.io l1)).push (k2.io l2)).get? (s.heap.objs.size+1)=some (k2.io l2):=by rw [<- e2];exact Heap.get?_push_size _ (by cases k2<;>rfl)
  rw [e5,e4,e3,e2]
  refine q _ ?_ ?_ ?_ (k1.start (Heap.get?_push_of_some _ (Heap.get?_push_of_some _ (Heap.get?_push_of_some _ (Heap.get?_push_of_some _ g0))))) (k2.start (Heap.get?_push_of_some _ (Heap.get?_push_of_some _ (Heap.get?_push_of_some _ g1)))) λc o e=>Heap.get?_push_of_some _ (Heap.get?_push_of_some _ (Heap.get?_push_of_some _ (Heap.get?_push_of_some _ (Heap.get?_push_of_some _ e))))
  ·exact (show _=_ from by
    have:=Heap.get?_push_size (((((s.heap.push (k1.io l1)).push (k2.io l2)).push { cls:=.type "tuple",data:=.seq #[.ref s.heap.objs.size,.ref (s.heap.objs.size+1)] }).push { cls:=.type "tuple",data:=.seq #[.none,.none] })) (o:={ cls:=.type "zip",data:=.fields #[.none,.bool false,.bool false,.ref (s.heap.objs.size+2),.ref (s.heap.objs.size+3)] }) rfl
    simp only [Heap.size_push] at this
    exact this)
  ·refine Heap.get?_push_of_some _ (Heap.get?_push_of_some _ ?_)
   have:=Heap.get?_push_size ((s.heap.push (k1.io l1)).push (k2.io l2)) (o:={ cls:=.type "tuple",data:=.seq #[.ref s.heap.objs.size,.ref (s.heap.objs.size+1)] }) rfl
   simp only [Heap.size_push] at this
   exact this
  ·refine Heap.get?_push_of_some _ ?_
   have:=Heap.get?_push_size (((s.heap.push (k1.io l1)).push (k2.io l2)).push { cls:=.type "tuple",data:=.seq #[.ref s.heap.objs.size,.ref (s.heap.objs.size+1)] }) (o:={ cls:=.type "tuple",data:=.seq #[.none,.none] }) rfl
   simp only [Heap.size_push] at this
   exact this
theorem uF (k1 k2:Sd) (z TI TO i1 i2 l1 l2:Addr) (ap:ZipApart z TI TO i1 i2 l1 l2) (n1 n2:Nat) (xs ys:Array Value) (x y a b:Value) (hx:xs[n1]?=some x) (hy:ys[n2]?=some y):Meets (Builtin.«zip.__next__» ⟨[.ref z],[]⟩)
  (λ_ R s=>IsZip s.heap z TI TO .none/\IsPair s.heap TI (.ref i1) (.ref i2)/\IsPair s.heap TO a b/\k1.It s.heap i1 l1 n1/\k2.It s.heap i2 l2 n2/\k1.Sq s.heap l1 xs/\k2.Sq s.heap l2 ys /\
   ∀ h',IsZip h' z TI TO (rawInt s.heap.objs.size)->IsPair h' TO x y->k1.It h' i1 l1 (n1+1)->k2.It h' i2 l2 (n2+1)->IsPair h' s.heap.objs.size x y ->
    (∀ c o,c≠z->c≠TO->c≠i1->c≠i2->s.heap.get? c=some o->h'.get? c=some o)->R (.ok (.ret (.ref s.heap.objs.size))) { s with heap:=h' }) :=
 .of_wp λprog w A R s h=>by
  obtain⟨hz,hTI,hTO,j1,j2,q1,q2,q⟩:=h
  wp_walk using wpAny_field (i:=2) (x:=Value.bool false) hz rfl rfl,wpAny_field (i:=3) (x:=Value.ref TI) hz rfl rfl,wpAny_field (i:=0) (x:=Value.none) hz rfl rfl,wpAny_field (i:=4) (x:=Value.ref TO) hz rfl rfl,wpAny_seqItems hTI rfl,wpAny_setField_rec hz (show 0<5 by decide)
  intro ha za sa
  have ka:∀ c o,c≠z->s.heap.get? c=some o->ha.get? c=some o:=λc o hc e=>(sa.2 c hc).trans e
  have j1a:=j1.at (h':=ha) λo e=>ka i1 o ap.i1z e
  have q1a:=q1.at (h':=ha) λo e=>ka l1 o ap.l1z e
  wp_walk using wpAny_onRaise,Sd.item (s:={ s with heap:=ha }) j1a q1a hx
  intro hb jb sb
  have kb:∀ c o,c≠z->c≠i1->s.heap.get? c=some o->hb.get? c=some o:=λc o h1 h2 e=>(sb.2 c h2).trans (ka c o h1 e)
  have TOb:IsPair hb TO a b:=kb TO _ ap.TOz ap.TOi1 hTO
  wp_walk using wpAny_seqItems TOb rfl,wpAny_updateSeq_pair (s:={ s with heap:=hb }) TOb
  intro hc TOc' sc
  have TOc:IsPair hc TO x b:=TOc'
  have kc:∀ c o,c≠z->c≠i1->c≠TO->s.heap.get? c=some o->hc.get? c=some o:=λc o h1 h2 h3 e=>(sc.2 c h3).trans (kb c o h1 h2 e)
  have zc:hc.get? z=some { cls:=.type "zip",data:=.fields #[.ellipsis,.bool false,.bool false,.ref TI,.ref TO] }:=(sc.2 z (Ne.symm ap.TOz)).trans ((sb.2 z (Ne.symm ap.i1z)).trans za)
  have j1c:=jb.at (h':=hc) λo e=>(sc.2 i1 (Ne.symm ap.TOi1)).trans e
  have j2c:=j2.at (h':=hc) λo e=>kc i2 o ap.i2z (Ne.symm ap.i12) (Ne.symm ap.TOi2) e
  have q2c:=q2.at (h':=hc) λo e=>kc l2 o ap.l2z ap.l2i1 ap.l2TO e
  wp_walk using wpAny_letGo,wpAny_onRaise,Sd.item (s:={ s with heap:=hc }) j2c q2c hy
  intro hd jd sd
  have TOd:IsPair hd TO x b:=(sd.2 TO ap.TOi2).trans TOc
  have zd:=(sd.2 z (Ne.symm ap.i2z)).trans zc
  wp_walk using wpAny_seqItems TOd rfl,wpAny_updateSeq_pair (s:={ s with heap:=hd }) TOd
  intro he TOe' se
  have TOe:IsPair he TO x y:=TOe'
  have ze:=(se.2 z (Ne.symm ap.TOz)).trans zd
  wp_walk using wpAny_letGo,wpAny_seqItems TOe rfl
  have sz:he.objs.size=s.heap.objs.size:=se.1.trans (sd.1.trans (sc.1.trans (sb.1.trans sa.1)))
  have zn:z≠he.objs.size:=Nat.ne_of_lt (Heap.lt_size ze)
  have zf:(he.push { cls:=.type "tuple",data:=.seq #[x,y] }).get? z=some { cls:=.type "zip",data:=.fields #[.ellipsis,.bool false,.bool false,.ref TI,.ref TO] }:=Heap.get?_push_of_some _ ze
  have ke:∀ c o,c≠z->he.get? c=some o->(((he.push { cls:=.type "tuple",data:=.seq #[x,y] }).update z (Obj.mapFields λx=>x.setIfInBounds 0 (rawInt ↑he.objs.size))).update z (Obj.mapFields λx=>x.setIfInBounds 1 (Value.bool false))).get? c=some o:=λc o hc e=>(Heap.get?_update_other _ _ (Ne.symm hc)).trans ((Heap.get?_update_other _ _ (Ne.symm hc)).trans (Heap.get?_push_of_some _ e))
  have g1:=Heap.get?_update_self (Obj.mapFields λx=>x.setIfInBounds 0 (rawInt ↑he.objs.size)) zf rfl
  have g2:=Heap.get?_update_self (Obj.mapFields λx=>x.setIfInBounds 1 (Value.bool false)) g1 rfl
  have gn:(((he.push { cls:=.type "tuple",data:=.seq #[x,y] }).update z (Obj.mapFields λx=>x.setIfInBounds 0 (rawInt ↑he.objs.size))).update z (Obj.mapFields λx=>x.setIfInBounds 1 (Value.bool false))).get? he.objs.size=some { cls:=.type "tuple",data:=.seq #[x,y] }:=(Heap.get?_update_other _ _ zn).trans ((Heap.get?_update_other _ _ zn).trans (Heap.get?_push_size _ rfl))
  refine⟨_,rfl,?_⟩
  show R (.ok (.ret (.ref he.objs.size))) { s with heap:=(((he.push { cls:=.type "tuple",data:=.seq #[x,y] }).update z (Obj.mapFields λx=>x.setIfInBounds 0 (rawInt ↑he.objs.size))).update z (Obj.mapFields λx=>x.setIfInBounds 1 (Value.bool false))) }
  generalize (((he.push { cls:=.type "tuple",data:=.seq #[x,y] }).update z (Obj.mapFields λx=>x.setIfInBounds 0 (rawInt ↑he.objs.size))).update z (Obj.mapFields λx=>x.setIfInBounds 1 (Value.bool false)))=hf at *
  rw [sz]
  refine q hf (by rw [<- sz];exact g2) (ke TO _ ap.TOz TOe) (j1c.at λo e=>ke i1 o ap.i1z ((se.2 i1 (Ne.symm ap.TOi1)).trans ((sd.2 i1 ap.i12).trans e))) (jd.at λo e=>ke i2 o ap.i2z ((se.2 i2 (Ne.symm ap.TOi2)).trans e)) (by rw [<- sz];exact gn) λc o h1 h2 h3 h4 e=>ke c o h1 ((se.2 c h2).trans ((sd.2 c h4).trans (kc c o h1 h3 h2 e)))
theorem uE (k1:Sd) (z TI TO i1 i2 l1:Addr) (i1z:i1≠z) (l1z:l1≠z) (n1:Nat) (xs:Array Value) (a b:Value) (hx:xs[n1]?=none):Meets (Builtin.«zip.__next__» ⟨[.ref z],[]⟩)
  (λA R s=>A.handled=none/\IsZip s.heap z TI TO .none/\IsPair s.heap TI (.ref i1) (.ref i2)/\IsPair s.heap TO a b/\k1.It s.heap i1 l1 n1/\k1.Sq s.heap l1 xs /\
   ∀ h' e,(∀ c o,c≠z->c≠i1->s.heap.get? c=some o->h'.get? c=some o)->(∃ o,h'.get? e=some o/\o.cls=.type "StopIteration")->R (.error (.ref e)) { s with heap:=h' }) :=
 .of_wp λprog w A R s h=>by
  obtain⟨hn,hz,hTI,hTO,j1,q1,q⟩:=h
  wp_walk using wpAny_field (i:=2) (x:=Value.bool false) hz rfl rfl,wpAny_field (i:=3) (x:=Value.ref TI) hz rfl rfl,wpAny_field (i:=0) (x:=Value.none) hz rfl rfl,wpAny_field (i:=4) (x:=Value.ref TO) hz rfl rfl,wpAny_seqItems hTI rfl,wpAny_setField_rec hz (show 0<5 by decide)
  intro ha za sa
  have ka:∀ c o,c≠z->s.heap.get? c=some o->ha.get? c=some o:=λc o hc e=>(sa.2 c hc).trans e
  have j1a:=j1.at (h':=ha) λo e=>ka i1 o i1z e
  have q1a:=q1.at (h':=ha) λo e=>ka l1 o l1z e
  wp_walk using wpAny_onRaise,Sd.fin (A:=A.in1) (s:={ s with heap:=ha }) hn j1a q1a hx
  intro hb e kb oe
  have zb:=kb z _ (Ne.symm i1z) za
  refine wpAny_setField_rec (s:={ s with heap:=hb }) zb (show 0<5 by decide) λhc zc sc=>?_
  obtain⟨o,eo,co⟩:=oe
  have ez:e≠z:=λx=>by
   subst x
   rw [zb] at eo
   cases eo
   injection co with x
   exact absurd x (by decide)
  exact q hc e (λc o h1 h2 x=>(sc.2 c h1).trans (kb c o h2 (ka c o h1 x))) ⟨o,(sc.2 e ez).trans eo,co⟩
section
variable {prog:Program} {w:World} {A:Around} {E:Value->Shared->Prop} {s:Shared}
theorem ky {it:Addr} {T id:String} {Q:Option Value->Shared->Prop} (ty:s.TypeIs (.ref it) T) (sl:Slot T "__next__" id)
  (h:wpAny (model prog w) A (call (.builtin id) [.ref it]) (λv s'=>Q (some v) s') (λe s'=>(∃ x o,e=.ref x/\s'.heap.get? x=some o/\o.cls=.type "StopIteration")/\Q none s') s):wpAny (model prog w) A (pyNext (.ref it)) Q E s:=by
 unfold pyNext
 refine wpAny_bind (wpAny_attempt (wpAny_callSpecial?_slot ty sl (wpAny_mono h (λv s' q=>wpAny_pure q) λe s' q=>?_)))
 obtain⟨⟨x,o,rfl,eo,co⟩,q⟩:=q
 refine wpAny_bind (wpAny_isInstance (T := "StopIteration") (b:=true) ⟨o,eo,co⟩ ?_ ?_)
 ·with_unfolding_all rfl
 ·rw [if_pos rfl]
  exact wpAny_pure q
theorem mx {k1 k2:Sd} {l1 l2:Addr} {xs ys:Array Value} {Q:Value->Shared->Prop} (h1:k1.Sq s.heap l1 xs) (h2:k2.Sq s.heap l2 ys)
  (q:∀ h',IsZip h' (s.heap.objs.size+4) (s.heap.objs.size+2) (s.heap.objs.size+3) .none->IsPair h' (s.heap.objs.size+2) (.ref s.heap.objs.size) (.ref (s.heap.objs.size+1)) ->
   IsPair h' (s.heap.objs.size+3) .none .none->k1.It h' s.heap.objs.size l1 0->k2.It h' (s.heap.objs.size+1) l2 0->(∀ c o,s.heap.get? c=some o->h'.get? c=some o)->Q (.ref (s.heap.objs.size+4)) { s with heap:=h' }) :
  wpAny (model prog w) A (call (.type "zip") [.ref l1,.ref l2]) Q E s :=
 callType_new F.called_zip (by decide) (F.typeCall_zip_2 _ _) (F.newCall_zip_2 _ _) (λobj=>F.args_object_init_3 _ _ _) F.entry_zip_new (v9 k1 k2 l1 l2 xs ys) ⟨h1,h2,λh' z a b c d e=>⟨⟨_,z,rfl⟩,q h' z a b c d e⟩⟩
theorem jP {k1 k2:Sd} {z TI TO i1 i2 l1 l2:Addr} {n1 n2:Nat} {xs ys:Array Value} {x y a b:Value} {Q:Option Value->Shared->Prop} (ap:ZipApart z TI TO i1 i2 l1 l2) (hz:IsZip s.heap z TI TO .none) (hTI:IsPair s.heap TI (.ref i1) (.ref i2)) (hTO:IsPair s.heap TO a b)
  (j1:k1.It s.heap i1 l1 n1) (j2:k2.It s.heap i2 l2 n2) (q1:k1.Sq s.heap l1 xs) (q2:k2.Sq s.heap l2 ys) (hx:xs[n1]?=some x) (hy:ys[n2]?=some y)
  (q:∀ h',IsZip h' z TI TO (rawInt s.heap.objs.size)->IsPair h' TO x y->k1.It h' i1 l1 (n1+1)->k2.It h' i2 l2 (n2+1)->IsPair h' s.heap.objs.size x y ->
    (∀ c o,c≠z->c≠TO->c≠i1->c≠i2->s.heap.get? c=some o->h'.get? c=some o)->Q (some (.ref s.heap.objs.size)) { s with heap:=h' }):wpAny (model prog w) A (pyNext (.ref z)) Q E s :=
 ky ⟨_,hz,rfl⟩ F.slot_zip_next (call_meets F.slot_zip_next ⟨_,hz,rfl⟩ F.entry_zip_next (F.args_zip_next_1 _) (uF k1 k2 z TI TO i1 i2 l1 l2 ap n1 n2 xs ys x y a b hx hy) ⟨hz,hTI,hTO,j1,j2,q1,q2,λh' a b c d e f=>q h' a b c d e f⟩)
theorem lE {k1:Sd} {z TI TO i1 i2 l1:Addr} {n1:Nat} {xs:Array Value} {a b:Value} {Q:Option Value->Shared->Prop} (hn:A.handled=none) (i1z:i1≠z) (l1z:l1≠z) (hz:IsZip s.heap z TI TO .none) (hTI:IsPair s.heap TI (.ref i1) (.ref i2)) (hTO:IsPair s.heap TO a b)
  (j1:k1.It s.heap i1 l1 n1) (q1:k1.Sq s.heap l1 xs) (hx:xs[n1]?=none)
  (q:∀ h',(∀ c o,c≠z->c≠i1->s.heap.get? c=some o->h'.get? c=some o)->Q none { s with heap:=h' }):wpAny (model prog w) A (pyNext (.ref z)) Q E s :=
 ky ⟨_,hz,rfl⟩ F.slot_zip_next (call_meets F.slot_zip_next ⟨_,hz,rfl⟩ F.entry_zip_next (F.args_zip_next_1 _) (uE k1 z TI TO i1 i2 l1 i1z l1z n1 xs a b hx) ⟨hn,hz,hTI,hTO,j1,q1,λh' e k ⟨o,eo,co⟩=>⟨⟨e,o,rfl,eo,co⟩,q h' k⟩⟩)
end
def mf (k:Sd) (K:PySem.W.Frag) (H:Hp) (a:Addr) (xs:List V):Prop:=match k with
 | .l=>aS K H a xs
 | .t=>bS K H a xs
theorem Inv.yy {X:Cx} {pins:List (Addr × Obj)} {σ:St} {H:Hp} {s:Shared} {k:Sd} {a:Addr} {xs:List V} (I:Inv X pins σ H s) (h:mf k X.K H a xs):∃ its:List Value,Vals xs its/\k.Sq s.heap a its.toArray:=by
 cases k
 ·obtain⟨its,r,p,_⟩:=I.list h
  exact⟨its,r,p.isList⟩
 ·obtain⟨its,r,p,_⟩:=I.tuple h
  exact⟨its,r,p⟩
theorem Inv.qw {X:Cx} {pins:List (Addr × Obj)} {σ:St} {H:Hp} {s:Shared} {k:Sd} {a:Addr} {xs ys:List V} (I:Inv X pins σ H s) (h:mf k X.K H a xs) (h':mf k X.K H a ys):xs=ys:=by
 cases k
 ·exact I.mW h h'
 ·exact I.kH h h'
def yN (k1 k2:Sd) (K:PySem.W.Frag) (a b:Addr):It :=
 ⟨λi H=>∃ xs ys x y,mf k1 K H a xs/\mf k2 K H b ys/\xs[i]?=some x/\ys[i]?=some y,λi H x H'=>∃ p u v,H p=none/\x=.ref p/\(∀ xs,mf k1 K H a xs->xs[i]?=some u)/\(∀ ys,mf k2 K H b ys->ys[i]?=some v)/\H'=upd H p (.tup [u,v]),
  λi H=>∃ xs,mf k1 K H a xs/\xs.length<=i⟩
theorem nP {P:Program} {w:World} {K:PySem.W.Frag} {elts:List Expr} {x1} {pos:Pos} {k1 k2:Sd} {a b z TI TO i1 i2:Addr} (ap:ZipApart z TI TO i1 i2 a b):Turn P w K (.Tuple elts x1 pos) (yN k1 k2 K a b) [z,TI,TO,i1,i2] z (λi h=>IsZip h z TI TO .none/\IsPair h TI (.ref i1) (.ref i2)/\(∃ u v,IsPair h TO u v)/\k1.It h i1 a i/\k2.It h i2 b i) where
 mem:=by simp
 obj:=λi h st c hc=>by
  obtain⟨h1,h2,⟨u,v,h3⟩,h4,h5⟩:=st
  simp only [List.mem_cons,List.not_mem_nil,or_false] at hc
  rcases hc with rfl | rfl | rfl | rfl | rfl
  ·exact⟨_,h1,λv z=>by cases z⟩
  ·exact⟨_,h2,λv z=>by cases z⟩
  ·exact⟨_,h3,λv z=>by cases z⟩
  ·exact h4.there
  ·exact h5.there
 keep:=λi h h' st k=>by
  obtain⟨h1,h2,⟨u,v,h3⟩,h4,h5⟩:=st
  exact⟨k z (by simp) _ h1,k TI (by simp) _ h2,⟨u,v,k TO (by simp) _ h3⟩,h4.at λo x=>k i1 (by simp) o x,h5.at λo x=>k i2 (by simp) o x⟩
 item:=by
  intro X hP hw hK hc i pins s σ H E I hf st hg
  subst hP hw hK
  obtain⟨xs,ys,x,y,hq1,hq2,hx,hy⟩:=hg
  obtain⟨its1,rv1,p1⟩:=I.yy hq1
  obtain⟨its2,rv2,p2⟩:=I.yy hq2
  obtain⟨u,hu,ru⟩:=rv1.get hx
  obtain⟨v,hv,rv⟩:=rv2.get hy
  obtain⟨h1,h2,⟨u0,v0,h3⟩,h4,h5⟩:=st
  refine jP ap h1 h2 h3 h4 h5 p1 p2 (x:=u) (y:=v) (by simpa using hu) (by simpa using hv) λh' z' TO' j1 j2 hT hk=>?_
  refine⟨_,rfl,?_⟩
  have fT:H s.heap.objs.size=none:=I.hok.fresh (Nat.le_refl _)
  refine wpAny_letOwnedTupleGo_zip z' λh'' z2 s2=>?_
  have hke:∀ c o,c∉[z,TI,TO,i1,i2]->s.heap.get? c=some o->h''.get? c=some o:=λc o hc q=>by
   simp only [List.mem_cons,List.not_mem_nil,or_false,not_or] at hc
   exact (s2.2 c hc.1).trans (hk c o hc.1 hc.2.2.1 hc.2.2.2.1 hc.2.2.2.2 q)
  have I1:Inv X pins σ H { s with heap:=h'',toks:=s.toks }:=I.qA hke hf
  have nz:∀ c∈[z,TI,TO,i1,i2],c≠s.heap.objs.size:=λc hc e=>by
   have:∃ o,s.heap.get? c=some o:=by
    simp only [List.mem_cons,List.not_mem_nil,or_false] at hc
    rcases hc with rfl | rfl | rfl | rfl | rfl
    ·exact⟨_,h1⟩
    ·exact⟨_,h2⟩
    ·exact⟨_,h3⟩
    ·obtain⟨o,e,_⟩:=h4.there;exact⟨o,e⟩
    ·obtain⟨o,e,_⟩:=h5.there;exact⟨o,e⟩
   obtain⟨o,eo⟩:=this
   exact Nat.ne_of_lt (Heap.lt_size eo) e
  have hT2:h''.get? s.heap.objs.size=some { cls:=.type "tuple",data:=.seq #[u,v] }:=(s2.2 _ (Ne.symm (nz z (by simp)))).trans hT
  refine⟨.ref s.heap.objs.size,upd H s.heap.objs.size (.tup [x,y]),?_,rfl,⟨_,x,y,fT,rfl,λzs hz=>by rw [I.qw hz hq1];exact hx,λzs hz=>by rw [I.qw hz hq2];exact hy,rfl⟩,
   ⟨z2,(s2.2 TI ap.TIz).trans (hk TI _ ap.TIz ap.TITO ap.TIi1 ap.TIi2 h2),⟨_,_,(s2.2 TO ap.TOz).trans TO'⟩,j1.at λo q=>(s2.2 i1 ap.i1z).trans q,j2.at λo q=>(s2.2 i2 ap.i2z).trans q⟩,λc hc=>?_⟩
  ·exact I1.adopt (T:=s.heap.objs.size) (o:=.tup [x,y]) (I.ow (Nat.le_refl _) fT) ⟨by show 2<=sizeLine;decide,[u,v],.cons ru (.cons rv .nil),⟨_,hT2,rfl,_,rfl⟩⟩
  ·rw [ao (nz c hc)]
   exact (hf c hc).1
 done:=by
  intro X hP hw hK hc i pins s σ H E I hf st hg
  subst hP hw hK
  obtain⟨xs,hq,hx⟩:=hg
  obtain⟨its,rv,p⟩:=I.yy hq
  have hl:=rv.length
  obtain⟨h1,h2,⟨u0,v0,h3⟩,h4,h5⟩:=st
  exact lE (I.ok.hd hc) ap.i1z ap.l1z h1 h2 h3 h4 p (by simp;omega) λh' eb=>⟨rfl,I.qA (t':=s.toks) (ch:=[z,i1]) (λc o hc q=>by
   simp only [List.mem_cons,List.not_mem_nil,or_false,not_or] at hc
   exact eb c o hc.1 hc.2 q) (λc hc=>hf c (by
    simp only [List.mem_cons,List.not_mem_nil,or_false] at hc
    rcases hc with rfl | rfl<;>simp))⟩
 self:=λ_ _ _ _ _ st h=>wpAny_pyIter_zip st.1 h
def y7 (k1 k2:Sd) (K:PySem.W.Frag) (ta:TA):TI:=λσ H R=>ta σ H λvs H1=>∃ a b,vs=[.ref a,.ref b]/\(∃ xs,mf k1 K H1 a xs)/\(∃ ys,mf k2 K H1 b ys)/\R (yN k1 k2 K a b) H1
theorem j3:bootBuiltins "zip"=some (.type "zip"):=by decide +kernel
theorem yh {X:Cx} {elts:List Expr} {x1} {tpos:Pos} {a b:Expr} {ta:TA} {p pos:Pos} (k1 k2:Sd) (hg:Gl X "zip") (hm:X.mg "zip"=none) (ha:PA X [a,b] ta) (hs:starEach [a,b] X.env=[(false,eval a X.env),(false,eval b X.env)]:=by rfl) (hs2:starEach [b] X.env=[(false,eval b X.env)]:=by rfl) :
  PI X (.Tuple elts x1 tpos) (.Call (.Name "zip" p) [a,b] [] pos) (y7 k1 k2 X.K ta):=by
 intro pins s σ H R I h
 refine Call_ (gS I hg hm j3 (PyProof.Rows.callWith_type1 (br (ha pos pins s σ H _ I h) λus s1 ⟨vs,H1,I1,r1,q1⟩=>?_) (by rw [hs,hs2]) (by rw [hs2];rfl)))
 obtain⟨a',b',e,⟨xs,hq1⟩,⟨ys,hq2⟩,q⟩:=q1
 subst e
 cases r1 with
 | cons r rr =>
  cases rr with
  | cons r' rr' =>
   cases rr'
   cases r
   cases r'
   obtain⟨its1,rv1,p1⟩:=I1.yy hq1
   obtain⟨its2,rv2,p2⟩:=I1.yy hq2
   refine mx p1 p2 λh' hz hTI hTO j1 j2 hk=>?_
   refine wpAny_pyIter_zip hz ?_
   have I2:Inv X pins σ H1 { s1 with heap:=h' }:=I1.kept (t':=s1.toks) hk
   refine⟨_,[s1.heap.objs.size+4,s1.heap.objs.size+2,s1.heap.objs.size+3,s1.heap.objs.size,s1.heap.objs.size+1],_,_,H1,rfl,I2,nP (PyProof.Rows.zipApart_new p1.lt p2.lt),⟨hz,hTI,⟨_,_,hTO⟩,j1,j2⟩,λc hc=>?_,q⟩
   simp only [List.mem_cons,List.not_mem_nil,or_false] at hc
   rcases hc with rfl | rfl | rfl | rfl | rfl<;>exact I1.ow (by omega) (I1.hok.fresh (by omega))
theorem j5 {K:PySem.W.Frag} {k1 k2:Sd} {a b:Addr} {xs ys:List V} {js:List (Option Nat)} {g:TG} {tt:TT} {te:TE} {σ:St} {Q:VK} {H1:Hp} (Pv:Nat->List V->Hp->Prop) (h0:Pv 0 [] H1) (hxy:xs.length=ys.length) (hx:xs.length<=sizeLine) (hl:∀ i zs H,i<=xs.length->Pv i zs H->mf k1 K H a xs/\mf k2 K H b ys/\zs.length<=i)
  (hs:∀ i x y zs H p,xs[i]?=some x->ys[i]?=some y->Pv i zs H->H p=none->g (.ref p) (dc js σ) (upd H p (.tup [x,y])) λσ2 H2=>bK (dc js σ) σ2/\tt σ2 H2 λc H3=>if c=true then te σ2 H3 λv H4=>Pv (i+1) (zs++[v]) H4 else Pv (i+1) zs H3)
  (hd:∀ zs H p,Pv xs.length zs H->H p=none->Q (.ref p) (upd H p (.lst zs))):mj (yN k1 k2 K a b) js g tt te σ Q H1:=by
 refine⟨λi m zs H=>m=xs.length-i/\i<=xs.length/\Pv i zs H,⟨xs.length,by simp,Nat.zero_le _,h0⟩,?_⟩
 rintro i m zs H ⟨rfl,hi,p⟩
 obtain⟨q,q',hy⟩:=hl i zs H hi p
 by_cases hlt:i<xs.length
 ·refine .inr ⟨⟨xs,ys,xs[i],ys[i],q,q',by simp [hlt],by simp⟩,by omega,Pv (i+1),λys' H' p'=>⟨xs.length-(i+1),by omega,rfl,hlt,p'⟩,λx H' y=>?_⟩
  obtain⟨pt,u,v,f,e1,e2,e3,e4⟩:=y
  subst e1 e4
  exact hs i u v zs _ pt (e2 xs q) (e3 ys q') p f
 ·have e:i=xs.length:=by omega
  subst e
  exact .inl ⟨⟨xs,q,Nat.le_refl _⟩,by omega,λp' hp'=>hd zs H p' p hp'⟩
end L2
namespace Num
theorem oQ {p x y:Int} {m:Nat} (h:Al p x y) (o:Ord p x m):Ord p y m:=⟨o.pos,(h.pow m).symm.trans o.one,λj z=>o.dv j ((h.pow j).trans z)⟩
def eN:List (Int × Int)->Nat
 | []=>1
 | p::r=>p.1.toNat^p.2.toNat*eN r
theorem bP:∀ a b:List (Int × Int),eN (a++b)=eN a*eN b
 | [],b=>by simp [eN]
 | p::r,b=>by
  show p.1.toNat^p.2.toNat*eN (r++b)=p.1.toNat^p.2.toNat*eN r*eN b
  rw [bP r b,Nat.mul_assoc]
theorem iH:∀ a:List (Int × Int),(∀ p∈a,Pm p.1)->(eN a:Int)=aH a
 | [],_=>rfl
 | p::r,h=>by
  have t:=(h p (List.mem_cons_self ..)).two
  show ((p.1.toNat^p.2.toNat*eN r:Nat):Int)=p.1^p.2.toNat*aH r
  rw [Int.natCast_mul,Int.natCast_pow,iH r λx z=>h x (List.mem_cons_of_mem _ z),show (p.1.toNat:Int)=p.1 by omega]
theorem kZ:∀ a:List (Int × Int),(∀ p∈a,Pm p.1)->0<eN a
 | [],_=>Nat.one_pos
 | p::r,h=>by
  have t:=(h p (List.mem_cons_self ..)).two
  exact Nat.mul_pos (Nat.pow_pos (by omega)) (kZ r λx z=>h x (List.mem_cons_of_mem _ z))
theorem kS {q m:Nat} (h:Nm q) (hm:¬q∣m) (k:Nat):Nat.Coprime (q^k) m:=Nat.Coprime.pow_left k (h.co hm)
theorem pI {q:Int} (hq:Pm q) {b:List (Int × Int)} (hb:∀ p∈b,Pm p.1) (ne:∀ p∈b,p.1≠q):¬q.toNat∣eN b:=λz=>by
 have t:=hq.two
 have:q∣aH b:=by
  rw [<- iH b hb]
  have:=Int.natCast_dvd_natCast.mpr z
  rwa [show (q.toNat:Int)=q by omega] at this
 obtain⟨p,hp,e⟩:=dy hq hb this
 exact ne p hp e
theorem wm {b:List (Int × Int)} (hb:∀ p∈b,Pm p.1):∀ a:List (Int × Int),(∀ p∈a,Pm p.1)->(∀ x∈a,∀ y∈b,y.1≠x.1)->Nat.Coprime (eN a) (eN b)
 | [],_,_=>Nat.coprime_one_left _
 | p::r,h,ne=>by
  have hp:=h p (List.mem_cons_self ..)
  exact Nat.Coprime.mul_left (kS (i5 hp) (pI hp hb (ne p (List.mem_cons_self ..))) _) (wm hb r (λx z=>h x (List.mem_cons_of_mem _ z)) λx z=>ne x (List.mem_cons_of_mem _ z))
theorem vC {n a:Int} {q t:Nat} (hq:Nm q) (h:Al n (a^q^t) 1) (no:∀ j,j<t->¬Al n (a^q^j) 1):Ord n a (q^t):=by
 have q2:=hq.1
 obtain⟨m,o,_⟩:=gU (N:=q^t) (Nat.pow_pos (by omega)) h
 have d:=o.dv _ h
 cases t with
 | zero =>
  have:m=1:=Nat.eq_one_of_dvd_one (by simpa using d)
  rw [this] at o
  simpa using o
 | succ k =>
  have:m=q^(k+1):=qa hq k m d λz=>no k (Nat.lt_succ_self _) (by
   obtain⟨c,hc⟩:=z
   rw [hc]
   exact aM o.one)
  rw [<- this]
  exact o
theorem cE {a:Int} {x y:Nat}:(a^x)^y=a^(x*y):=by rw [Int.pow_mul]
theorem oR {n a:Int} {M1 M2 E1 E2:Nat} (co:Nat.Coprime M1 M2) (p1:0<M1) (p2:0<M2) (h:Al n (a^(M1*M2)) 1) (o1:Ord n (a^M2) E1) (o2:Ord n (a^M1) E2):Ord n a (E1*E2):=by
 have d1:E1∣M1:=o1.dv M1 (by rw [cE,Nat.mul_comm];exact h)
 have d2:E2∣M2:=o2.dv M2 (by rw [cE];exact h)
 obtain⟨c1,hc1⟩:=d1
 obtain⟨c2,hc2⟩:=d2
 obtain⟨e,o,_⟩:=gU (Nat.mul_pos p1 p2) h
 have x1:e∣M2*E1:=o.dv _ (by rw [<- cE];exact o1.one)
 have x2:e∣M1*E2:=o.dv _ (by rw [<- cE];exact o2.one)
 have cc:Nat.Coprime c2 c1:=by
  have:Nat.Coprime c1 c2:=Nat.Coprime.coprime_dvd_left ⟨E1,by rw [hc1,Nat.mul_comm]⟩ (Nat.Coprime.coprime_dvd_right ⟨E2,by rw [hc2,Nat.mul_comm]⟩ co)
  exact this.symm
 have x3:e∣E1*E2:=by
  have:=Nat.dvd_gcd x1 x2
  rw [show M2*E1=E1*E2*c2 by rw [hc2];rw [Nat.mul_comm (E2*c2) E1,Nat.mul_assoc],show M1*E2=E1*E2*c1 by rw [hc1];rw [Nat.mul_assoc,Nat.mul_comm c1 E2,Nat.mul_assoc],Nat.gcd_mul_left,cc.gcd_eq_one,Nat.mul_one] at this
  exact this
 have ce:Nat.Coprime E1 E2:=Nat.Coprime.coprime_dvd_left ⟨c1,hc1⟩ (Nat.Coprime.coprime_dvd_right ⟨c2,hc2⟩ co)
 refine⟨Nat.mul_pos o1.pos o2.pos,?_,λj hj=>?_⟩
 ·obtain⟨c,hc⟩:=x3
  rw [hc]
  exact aM o.one
 ·refine ce.mul_dvd_of_dvd_of_dvd (o1.dv j ?_) (o2.dv j ?_)
  ·rw [cE,Nat.mul_comm,<- cE]
   have:=hj.pow M2
   rwa [Int.one_pow] at this
  ·rw [cE,Nat.mul_comm,<- cE]
   have:=hj.pow M1
   rwa [Int.one_pow] at this
structure TO (n a:Int) (ps:List (Int × Int)) (ts:List Int):Prop where
 len:ts.length=ps.length
 nn:∀ t∈ts,0<=t
 ord:Ord n a (eN ((ps.map (·.1)).zip ts))
theorem TO.al {n a b:Int} {ps:List (Int × Int)} {ts:List Int} (h:TO n a ps ts) (e:Al n a b):TO n b ps ts:=⟨h.len,h.nn,oQ e h.ord⟩
theorem TO.none {n a:Int} (h:Al n a 1):TO n a [] []:=⟨rfl,λ_ z=>by simp at z,⟨Nat.one_pos,by show Al n (a^1) 1;rw [Int.pow_one];exact h,λj _=>Nat.one_dvd j⟩⟩
theorem TO.one {n a q k:Int} {t:Nat} (hq:Pm q) (h:Al n (a^q.toNat^t) 1) (no:∀ j,j<t->¬Al n (a^q.toNat^j) 1):TO n a [(q,k)] [(t:Int)]:=by
 refine⟨rfl,λx z=>?_,?_⟩
 ·rw [List.mem_singleton.mp z];omega
 ·show Ord n a (q.toNat^(t:Int).toNat*1)
  rw [Nat.mul_one,Int.toNat_natCast]
  exact vC (i5 hq) h no
theorem TO.two {n a:Int} {as bs:List (Int × Int)} {ts us:List Int} (ha:∀ p∈as,Pm p.1) (hb:∀ p∈bs,Pm p.1) (ne:∀ x∈as,∀ y∈bs,y.1≠x.1) (h:Al n (a^eN (as++bs)) 1) (h1:TO n (a^eN bs) as ts) (h2:TO n (a^eN as) bs us):TO n a (as++bs) (ts++us):=by
 refine⟨by rw [List.length_append,List.length_append,h1.len,h2.len],λt z=>(List.mem_append.mp z).elim (h1.nn t) (h2.nn t),?_⟩
 rw [List.map_append,List.zip_append (by rw [List.length_map,h1.len]),bP]
 rw [bP] at h
 exact oR (wm hb as ha ne) (kZ as ha) (kZ bs hb) h h1.ord h2.ord
end Num
namespace L2
open PySem PySem.Spec PyProof.Rows
def wz (K:PySem.W.Frag) (ta:TA):TI:=λσ H R=>ta σ H λvs H1=>∃ a b k1 k2,vs=[.ref a,.ref b]/\(∃ xs,mf k1 K H1 a xs)/\(∃ ys,mf k2 K H1 b ys)/\R (yN k1 k2 K a b) H1
theorem vJ {X:Cx} {elts:List Expr} {x1} {tpos:Pos} {a b:Expr} {ta:TA} {p pos:Pos} (hg:Gl X "zip") (hm:X.mg "zip"=none) (ha:PA X [a,b] ta) (hs:starEach [a,b] X.env=[(false,eval a X.env),(false,eval b X.env)]:=by rfl) (hs2:starEach [b] X.env=[(false,eval b X.env)]:=by rfl) :
  PI X (.Tuple elts x1 tpos) (.Call (.Name "zip" p) [a,b] [] pos) (wz X.K ta):=by
 intro pins s σ H R I h
 refine Call_ (gS I hg hm j3 (PyProof.Rows.callWith_type1 (br (ha pos pins s σ H _ I h) λus s1 ⟨vs,H1,I1,r1,q1⟩=>?_) (by rw [hs,hs2]) (by rw [hs2];rfl)))
 obtain⟨a',b',k1,k2,e,⟨xs,hq1⟩,⟨ys,hq2⟩,q⟩:=q1
 subst e
 cases r1 with
 | cons r rr =>
  cases rr with
  | cons r' rr' =>
   cases rr'
   cases r
   cases r'
   obtain⟨its1,rv1,p1⟩:=I1.yy hq1
   obtain⟨its2,rv2,p2⟩:=I1.yy hq2
   refine mx p1 p2 λh' hz hTI hTO j1 j2 hk=>?_
   refine wpAny_pyIter_zip hz ?_
   have I2:Inv X pins σ H1 { s1 with heap:=h' }:=I1.kept (t':=s1.toks) hk
   refine⟨_,[s1.heap.objs.size+4,s1.heap.objs.size+2,s1.heap.objs.size+3,s1.heap.objs.size,s1.heap.objs.size+1],_,_,H1,rfl,I2,nP (PyProof.Rows.zipApart_new p1.lt p2.lt),⟨hz,hTI,⟨_,_,hTO⟩,j1,j2⟩,λc hc=>?_,q⟩
   simp only [List.mem_cons,List.not_mem_nil,or_false] at hc
   rcases hc with rfl | rfl | rfl | rfl | rfl<;>exact I1.ow (by omega) (I1.hok.fresh (by omega))
end L2
namespace L2
open PySem PySem.Spec PyProof.Rows PySem.W
end L2
namespace L2
open PySem PySem.Spec PyProof.Rows
end L2
namespace L2
open PySem PySem.Spec PyProof.Rows PySem.W
section
variable {prog:Program} {w:World} {A:Around} {E:Value->Shared->Prop} {K:PySem.W.Frag} {h:Heap} {g:Array GenState} {d:Drawn} {t:Nat} {os:OsState} {x C B:Addr}
end
section
variable {X:Cx} {pins:List (Addr × Obj)} {σ:St} {H:Hp} {s:Shared} {x:Addr}
end
section
variable {X:Cx} {B:Addr} {n:Option Nat} {hd:ExceptHandler} {ts:TS}
variable {B2:Addr} {n2:Option Nat} {hd2:ExceptHandler} {ts2:TS}
def zX (K:PySem.W.Frag) (B:Addr) (n:Option Nat) (B2:Addr) (n2:Option Nat) (sp:Sp) (ta:TA) (put:V->St->St) (ts ts2:TS):TS:=λD σ H=>ta σ H λvs H1=>sp vs H1 (λv H2=>D.nx (put v σ) H2)
 (λcv xo H2=>∃ C x dd,cv=.ref C/\xo=some x/\H2 x=some (XO x C dd)/\dj K C/\((mroIn K C (.ref B)=some true/\ts (pP n D) (vd n x σ) H2)∨(mroIn K C (.ref B)=some false/\mroIn K C (.ref B2)=some true/\ts2 (pP n2 D) (vd n2 x σ) H2)))
variable {k:Nat} {f:Str} {ps:List Str} {sp:Sp} {e:Expr} {es:List Expr} {t:TA} {p cpos epos pos:Pos}
end
namespace HT
section
variable {prog:Program} {w:World} {A:Around} {E:Value->Shared->Prop} {s:Shared}
theorem rW {t b:Addr} {ws:List Value} {Q:Value->Shared->Prop} (ht:IsTup s.heap t ([]:List Value).toArray) (hb:IsTup s.heap b ws.toArray)
  (h1:Q (.ref b) s):wpAny (model prog w) A (binaryOp .Add (.ref t) (.ref b)) Q E s:=by
 obtain⟨⟨cls,dd,data,sl⟩,ho,hc,n,hd⟩:=id ht
 obtain⟨⟨cls2,dd2,data2,sl2⟩,ho2,hc2,n2,hd2⟩:=id hb
 simp only at hc hd hc2 hd2
 subst hc hd hc2 hd2
 exact concat_meets ⟨_,ho,rfl⟩ ⟨_,ho2,rfl⟩ noFill_tuple_add seq_tuple_add PySem.F.slot_tuple_add PySem.F.entry_tuple_add (PySem.F.args_tuple_add_2 _ _)
   (tuple_addW0 t b ([]:List Value).toArray ws.toArray n n2 dd dd2 sl sl2 (by simp)) ⟨ho,ho2,h1⟩
end
end HT
def zE (K:PySem.W.Frag):R2:=λx y H Q=>∃ a b xs ys,x=.ref a/\y=.ref b/\bS K H a xs/\bS K H b ys/\xs.length+ys.length<=sizeLine/\∀ p H',az H H'->bS K H' p (xs++ys)->Q (.ref p) H'
theorem pX {X:Cx}:fz X (binaryOp .Add) (zE X.K):=by
 intro pins s σ H x y v u Q I rx ry h
 obtain⟨a,b,xs,ys,rfl,rfl,ha,hb,hz,q⟩:=h
 by_cases e:xs=[]
 ·subst e
  cases rx
  cases ry
  obtain⟨its,r1,p1,_⟩:=I.tuple ha
  obtain⟨its2,r2,p2,_⟩:=I.tuple hb
  have e1:its=[]:=r1.iN.mpr rfl
  subst e1
  exact HT.rW p1 p2 ⟨.ref b,H,I,rfl,q b H (az.refl _) hb⟩
 ·refine vB pins s σ H _ _ v u Q I rx ry ⟨a,b,xs,ys,rfl,rfl,ha,hb,e,hz,λz=>q a H (az.refl _) (by rw [z,List.append_nil];exact ha),λ_ p hp=>q p _ (ak hp) (bS.of ah)⟩
end L2
namespace Num
theorem jg {p:Int} (hp:2<=p):∀{k l:Nat} {R T:Int},¬p∣R->¬p∣T->p^k*R=p^l*T->k=l/\R=T
 | 0,0,R,T,_,_,e=>by rw [Int.pow_zero,Int.one_mul,Int.one_mul] at e;exact⟨rfl,e⟩
 | 0,l+1,R,T,h,_,e=>by
  rw [Int.pow_zero,Int.one_mul,Int.pow_succ,Int.mul_comm (p^l),Int.mul_assoc] at e
  exact absurd ⟨_,e⟩ h
 | k+1,0,R,T,_,h,e=>by
  rw [Int.pow_zero,Int.one_mul,Int.pow_succ,Int.mul_comm (p^k),Int.mul_assoc] at e
  exact absurd ⟨_,e.symm⟩ h
 | k+1,l+1,R,T,h,h',e=>by
  rw [Int.pow_succ,Int.pow_succ,Int.mul_comm (p^k),Int.mul_comm (p^l),Int.mul_assoc,Int.mul_assoc] at e
  obtain⟨e1,e2⟩:=jg hp h h' (Int.eq_of_mul_eq_mul_left (by omega) e)
  exact⟨by rw [e1],e2⟩
theorem Part.tail {n:Int} {x:Int × Int} {r:List (Int × Int)} (h:Part n (x::r)):Part (aH r) r:=⟨λp hp=>h.ok p (List.mem_cons_of_mem _ hp),(List.pairwise_cons.mp h.rise).2,rfl⟩
theorem Part.nd {n:Int} {x:Int × Int} {r:List (Int × Int)} (h:Part n (x::r)):¬x.1∣aH r:=λz=>by
 obtain⟨y,hy,e⟩:=dy (h.ok x (List.mem_cons_self ..)).1 (λp hp=>(h.ok p (List.mem_cons_of_mem _ hp)).1) z
 have:=(List.pairwise_cons.mp h.rise).1 y hy
 omega
theorem Part.hd {n:Int} {x:Int × Int} {r:List (Int × Int)} (h:Part n (x::r)) {q:Int} (hq:Pm q) (hd:q∣n):x.1<=q:=by
 obtain⟨y,hy,e⟩:=dy hq (λp hp=>(h.ok p hp).1) (h.prod▸hd)
 rcases List.mem_cons.mp hy with rfl | hy
 ·omega
 ·have:=(List.pairwise_cons.mp h.rise).1 y hy
  omega
theorem Part.dv {n:Int} {ps:List (Int × Int)} (h:Part n ps) {x:Int × Int} (hx:x∈ps):x.1∣n:=h.prod▸cG hx (h.ok x hx).2.1
theorem Part.one:∀{ps qs:List (Int × Int)} {n:Int},Part n ps->Part n qs->ps=qs
 | [],[],_,_,_=>rfl
 | [],y::t,n,h,h'=>by
  exfalso
  have e:n=1:=h.prod.symm
  have:=(h'.ok y (List.mem_cons_self ..)).1.two
  have:=Int.le_of_dvd (by decide) (e▸h'.dv (List.mem_cons_self ..))
  omega
 | x::r,[],n,h,h'=>by
  exfalso
  have e:n=1:=h'.prod.symm
  have:=(h.ok x (List.mem_cons_self ..)).1.two
  have:=Int.le_of_dvd (by decide) (e▸h.dv (List.mem_cons_self ..))
  omega
 | (p,k)::r,(q,l)::t,n,h,h'=>by
  have hp:=h.ok _ (List.mem_cons_self ..)
  have hq:=h'.ok _ (List.mem_cons_self ..)
  have e1:p<=q:=h.hd hq.1 (h'.dv (List.mem_cons_self ..))
  have e2:q<=p:=h'.hd hp.1 (h.dv (List.mem_cons_self ..))
  obtain rfl:p=q:=by omega
  obtain⟨a,b⟩:=jg hp.1.two h.nd h'.nd (h.prod.trans h'.prod.symm)
  have:k=l:=by have:=hp.2.1;have:=hq.2.1;simp only at *;omega
  subst this
  rw [Part.one h.tail (b▸h'.tail)]
def zB:List (Int × Int)->Int
 | []=>1
 | x::r=>x.1^(x.2.toNat-1)*(x.1-1)*zB r
theorem kr:∀{ps:List (Int × Int)},(∀ p∈ps,Pm p.1)->0<aH ps
 | [],_=>by decide
 | x::r,h=>Int.mul_pos (aA (by have:=(h x (List.mem_cons_self ..)).two;omega) _) (kr λp hp=>h p (List.mem_cons_of_mem _ hp))
theorem Part.pos {n:Int} {ps:List (Int × Int)} (h:Part n ps):0<n:=h.prod▸kr λp hp=>(h.ok p hp).1
structure Dv (A:Int) (F:List (List (Int × Int))):Prop where
 part:∀ s∈F,Part (aH s) s
 nodup:(F.map aH).Nodup
 mem:∀ d,d∈F.map aH↔0<d/\d∣A
 sum:(F.map zB).sum=A
theorem Dv.start:Dv 1 [[]]:=⟨λs hs=>by rw [List.mem_singleton.mp hs];exact⟨λ_ z=>by simp at z,List.Pairwise.nil,rfl⟩,by simp,λd=>by
  show d∈[1]↔_
  rw [List.mem_singleton]
  exact⟨λe=>by rw [e];exact⟨by decide,Int.dvd_refl _⟩,fun⟨a,b⟩=>by have:=Int.le_of_dvd (by decide) b;omega⟩,rfl⟩
structure Ds (n:Int) (ds:List Int):Prop where
 rise:ds.Pairwise (·<·)
 mem:∀ d,d∈ds↔0<d/\d∣n
theorem sS {l:List Int} (h:l.Pairwise (·<=·)) (nd:l.Nodup):l.Pairwise (·<·) :=
 (h.and nd).imp fun⟨a,b⟩=>by omega
theorem sR:∀{l m:List Int},l.Pairwise (·<·)->m.Pairwise (·<·)->(∀ a,a∈l↔a∈m)->l=m
 | [],[],_,_,_=>rfl
 | [],y::m,_,_,h=>by have:=(h y).mpr (List.mem_cons_self ..);simp at this
 | x::l,[],_,_,h=>by have:=(h x).mp (List.mem_cons_self ..);simp at this
 | x::l,y::m,hl,hm,h=>by
  obtain⟨a,b⟩:=List.pairwise_cons.mp hl
  obtain⟨c,d⟩:=List.pairwise_cons.mp hm
  have e:x=y:=by
   rcases List.mem_cons.mp ((h x).mp (List.mem_cons_self ..)) with z | z
   ·exact z
   ·rcases List.mem_cons.mp ((h y).mpr (List.mem_cons_self ..)) with w | w
    ·exact w.symm
    ·have:=a y w;have:=c x z;omega
  subst e
  rw [sR b d λz=>?_]
  constructor
  ·intro hz
   rcases List.mem_cons.mp ((h z).mp (List.mem_cons_of_mem _ hz)) with w | w
   ·have:=a z hz;omega
   ·exact w
  ·intro hz
   rcases List.mem_cons.mp ((h z).mpr (List.mem_cons_of_mem _ hz)) with w | w
   ·have:=c z hz;omega
   ·exact w
theorem Ds.one {n:Int} {ds es:List Int} (h:Ds n ds) (h':Ds n es):ds=es:=sR h.rise h'.rise λa=>(h.mem a).trans (h'.mem a).symm
theorem Dv.ds {n:Int} {F:List (List (Int × Int))} {ds:List Int} (h:Dv n F) (p:ds.Perm (F.map aH)) (s:ds.Pairwise (·<=·)):Ds n ds :=
 ⟨sS s (p.nodup_iff.mpr h.nodup),λd=>p.mem_iff.trans (h.mem d)⟩
theorem iV (p:Int->Bool):∀ l:List Int,l.length=(l.filter p).length+(l.filter (λd=>!p d)).length
 | []=>rfl
 | x::l=>by
  have:=iV p l
  cases e:p x<;>simp [List.filter_cons,e]<;>omega
theorem uH {n:Int} (hn:n<=10^9) {l:List Int} (nd:l.Nodup) (h:∀ d∈l,0<d/\d∣n) (n0:0<n):l.length<=63246:=by
 have lo:(l.filter (λd=>decide (d<31623))).length<=31623:=by
  have:=jf 31623 ((l.filter (λd=>decide (d<31623))).map Int.toNat) ?_ ?_
  ·simpa using this
  ·refine List.pairwise_map.mpr ((nd.filter _).imp_of_mem λ{a b} ha hb ne e=>ne ?_)
   have h1:=h a (List.mem_filter.mp ha).1
   have h2:=h b (List.mem_filter.mp hb).1
   omega
  ·intro x hx
   obtain⟨d,hd,rfl⟩:=List.mem_map.mp hx
   have:=(List.mem_filter.mp hd).2
   simp at this
   omega
 have hi:(l.filter (λd=>!decide (d<31623))).length<=31623:=by
  have:=jf 31623 ((l.filter (λd=>!decide (d<31623))).map λd=>(n/d).toNat) ?_ ?_
  ·simpa using this
  ·refine List.pairwise_map.mpr ((nd.filter _).imp_of_mem λ{a b} ha hb ne e=>ne ?_)
   have h1:=h a (List.mem_filter.mp ha).1
   have h2:=h b (List.mem_filter.mp hb).1
   obtain⟨c,hc⟩:=h1.2
   obtain⟨c',hc'⟩:=h2.2
   have e1:n/a=c:=by rw [hc];exact Int.mul_ediv_cancel_left _ (by omega)
   have e2:n/b=c':=by rw [hc'];exact Int.mul_ediv_cancel_left _ (by omega)
   rw [e1,e2] at e
   have c0:0<c:=by
    rcases (by omega:c<=0∨0<c) with z | z
    ·have:=Int.mul_nonpos_of_nonneg_of_nonpos (show 0<=a by omega) z
     omega
    ·exact z
   have c0':0<c':=by
    rcases (by omega:c'<=0∨0<c') with z | z
    ·have:=Int.mul_nonpos_of_nonneg_of_nonpos (show 0<=b by omega) z
     omega
    ·exact z
   obtain rfl:c=c':=by omega
   exact Int.eq_of_mul_eq_mul_right (by omega) (hc.symm.trans hc')
  ·intro x hx
   obtain⟨d,hd,rfl⟩:=List.mem_map.mp hx
   have h1:=(List.mem_filter.mp hd).2
   simp at h1
   have h2:n/d<=n/31623:=by
    refine Int.le_ediv_of_mul_le (by decide) ?_
    have:=Int.ediv_mul_le n (show d≠0 by omega)
    have:=Int.mul_le_mul_of_nonneg_left h1 (Int.ediv_nonneg (show 0<=n by omega) (show 0<=d by omega))
    omega
   have:n/31623<31623:=Int.ediv_lt_of_lt_mul (by decide) (by omega)
   omega
 have:=iV (λd:Int=>decide (d<31623)) l
 omega
def ins (x:Int × Int):List (Int × Int)->List (Int × Int)
 | []=>[x]
 | y::r=>if x.1<y.1 then x::y::r else y::ins x r
end Num
namespace Num
open PySem PySem.Spec PyProof.Rows
theorem LF.AB {n g g':Int} (h:LF n g) (h':LF n g'):g=g':=by
 rcases (by omega:g<g'∨g=g'∨g'<g) with z | z | z
 ·exact absurd h.ord (h'.no g h.one z)
 ·exact z
 ·exact absurd h'.ord (h.no g' h'.one z)
theorem fb.one {n:Int} {d:PyData} (h:fb n d):∀{d'},fb n d'->d=d':=by
 induction h with
 | mk p g ps ds h1 h2 h3 h4 h5 h6 ih =>
  intro d' h'
  cases h' with
  | mk _ g' ps' ds' k1 k2 k3 k4 k5 k6 =>
   obtain rfl:=h3.AB k3
   obtain rfl:=h4.one k4
   have:rowsOf ps ds=rowsOf ps ds':=by
    unfold rowsOf
    refine List.map_congr_left λi hi=>?_
    have il:=List.mem_range.mp hi
    have g:=List.getElem?_eq_getElem il
    rw [ih i _ _ g (k6 i _ _ g)]
   rw [this]
end Num
namespace L2
open PySem PySem.Spec PyProof.Rows
theorem lG {X:Cx}:fz X (compareOp .IsNot) (λx y H Q=>∃ b c:Bool,x=.bl b/\y=.bl c/\Q (.bl (b != c)) H):=by
 intro pins s σ H x y v u Q I rx ry h
 obtain⟨b,c,rfl,rfl,q⟩:=h
 cases rx
 cases ry
 exact PyProof.Rows.isnot_bool (aK I q rfl)
end L2
namespace L2
open PySem PySem.Spec PyProof.Rows PySem.W
namespace Tsl
open _root_.HT
section
variable {prog:Program} {w:World} {A:Around} {E:Value->Shared->Prop} {s:Shared}
theorem nO {t sl:Addr} {items:Array Value} {vl vu:Value} {lo hi:Option Int} {Q:Value->Shared->Prop} (ht:IsTup s.heap t items) (hs:s.heap.IsSliceOf sl vl vu .none) (pl:IsPart vl lo) (pu:IsPart vu hi)
  (h0:bZ items.size 0 lo=0) (h1:bZ items.size items.size hi=items.size) (q:Q (.ref t) s):wpAny (model prog w) A (getItem (.ref t) (.ref sl)) Q E s:=by
 obtain⟨os,hos,hcs,hds⟩:=id hs
 have hTs:s.TypeIs (.ref sl) "slice":=⟨os,hos,hcs⟩
 unfold getItem
 try with_reducible refine wpAny_holding ?_
 first | refine wpAny_bind (wpAny_pure ?_) | skip
 refine wpAny_bind (wpAny_sequenceKey ht.typeIs (by decide) ?_)
 refine wpAny_bind (wpAny_callSpecial?_slot (name:=Str.ofString "__getitem__") ht.typeIs slot_tuple_getitem (wpAny_call_entry slot_tuple_getitem ht.typeIs entry_tuple_getitem ?_ (args_tuple_getitem _ _)))
 show wpAny _ _ (Builtin.Tuple.tupleItemsOf _ >>= _) _ _ _
 refine wpAny_bind (tupleItemsOf_ ht ?_)
 refine wpAny_bind (wpAny_typeOf hTs ?_)
 rw [if_pos (by decide)]
 refine wpAny_bind (dB hs pl pu ?_)
 rw [h0,h1]
 dsimp only
 rw [if_pos (by simp)]
 unfold Builtin.Tuple.tupleIsExact
 refine wpAny_bind (wpAny_bind (wpAny_typeOf ht.typeIs (wpAny_pure ?_)))
 rw [if_pos (by decide)]
 first
  | exact wpAny_bind (wpAny_rule (wpAny_pure ⟨_,rfl,wpAny_pure q⟩))
  | (refine wpAny_bind (m:=rule _) (wpAny_pure ?_);exact wpAny_pure ⟨_,rfl,wpAny_pure q⟩)
  | (unfold rule;wp_walk)
end
end Tsl
def AG (K:PySem.W.Frag):V->Option Int->Option Int->Hp->VK->Prop:=λx lo hi H Q=>∃ a xs,x=.ref a/\bS K H a xs/\∀ p H',az H H'->bS K H' p (cS xs lo hi)->Q (.ref p) H'
theorem oo {xs:List V} {lo hi:Option Int} (h0:HT.bZ xs.length 0 lo=0) (h1:HT.bZ xs.length xs.length hi=xs.length):cS xs lo hi=xs:=by
 unfold cS
 rw [h0,h1]
 simp
theorem qh {X:Cx}:Aa X (AG X.K):=by
 intro pins s σ H x v vl vu lo hi sl Q I rx hs pl pu h
 obtain⟨a,xs,rfl,hx,q⟩:=h
 by_cases hw:HT.bZ xs.length 0 lo=0/\HT.bZ xs.length xs.length hi=xs.length
 ·cases rx
  obtain⟨its,r,ht,hz⟩:=I.tuple hx
  have hlen:its.toArray.size=xs.length:=by rw [List.size_toArray];exact r.length.symm
  refine⟨"tuple",_,slot_tuple_getitem.lookup,ht.typeIs,?_⟩
  refine Tsl.nO ht hs pl pu (by rw [hlen];exact hw.1) (by rw [hlen];exact hw.2) ?_
  exact⟨.ref a,H,I,rfl,q a H (az.refl _) (by rw [oo hw.1 hw.2];exact hx)⟩
 ·exact yv pins s σ H _ v vl vu lo hi sl Q I rx hs pl pu ⟨a,xs,rfl,hx,hw,λp hp=>q p _ (ak hp) (bS.of ah)⟩
section
variable {X:Cx} {e k:Expr} {te:TE} {tk:TO} {p2 pos:Pos}
end
end L2
namespace Tim
open PySem PyProof.Rows
abbrev kk (x:Keyed):Int:=numOf x.1
def rO (x:Keyed):Prop:=∃ n t,x.1=.int n t
def c9 (xs:Array Keyed):Prop:=∀ p∈xs.toList,rO p
theorem c9.at {xs:Array Keyed} (h:c9 xs) {i:Nat} (hi:i<xs.size):rO xs[i]:=h _ (by simp)
section
variable {prog:Program} {w:World} {A:Around} {E:Value->Shared->Prop} {s:Shared} {a₀:Array Keyed}
theorem lD {st:SortSt} {x y:Keyed} {Q:Option Bool->SortSt->Prop} (hk:kindOf st=oneType') (hx:rO x) (hy:rO y) (h:Q (some (decide (kk x<kk y))) st) :
  wpS (model prog w) A E s (lt' x y) Q st:=by
 obtain⟨n,t,e⟩:=hx
 obtain⟨m,u,e'⟩:=hy
 unfold kk at h
 rw [e,e'] at h
 rw [lt'_eq]
 refine wpS_bind (wpS_get ?_)
 rw [hk,keyLt'_oneType,e,e']
 exact wpS_bind (wpS_lift (wpAny_attempt (oneLt_int ⟨rfl,wpS_pure h⟩)))
theorem el {st:SortSt} {xs:Array Keyed} {i:Nat} {Q:Keyed->SortSt->Prop} (hi:i<xs.size) (h:Q xs[i] st) :
  wpS (model prog w) A E s (elem' xs i) Q st:=by
 rw [elem'_eq,getElem?_pos xs i hi]
 exact wpS_pure h
def lg:Bool->Keyed->Array Keyed->Nat->Nat->Nat->StateT SortSt Sem (Option Nat):=sortPriv% PySem.Builtin.gallop
def gM (left:Bool) (v:Int) (xs:Array Keyed) (i:Nat):Prop:=if left=true then K xs i<v else K xs i<=v
instance (left:Bool) (v:Int) (xs:Array Keyed) (i:Nat):Decidable (gM left v xs i):=by unfold gM;infer_instance
theorem gM.mono {left:Bool} {v:Int} {xs:Array Keyed} {i j:Nat} (h:gM left v xs j) (le:K xs i<=K xs j):gM left v xs i:=by
 unfold gM at *
 split at h<;>rename_i c<;>simp only [c,if_true,if_false,Bool.false_eq_true]<;>omega
def Up (xs:Array Keyed) (lo hi:Nat):Prop:=∀ i j,lo<=i->i<=j->j<hi->K xs i<=K xs j
theorem beyond {st:SortSt} {left:Bool} {key:Keyed} {xs:Array Keyed} {i:Nat} {Q:Option Bool->SortSt->Prop} (hk:kindOf st=oneType') (hn:c9 xs) (hy:rO key)
  (hi:i<xs.size) (h:Q (some (decide (gM left (kk key) xs i))) st) :
  wpS (model prog w) A E s (do let x <- elem' xs i;if left=true then lt' x key else do let r <- lt' key x;pure (Option.map (λb=>!b) r)) Q st:=by
 have hx:=hn.at hi
 have e:K xs i=kk xs[i]:=K_eq hi
 refine wpS_bind (el hi ?_)
 cases left with
 | true =>
  rw [if_pos rfl]
  refine lD hk hx hy ?_
  unfold gM at h
  simpa [e] using h
 | false =>
  rw [if_neg (by simp)]
  refine wpS_bind (lD hk hy hx (wpS_pure ?_))
  unfold gM at h
  simp only [Bool.false_eq_true,if_false,e] at h
  have:(Option.map (λb=>!b) (some (decide (kk key<kk xs[i]))))=some (decide (kk xs[i]<=kk key)):=by
   simp only [Option.map_some,Option.some.injEq]
   by_cases c:kk key<kk xs[i]
   ·rw [decide_eq_true c,decide_eq_false (by omega)];rfl
   ·rw [decide_eq_false c,decide_eq_true (by omega)];rfl
  rw [this]
  exact h
theorem Au {st:SortSt} {left:Bool} {key:Keyed} {xs:Array Keyed} {base n hint:Nat} {Q:Option Nat->SortSt->Prop} (hk:kindOf st=oneType') (hn:c9 xs) (hy:rO key)
  (hb:base+n<=xs.size) (hh:hint<n) (up:Up xs base (base+n))
  (q:∀ k,k<=n->(∀ i,i<k->gM left (kk key) xs (base+i))->(∀ i,k<=i->i<n->¬gM left (kk key) xs (base+i))->Q (some k) st) :
  wpS (model prog w) A E s (lg left key xs base n hint) Q st:=by
 have mono:∀ i j,i<=j->j<n->gM left (kk key) xs (base+j)->gM left (kk key) xs (base+i):=λi j a b c=>c.mono (up _ _ (by omega) (by omega) (by omega))
 generalize hB:(λi=>gM left (kk key) xs (base+i))=B at mono q
 have hBd:∀ i,gM left (kk key) xs (base+i)=B i:=λi=>by rw [<- hB]
 simp only [hBd] at mono q
 have bey:∀{i:Nat} {Q:Option Bool->SortSt->Prop},i<n->(B i->Q (some true) st)->(¬B i->Q (some false) st)->wpS (model prog w) A E s (do let x <- elem' xs (base+i);if left=true then lt' x key else do let r <- lt' key x;pure (Option.map (λb=>!b) r)) Q st:=by
  intro i Q hi h1 h2
  refine beyond hk hn hy (by omega) ?_
  by_cases c:B i
  ·rw [decide_eq_true (by rw [hBd];exact c)];exact h1 c
  ·rw [decide_eq_false (by rw [hBd];exact c)];exact h2 c
 have last:∀(lo hi:Nat) (f:Nat->Option (Option Nat) × Nat × Nat->StateT SortSt Sem (ForInStep (Option (Option Nat) × Nat × Nat))) (g:Option (Option Nat) × Nat × Nat->StateT SortSt Sem (Option Nat)),lo<=hi->hi<=n->(∀ i,i<lo->B i)->(∀ i,hi<=i->i<n->¬B i) ->
   (∀ x l h Q',(l≥h->Q' (ForInStep.done (none,l,h)) st)->(l<h->h<=n->B (l+(h-l)/2)->Q' (ForInStep.yield (none,l+(h-l)/2+1,h)) st)->(l<h->h<=n->¬B (l+(h-l)/2)->Q' (ForInStep.yield (none,l,l+(h-l)/2)) st)->h<=n->wpS (model prog w) A E s (f x (none,l,h)) Q' st) ->
   (∀ k,Q (some k) st->wpS (model prog w) A E s (g (none,k,k)) Q st) ->
   wpS (model prog w) A E s (forIn [:n] ((none,lo,hi):Option (Option Nat) × Nat × Nat) f >>= g) Q st:=by
  intro lo hi f g h1 h2 h3 h4 hf hg
  refine wpS_bind (wpS_mono (wpS_forRange (I:=λx c st'=>st'=st/\∃ l h,c=(none,l,h)/\l<=h/\h<=n/\h-l<=n-x/\(∀ i,i<l->B i)/\(∀ i,h<=i->i<n->¬B i))
   (Q:=λc st'=>st'=st/\∃ l,c=(none,l,l)/\l<=n/\(∀ i,i<l->B i)/\(∀ i,l<=i->i<n->¬B i)) ?step ?fin ⟨rfl,lo,hi,rfl,h1,h2,by omega,h3,h4⟩) ?post)
  case post =>
   rintro c st' ⟨rfl,l,rfl,a,b,d⟩
   exact hg _ (q l a b d)
  case fin =>
   rintro c st' ⟨rfl,l,h,rfl,a,b,d,e,f⟩
   have:l=h:=by omega
   subst this
   exact⟨rfl,l,rfl,b,e,f⟩
  case step =>
   rintro x c st' _ _ ⟨rfl,l,h,rfl,a,b,d,e,f⟩
   refine hf x l h _ (λg=>?_) (λg g' c=>?_) (λg g' c=>?_) b
   ·have:l=h:=by omega
    subst this
    exact⟨rfl,l,rfl,b,e,f⟩
   ·exact⟨rfl,_,_,rfl,by omega,b,by omega,λi hi=>mono i _ (by omega) (by omega) c,f⟩
   ·exact⟨rfl,_,_,rfl,by omega,by omega,by omega,e,λi h1 h2 bi=>c (mono _ i h1 h2 bi)⟩
 unfold lg
 refine wpS_bind (bey hh (λc0=>?_) λc0=>?_)
 ·dsimp only
  rw [if_pos rfl]
  refine wpS_bind (wpS_mono (wpS_forRange (I:=λx c st'=>st'=st/\∃ l o,c=(none,l,o)/\x+1<=o/\l<o/\hint+l<n/\B (hint+l))
   (Q:=λc st'=>st'=st/\∃ l o,c=(none,l,o)/\l<o/\hint+l<n/\B (hint+l)/\(hint+o<n->¬B (hint+o))) ?step ?fin ⟨rfl,0,1,rfl,by omega,by omega,by omega,c0⟩) ?post)
  case post =>
   rintro c st' ⟨rfl,l,o,rfl,a,b,d,e⟩
   refine last (hint+l+1) (hint+min o (n-hint)) _ _ (by omega) (by omega) (λi hi=>mono i _ (by omega) b d) (λi h1 h2 bi=>?_) ?_ ?_
   ·exact e (by omega) (mono (hint+o) i (by omega) h2 bi)
   ·intro x l h Q' q1 q2 q3 hh'
    dsimp only
    by_cases g:l≥h
    ·rw [if_pos g]
     exact wpS_pure (q1 g)
    ·rw [if_neg g]
     refine wpS_bind (bey (by omega) (λc=>?_) λc=>?_)
     ·exact wpS_pure (q2 (by omega) hh' c)
     ·exact wpS_pure (q3 (by omega) hh' c)
   ·exact λk hk=>wpS_pure hk
  case fin =>
   rintro c st' ⟨rfl,l,o,rfl,a,b,d,e⟩
   exact⟨rfl,l,o,rfl,b,d,e,λ_=>by omega⟩
  case step =>
   rintro x c st' _ _ ⟨rfl,l,o,rfl,a,b,d,e⟩
   dsimp only
   by_cases g:o≥n-hint
   ·rw [if_pos g]
    exact wpS_pure ⟨rfl,l,o,rfl,b,d,e,λ_=>by omega⟩
   ·rw [if_neg g]
    refine wpS_bind (bey (by omega) (λc=>?_) λc=>?_)
    ·exact wpS_pure ⟨rfl,o,2*o+1,rfl,by omega,by omega,by omega,c⟩
    ·exact wpS_pure ⟨rfl,l,o,rfl,b,d,e,λ_=>c⟩
 ·dsimp only
  rw [if_neg (by simp)]
  refine wpS_bind (wpS_mono (wpS_forRange (I:=λx c st'=>st'=st/\∃ l o,c=(none,l,o)/\x+1<=o/\l<o/\l<=hint/\¬B (hint-l))
   (Q:=λc st'=>st'=st/\∃ l o,c=(none,l,o)/\l<o/\l<=hint/\¬B (hint-l)/\(o<=hint->B (hint-o))) ?step ?fin ⟨rfl,0,1,rfl,by omega,by omega,by omega,c0⟩) ?post)
  case post =>
   rintro c st' ⟨rfl,l,o,rfl,a,b,d,e⟩
   refine last (hint+1-min o (hint+1)) (hint-l) _ _ (by omega) (by omega) (λi hi=>mono i (hint-o) (by omega) (by omega) (e (by omega))) (λi h1 h2 bi=>?_) ?_ ?_
   ·exact d (mono _ i (by omega) h2 bi)
   ·intro x l h Q' q1 q2 q3 hh'
    dsimp only
    by_cases g:l≥h
    ·rw [if_pos g]
     exact wpS_pure (q1 g)
    ·rw [if_neg g]
     refine wpS_bind (bey (by omega) (λc=>?_) λc=>?_)
     ·exact wpS_pure (q2 (by omega) hh' c)
     ·exact wpS_pure (q3 (by omega) hh' c)
   ·exact λk hk=>wpS_pure hk
  case fin =>
   rintro c st' ⟨rfl,l,o,rfl,a,b,d,e⟩
   exact⟨rfl,l,o,rfl,b,d,e,λ_=>by omega⟩
  case step =>
   rintro x c st' _ _ ⟨rfl,l,o,rfl,a,b,d,e⟩
   dsimp only
   by_cases g:o≥hint+1
   ·rw [if_pos g]
    exact wpS_pure ⟨rfl,l,o,rfl,b,d,e,λ_=>by omega⟩
   ·rw [if_neg g]
    refine wpS_bind (bey (by omega) (λc=>?_) λc=>?_)
    ·exact wpS_pure ⟨rfl,l,o,rfl,b,d,e,λ_=>c⟩
    ·exact wpS_pure ⟨rfl,o,2*o+1,rfl,by omega,by omega,by omega,c⟩
end
end Tim
namespace Tim
open PySem PyProof.Rows
def R (x y:Keyed):Prop:=kk x<=kk y
abbrev dZ (l:List Keyed):Prop:=l.Pairwise R
structure Mg (o X Y T:List Keyed):Prop where
 sx:dZ (o++X)
 sy:dZ (o++Y)
 pm:(o++(X++Y)).Perm T
theorem Mg.swap {o X Y T:List Keyed} (h:Mg o X Y T):Mg o Y X T:=⟨h.sy,h.sx,(List.perm_append_comm.append_left o).trans h.pm⟩
theorem Mg.left {o X1 X2 Y T:List Keyed} (h:Mg o (X1++X2) Y T) (c:∀ x∈X1,∀ y∈Y,R x y):Mg (o++X1) X2 Y T:=by
 refine⟨by rw [List.append_assoc];exact h.sx,?_,by have:=h.pm;simpa only [List.append_assoc] using this⟩
 have h1:=List.pairwise_append.mp h.sx
 have h2:=List.pairwise_append.mp h.sy
 have h3:=List.pairwise_append.mp h1.2.1
 rw [List.append_assoc]
 refine List.pairwise_append.mpr ⟨h1.1,List.pairwise_append.mpr ⟨h3.1,h2.2.1,c⟩,λa ha b hb=>?_⟩
 rcases List.mem_append.mp hb with hb | hb
 ·exact h1.2.2 a ha b (List.mem_append_left _ hb)
 ·exact h2.2.2 a ha b hb
theorem Mg.right {o X Y1 Y2 T:List Keyed} (h:Mg o X (Y1++Y2) T) (c:∀ y∈Y1,∀ x∈X,R y x):Mg (o++Y1) X Y2 T:=(h.swap.left c).swap
def Out (z T:List Keyed):Prop:=dZ z/\z.Perm T
theorem Mg.sj {o X T:List Keyed} (h:Mg o X [] T):Out (o++X) T:=⟨h.sx,by have:=h.pm;rwa [List.append_nil] at this⟩
theorem Mg.uV {o Y T:List Keyed} (h:Mg o [] Y T):Out (o++Y) T:=⟨h.sy,by have:=h.pm;rwa [List.nil_append] at this⟩
theorem Mg.zh {o Y T:List Keyed} {x:Keyed} (h:Mg o [x] Y T) (c:∀ y∈Y,R y x):Out (o++Y++[x]) T :=
 (Mg.right (Y1:=Y) (Y2:=[]) (by rwa [List.append_nil]) λy hy z hz=>by rw [List.mem_singleton.mp hz];exact c y hy).sj
structure Mh (o X Y T:List Keyed):Prop where
 sx:dZ (X++o)
 sy:dZ (Y++o)
 pm:((X++Y)++o).Perm T
theorem Mh.swap {o X Y T:List Keyed} (h:Mh o X Y T):Mh o Y X T:=⟨h.sy,h.sx,(List.perm_append_comm.append_right o).trans h.pm⟩
theorem Mh.left {o X1 X2 Y T:List Keyed} (h:Mh o (X1++X2) Y T) (c:∀ y∈Y,∀ x∈X2,R y x):Mh (X2++o) X1 Y T:=by
 refine⟨by rw [<- List.append_assoc];exact h.sx,?_,?_⟩
 ·have h1:=List.pairwise_append.mp h.sx
  have h2:=List.pairwise_append.mp h.sy
  have h3:=List.pairwise_append.mp h1.1
  refine List.pairwise_append.mpr ⟨h2.1,List.pairwise_append.mpr ⟨h3.2.1,h1.2.1,λa ha b hb=>h1.2.2 a (List.mem_append_right _ ha) b hb⟩,λa ha b hb=>?_⟩
  rcases List.mem_append.mp hb with hb | hb
  ·exact c a ha b hb
  ·exact h2.2.2 a ha b hb
 ·refine List.Perm.trans ?_ h.pm
  rw [<- List.append_assoc]
  refine List.Perm.append_right o ?_
  rw [List.append_assoc,List.append_assoc]
  exact List.perm_append_comm.append_left X1
theorem Mh.right {o X Y1 Y2 T:List Keyed} (h:Mh o X (Y1++Y2) T) (c:∀ x∈X,∀ y∈Y2,R x y):Mh (Y2++o) X Y1 T:=(h.swap.left c).swap
theorem Mh.sj {o X T:List Keyed} (h:Mh o X [] T):Out (X++o) T:=⟨h.sx,by have:=h.pm;rwa [List.append_nil] at this⟩
theorem Mh.uV {o Y T:List Keyed} (h:Mh o [] Y T):Out (Y++o) T:=h.swap.sj
theorem Mh.zi {o X T:List Keyed} {y:Keyed} (h:Mh o X [y] T) (c:∀ x∈X,R y x):Out ([y]++X++o) T:=by
 have:=(Mh.left (X1:=[]) (X2:=X) h λz hz x hx=>by rw [List.mem_singleton.mp hz];exact c x hx).uV
 rwa [<- List.append_assoc] at this
theorem ext_toList (xs:Array Keyed) (a b:Nat):(xs.extract a b).toList=(xs.toList.drop a).take (b-a):=by simp [Array.toList_extract,List.extract_eq_take_drop]
theorem drop_cons {xs:Array Keyed} {i:Nat} (h:i<xs.size):xs.toList.drop i=xs[i]::xs.toList.drop (i+1):=by
 have h':i<xs.toList.length:=by simpa using h
 rw [List.drop_eq_getElem_cons h']
 simp
theorem dU {xs:Array Keyed} {i:Nat} (h:i<xs.size):xs.toList.take (i+1)=xs.toList.take i++[xs[i]]:=by
 have h':i<xs.toList.length:=by simpa using h
 rw [List.take_succ_eq_append_getElem h']
 simp
theorem cD {xs:Array Keyed} {a k:Nat} {x:Keyed} (h:x∈(xs.toList.drop a).take k):∃ i,∃(hi:a+i<xs.size),i<k/\x=xs[a+i]:=by
 obtain⟨i,hi,e⟩:=List.getElem_of_mem h
 have h1:i<k:=by have:=hi;rw [List.length_take] at this;omega
 have h2:a+i<xs.size:=by rw [List.length_take,List.length_drop] at hi;simp at hi;omega
 refine⟨i,h2,h1,?_⟩
 rw [<- e,List.getElem_take,List.getElem_drop]
 simp
theorem kj {xs:Array Keyed} {a:Nat} {x:Keyed} (h:x∈xs.toList.take a):∃ i,∃(hi:i<xs.size),i<a/\x=xs[i]:=by
 obtain⟨i,hi,h1,e⟩:=cD (xs:=xs) (a:=0) (k:=a) (by simpa using h)
 exact⟨i,by omega,h1,by simpa using e⟩
theorem fq {xs:Array Keyed} {a n:Nat} (hn:a+n<=xs.size) (h:dZ ((xs.toList.drop a).take n)):Up xs a (a+n):=by
 intro i j h1 h2 h3
 rw [K_eq (by omega),K_eq (by omega)]
 by_cases e:i=j
 ·subst e;exact Int.le_refl _
 ·have hl:((xs.toList.drop a).take n).length=n:=by simp;omega
  have:=List.pairwise_iff_getElem.mp h (i-a) (j-a) (by omega) (by omega) (by omega)
  unfold R kk at this
  simp only [List.getElem_take,List.getElem_drop,Array.getElem_toList] at this
  simpa only [show a+(i-a)=i by omega,show a+(j-a)=j by omega] using this
theorem rJ {xs:Array Keyed} {a n:Nat} (h:Up xs a (a+n)):dZ ((xs.toList.drop a).take n):=by
 refine List.pairwise_iff_getElem.mpr λi j hi hj hij=>?_
 have h1:j<n:=by rw [List.length_take] at hj;omega
 have h2:a+j<xs.size:=by rw [List.length_take,List.length_drop] at hj;simp at hj;omega
 have:=h (a+i) (a+j) (by omega) (by omega) (by omega)
 rw [K_eq (by omega),K_eq h2] at this
 unfold R kk
 simpa only [List.getElem_take,List.getElem_drop,Array.getElem_toList] using this
theorem nH {xs:Array Keyed} {a:Nat} (ha:a<=xs.size) (h:dZ (xs.toList.drop a)):Up xs a (a+(xs.size-a)):=by
 refine fq (by omega) ?_
 rw [List.take_of_length_le (by simp)]
 exact h
theorem nJ {xs:Array Keyed} {a:Nat} (ha:a<=xs.size) (h:dZ (xs.toList.take a)):Up xs 0 (0+a):=fq (by omega) (by simpa using h)
theorem iO {xs:Array Keyed} {i:Nat} (h:i<xs.size):K xs i=kk xs[i]:=K_eq h
end Tim
namespace Tim
open PySem PyProof.Rows
def mY:Array Keyed->Array Keyed->StateT SortSt Sem (Array Keyed):=sortPriv% PySem.Builtin.mergeLo
def mX:Array Keyed->Array Keyed->StateT SortSt Sem (Array Keyed):=sortPriv% PySem.Builtin.mergeHi
structure Sm (st st':SortSt):Prop where
 kind:kindOf st'=kindOf st
 arr:arrOf st'=arrOf st
 pend:pendingOf st'=pendingOf st
 failed:failedOf st'=failedOf st
theorem Sm.refl (st:SortSt):Sm st st:=⟨rfl,rfl,rfl,rfl⟩
theorem Sm.trans {a b c:SortSt} (h:Sm a b) (g:Sm b c):Sm a c:=⟨g.kind.trans h.kind,g.arr.trans h.arr,g.pend.trans h.pend,g.failed.trans h.failed⟩
def lR:Nat->StateT SortSt Sem Unit:=sortPriv% PySem.Builtin.setMinGallop
section
variable {prog:Program} {w:World} {A:Around} {E:Value->Shared->Prop} {s:Shared} {xs ys:Array Keyed}
theorem yu {st:SortSt} {g:Nat} {Q:Unit->SortSt->Prop} (q:∀ st',Sm st st'->Q () st'):wpS (model prog w) A E s (lR g) Q st:=by
 unfold lR
 exact wpS_modify (q _ ⟨rfl,rfl,rfl,rfl⟩)
def J (xs ys out:Array Keyed) (ia ib:Nat):Prop:=Mg out.toList (xs.toList.drop ia) (ys.toList.drop ib) (xs.toList++ys.toList)
theorem iK {zs:Array Keyed} {i:Nat} (hi:i<zs.size) (h:dZ (zs.toList.drop i)) {x:Keyed} (hx:x∈zs.toList.drop i):R zs[i] x:=by
 rw [drop_cons hi] at h hx
 rcases List.mem_cons.mp hx with rfl | hx
 ·exact Int.le_refl _
 ·exact (List.pairwise_cons.mp h).1 x hx
theorem J.sX {out:Array Keyed} {ia ib:Nat} (h:J xs ys out ia ib):dZ (xs.toList.drop ia):=(List.pairwise_append.mp h.sx).2.1
theorem J.sY {out:Array Keyed} {ia ib:Nat} (h:J xs ys out ia ib):dZ (ys.toList.drop ib):=(List.pairwise_append.mp h.sy).2.1
theorem J.kx {out:Array Keyed} {ia ib:Nat} (h:J xs ys out ia ib) (hb:ib<ys.size) (ha:ia<xs.size) (c:R ys[ib] xs[ia]):J xs ys (out.push ys[ib]) ia (ib+1):=by
 have sX:=h.sX
 unfold J at *
 rw [Array.toList_push]
 refine Mg.right (Y1:=[ys[ib]]) (by rw [List.singleton_append,<- drop_cons hb];exact h) λy hy x hx=>?_
 rw [List.mem_singleton.mp hy]
 exact Int.le_trans c (iK ha sX hx)
theorem J.ku {out:Array Keyed} {ia ib:Nat} (h:J xs ys out ia ib) (hb:ib<ys.size) (ha:ia<xs.size) (c:R xs[ia] ys[ib]):J xs ys (out.push xs[ia]) (ia+1) ib:=by
 have sY:=h.sY
 unfold J at *
 rw [Array.toList_push]
 refine Mg.left (X1:=[xs[ia]]) (by rw [List.singleton_append,<- drop_cons ha];exact h) λy hy x hx=>?_
 rw [List.mem_singleton.mp hy]
 exact Int.le_trans c (iK hb sY hx)
theorem J.uq {out:Array Keyed} {ia ib k:Nat} (h:J xs ys out ia ib) (hb:ib<ys.size) (c:∀ i,i<k->K xs (ia+i)<=kk ys[ib]):J xs ys (out++xs.extract ia (ia+k)) (ia+k) ib:=by
 have sY:=h.sY
 unfold J at *
 rw [Array.toList_append,ext_toList,show ia+k-ia=k by omega]
 refine Mg.left (by rw [<- List.drop_drop,List.take_append_drop];exact h) λx hx y hy=>?_
 obtain⟨i,hi,h1,rfl⟩:=cD hx
 have:=c i h1
 rw [iO hi] at this
 exact Int.le_trans this (iK hb sY hy)
theorem J.ur {out:Array Keyed} {ia ib k:Nat} (h:J xs ys out ia ib) (ha:ia<xs.size) (c:∀ i,i<k->K ys (ib+i)<kk xs[ia]):J xs ys (out++ys.extract ib (ib+k)) ia (ib+k):=by
 have sX:=h.sX
 unfold J at *
 rw [Array.toList_append,ext_toList,show ib+k-ib=k by omega]
 refine Mg.right (by rw [<- List.drop_drop,List.take_append_drop];exact h) λx hx y hy=>?_
 obtain⟨i,hi,h1,rfl⟩:=cD hx
 have:=c i h1
 rw [iO hi] at this
 exact Int.le_trans (Int.le_of_lt this) (iK ha sX hy)
def iz (xs ys z:Array Keyed):Prop:=Out z.toList (xs.toList++ys.toList)
theorem iJ (zs:Array Keyed) (a:Nat):(zs.extract a zs.size).toList=zs.toList.drop a:=by
 rw [ext_toList,List.take_of_length_le (by simp)]
theorem J.done {out:Array Keyed} {ia ib:Nat} (h:J xs ys out ia ib) (c:ib=ys.size∨ia=xs.size):iz xs ys (out++xs.extract ia xs.size++ys.extract ib ys.size):=by
 unfold J at h
 unfold iz
 rw [Array.toList_append,Array.toList_append,iJ,iJ]
 rcases c with rfl | rfl
 ·rw [List.drop_of_length_le (l:=ys.toList) (by simp)] at h ⊢
  rw [List.append_nil]
  exact h.sj
 ·rw [List.drop_of_length_le (l:=xs.toList) (by simp)] at h ⊢
  rw [List.append_nil]
  exact h.uV
theorem J.last {out:Array Keyed} {ia ib:Nat} (h:J xs ys out ia ib) (e:ia+1=xs.size) (l:∀ y∈ys.toList,∀ x,xs.toList.getLast?=some x->R y x):iz xs ys (out++ys.extract ib ys.size++xs.extract ia xs.size):=by
 unfold J at h
 unfold iz
 rw [Array.toList_append,Array.toList_append,iJ,iJ]
 have h1:xs.toList.drop ia=[xs[ia]]:=by
  rw [drop_cons (by omega),List.drop_of_length_le (by simp;omega)]
 rw [h1] at h ⊢
 refine h.zh λy hy=>l y (List.mem_of_mem_drop hy) _ ?_
 rw [List.getLast?_eq_getElem?]
 simp only [Array.length_toList,show xs.size-1=ia by omega]
 simp
section
variable {β:Type} {st:SortSt} {Q:β->SortSt->Prop}
theorem mh {zs:Array Keyed} {i:Nat} {f:Keyed->StateT SortSt Sem β} (hi:i<zs.size) (h:wpS (model prog w) A E s (f zs[i]) Q st):wpS (model prog w) A E s (elem' zs i >>= f) Q st:=wpS_bind (el hi h)
theorem uS {g:Nat} {f:Unit->StateT SortSt Sem β} (h:∀ st',Sm st st'->wpS (model prog w) A E s (f ()) Q st'):wpS (model prog w) A E s (lR g >>= f) Q st:=wpS_bind (yu h)
theorem uR {left:Bool} {key:Keyed} {zs:Array Keyed} {base n hint:Nat} {f:Option Nat->StateT SortSt Sem β} (hk:kindOf st=oneType') (hn:c9 zs) (hy:rO key) (hb:base+n<=zs.size) (hh:hint<n) (up:Up zs base (base+n))
  (h:∀ k,k<=n->(∀ i,i<k->gM left (kk key) zs (base+i))->(∀ i,k<=i->i<n->¬gM left (kk key) zs (base+i))->wpS (model prog w) A E s (f (some k)) Q st):wpS (model prog w) A E s (lg left key zs base n hint >>= f) Q st:=wpS_bind (Au hk hn hy hb hh up h)
theorem AW {x y:Keyed} {f:Option Bool->StateT SortSt Sem β} (hk:kindOf st=oneType') (hx:rO x) (hy:rO y) (h:wpS (model prog w) A E s (f (some (decide (kk x<kk y)))) Q st):wpS (model prog w) A E s (lt' x y >>= f) Q st:=wpS_bind (lD hk hx hy h)
theorem cJ {c:Prop} [Decidable c] {t e:StateT SortSt Sem β} (hc:c) (h:wpS (model prog w) A E s t Q st):wpS (model prog w) A E s (if c then t else e) Q st:=by rw [if_pos hc];exact h
theorem cI {c:Prop} [Decidable c] {t e:StateT SortSt Sem β} (hc:¬c) (h:wpS (model prog w) A E s e Q st):wpS (model prog w) A E s (if c then t else e) Q st:=by rw [if_neg hc];exact h
end
inductive Iv (xs ys:Array Keyed) (n:Nat) {ρ:Type}:Option (Array Keyed) × Array Keyed × Nat × Nat × ρ->Prop
 | mk {out ia ib r} (j:J xs ys out ia ib) (h1:ia+1<xs.size) (h2:ib<ys.size) (h3:n<=ia+ib):Iv xs ys n (none,out,ia,ib,r)
inductive xm (xs ys:Array Keyed) {ρ:Type}:Option (Array Keyed) × ρ->Prop
 | mk {z r} (o:iz xs ys z):xm xs ys (some z,r)
structure Hid (T:Prop):Prop where
 un:T
theorem mE {T G:Prop} (m:Hid T->G) (t:T):G:=m ⟨t⟩
theorem Bn {st:SortSt} {Q:Array Keyed->SortSt->Prop} (hk:kindOf st=oneType') (nX:c9 xs) (nY:c9 ys) (px:0<xs.size) (py:0<ys.size) (sx:dZ xs.toList) (sy:dZ ys.toList)
  (f:R ys[0] xs[0]) (l:∀ y∈ys.toList,∀ x,xs.toList.getLast?=some x->R y x)
  (q:∀ z st',Sm st st'->iz xs ys z->Q z st'):wpS (model prog w) A E s (mY xs ys) Q st:=by
 have J0:J xs ys #[] 0 0:=⟨by simpa using sx,by simpa using sy,by simp⟩
 have J1:J xs ys #[ys[0]] 0 1:=by simpa using J0.kx py px f
 unfold mY
 refine wpS_bind (wpS_lift (wpAny_rule ⟨rfl,?_⟩))
 dsimp only
 refine mh py ?_
 by_cases e1:1=ys.size
 ·refine cJ (by simpa using e1) ?_
  exact wpS_pure (q _ _ (Sm.refl _) (J1.done (.inl e1)))
 refine cI (by simpa using e1) ?_
 by_cases e2:0+1=xs.size
 ·refine cJ (by simpa using e2) ?_
  exact wpS_pure (q _ _ (Sm.refl _) (J1.last e2 l))
 refine cI (by simpa using e2) ?_
 refine wpS_bind (wpS_get ?_)
 refine wpS_bind (wpS_mono (wpS_forRange (I:=λx c st'=>Sm st st'/\Iv xs ys (x+1) c)
  (Q:=λc st'=>Sm st st'/\xm xs ys c) ?step ?fin ⟨Sm.refl _,.mk J1 (by omega) (by omega) (by omega)⟩) ?post)
 case post =>
  rintro c st' ⟨sm,⟨o⟩⟩
  exact wpS_pure (q _ st' sm o)
 case fin =>
  rintro c st' ⟨sm,⟨j,h1,h2,h3⟩⟩
  omega
 case step =>
  rintro x c st' _ hx ⟨sm,@⟨out,ia,ib,mg,j,h1,h2,h3⟩⟩
  dsimp only
  have hk':kindOf st'=oneType':=sm.kind.trans hk
  refine wpS_bind (wpS_mono (wpS_forRange (I:=λy c st2=>st2=st'/\Iv xs ys (x+1+y) c)
   (Q:=λc st2=>st2=st'/\(Iv xs ys (x+2) c∨xm xs ys c))
   ?istep ?ifin ⟨rfl,.mk j h1 h2 (by omega)⟩) ?ipost)
  case ifin =>
   rintro c st2 ⟨rfl,⟨j,h1,h2,h3⟩⟩
   omega
  case istep =>
   rintro y c st2 _ hy ⟨rfl,@⟨out,ia,ib,⟨ac,bc⟩,j,h1,h2,h3⟩⟩
   dsimp only
   refine mh h2 ?_
   refine mh (by omega) ?_
   refine AW hk' (nY.at h2) (nX.at (by omega)) ?_
   by_cases c:kk ys[ib]<kk xs[ia]
   ·rw [decide_eq_true c]
    dsimp only
    refine cJ rfl ?_
    refine mh h2 ?_
    have j':=j.kx h2 (by omega) (Int.le_of_lt c)
    by_cases e:ib+1=ys.size
    ·refine cJ (by simpa using e) ?_
     exact wpS_pure ⟨rfl,.inr ⟨j'.done (.inl e)⟩⟩
    ·refine cI (by simpa using e) ?_
     split
     ·exact wpS_pure ⟨rfl,.inl ⟨j',h1,by omega,by omega⟩⟩
     ·exact wpS_pure ⟨rfl,⟨j',h1,by omega,by omega⟩⟩
   ·rw [decide_eq_false c]
    dsimp only
    refine cI (by simp) ?_
    refine mh (by omega) ?_
    have j':=j.ku h2 (by omega) (show R _ _ from Int.not_lt.mp c)
    by_cases e:ia+1+1=xs.size
    ·refine cJ (by simpa using e) ?_
     exact wpS_pure ⟨rfl,.inr ⟨j'.last e l⟩⟩
    ·refine cI (by simpa using e) ?_
     split
     ·exact wpS_pure ⟨rfl,.inl ⟨j',by omega,h2,by omega⟩⟩
     ·exact wpS_pure ⟨rfl,⟨j',by omega,h2,by omega⟩⟩
  case ipost =>
   rintro c st2 ⟨rfl,@⟨out,ia,ib,⟨ac,bc⟩,j,h1,h2,h3⟩ | @⟨z,r,o⟩⟩
   ·dsimp only
    refine wpS_bind (wpS_lift (wpAny_rule ⟨rfl,?_⟩))
    refine wpS_bind (wpS_mono (wpS_forRange (I:=λy c st3=>Sm st2 st3/\Iv xs ys (x+2+y) c)
     (Q:=λc st3=>Sm st2 st3/\(Iv xs ys (x+2) c∨xm xs ys c))
     ?gstep ?gfin ⟨Sm.refl _,.mk j h1 h2 (by omega)⟩) ?gpost)
    case gfin =>
     rintro c st3 ⟨sm3,⟨j,h1,h2,h3⟩⟩
     omega
    case gpost =>
     rintro c st3 ⟨sm3,@⟨out,ia,ib,⟨mg,ac,bc⟩,j,h1,h2,h3⟩ | @⟨z,r,o⟩⟩
     ·dsimp only
      refine uS λst4 sm4=>?_
      exact wpS_pure ⟨(sm.trans sm3).trans sm4,⟨j,h1,h2,by omega⟩⟩
     ·obtain⟨r1,r2,r3,r4,r5,r6⟩:=r
      exact wpS_pure ⟨sm.trans sm3,⟨o⟩⟩
    case gstep =>
     rintro y c st3 _ hy ⟨sm3,@⟨out,ia,ib,⟨mg,ac,bc⟩,j,h1,h2,h3⟩⟩
     dsimp only
     refine' mE (λkey=>?main1) ?key1
     case main1 =>
      by_cases cg:mg > 1
      ·refine cJ cg ?_
       generalize mg-1=g
       revert g
       exact key.un
      ·refine cI cg ?_
       exact key.un mg
     intro g
     refine uS λst4 sm4=>?_
     have hk4:kindOf st4=oneType':=(sm3.trans sm4).kind.trans hk'
     have sm5:=sm3.trans sm4
     clear sm3 sm4 hk' sm
     refine mh h2 ?_
     refine uR hk4 nX (nY.at h2) (by omega) (by omega) (nH (by omega) j.sX) λk hk1 hk2 hk3=>?_
     dsimp only
     have j1:J xs ys (out++xs.extract ia (ia+k)) (ia+k) ib:=j.uq h2 λi hi=>by
      have:=hk2 i hi
      unfold gM at this
      simpa using this
     have big:∀ i,ia+k<=i->i<xs.size->kk ys[ib]<K xs i:=λi g1 g2=>by
      have:=hk3 (i-ia) (by omega) (by omega)
      rw [show ia+(i-ia)=i by omega] at this
      unfold gM at this
      simpa using this
     clear hk2 hk3
     refine' mE (λkey=>?main2) ?key2
     case main2 =>
      by_cases ck:k > 0
      ·refine cJ ck ?_
       by_cases e5:ia+k+1=xs.size
       ·refine cJ (by simpa using e5) ?_
        exact wpS_pure ⟨sm5,.inr ⟨j1.last e5 l⟩⟩
       refine cI (by simpa using e5) ?_
       by_cases e6:ia+k=xs.size
       ·refine cJ (by simpa using e6) ?_
        exact wpS_pure ⟨sm5,.inr ⟨j1.done (.inr e6)⟩⟩
       refine cI (by simpa using e6) ?_
       have hA:ia+k+1<xs.size:=by omega
       have hB:=big (ia+k) (Nat.le_refl _) (by omega)
       have hC:x+2+y<=ia+k+ib:=by omega
       have j2:=j1
       revert j2 hA hB hC
       generalize out++xs.extract ia (ia+k)=o
       generalize ia+k=i
       revert o i
       exact key.un
      ·refine cI ck ?_
       exact key.un _ _ h1 (big ia (by omega) (by omega)) h3 j
     clear j1 big j h1 h3 hk1
     intro out ia hA hB h3 jA
     have hI:ia<xs.size:=by omega
     rw [iO (by omega)] at hB
     refine mh h2 ?_
     have jB:=jA.kx h2 (by omega) (Int.le_of_lt hB)
     by_cases e:ib+1=ys.size
     ·refine cJ (by simpa using e) ?_
      exact wpS_pure ⟨sm5,.inr ⟨jB.done (.inl e)⟩⟩
     refine cI (by simpa using e) ?_
     refine mh (by omega) ?_
     refine uR hk4 nY (nX.at (by omega)) (by omega) (by omega) (nH (by omega) jB.sY) λk2 g1 g2 g3=>?_
     dsimp only
     have jC:=jB.ur (k:=k2) (by omega) (λi hi=>by have:=g2 i hi;unfold gM at this;simpa using this)
     clear g2
     have g4:∀ i,k2<=i->i<ys.size-(ib+1)->kk xs[ia]<=K ys (ib+1+i):=λi z z'=>by
      have:=g3 i z z'
      unfold gM at this
      simpa using this
     clear g3
     refine' mE (λkey=>?main3) ?key3
     case main3 =>
      by_cases c2:k2 > 0
      ·refine cJ c2 ?_
       by_cases e3:ib+1+k2=ys.size
       ·refine cJ (by simpa using e3) ?_
        exact wpS_pure ⟨sm5,.inr ⟨jC.done (.inl e3)⟩⟩
       refine cI (by simpa using e3) ?_
       have gA:ib+1+k2<ys.size:=by omega
       have gB:=g4 k2 (Nat.le_refl _) (by omega)
       have gC:x+2+y+1<=ia+(ib+1+k2):=by omega
       have jE:=jC
       revert jE gA gB gC
       generalize out.push ys[ib]++ys.extract (ib+1) (ib+1+k2)=o
       generalize ib+1+k2=i
       revert o i
       exact key.un
      ·refine cI c2 ?_
       exact key.un _ _ (by omega) (g4 0 (by omega) (by omega)) (by omega) jB
     clear jC jB g4 g1
     intro o i gA gB gC jC
     refine mh (by omega) ?_
     have jD:=jC.ku gA (by omega) (by rw [iO gA] at gB;exact gB)
     clear jC jA gB hB e h2 h3 nX nY
     split
     ·rename_i e4
      exact wpS_pure ⟨sm5,.inr ⟨jD.last (by simpa using e4) l⟩⟩
     ·rename_i e4
      have e4':¬ia+1+1=xs.size:=λz=>e4 (by simpa using z)
      split
      ·exact wpS_pure ⟨sm5,.inl ⟨jD,by omega,by omega,by omega⟩⟩
      ·exact wpS_pure ⟨sm5,⟨jD,by omega,by omega,by omega⟩⟩
   ·obtain⟨r1,r2,r3,r4,r5⟩:=r
    exact wpS_pure ⟨sm,⟨o⟩⟩
end
end Tim
namespace Tim
open PySem PyProof.Rows
section
variable {prog:Program} {w:World} {A:Around} {E:Value->Shared->Prop} {s:Shared} {xs ys:Array Keyed}
def Jh (xs ys out:Array Keyed) (na nb:Nat):Prop:=Mh out.reverse.toList (xs.toList.take na) (ys.toList.take nb) (xs.toList++ys.toList)
theorem le_last {zs:Array Keyed} {i:Nat} (hi:i<zs.size) (h:dZ (zs.toList.take (i+1))) {x:Keyed} (hx:x∈zs.toList.take (i+1)):R x zs[i]:=by
 rw [dU hi] at h hx
 rcases List.mem_append.mp hx with hx | hx
 ·exact (List.pairwise_append.mp h).2.2 x hx _ (List.mem_singleton.mpr rfl)
 ·rw [List.mem_singleton.mp hx];exact Int.le_refl _
theorem Jh.sX {out:Array Keyed} {na nb:Nat} (h:Jh xs ys out na nb):dZ (xs.toList.take na):=(List.pairwise_append.mp h.sx).1
theorem Jh.sY {out:Array Keyed} {na nb:Nat} (h:Jh xs ys out na nb):dZ (ys.toList.take nb):=(List.pairwise_append.mp h.sy).1
theorem Jh.ku {out:Array Keyed} {na nb:Nat} (h:Jh xs ys out (na+1) nb) (ha:na<xs.size) (c:∀ y∈ys.toList.take nb,R y xs[na]):Jh xs ys (out.push xs[na]) na nb:=by
 unfold Jh at *
 rw [dU ha] at h
 have:=h.left (X2:=[xs[na]]) (λy hy x hx=>by rw [List.mem_singleton.mp hx];exact c y hy)
 simpa using this
theorem Jh.kx {out:Array Keyed} {na nb:Nat} (h:Jh xs ys out na (nb+1)) (hb:nb<ys.size) (c:∀ x∈xs.toList.take na,R x ys[nb]):Jh xs ys (out.push ys[nb]) na nb:=by
 unfold Jh at *
 rw [dU hb] at h
 have:=h.right (Y2:=[ys[nb]]) (λy hy x hx=>by rw [List.mem_singleton.mp hx];exact c y hy)
 simpa using this
theorem nM (zs:Array Keyed) {a b:Nat} (h:a<=b):zs.toList.take b=zs.toList.take a++(zs.extract a b).toList:=by
 rw [ext_toList,<- List.drop_take]
 have:zs.toList.take a=(zs.toList.take b).take a:=by rw [List.take_take,Nat.min_eq_left h]
 rw [this,List.take_append_drop]
theorem Jh.uq {out:Array Keyed} {na nb a:Nat} (h:Jh xs ys out na nb) (ha:a<=na) (c:∀ y∈ys.toList.take nb,∀ x∈(xs.extract a na).toList,R y x):Jh xs ys (out++(xs.extract a na).reverse) a nb:=by
 unfold Jh at *
 rw [nM xs ha] at h
 have:=h.left c
 rw [Array.reverse_append,Array.reverse_reverse,Array.toList_append]
 exact this
theorem Jh.ur {out:Array Keyed} {na nb b:Nat} (h:Jh xs ys out na nb) (hb:b<=nb) (c:∀ x∈xs.toList.take na,∀ y∈(ys.extract b nb).toList,R x y):Jh xs ys (out++(ys.extract b nb).reverse) na b:=by
 unfold Jh at *
 rw [nM ys hb] at h
 have:=h.right c
 rw [Array.reverse_append,Array.reverse_reverse,Array.toList_append]
 exact this
theorem fZ (zs:Array Keyed) (a:Nat):(zs.extract 0 a).toList=zs.toList.take a:=by rw [ext_toList];simp
theorem Jh.done {out:Array Keyed} {na nb:Nat} (h:Jh xs ys out na nb) (c:na=0∨nb=0):iz xs ys (xs.extract 0 na++ys.extract 0 nb++out.reverse):=by
 unfold Jh at h
 unfold iz
 rw [Array.toList_append,Array.toList_append,fZ,fZ]
 rcases c with rfl | rfl
 ·rw [List.take_zero] at h ⊢
  exact h.uV
 ·rw [List.take_zero] at h ⊢
  rw [List.append_nil]
  exact h.sj
theorem Jh.first {out:Array Keyed} {na nb:Nat} (h:Jh xs ys out na nb) (py:0<ys.size) (e:nb=1) (l:∀ x∈xs.toList,R ys[0] x):iz xs ys (ys.extract 0 nb++xs.extract 0 na++out.reverse):=by
 unfold Jh at h
 unfold iz
 rw [Array.toList_append,Array.toList_append,fZ,fZ]
 subst e
 have h1:ys.toList.take 1=[ys[0]]:=by rw [show 1=0+1 from rfl,dU py];simp
 rw [h1] at h ⊢
 exact h.zi λx hx=>l x (List.mem_of_mem_take hx)
theorem pV {zs:Array Keyed} {a b:Nat} {x:Keyed} (h:x∈(zs.extract a b).toList):∃ i,∃(hi:i<zs.size),a<=i/\i<b/\x=zs[i]:=by
 rw [ext_toList] at h
 obtain⟨i,hi,h1,rfl⟩:=cD h
 exact⟨a+i,hi,by omega,by omega,rfl⟩
inductive Iw (xs ys:Array Keyed) (n:Nat) {ρ:Type}:Option (Array Keyed) × Nat × Nat × Array Keyed × ρ->Prop
 | mk {na nb out r} (j:Jh xs ys out na nb) (h1:0<na) (h2:na<=xs.size) (h3:1<nb) (h4:nb<=ys.size) (h5:na+nb+n<=xs.size+ys.size):Iw xs ys n (none,na,nb,out,r)
theorem Bm {st:SortSt} {Q:Array Keyed->SortSt->Prop} (hk:kindOf st=oneType') (nX:c9 xs) (nY:c9 ys) (px:0<xs.size) (py:0<ys.size) (sx:dZ xs.toList) (sy:dZ ys.toList)
  (f:∀ x∈xs.toList,R ys[0] x) (l:∀ y∈ys.toList,R y (xs[xs.size-1]'(by omega)))
  (q:∀ z st',Sm st st'->iz xs ys z->Q z st'):wpS (model prog w) A E s (mX xs ys) Q st:=by
 have J0:Jh xs ys #[] (xs.size-1+1) ys.size:=by
  refine⟨?_,?_,?_⟩
  ·rw [List.take_of_length_le (by simp;omega)];simpa using sx
  ·rw [List.take_of_length_le (by simp)];simpa using sy
  ·rw [List.take_of_length_le (by simp;omega),List.take_of_length_le (by simp)];simp
 have J1:Jh xs ys #[xs[xs.size-1]] (xs.size-1) ys.size:=by
  have:=J0.ku (by omega) (λy hy=>l y (List.mem_of_mem_take hy))
  simpa using this
 unfold mX
 refine wpS_bind (wpS_lift (wpAny_rule ⟨rfl,?_⟩))
 dsimp only
 refine mh (by omega) ?_
 by_cases e1:xs.size-1=0
 ·refine cJ (by simpa using e1) ?_
  exact wpS_pure (q _ _ (Sm.refl _) (J1.done (.inl e1)))
 refine cI (by simpa using e1) ?_
 by_cases e2:ys.size=1
 ·refine cJ (by simpa using e2) ?_
  exact wpS_pure (q _ _ (Sm.refl _) (J1.first py e2 f))
 refine cI (by simpa using e2) ?_
 refine wpS_bind (wpS_get ?_)
 refine wpS_bind (wpS_mono (wpS_forRange (I:=λx c st'=>Sm st st'/\Iw xs ys (x+1) c)
  (Q:=λc st'=>Sm st st'/\xm xs ys c) ?step ?fin ⟨Sm.refl _,.mk J1 (by omega) (by omega) (by omega) (by omega) (by omega)⟩) ?post)
 case post =>
  rintro c st' ⟨sm,⟨o⟩⟩
  exact wpS_pure (q _ st' sm o)
 case fin =>
  rintro c st' ⟨sm,⟨j,h1,h2,h3,h4,h5⟩⟩
  omega
 case step =>
  rintro x c st' _ hx ⟨sm,@⟨na,nb,out,mg,j,h1,h2,h3,h4,h5⟩⟩
  dsimp only
  have hk':kindOf st'=oneType':=sm.kind.trans hk
  refine wpS_bind (wpS_mono (wpS_forRange (I:=λy c st2=>st2=st'/\Iw xs ys (x+1+y) c)
   (Q:=λc st2=>st2=st'/\(Iw xs ys (x+2) c∨xm xs ys c))
   ?istep ?ifin ⟨rfl,.mk j h1 h2 h3 h4 (by omega)⟩) ?ipost)
  case ifin =>
   rintro c st2 ⟨rfl,⟨j,h1,h2,h3,h4,h5⟩⟩
   omega
  case istep =>
   rintro y c st2 _ hy ⟨rfl,@⟨na,nb,out,⟨ac,bc⟩,j,h1,h2,h3,h4,h5⟩⟩
   dsimp only
   obtain⟨na,rfl⟩:∃ m,na=m+1:=⟨na-1,by omega⟩
   obtain⟨nb,rfl⟩:∃ m,nb=m+1:=⟨nb-1,by omega⟩
   refine mh (by omega) ?_
   refine mh (by omega) ?_
   simp only [Nat.add_sub_cancel]
   refine AW hk' (nY.at (by omega)) (nX.at (by omega)) ?_
   by_cases c:kk ys[nb]<kk xs[na]
   ·rw [decide_eq_true c]
    dsimp only
    refine cJ rfl ?_
    refine mh (by omega) ?_
    have j':=j.ku (by omega) λy hy=>Int.le_trans (le_last (by omega) j.sY hy) (Int.le_of_lt c)
    by_cases e:na=0
    ·refine cJ (by simpa using e) ?_
     exact wpS_pure ⟨rfl,.inr ⟨j'.done (.inl e)⟩⟩
    ·refine cI (by simpa using e) ?_
     split
     ·exact wpS_pure ⟨rfl,.inl ⟨j',by omega,by omega,by omega,by omega,by omega⟩⟩
     ·exact wpS_pure ⟨rfl,⟨j',by omega,by omega,by omega,by omega,by omega⟩⟩
   ·rw [decide_eq_false c]
    dsimp only
    refine cI (by simp) ?_
    refine mh (by omega) ?_
    have j':=j.kx (by omega) λy hy=>Int.le_trans (le_last (by omega) j.sX hy) (Int.not_lt.mp c)
    by_cases e:nb=1
    ·refine cJ (by simpa using e) ?_
     exact wpS_pure ⟨rfl,.inr ⟨j'.first py e f⟩⟩
    ·refine cI (by simpa using e) ?_
     split
     ·exact wpS_pure ⟨rfl,.inl ⟨j',by omega,by omega,by omega,by omega,by omega⟩⟩
     ·exact wpS_pure ⟨rfl,⟨j',by omega,by omega,by omega,by omega,by omega⟩⟩
  case ipost =>
   rintro c st2 ⟨rfl,@⟨na,nb,out,⟨ac,bc⟩,j,h1,h2,h3,h4,h5⟩ | @⟨z,r,o⟩⟩
   ·dsimp only
    refine wpS_bind (wpS_lift (wpAny_rule ⟨rfl,?_⟩))
    refine wpS_bind (wpS_mono (wpS_forRange (I:=λy c st3=>Sm st2 st3/\Iw xs ys (x+2+y) c)
     (Q:=λc st3=>Sm st2 st3/\(Iw xs ys (x+2) c∨xm xs ys c))
     ?gstep ?gfin ⟨Sm.refl _,.mk j h1 h2 h3 h4 (by omega)⟩) ?gpost)
    case gfin =>
     rintro c st3 ⟨sm3,⟨j,h1,h2,h3,h4,h5⟩⟩
     omega
    case gpost =>
     rintro c st3 ⟨sm3,@⟨na,nb,out,⟨mg,ac,bc⟩,j,h1,h2,h3,h4,h5⟩ | @⟨z,r,o⟩⟩
     ·dsimp only
      refine uS λst4 sm4=>?_
      exact wpS_pure ⟨(sm.trans sm3).trans sm4,⟨j,h1,h2,h3,h4,by omega⟩⟩
     ·obtain⟨r1,r2,r3,r4,r5,r6⟩:=r
      exact wpS_pure ⟨sm.trans sm3,⟨o⟩⟩
    case gstep =>
     rintro y c st3 _ hy ⟨sm3,@⟨na,nb,out,⟨mg,ac,bc⟩,j,h1,h2,h3,h4,h5⟩⟩
     obtain⟨nb,rfl⟩:∃ m,nb=m+1:=⟨nb-1,by omega⟩
     dsimp only
     refine' mE (λkey=>?main1) ?key1
     case main1 =>
      by_cases cg:mg > 1
      ·refine cJ cg ?_
       generalize mg-1=g
       revert g
       exact key.un
      ·refine cI cg ?_
       exact key.un mg
     intro g
     refine uS λst4 sm4=>?_
     have hk4:kindOf st4=oneType':=(sm3.trans sm4).kind.trans hk'
     have sm5:=sm3.trans sm4
     clear sm3 sm4 hk' sm
     simp only [Nat.add_sub_cancel]
     have hI:nb<ys.size:=by omega
     refine mh hI ?_
     refine uR hk4 nX (nY.at hI) (by omega) (by omega) (nJ (by omega) j.sX) λat_ g1 g2 g3=>?_
     dsimp only
     have low:∀ x∈xs.toList.take at_,R x ys[nb]:=λx hx=>by
      obtain⟨i,hi,h,rfl⟩:=kj hx
      have:=g2 i h
      unfold gM at this
      rw [Nat.zero_add,iO hi] at this
      unfold R
      simpa using this
     have j1:Jh xs ys (out++(xs.extract at_ na).reverse) at_ (nb+1):=j.uq g1 λy hy x hx=>by
      obtain⟨i,hi,h,h',rfl⟩:=pV hx
      have:=g3 i h h'
      unfold gM at this
      rw [Nat.zero_add,iO hi] at this
      have h6:kk ys[nb]<kk xs[i]:=by simpa using this
      exact Int.le_trans (le_last hI j.sY hy) (Int.le_of_lt h6)
     clear g2 g3
     refine' mE (λkey=>?main2) ?key2
     case main2 =>
      by_cases ck:na-at_ > 0
      ·refine cJ ck ?_
       by_cases e5:at_=0
       ·refine cJ (by simpa using e5) ?_
        exact wpS_pure ⟨sm5,.inr ⟨j1.done (.inl e5)⟩⟩
       refine cI (by simpa using e5) ?_
       have pA:0<at_:=by omega
       have pB:at_<=xs.size:=by omega
       have pC:at_+(nb+1)+(x+2+y)<=xs.size+ys.size:=by omega
       have j2:=j1
       have low2:=low
       revert pA pB pC j2 low2
       generalize out++(xs.extract at_ na).reverse=o
       generalize na-at_=d
       revert o d
       exact key.un
      ·refine cI ck ?_
       obtain rfl:at_=na:=by omega
       exact key.un _ _ h1 h2 h5 j low
     clear j1 j low
     intro o d pA pB pC jA low
     obtain⟨m,rfl⟩:∃ m,at_=m+1:=⟨at_-1,by omega⟩
     have hM:m<xs.size:=by omega
     refine mh hI ?_
     have jB:=jA.kx hI low
     clear jA low
     by_cases e:nb=1
     ·refine cJ (by simpa using e) ?_
      exact wpS_pure ⟨sm5,.inr ⟨jB.first py e f⟩⟩
     refine cI (by simpa using e) ?_
     simp only [Nat.add_sub_cancel]
     refine mh hM ?_
     refine uR hk4 nY (nX.at hM) (by omega) (by omega) (nJ (by omega) jB.sY) λb2 f1 f2 f3=>?_
     dsimp only
     have low2:∀ y∈ys.toList.take b2,R y xs[m]:=λy hy=>by
      obtain⟨i,hi,h,rfl⟩:=kj hy
      have:=f2 i h
      unfold gM at this
      rw [Nat.zero_add,iO hi] at this
      unfold R
      have:kk ys[i]<kk xs[m]:=by simpa using this
      omega
     have jC:=jB.ur f1 λx hx y hy=>by
      obtain⟨i,hi,h,h',rfl⟩:=pV hy
      have:=f3 i h h'
      unfold gM at this
      rw [Nat.zero_add,iO hi] at this
      have h6:kk xs[m]<=kk ys[i]:=by simpa using this
      exact Int.le_trans (le_last hM jB.sX hx) h6
     clear f2 f3
     refine' mE (λkey=>?main3) ?key3
     case main3 =>
      by_cases c2:nb-b2 > 0
      ·refine cJ c2 ?_
       by_cases e3:b2=1
       ·refine cJ (by simpa using e3) ?_
        exact wpS_pure ⟨sm5,.inr ⟨jC.first py e3 f⟩⟩
       refine cI (by simpa using e3) ?_
       by_cases e4:b2=0
       ·refine cJ (by simpa using e4) ?_
        exact wpS_pure ⟨sm5,.inr ⟨jC.done (.inr e4)⟩⟩
       refine cI (by simpa using e4) ?_
       have pD:1<b2:=by omega
       have jE:=jC
       have low3:=low2
       revert pD jE low3
       generalize o.push ys[nb]++(ys.extract b2 nb).reverse=o2
       generalize nb-b2=d2
       revert o2 d2
       exact key.un
      ·refine cI c2 ?_
       obtain rfl:b2=nb:=by omega
       exact key.un _ _ (by omega) jB low2
     clear jC jB low2
     intro o2 d2 pD jC low2
     refine mh hM ?_
     have jD:=jC.ku hM low2
     clear jC low2 e nX nY
     by_cases e8:m=0
     ·refine cJ (by simpa using e8) ?_
      exact wpS_pure ⟨sm5,.inr ⟨jD.done (.inl e8)⟩⟩
     refine cI (by simpa using e8) ?_
     split
     ·exact wpS_pure ⟨sm5,.inl ⟨jD,by omega,by omega,by omega,by omega,by omega⟩⟩
     ·exact wpS_pure ⟨sm5,⟨jD,by omega,by omega,by omega,by omega,by omega⟩⟩
   ·obtain⟨r1,r2,r3,r4,r5⟩:=r
    exact wpS_pure ⟨sm,⟨o⟩⟩
end
end Tim
namespace Tim
open PySem PyProof.Rows
theorem t5:∀(z U V W:List Keyed) (n o:Nat) (a:Array Keyed),a.toList=U++(V++W)->U.length=o+n->V.length=z.length ->
  ((z.zipIdx n).foldl (λa (x:Keyed × Nat)=>match x with | (p,j)=>a.setIfInBounds (o+j) p) a).toList=U++(z++W)
 | [],U,V,W,n,o,a,h,e,l=>by
  rw [List.length_nil,List.length_eq_zero_iff] at l
  subst l
  simpa using h
 | x::z,U,[],W,n,o,a,h,e,l=>by simp at l
 | x::z,U,v::V,W,n,o,a,h,e,l=>by
  rw [List.zipIdx_cons,List.foldl_cons]
  have h':(a.setIfInBounds (o+n) x).toList=(U++[x])++(V++W):=by
   rw [Array.toList_setIfInBounds,h,<- e,List.set_append_right _ _ (Nat.le_refl _),Nat.sub_self]
   simp
  have:=t5 z (U++[x]) V W (n+1) o _ h' (by simp;omega) (by simpa using l)
  simpa using this
theorem at_of {a:Array Keyed} {U V W:List Keyed} (h:a.toList=U++(V++W)) {i:Nat} (hi:i<V.length):∃(g:U.length+i<a.size),a[U.length+i]=V[i]:=by
 have hl:a.size=U.length+(V.length+W.length):=by rw [<- Array.length_toList,h];simp
 refine⟨by omega,?_⟩
 have:a.toList[U.length+i]?=some V[i]:=by
  rw [h,List.getElem?_append_right (by omega),Nat.add_sub_cancel_left,List.getElem?_append_left hi,List.getElem?_eq_getElem hi]
 have g:U.length+i<a.size:=by omega
 rw [Array.getElem?_toList,Array.getElem?_eq_getElem g] at this
 exact Option.some.inj this
theorem xr {a:Array Keyed} {U V W:List Keyed} (h:a.toList=U++(V++W)) {i:Nat} (hi:i<V.length):K a (U.length+i)=kk V[i]:=by
 obtain⟨g,e⟩:=at_of h hi
 rw [iO g,e]
theorem xk {a:Array Keyed} {U V W:List Keyed} (h:a.toList=U++(V++W)) (s:dZ V):Up a U.length (U.length+V.length):=by
 have hl:a.size=U.length+(V.length+W.length):=by rw [<- Array.length_toList,h];simp
 refine fq (by omega) ?_
 rw [h,List.drop_left,List.take_left]
 exact s
theorem pL {a:Array Keyed} {U V W:List Keyed} (h:a.toList=U++(V++W)) {k m:Nat} (hm:m<=V.length):(a.extract (U.length+k) (U.length+m)).toList=(V.take m).drop k:=by
 rw [ext_toList,h,<- List.drop_drop,List.drop_left,show U.length+m-(U.length+k)=m-k by omega,<- List.drop_take,List.take_append_of_le_length hm]
section
variable {prog:Program} {w:World} {A:Around} {E:Value->Shared->Prop} {s:Shared}
theorem uC {st st1:SortSt} {Q:PUnit->SortSt->Prop} (h:Q ⟨⟩ st1):wpS (model prog w) A E s (set st1:StateT SortSt Sem PUnit) Q st:=by
 unfold wpS;rw [StateT.run_set];exact wpAny_pure ⟨rfl,h⟩
theorem Bl {st:SortSt} {i:Nat} {p1 p2:List (Nat × Nat × Nat)} {P X Y S:List Keyed} {pw pw':Nat} {Q:Bool->SortSt->Prop} (hk:kindOf st=oneType') (hn:c9 (arrOf st)) (hf:failedOf st=none)
  (hp:(pendingOf st).toList=p1++(P.length,X.length,pw)::(P.length+X.length,Y.length,pw')::p2) (hi:p1.length=i)
  (ha:(arrOf st).toList=P++(X++(Y++S))) (sX:dZ X) (sY:dZ Y) (nX:0<X.length) (nY:0<Y.length)
  (q:∀ st' C,kindOf st'=oneType'->failedOf st'=none->(pendingOf st').toList=p1++(P.length,X.length+Y.length,pw)::p2->(arrOf st').toList=P++(C++S)->dZ C->C.Perm (X++Y)->Q true st') :
  wpS (model prog w) A E s (mergeAt' i) Q st:=by
 have hb:(arrOf st).toList=(P++X)++(Y++S):=by rw [ha];simp
 have lb:(P++X).length=P.length+X.length:=by simp
 have hsz:(arrOf st).size=P.length+X.length+Y.length+S.length:=by rw [<- Array.length_toList,ha];simp;omega
 have i0:(pendingOf st)[i]?=some (P.length,X.length,pw):=by
  rw [<- Array.getElem?_toList,hp,List.getElem?_append_right (by omega)];simp [hi]
 have i1:(pendingOf st)[i+1]?=some (P.length+X.length,Y.length,pw'):=by
  rw [<- Array.getElem?_toList,hp,List.getElem?_append_right (by omega)];simp [hi,show i+1-i=1 by omega]
 have pd:(((pendingOf st).setIfInBounds i (P.length,X.length+Y.length,pw)).eraseIdxIfInBounds (i+1)).toList=p1++(P.length,X.length+Y.length,pw)::p2:=by
  rw [Array.toList_eraseIdxIfInBounds,Array.toList_setIfInBounds,hp,<- hi,List.set_append_right _ _ (Nat.le_refl _),Nat.sub_self,List.set_cons_zero,
   List.eraseIdx_append_of_length_le (by omega),show p1.length+1-p1.length=1 by omega]
  rfl
 obtain⟨gy,ey⟩:=at_of hb (i:=0) nY
 simp only [lb,Nat.add_zero] at gy ey
 have kY:∀{j:Nat} (h:j<Y.length),K (arrOf st) (P.length+X.length+j)=kk Y[j]:=λh=>by have:=xr hb h;rwa [lb] at this
 unfold mergeAt'
 refine wpS_bind (wpS_get ?_)
 rw [i0,i1]
 dsimp only
 refine wpS_bind (uC ?_)
 refine wpS_bind (el gy ?_)
 refine wpS_bind (Au (by exact hk) hn (hn.at gy) (show P.length+X.length<=(arrOf st).size by omega) nX (xk ha sX) λk k1 k2 k3=>?_)
 dsimp only
 simp only [gM,Bool.false_eq_true,if_false] at k2 k3
 have hd:∀{y:Keyed},y∈Y->kk Y[0]<=kk y:=λ{y} hy=>by
  obtain⟨j,hj,rfl⟩:=List.getElem_of_mem hy
  by_cases e:j=0
  ·subst e;exact Int.le_refl _
  ·exact List.pairwise_iff_getElem.mp sY 0 j nY hj (by omega)
 have ls:∀{x:Keyed},x∈X->kk x<=kk X[X.length-1]:=λ{x} hx=>by
  obtain⟨j,hj,rfl⟩:=List.getElem_of_mem hx
  by_cases e:j=X.length-1
  ·subst e;exact Int.le_refl _
  ·exact List.pairwise_iff_getElem.mp sX j (X.length-1) hj (by omega) (by omega)
 have f1:∀ x∈X.take k,∀ y∈Y,R x y:=λx hx y hy=>by
  obtain⟨j,hj,rfl⟩:=List.getElem_of_mem hx
  rw [List.length_take] at hj
  have:=k2 j (by omega)
  rw [xr ha (by omega),ey] at this
  rw [List.getElem_take]
  exact Int.le_trans this (hd hy)
 have f2:∀ x∈X.drop k,kk Y[0]<kk x:=λx hx=>by
  obtain⟨j,hj,rfl⟩:=List.getElem_of_mem hx
  rw [List.length_drop] at hj
  have:=k3 (k+j) (by omega) (by omega)
  rw [xr ha (by omega),ey] at this
  rw [List.getElem_drop]
  omega
 by_cases e1:X.length-k=0
 ·rw [if_pos (by simpa using e1)]
  refine wpS_pure (q _ (X++Y) hk hf pd (by simpa using ha) ?_ (List.Perm.refl _))
  rw [show X=X.take k by rw [List.take_of_length_le (by omega)]]
  exact List.pairwise_append.mpr ⟨by rw [List.take_of_length_le (by omega)];exact sX,sY,f1⟩
 rw [if_neg (by simpa using e1)]
 obtain⟨gx,ex⟩:=at_of ha (i:=X.length-1) (by omega)
 have gx':P.length+k+(X.length-k)-1=P.length+(X.length-1):=by omega
 rw [gx']
 refine wpS_bind (el gx ?_)
 refine wpS_bind (Au (by exact hk) hn (hn.at gx) (show P.length+X.length+Y.length<=(arrOf st).size by omega) (by omega) (by have:=xk hb sY;rwa [lb] at this) λm m1 m2 m3=>?_)
 dsimp only
 simp only [gM,if_true,ex] at m2 m3
 have g1:∀ y∈Y.take m,kk y<kk X[X.length-1]:=λy hy=>by
  obtain⟨j,hj,rfl⟩:=List.getElem_of_mem hy
  rw [List.length_take] at hj
  have:=m2 j (by omega)
  rw [kY (by omega)] at this
  rw [List.getElem_take]
  exact this
 have g2:∀ y∈Y.drop m,∀ x∈X,R x y:=λy hy x hx=>by
  obtain⟨j,hj,rfl⟩:=List.getElem_of_mem hy
  rw [List.length_drop] at hj
  have:=m3 (m+j) (by omega) (by omega)
  rw [kY (by omega)] at this
  rw [List.getElem_drop]
  exact Int.le_trans (ls hx) (Int.not_lt.mp this)
 by_cases e2:m=0
 ·rw [if_pos (by simpa using e2)]
  refine wpS_pure (q _ (X++Y) hk hf pd (by simpa using ha) ?_ (List.Perm.refl _))
  exact List.pairwise_append.mpr ⟨sX,sY,λx hx y hy=>g2 y (by rw [e2];exact hy) x hx⟩
 rw [if_neg (by simpa using e2)]
 have xl:((arrOf st).extract (P.length+k) (P.length+X.length)).toList=X.drop k:=by
  rw [pL ha (Nat.le_refl _),List.take_length]
 have yl:((arrOf st).extract (P.length+X.length) (P.length+X.length+m)).toList=Y.take m:=by
  have:=pL hb (k:=0) (m:=m) (by omega)
  rw [lb] at this
  simpa using this
 have sx:dZ (X.drop k):=sX.sublist (List.drop_sublist ..)
 have sy:dZ (Y.take m):=sY.sublist (List.take_sublist ..)
 have mem:∀{l:List Keyed} {z:Array Keyed},z.toList=l->(∀ x∈l,rO x)->c9 z:=λe h=>by intro p hp';rw [e] at hp';exact h p hp'
 have aX:∀ x∈X.drop k,rO x:=λx hx=>hn x (by rw [ha];exact List.mem_append_right _ (List.mem_append_left _ (List.mem_of_mem_drop hx)))
 have aY:∀ x∈Y.take m,rO x:=λx hx=>hn x (by rw [hb];exact List.mem_append_right _ (List.mem_append_left _ (List.mem_of_mem_take hx)))
 generalize hxs:(arrOf st).extract (P.length+k) (P.length+X.length)=xs at xl
 generalize hys:(arrOf st).extract (P.length+X.length) (P.length+X.length+m)=ys at yl
 have zx:xs.size=X.length-k:=by rw [<- Array.length_toList,xl];simp
 have zy:ys.size=m:=by rw [<- Array.length_toList,yl];simp;omega
 have vX:=mem xl aX
 have vY:=mem yl aY
 have y0:ys[0]'(by omega)=Y[0]:=by
  have:ys.toList[0]?=some Y[0]:=by rw [yl,List.getElem?_take_of_lt (by omega)];simp [nY]
  rw [Array.getElem?_toList,Array.getElem?_eq_getElem (by omega)] at this
  exact Option.some.inj this
 have ff:∀ x∈xs.toList,R (ys[0]'(by omega)) x:=λx hx=>by rw [y0];rw [xl] at hx;exact Int.le_of_lt (f2 x hx)
 have xlast:xs[xs.size-1]'(by omega)=X[X.length-1]:=by
  have:xs.toList[xs.size-1]?=some X[X.length-1]:=by rw [xl,List.getElem?_drop,List.getElem?_eq_getElem (by omega)];congr 2;omega
  rw [Array.getElem?_toList,Array.getElem?_eq_getElem (by omega)] at this
  exact Option.some.inj this
 have ll:∀ y∈ys.toList,R y (xs[xs.size-1]'(by omega)):=λy hy=>by rw [xlast];rw [yl] at hy;exact Int.le_of_lt (g1 y hy)
 have fin:∀ z st',Sm (SortSt.mk' (kindOf st) (arrOf st) (((pendingOf st).setIfInBounds i (P.length,X.length+Y.length,pw)).eraseIdxIfInBounds (i+1)) (gallopOf st) (failedOf st)) st'->iz xs ys z ->
   wpS (model prog w) A E s (do
    modify λt=>setArr t (z.toList.zipIdx.foldl (λa (x:Keyed × Nat)=>match x with | (p,j)=>a.setIfInBounds (P.length+k+j) p) (arrOf t))
    let t <- get
    pure (failedOf t).isNone) Q st':=λz st' sm o=>by
  refine wpS_bind (wpS_modify (wpS_bind (wpS_get ?_)))
  have hz:z.toList.Perm (X.drop k++Y.take m):=by have:=o.2;rwa [xl,yl] at this
  have hzl:(X.drop k++Y.take m).length=z.toList.length:=hz.length_eq.symm
  have ha':(arrOf st').toList=(P++X.take k)++((X.drop k++Y.take m)++(Y.drop m++S)):=by
   rw [sm.arr]
   show (arrOf st).toList=_
   rw [ha]
   simp only [List.append_assoc]
   rw [<- List.append_assoc (X.take k),List.take_append_drop,<- List.append_assoc (Y.take m),List.take_append_drop]
  have key:=t5 z.toList (P++X.take k) (X.drop k++Y.take m) (Y.drop m++S) 0 (P.length+k) (arrOf st') ha' (by simp;omega) hzl
  have fl:failedOf st'=none:=sm.failed.trans hf
  show wpS _ _ _ _ (pure (failedOf st').isNone) Q _
  rw [fl]
  refine wpS_pure (q _ (X.take k++(z.toList++Y.drop m)) (sm.kind.trans hk) fl ((congrArg Array.toList sm.pend).trans pd) ?_ ?_ ?_)
  ·refine key.trans ?_
   simp only [List.append_assoc]
  ·have mz:∀{c},c∈z.toList->c∈X.drop k∨c∈Y.take m:=λh=>List.mem_append.mp (hz.mem_iff.mp h)
   refine List.pairwise_append.mpr ⟨sX.sublist (List.take_sublist ..),List.pairwise_append.mpr ⟨o.1,sY.sublist (List.drop_sublist ..),λc hc y hy=>?_⟩,λx hx c hc=>?_⟩
   ·rcases mz hc with h | h
    ·exact g2 y hy c (List.mem_of_mem_drop h)
    ·have:=List.pairwise_append.mp (show dZ (Y.take m++Y.drop m) by rw [List.take_append_drop];exact sY)
     exact this.2.2 c h y hy
   ·rcases List.mem_append.mp hc with hc | hc
    ·rcases mz hc with h | h
     ·have:=List.pairwise_append.mp (show dZ (X.take k++X.drop k) by rw [List.take_append_drop];exact sX)
      exact this.2.2 x hx c h
     ·exact f1 x hx c (List.mem_of_mem_take h)
    ·exact f1 x hx c (List.mem_of_mem_drop hc)
  ·refine ((hz.append_right (Y.drop m)).append_left (X.take k)).trans ?_
   rw [List.append_assoc,List.take_append_drop,<- List.append_assoc,List.take_append_drop]
 split
 ·refine wpS_bind (Bn (by exact hk) vX vY (by omega) (by omega) (by rw [xl];exact sx) (by rw [yl];exact sy) (ff _ (by simp)) (λy hy x hx=>?_) λz st' sm o=>fin z st' sm o)
  have:x=xs[xs.size-1]'(by omega):=by
   rw [List.getLast?_eq_getElem?,Array.length_toList,Array.getElem?_toList,Array.getElem?_eq_getElem (by omega)] at hx
   exact (Option.some.inj hx).symm
  rw [this]
  exact ll y hy
 ·exact wpS_bind (Bm (by exact hk) vX vY (by omega) (by omega) (by rw [xl];exact sx) (by rw [yl];exact sy) ff ll λz st' sm o=>fin z st' sm o)
end
end Tim
namespace Tim
open PySem PyProof.Rows
def Dn (xs:Array Keyed) (lo hi:Nat):Prop:=∀ i j,lo<=i->i<=j->j<hi->K xs j<=K xs i
structure Fr (lo:Nat) (st st':SortSt):Prop where
 kind:kindOf st'=kindOf st
 failed:failedOf st'=failedOf st
 pend:pendingOf st'=pendingOf st
 perm:(arrOf st').Perm (arrOf st)
 low:∀ i,i<lo->(arrOf st')[i]?=(arrOf st)[i]?
theorem Fr.refl (lo:Nat) (st:SortSt):Fr lo st st:=⟨rfl,rfl,rfl,Array.Perm.refl _,λ_ _=>rfl⟩
theorem Fr.trans {lo:Nat} {a b c:SortSt} (h:Fr lo a b) (g:Fr lo b c):Fr lo a c :=
 ⟨g.kind.trans h.kind,g.failed.trans h.failed,g.pend.trans h.pend,g.perm.trans h.perm,λi hi=>(g.low i hi).trans (h.low i hi)⟩
theorem Fr.size {lo:Nat} {st st':SortSt} (h:Fr lo st st'):(arrOf st').size=(arrOf st).size:=h.perm.size_eq
theorem Fr.kK {lo:Nat} {st st':SortSt} (h:Fr lo st st') (n:c9 (arrOf st)):c9 (arrOf st'):=λp hp=>n p ((Array.perm_iff_toList_perm.mp h.perm).mem_iff.mp hp)
theorem Fr.yH {lo i j:Nat} {st:SortSt} (hi:lo<=i) (hj:j<=(arrOf st).size):Fr lo st (setArr st (mirror (arrOf st) i j ((j-i)/2))) :=
 ⟨rfl,rfl,rfl,mirror_perm _ _ _ _,λk hk=>by
  show (mirror (arrOf st) i j ((j-i)/2))[k]?=_
  rw [getElem?_mirror_all hj,if_neg (by omega)]⟩
theorem oG {xs:Array Keyed} {i j:Nat} (hj:j<=xs.size) (e:∀ k,i<=k->k<j->K xs k=K xs (j-1)) (k:Nat):K (mirror xs i j ((j-i)/2)) k=K xs k:=by
 rw [K_mirror hj]
 split
 ·rw [e _ (by omega) (by omega),e k (by omega) (by omega)]
 ·rfl
theorem Up.next {xs:Array Keyed} {lo x:Nat} (h:Up xs lo (lo+x)) (hx:1<=x) (c:¬K xs (lo+x)<K xs (lo+x-1)):Up xs lo (lo+(x+1)):=by
 intro i j h1 h2 h3
 by_cases e:j<lo+x
 ·exact h i j h1 h2 e
 ·obtain rfl:j=lo+x:=by omega
  by_cases e':i=lo+x
  ·rw [e'];exact Int.le_refl _
  ·exact Int.le_trans (h i (lo+x-1) h1 (by omega) (by omega)) (Int.not_lt.mp c)
theorem Dn.next {xs:Array Keyed} {lo x:Nat} (h:Dn xs lo (lo+x)) (hx:1<=x) (c:K xs (lo+x)<=K xs (lo+x-1)):Dn xs lo (lo+(x+1)):=by
 intro i j h1 h2 h3
 by_cases e:j<lo+x
 ·exact h i j h1 h2 e
 ·obtain rfl:j=lo+x:=by omega
  by_cases e':i=lo+x
  ·rw [e'];exact Int.le_refl _
  ·exact Int.le_trans c (h i (lo+x-1) h1 (by omega) (by omega))
theorem Dn.yH {xs:Array Keyed} {lo hi:Nat} (d:Dn xs lo hi) (h:hi<=xs.size):Up (mirror xs lo hi ((hi-lo)/2)) lo hi:=λi j a b c=>by
 rw [K_mirror h,K_mirror h,if_pos (by omega),if_pos (by omega)]
 exact d _ _ (by omega) (by omega) (by omega)
section
variable {prog:Program} {w:World} {A:Around} {E:Value->Shared->Prop} {s:Shared}
theorem ki {st:SortSt} {i j:Nat} {Q:Option Bool->SortSt->Prop} (hk:kindOf st=oneType') (hn:c9 (arrOf st)) (hi:i<(arrOf st).size) (hj:j<(arrOf st).size)
  (h1:K (arrOf st) i<K (arrOf st) j->Q (some true) st) (h2:¬K (arrOf st) i<K (arrOf st) j->Q (some false) st):wpS (model prog w) A E s (ltAt' i j) Q st:=by
 rw [ltAt'_eq]
 refine wpS_bind (wpS_get ?_)
 refine wpS_bind (el hi (wpS_bind (el hj (lD hk (hn.at hi) (hn.at hj) ?_))))
 rw [<- iO hi,<- iO hj]
 by_cases c:K (arrOf st) i<K (arrOf st) j
 ·rw [decide_eq_true c];exact h1 c
 ·rw [decide_eq_false c];exact h2 c
theorem asc {st:SortSt} {lo nrem a:Nat} {f:Nat->Option (Option Nat) × Nat->StateT SortSt Sem (ForInStep (Option (Option Nat) × Nat))} {Q:Option (Option Nat) × Nat->SortSt->Prop}
  (hf:∀ x n Q',1<=n->n<nrem->(K (arrOf st) (lo+n)<K (arrOf st) (lo+n-1)->Q' (ForInStep.done (none,n)) st)->(¬K (arrOf st) (lo+n)<K (arrOf st) (lo+n-1)->Q' (ForInStep.yield (none,n+1)) st)->wpS (model prog w) A E s (f x (none,n)) Q' st)
  (ha:1<=a) (han:a<=nrem) (up:Up (arrOf st) lo (lo+a))
  (q:∀ n,a<=n->n<=nrem->Up (arrOf st) lo (lo+n)->(n=nrem∨K (arrOf st) (lo+n)<K (arrOf st) (lo+n-1))->Q (none,n) st):wpS (model prog w) A E s (forIn [a:nrem] (none,a) f) Q st:=by
 refine wpS_forRange (I:=λx c st'=>st'=st/\c=(none,x)/\Up (arrOf st) lo (lo+x)) ?step ?fin ⟨rfl,rfl,up⟩
 case fin =>
  rintro c st' ⟨rfl,rfl,u⟩
  rw [show max a nrem=nrem by omega] at u ⊢
  exact q nrem han (Nat.le_refl _) u (.inl rfl)
 case step =>
  rintro x c st' h1 h2 ⟨rfl,rfl,u⟩
  exact hf x x _ (by omega) h2 (λc=>q x h1 (by omega) u (.inr c)) λc=>⟨rfl,rfl,u.next (by omega) c⟩
theorem cnt {st:SortSt} {lo nrem:Nat} {Q:Option Nat->SortSt->Prop} (hk:kindOf st=oneType') (hn:c9 (arrOf st)) (h1:1<=nrem) (hz:lo+nrem<=(arrOf st).size)
  (q:∀ m st',Fr lo st st'->1<=m->m<=nrem->Up (arrOf st') lo (lo+m)->Q (some m) st'):wpS (model prog w) A E s (countRun' lo nrem) Q st:=by
 unfold countRun'
 refine wpS_bind (asc (lo:=lo) ?_ (Nat.le_refl 1) h1 (λi j a b c=>by rw [show i=j by omega];exact Int.le_refl _) λn n1 n2 u o=>?_)
 ·intro x n Q' a b q1 q2
  dsimp only
  exact wpS_bind (ki hk hn (by omega) (by omega) (λc=>wpS_pure (q1 c)) λc=>wpS_pure (q2 c))
 dsimp only
 by_cases e1:n=nrem
 ·rw [if_pos (by simpa using e1)]
  exact wpS_pure (q n st (Fr.refl _ _) n1 n2 u)
 rw [if_neg (by simpa using e1)]
 have lt:=o.resolve_left e1
 by_cases e2:n > 1
 case' pos =>
  rw [if_pos e2]
  refine wpS_bind (ki hk hn (by omega) (by omega) (λc=>wpS_pure (q n st (Fr.refl _ _) n1 n2 u)) λc=>?_)
  dsimp only
  rw [if_neg (by simp)]
  have all:∀ k,lo<=k->k<lo+n->K (arrOf st) k=K (arrOf st) (lo+n-1):=λk a b=>by
   have:=u lo k (Nat.le_refl _) a b
   have:=u k (lo+n-1) a (by omega) (by omega)
   omega
  refine wpS_bind (wpS_reverse ?_)
  have km:=oG (xs:=arrOf st) (i:=lo) (j:=lo+n) (by omega) all
  obtain⟨st1,hst1,fr,d⟩:∃ st1,setArr st (mirror (arrOf st) lo (lo+n) ((lo+n-lo)/2))=st1/\Fr lo st st1/\Dn (arrOf st1) lo (lo+(n+1)):=by
   refine⟨_,rfl,Fr.yH (Nat.le_refl _) (by omega),Dn.next (λi j a b c=>?_) n1 ?_⟩
   ·show K (mirror _ _ _ _) j<=K (mirror _ _ _ _) i
    rw [km,km,all i a (by omega),all j (by omega) c];exact Int.le_refl _
   ·show K (mirror _ _ _ _) _<=K (mirror _ _ _ _) _
    rw [km,km];exact Int.le_of_lt lt
  rw [hst1]
 case' neg =>
  rw [if_neg e2]
  obtain rfl:n=1:=by omega
  obtain⟨fr,d⟩:Fr lo st st/\Dn (arrOf st) lo (lo+(1+1)):=by
   refine⟨Fr.refl _ _,Dn.next (λi j a b c=>?_) (Nat.le_refl _) (Int.le_of_lt lt)⟩
   rw [show i=j by omega];exact Int.le_refl _
 all_goals
  refine wpS_bind (wpS_lift (wpAny_rule ⟨rfl,?_⟩))
  refine wpS_bind (wpS_mono (wpS_forRange (I:=λx c st2=>∃ neq,c=(none,x,neq)/\Fr lo st st2/\Dn (arrOf st2) lo (lo+x)/\neq+1<=x/\(∀ i,lo+x-(neq+1)<=i->i<lo+x->K (arrOf st2) i=K (arrOf st2) (lo+x-1)))
   (Q:=λc st2=>∃ x neq,c=(none,x,neq)/\Fr lo st st2/\Dn (arrOf st2) lo (lo+x)/\1<=x/\x<=nrem/\neq+1<=x/\(∀ i,lo+x-(neq+1)<=i->i<lo+x->K (arrOf st2) i=K (arrOf st2) (lo+x-1)))
   ?step ?fin ⟨0,rfl,fr,d,by omega,λi a b=>by congr 1;omega⟩) ?post)
  case fin =>
   rintro c st2 ⟨neq,rfl,f2,d2,l2,e⟩
   rw [Nat.max_eq_right (by omega)] at d2 l2 e ⊢
   exact⟨_,neq,rfl,f2,d2,h1,Nat.le_refl _,l2,e⟩
  case step =>
   rintro x c st2 x1 x2 ⟨neq,rfl,f2,d2,l2,e⟩
   dsimp only
   have z2:=f2.size
   have k2:=f2.kind.trans hk
   refine wpS_bind (ki k2 (f2.kK hn) (by omega) (by omega) (λc=>?_) λc=>?_)
   ·dsimp only
    rw [if_pos rfl]
    by_cases g:neq > 0
    ·rw [if_pos g]
     have km:=oG (xs:=arrOf st2) (i:=lo+x-(neq+1)) (j:=lo+x) (by omega) e
     refine wpS_bind (wpS_reverse (wpS_pure ⟨0,rfl,f2.trans (Fr.yH (by omega) (by omega)),Dn.next (λi j a b c=>?_) (by omega) ?_,by omega,λi a b=>by congr 1;omega⟩))
     ·show K (mirror _ _ _ _) j<=K (mirror _ _ _ _) i
      rw [km,km];exact d2 i j a b c
     ·show K (mirror _ _ _ _) _<=K (mirror _ _ _ _) _
      rw [km,km];exact Int.le_of_lt c
    ·rw [if_neg g]
     exact wpS_pure ⟨0,rfl,f2,d2.next (by omega) (Int.le_of_lt c),by omega,λi a b=>by congr 1;omega⟩
   ·dsimp only
    rw [if_neg (by simp)]
    refine wpS_bind (ki k2 (f2.kK hn) (by omega) (by omega) (λc'=>?_) λc'=>?_)
    ·exact wpS_pure ⟨x,neq,rfl,f2,d2,by omega,by omega,l2,e⟩
    ·have eq:K (arrOf st2) (lo+x)=K (arrOf st2) (lo+x-1):=by omega
     refine wpS_pure ⟨neq+1,rfl,f2,d2.next (by omega) (by omega),by omega,λi a b=>?_⟩
     rw [show lo+(x+1)-1=lo+x by omega]
     by_cases g:i=lo+x
     ·rw [g]
     ·rw [eq];exact e i (by omega) (by omega)
  case post =>
   rintro c st2 ⟨x,neq,rfl,f2,d2,x1,x2,l2,e⟩
   dsimp only
   have z2:=f2.size
   by_cases g:neq > 0
   case' pos =>
    rw [if_pos g]
    have km:=oG (xs:=arrOf st2) (i:=lo+x-(neq+1)) (j:=lo+x) (by omega) e
    refine wpS_bind (wpS_reverse ?_)
    obtain⟨st3,hst3,f3,d3⟩:∃ st3,setArr st2 (mirror (arrOf st2) (lo+x-(neq+1)) (lo+x) ((lo+x-(lo+x-(neq+1)))/2))=st3/\Fr lo st st3/\Dn (arrOf st3) lo (lo+x):=by
     refine⟨_,rfl,f2.trans (Fr.yH (by omega) (by omega)),λi j a b c=>?_⟩
     show K (mirror _ _ _ _) j<=K (mirror _ _ _ _) i
     rw [km,km];exact d2 i j a b c
    rw [hst3]
   case' neg =>
    rw [if_neg g]
    have f3:=f2
    have d3:=d2
   all_goals
    have z3:=f3.size
    refine wpS_bind (wpS_reverse ?_)
    have f4:=f3.trans (Fr.yH (i:=lo) (j:=lo+x) (Nat.le_refl _) (by omega))
    have u4:=d3.yH (by omega)
    have z4:=f4.size
    refine wpS_bind (asc (lo:=lo) ?_ x1 x2 u4 λn n1 n2 u o=>?_)
    ·intro x n Q' a b q1 q2
     dsimp only
     exact wpS_bind (ki (f4.kind.trans hk) (f4.kK hn) (by omega) (by omega) (λc=>wpS_pure (q1 c)) λc=>wpS_pure (q2 c))
    ·exact wpS_pure (q n _ f4 (by omega) n2 u)
theorem Bg {lo k l:Nat} {xs:Array Keyed} (u:Up xs lo (lo+k)) (hk:lo+k<xs.size) (hl:l<=k) (h1:∀ i,i<l->K xs (lo+i)<=K xs (lo+k)) (h2:∀ i,l<=i->i<k->K xs (lo+k)<K xs (lo+i)) :
  Up (bubble xs (lo+k) (lo+k-(lo+l))) lo (lo+(k+1)):=by
 have h1':∀ i,lo<=i->i<lo+l->K xs i<=K xs (lo+k):=λi a b=>by have:=h1 (i-lo) (by omega);rwa [show lo+(i-lo)=i by omega] at this
 have h2':∀ i,lo+l<=i->i<lo+k->K xs (lo+k)<K xs i:=λi a b=>by have:=h2 (i-lo) (by omega) (by omega);rwa [show lo+(i-lo)=i by omega] at this
 intro i j a b c
 rw [K_bubble hk (by omega),K_bubble hk (by omega)]
 repeat' split
 all_goals first
  | (exfalso;omega)
  | exact Int.le_refl _
  | exact h1' _ (by omega) (by omega)
  | exact Int.le_of_lt (h2' _ (by omega) (by omega))
  | exact u _ _ (by omega) (by omega) (by omega)
theorem bin {st:SortSt} {lo n ok:Nat} {Q:Bool->SortSt->Prop} (hk:kindOf st=oneType') (hn:c9 (arrOf st)) (hz:lo+n<=(arrOf st).size) (h1:1<=ok) (ho:ok<=n) (u:Up (arrOf st) lo (lo+ok))
  (q:∀ st',Fr lo st st'->Up (arrOf st') lo (lo+n)->Q true st'):wpS (model prog w) A E s (binarySort' lo n ok) Q st:=by
 unfold binarySort'
 refine wpS_bind (wpS_mono (wpS_forRange (I:=λk c st'=>c=(none,())/\Fr lo st st'/\Up (arrOf st') lo (lo+k))
  (Q:=λc st'=>c=(none,())/\Fr lo st st'/\Up (arrOf st') lo (lo+n)) ?step ?fin ⟨rfl,Fr.refl _ _,by rw [Nat.max_eq_left h1];exact u⟩) ?post)
 case post =>
  rintro c st' ⟨rfl,f,u'⟩
  exact wpS_pure (q st' f u')
 case fin =>
  rintro c st' ⟨rfl,f,u'⟩
  rw [show max (max ok 1) n=n by omega] at u'
  exact⟨rfl,f,u'⟩
 case step =>
  rintro k c st' k1 k2 ⟨rfl,f,u'⟩
  have z:=f.size
  dsimp only
  refine wpS_bind (wpS_mono (wpS_forRange (I:=λx c st2=>st2=st'/\∃ l r,c=(none,l,r)/\l<=r/\r<=k/\r-l<=k-x/\(∀ i,i<l->K (arrOf st') (lo+i)<=K (arrOf st') (lo+k))/\(∀ i,r<=i->i<k->K (arrOf st') (lo+k)<K (arrOf st') (lo+i)))
   (Q:=λc st2=>st2=st'/\∃ l,c=(none,l,l)/\l<=k/\(∀ i,i<l->K (arrOf st') (lo+i)<=K (arrOf st') (lo+k))/\(∀ i,l<=i->i<k->K (arrOf st') (lo+k)<K (arrOf st') (lo+i)))
   ?istep ?ifin ⟨rfl,0,k,rfl,by omega,by omega,by omega,λi hi=>by omega,λi a b=>by omega⟩) ?ipost)
  case ifin =>
   rintro c st2 ⟨rfl,l,r,rfl,a,b,d,e,g⟩
   obtain rfl:l=r:=by omega
   exact⟨rfl,l,rfl,b,e,g⟩
  case istep =>
   rintro x c st2 _ hx ⟨rfl,l,r,rfl,a,b,d,e,g⟩
   dsimp only
   by_cases o:l≥r
   ·rw [if_pos o]
    obtain rfl:l=r:=by omega
    exact wpS_pure ⟨rfl,l,rfl,b,e,g⟩
   ·rw [if_neg o]
    refine wpS_bind (ki (f.kind.trans hk) (f.kK hn) (by omega) (by omega) (λc=>?_) λc=>?_)
    ·exact wpS_pure ⟨rfl,_,_,rfl,by omega,by omega,by omega,e,λi h1 h2=>Int.lt_of_lt_of_le c (u' _ _ (by omega) (by omega) (by omega))⟩
    ·exact wpS_pure ⟨rfl,_,_,rfl,by omega,by omega,by omega,λi h1=>Int.le_trans (u' _ _ (by omega) (by omega) (by omega)) (Int.not_lt.mp c),g⟩
  case ipost =>
   rintro c st2 ⟨rfl,l,rfl,a,b,d⟩
   dsimp only
   refine wpS_bind (wpS_modify (wpS_pure ⟨rfl,f.trans ⟨rfl,rfl,rfl,bubble_perm _ _ _,λi hi=>?_⟩,Bg u' (show lo+k<(arrOf st2).size by omega) a b d⟩))
   have:=getElem?_bubble (xs:=arrOf st2) (src:=lo+k) (by omega) (lo+k-(lo+l)) (by omega) i
   rw [if_neg (by omega),if_neg (by omega)] at this
   exact this
end
end Tim
namespace Tim
open PySem PyProof.Rows
def Pd:Nat->List (Nat × Nat × Nat)->List (List Keyed)->Prop
 | _,[],[]=>True
 | o,x::p,r::rs=>x.1=o/\x.2.1=r.length/\0<r.length/\dZ r/\Pd (o+r.length) p rs
 | _,_,_=>False
theorem Pd.len:∀{o:Nat} {p:List (Nat × Nat × Nat)} {rs:List (List Keyed)},Pd o p rs->p.length=rs.length/\p.length<=rs.flatten.length
 | _,[],[],_=>⟨rfl,Nat.zero_le _⟩
 | _,x::p,r::rs,h=>by
  have:=Pd.len h.2.2.2.2
  have h2:=h.2.2.1
  simp only [List.length_cons,List.flatten_cons,List.length_append]
  omega
theorem Pd.push:∀{o:Nat} {p:List (Nat × Nat × Nat)} {rs:List (List Keyed)} {r:List Keyed} {z:Nat},Pd o p rs->0<r.length->dZ r->Pd o (p++[(o+rs.flatten.length,r.length,z)]) (rs++[r])
 | o,[],[],r,z,h,n,s=>⟨rfl,rfl,n,s,trivial⟩
 | o,x::p,r'::rs,r,z,h,n,s=>by
  have:=Pd.push (z:=z) h.2.2.2.2 n s
  rw [Nat.add_assoc] at this
  refine⟨h.1,h.2.1,h.2.2.1,h.2.2.2.1,?_⟩
  rw [List.flatten_cons,List.length_append]
  exact this
theorem Pd.alike:∀{o:Nat} {p p':List (Nat × Nat × Nat)} {rs:List (List Keyed)},Pd o p rs->p'.map (λx=>(x.1,x.2.1))=p.map (λx=>(x.1,x.2.1))->Pd o p' rs
 | _,[],[],[],_,_=>trivial
 | _,[],_::_,[],_,e=>by simp at e
 | _,_::_,[],_::_,_,e=>by simp at e
 | o,x::p,x'::p',r::rs,h,e=>by
  simp only [List.map_cons,List.cons.injEq,Prod.mk.injEq] at e
  exact⟨e.1.1.trans h.1,e.1.2.trans h.2.1,h.2.2.1,h.2.2.2.1,Pd.alike h.2.2.2.2 e.2⟩
theorem Pd.two:∀{i o:Nat} {p:List (Nat × Nat × Nat)} {rs:List (List Keyed)},Pd o p rs->i+1<p.length->∃ p1 pw pw' p2 rs1 X Y rs2,p1.length=i/\rs=rs1++X::Y::rs2 /\
   p=p1++(o+rs1.flatten.length,X.length,pw)::(o+rs1.flatten.length+X.length,Y.length,pw')::p2/\dZ X/\dZ Y/\0<X.length/\0<Y.length /\
   ∀ C z,dZ C->C.length=X.length+Y.length->Pd o (p1++(o+rs1.flatten.length,X.length+Y.length,z)::p2) (rs1++C::rs2)
 | 0,o,x::y::p,X::Y::rs,h,_=>by
  obtain⟨x1,x2,x3⟩:=x
  obtain⟨y1,y2,y3⟩:=y
  obtain⟨a,b,c,d,e,f,g,h,k⟩:=h
  simp only at a b e f
  subst a b e f
  exact⟨[],x3,y3,p,[],X,Y,rs,rfl,rfl,rfl,d,h,c,g,λC z s l=>⟨rfl,l.symm,by omega,s,by rw [l,<- Nat.add_assoc];exact k⟩⟩
 | i+1,o,x::p,X::rs,h,l=>by
  obtain⟨p1,pw,pw',p2,rs1,X',Y',rs2,e1,e2,e3,s1,s2,n1,n2,f⟩:=Pd.two (i:=i) h.2.2.2.2 (by simp at l ⊢;omega)
  refine⟨x::p1,pw,pw',p2,X::rs1,X',Y',rs2,by simp [e1],by rw [e2];rfl,?_,s1,s2,n1,n2,λC z s l=>⟨h.1,h.2.1,h.2.2.1,h.2.2.2.1,?_⟩⟩
  ·rw [e3];simp [Nat.add_assoc]
  ·have:=f C z s l
   simpa [Nat.add_assoc] using this
 | 0,_,[_],[_],_,l=>by simp at l
 | 0,_,_::_::_,[_],h,_=>h.2.2.2.2.elim
structure Ws (a₀:Array Keyed) (T:List Keyed) (lo:Nat) (st:SortSt):Prop where
 kind:kindOf st=oneType'
 failed:failedOf st=none
 perm:(arrOf st).Perm a₀
 ex:∃ rs,Pd 0 (pendingOf st).toList rs/\rs.flatten.length=lo/\(arrOf st).toList=rs.flatten++T
theorem Ws.zA {a₀:Array Keyed} {T:List Keyed} {lo:Nat} {st:SortSt} (h:Ws a₀ T lo st):(pendingOf st).size<=lo:=by
 obtain⟨rs,h1,h2,h3⟩:=h.ex
 have:=h1.len.2
 rw [Array.length_toList] at this
 omega
theorem Ws.kK {a₀:Array Keyed} {T:List Keyed} {lo:Nat} {st:SortSt} (h:Ws a₀ T lo st) (n:c9 a₀):c9 (arrOf st):=λp hp=>n p ((Array.perm_iff_toList_perm.mp h.perm).mem_iff.mp hp)
theorem vn {f:Nat × Nat × Nat->Nat × Nat × Nat} (hf:∀ x,((f x).1,(f x).2.1)=(x.1,x.2.1)) (p:Array (Nat × Nat × Nat)) (i:Nat):(p.modify i f).toList.map (λx=>(x.1,x.2.1))=p.toList.map (λx=>(x.1,x.2.1)):=by
 refine List.ext_getElem? λj=>?_
 rw [List.getElem?_map,List.getElem?_map,Array.getElem?_toList,Array.getElem?_toList,Array.getElem?_modify]
 split
 ·cases p[j]? with
  | none=>rfl
  | some x=>simp only [Option.map_some];rw [hf]
 ·rfl
theorem y9 (c:Prop) [Decidable c] (p:Nat) (h:¬p<=1):(if c then p-2-1 else p-2)+1<p:=by split<;>omega
section
variable {prog:Program} {w:World} {A:Around} {E:Value->Shared->Prop} {s:Shared} {a₀:Array Keyed} {T:List Keyed} {lo:Nat}
theorem zm {st:SortSt} {i:Nat} {Q:Bool->SortSt->Prop} (hn:c9 a₀) (h:Ws a₀ T lo st) (hi:i+1<(pendingOf st).size) (q:∀ st',Ws a₀ T lo st'->(pendingOf st').size+1=(pendingOf st).size->Q true st') :
  wpS (model prog w) A E s (mergeAt' i) Q st:=by
 obtain⟨rs,h1,h2,h3⟩:=h.ex
 obtain⟨p1,pw,pw',p2,rs1,X,Y,rs2,e1,e2,e3,sX,sY,nX,nY,f⟩:=h1.two (i:=i) (by rw [Array.length_toList];exact hi)
 simp only [Nat.zero_add] at e3 f
 have ha:(arrOf st).toList=rs1.flatten++(X++(Y++(rs2.flatten++T))):=by rw [h3,e2];simp
 refine Bl h.kind (h.kK hn) h.failed e3 e1 ha sX sY nX nY λst' C k fl pd ar sC pC=>q st' ⟨k,fl,?_,rs1++C::rs2,?_,?_,?_⟩ ?_
 ·refine Array.perm_iff_toList_perm.mpr (List.Perm.trans ?_ (Array.perm_iff_toList_perm.mp h.perm))
  rw [ar,ha]
  refine List.Perm.append_left _ ?_
  rw [<- List.append_assoc X]
  exact pC.append_right _
 ·rw [pd];exact f C pw sC (by rw [pC.length_eq];simp)
 ·rw [<- h2,e2]
  have:=pC.length_eq
  simp only [List.flatten_append,List.flatten_cons,List.length_append] at this ⊢
  omega
 ·rw [ar];simp
 ·rw [<- Array.length_toList,<- Array.length_toList,pd,e3];simp;omega
theorem runs {st:SortSt} {Q:Unit->SortSt->Prop} (hn:c9 a₀) (hk:kindOf st=oneType') (hf:failedOf st=none) (hp:pendingOf st=#[]) (ha:arrOf st=a₀) (h2:2<=a₀.size)
  (q:∀ st',(arrOf st').Perm a₀->failedOf st'=none->dZ (arrOf st').toList->Q () st'):wpS (model prog w) A E s sortRuns' Q st:=by
 unfold sortRuns'
 refine wpS_bind (wpS_get ?_)
 have hz:(arrOf st).size=a₀.size:=by rw [ha]
 dsimp only
 simp only [hz]
 generalize (sortPriv% PySem.Builtin.minRun) a₀.size a₀.size 0=mr
 refine wpS_bind (wpS_mono (wpS_forRange (I:=λx c st'=>∃ lo T,c=(none,lo)/\Ws a₀ T lo st'/\x<=lo/\lo+T.length=a₀.size) (Q:=λc st'=>c=(none,a₀.size)/\Ws a₀ [] a₀.size st')
  ?step ?fin ⟨0,a₀.toList,rfl,⟨hk,hf,by rw [ha],[],by rw [hp];trivial,rfl,by rw [ha];simp⟩,Nat.le_refl _,by simp⟩) ?post)
 case fin =>
  rintro c st' ⟨lo,T,rfl,W,x1,x2⟩
  rw [Nat.max_eq_right (Nat.zero_le _)] at x1
  obtain rfl:T=[]:=List.length_eq_zero_iff.mp (by omega)
  obtain rfl:lo=a₀.size:=by simpa using x2
  exact⟨rfl,W⟩
 case step =>
  rintro x c st1 _ hx ⟨lo,T,rfl,W,x1,x2⟩
  dsimp only
  by_cases e0:lo≥a₀.size
  ·rw [if_pos e0]
   obtain rfl:T=[]:=List.length_eq_zero_iff.mp (by omega)
   obtain rfl:lo=a₀.size:=by simpa using x2
   exact wpS_pure ⟨rfl,W⟩
  rw [if_neg e0]
  have z1:(arrOf st1).size=a₀.size:=W.perm.size_eq
  refine wpS_bind (cnt W.kind (W.kK hn) (by omega) (show lo+(a₀.size-lo)<=(arrOf st1).size by omega) λm st2 fr m1 m2 u=>?_)
  dsimp only
  have back:∀(n:Nat) (st3:SortSt),Fr lo st1 st3->1<=n->n<=a₀.size-lo->Up (arrOf st3) lo (lo+n)->∃ r T',Ws a₀ (r++T') lo st3/\r.length=n/\dZ r/\lo+n+T'.length=a₀.size:=by
   intro n st3 f n1 n2 u3
   obtain⟨rs,p1,p2,p3⟩:=W.ex
   have z3:=f.size
   have tk:(arrOf st3).toList.take lo=rs.flatten:=by
    have:(arrOf st3).toList.take lo=(arrOf st1).toList.take lo:=by
     refine List.ext_getElem? λj=>?_
     by_cases c:j<lo
     ·rw [List.getElem?_take_of_lt c,List.getElem?_take_of_lt c,Array.getElem?_toList,Array.getElem?_toList]
      exact f.low j c
     ·rw [List.getElem?_eq_none (by rw [List.length_take];omega),List.getElem?_eq_none (by rw [List.length_take];omega)]
    rw [this,p3,<- p2,List.take_left]
   refine⟨((arrOf st3).toList.drop lo).take n,((arrOf st3).toList.drop lo).drop n,⟨f.kind.trans W.kind,f.failed.trans W.failed,f.perm.trans W.perm,rs,?_,p2,?_⟩,?_,rJ u3,?_⟩
   ·rw [f.pend];exact p1
   ·rw [List.take_append_drop,<- tk,List.take_append_drop]
   ·simp;omega
   ·simp;omega
  have last:∀(n:Nat) (r T':List Keyed) (st3 st4:SortSt),Ws a₀ (r++T') lo st3->r.length=n->dZ r->1<=n->lo+n+T'.length=a₀.size->kindOf st4=kindOf st3->failedOf st4=failedOf st3->arrOf st4=arrOf st3->pendingOf st4=(pendingOf st3).push (lo,n,0)->Ws a₀ T' (lo+n) st4:=by
   intro n r T' st3 st4 W3 l3 s3 n1 _ a b c d
   obtain⟨rs,p1,p2,p3⟩:=W3.ex
   refine⟨a.trans W3.kind,b.trans W3.failed,by rw [c];exact W3.perm,rs++[r],?_,?_,?_⟩
   ·rw [d,Array.toList_push]
    have:=p1.push (z:=0) (r:=r) (by omega) s3
    rw [Nat.zero_add,p2,l3] at this
    exact this
   ·simp [p2,l3]
   ·rw [c,p3];simp
  have z2:=fr.size
  by_cases e1:m<mr
  case' pos =>
   rw [if_pos e1]
   refine wpS_bind (wpS_lift (wpAny_rule ⟨rfl,?_⟩))
   refine wpS_bind (bin (n:=min (a₀.size-lo) (mr)) (fr.kind.trans W.kind) (fr.kK (W.kK hn)) (show lo+min (a₀.size-lo) (mr)<=(arrOf st2).size by omega) m1 (by omega) u λst3 fr3 u3=>?_)
   rw [if_neg (by simp)]
   obtain⟨r,T',W3,l3,s3,t3⟩:=back _ st3 (fr.trans fr3) (by omega) (by omega) u3
   have n1:1<=min (a₀.size-lo) (mr):=by omega
  case' neg =>
   rw [if_neg e1]
   obtain⟨r,T',W3,l3,s3,t3⟩:=back m st2 fr m1 m2 u
   have n1:=m1
  all_goals
   refine wpS_bind (wpS_get ?_)
   split
   ·refine wpS_bind (wpS_mono (wpS_forRange (I:=λ_ c st'=>c=(none,())/\Ws a₀ (r++T') lo st') (Q:=λc st'=>c=(none,())/\Ws a₀ (r++T') lo st') ?step3 (λ_ _ h=>h) ⟨rfl,W3⟩) ?post3)
    case step3 =>
     rintro y c st' _ hy ⟨rfl,W'⟩
     refine wpS_bind (wpS_get ?_)
     by_cases g:(pendingOf st').size > 1
     ·rw [if_pos g,Array.getElem?_eq_getElem (show (pendingOf st').size-2<(pendingOf st').size by omega)]
      dsimp only
      split
      ·exact wpS_pure ⟨rfl,W'⟩
      ·refine wpS_bind (zm hn W' (show (pendingOf st').size-2+1<(pendingOf st').size by omega) λst'' W'' _=>?_)
       exact wpS_pure ⟨rfl,W''⟩
     ·rw [if_neg g]
      exact wpS_pure ⟨rfl,W'⟩
    case post3 =>
     rintro c st' ⟨rfl,W'⟩
     have W4:∀ pw,Ws a₀ (r++T') lo (setPending st' ((pendingOf st').modify ((pendingOf st').size-1) λx=>(x.1,x.2.1,pw))):=λpw=>by
      obtain⟨rs,p1,p2,p3⟩:=W'.ex
      exact⟨W'.kind,W'.failed,W'.perm,rs,p1.alike (vn (f:=λx=>(x.1,x.2.1,pw)) (λ_=>rfl) _ _),p2,p3⟩
     refine wpS_bind (wpS_modify ?_)
     refine wpS_bind (wpS_modify ?_)
     exact wpS_pure ⟨_,T',rfl,last _ r T' _ _ (W4 _) l3 s3 n1 t3 rfl rfl rfl rfl,by omega,t3⟩
   ·exact wpS_bind (wpS_modify (wpS_pure ⟨_,T',rfl,last _ r T' _ _ W3 l3 s3 n1 t3 rfl rfl rfl rfl,by omega,t3⟩))
 case post =>
  rintro c st1 ⟨rfl,W⟩
  dsimp only
  refine wpS_bind (wpS_mono (wpS_forRange (I:=λx c st'=>c=(none,())/\Ws a₀ [] a₀.size st'/\(pendingOf st').size+x<=a₀.size+1) (Q:=λc st'=>c=(none,())/\Ws a₀ [] a₀.size st'/\(pendingOf st').size<=1)
   ?step2 ?fin2 ⟨rfl,W,by have:=W.zA;omega⟩) ?post2)
  case fin2 =>
   rintro c st' ⟨rfl,W',h⟩
   rw [Nat.max_eq_right (Nat.zero_le _)] at h
   exact⟨rfl,W',by omega⟩
  case step2 =>
   rintro x c st' _ hx ⟨rfl,W',h⟩
   refine wpS_bind (wpS_get ?_)
   by_cases e:(pendingOf st').size<=1
   ·rw [if_pos e]
    exact wpS_pure ⟨rfl,W',e⟩
   ·rw [if_neg e]
    have fin:∀ i,i+1<(pendingOf st').size->wpS (model prog w) A E s (mergeAt' i) (λr st''=>r=true/\Ws a₀ [] a₀.size st''/\(pendingOf st'').size+(x+1)<=a₀.size+1) st':=λi hi =>
     zm hn W' hi λst'' W'' h'=>⟨rfl,W'',by omega⟩
    refine wpS_bind (wpS_mono (fin _ ?_) ?_)
    ·exact y9 _ _ e
    ·rintro r st'' ⟨rfl,W'',h'⟩
     exact wpS_pure ⟨rfl,W'',h'⟩
  case post2 =>
   rintro c st' ⟨rfl,W',h⟩
   refine wpS_pure (q st' W'.perm W'.failed ?_)
   obtain⟨rs,p1,p2,p3⟩:=W'.ex
   have l:=p1.len.1
   rw [Array.length_toList] at l
   rw [p3,List.append_nil]
   match rs,p1,l,p2 with
   | [],_,_,p2=>simp at p2;omega
   | [r],p1,_,_ =>
    match hpe:(pendingOf st').toList,p1 with
    | [x],p1=>simpa using p1.2.2.2.1
   | _::_::_,_,l,_=>simp at l;omega
end
end Tim
namespace Tim
open PySem PyProof.Rows
theorem nZ {vs:List Value} {ns:List Int} (hI:IntsAre vs ns):c9 (pairsOf vs):=hI.intKeys
theorem v5 {xs:Array Keyed} {k:Nat} (hk:k=xs.size) (h:dZ xs.toList):SortedTo xs k:=by
 subst hk
 have:=fq (xs:=xs) (a:=0) (n:=xs.size) (by omega) (by rw [List.drop_zero,List.take_of_length_le (by simp)];exact h)
 exact λi j h1 h2=>this i j (Nat.zero_le _) h1 (by omega)
section
variable {prog:Program} {w:World} {A:Around} {E:Value->Shared->Prop} {s:Shared}
theorem vV {a:Addr} {vs:List Value} {ns:List Int} {n:Nat} {P:Fin->Shared->Prop} (ho:s.heap.get? a=some (seqObj "list" vs.toArray n)) (hI:IntsAre vs ns) (hl:vs.length<=sizeLine)
  (h:∀(out:Array Value) (ns':List Int),IntsAre out.toList ns'->ns'.Perm ns->ns'.Pairwise (·<=·)->P (.done (.ret .none)) { s with heap:=sortedHeap s.heap a vs out }) :
  wpAny (model prog w) A (Builtin.«list.sort» ⟨[.ref a],[]⟩) P E s:=by
 by_cases uH:vs.length<64
 ·exact list_sort_tree ho hI uH h
 have sz:¬vs.toArray.size<2:=by rw [List.size_toArray];omega
 have lt:=Heap.lt_size ho
 rw [list_sort_plain]
 refine wpAny_bind (listItems_at ho rfl (wpAny_bind (listUpdate_at ho rfl ?_ (by simpa using hl) (by simp))))
 obtain⟨c,h1⟩:∃ c,(s.heap.update a (Obj.mapSeq λ_=>#[])).get? a=some (seqObj "list" #[] c):=⟨_,get?_update_seq ho _⟩
 refine wpAny_bind (seqEpoch_at h1 rfl ?_)
 refine wpAny_bind (wpAny_newTuple ?_ (by simpa using hl))
 refine wpAny_bind (wpAny_newList ?_ (by simp))
 refine wpAny_holding ?_
 have h2:(((s.heap.update a (Obj.mapSeq λ_=>#[])).push (seqObj "tuple" vs.toArray 0)).push (seqObj "list" #[] 0)).get? a=some (seqObj "list" #[] c):=by
  refine Eq.trans (Heap.get?_push_ne _ _ _ ?_) (Eq.trans (Heap.get?_push_ne _ _ _ ?_) h1)
  ·rw [size_push',Heap.size_update];exact Nat.ne_of_lt (Nat.lt_succ_of_lt lt)
  ·rw [Heap.size_update];exact Nat.ne_of_lt lt
 dsimp only
 rw [if_neg sz,if_neg sz]
 obtain⟨u,v,r,rfl⟩:∃ u v r,vs=u::v::r:=by
  match vs,uH with
  | u::v::r,_=>exact⟨u,v,r,rfl⟩
  | [_],uH=>simp at uH
  | [],uH=>simp at uH
 rw [keyKind_ints hI]
 refine wpAny_bind (wpAny_pure ?_)
 have run:=runs (prog:=prog) (w:=w) (A:=A) (E:=E) (s:={ s with heap:=((s.heap.update a (Obj.mapSeq λ_=>#[])).push (seqObj "tuple" (u::v::r).toArray 0)).push (seqObj "list" #[] 0) })
  (a₀:=pairsOf (u::v::r)) (st:=SortSt.mk' oneType' (pairsOf (u::v::r)) #[] 7 none)
  (Q:=λ_ t=>(arrOf t).Perm (pairsOf (u::v::r))/\failedOf t=none/\dZ (arrOf t).toList) (nZ hI) rfl rfl rfl rfl (by rw [pairsOf_size];simp) λt p f q=>⟨p,f,q⟩
 refine wpAny_bind (wpAny_mono run ?_ λ_ _ e=>e)
 rintro⟨_,t⟩ s' ⟨rfl,p,f,q⟩
 obtain⟨ns',i1,i2,i3⟩:=sorted_out hI p (v5 p.size_eq.symm q)
 refine wpAny_bind (seqEpoch_at h2 rfl ?_)
 refine wpAny_bind (listUpdate_at h2 rfl ?_ (by simp) ?_)
 ·dsimp only
  rw [f]
  simp only [bne_self_eq_false,Bool.false_eq_true,if_false]
  exact wpAny_pure (h _ ns' i1 i2 i3)
 ·rw [Array.size_map,p.size_eq,pairsOf_size]
  omega
end
end Tim
namespace L2
open PySem PySem.Spec PyProof.Rows
theorem fJ:∀{us:List Value} {ns:List Int},IntsAre us ns->Vals (ns.map V.int) us
 | _,_,.nil=>.nil
 | _,_,.cons n t h=>.cons ⟨t,rfl⟩ (fJ h)
def t6:List V->Hp->VK->Prop:=λxs H Q=>∃(a:Addr) (kvs:List (Key × V)) (ns:List Int),xs=[.ref a]/\H a=some (.dK kvs)/\kvs.map (·.1)=ns.map Sum.inl/\∀(p:Addr) (ns':List Int),ns'.Perm ns->ns'.Pairwise (·<=·)->H p=none->Q (.ref p) (upd H p (.lst (ns'.map V.int)))
theorem pQ:∀{us:List Value} {ns:List Int},us.length=ns.length->(∀(j:Nat) (v:Value),us[j]?=some v->∃ n t,ns[j]?=some n/\v=.int n t)->IntsAre us ns
 | [],[],_,_=>.nil
 | u::us,n::ns,hl,h=>by
  obtain⟨n',t,e1,e2⟩:=h 0 u rfl
  cases e1
  subst e2
  exact .cons _ t (pQ (by simpa using hl) λj v e=>by simpa using h (j+1) v (by simpa using e))
 | [],_::_,hl,_=>by simp at hl
 | _::_,[],hl,_=>by simp at hl
theorem kP {X:Cx} (hc:X.calm=true):cQ X (.builtin "sorted") t6:=by
 intro pins s σ H xs us Q I r h
 obtain⟨a,kvs,ns,rfl,ha,hk,q⟩:=h
 obtain⟨u,rfl,ru⟩:=vals1 r
 cases ru
 obtain⟨z,hd,vs,rel,dd⟩:=sg I.hok ha
 obtain⟨ep,da⟩:=dd.dictAt
 have kl:vs.map (·.1)=ns.map Sum.inl:=rel.keys.symm.trans hk
 have nl:vs.length=ns.length:=by have:=congrArg List.length kl;simpa using this
 have zl:vs.length<=sizeLine:=by rw [<- rel.length];exact z
 refine Calls.call_function_entry kind_sorted plain_sorted entry_sorted (args_sorted1 _) ?_
 refine wpAny_bind (m:=checkCount "sorted" 1 1 _) (wpAny_pure ?_)
 refine wpAny_bind (PySem.W.kdu_collect (A:=X.A.in1) (PySem.W.kdl_dict (knd:=aI X.prog X.w) (kvs:=vs) (ep:=ep) hd) (I.ok.hd hc) da zl λh' tk acc hk' hacc=>?_)
 have al:acc.toList.length=vs.length:=by rw [Array.length_toList];exact hacc.1
 have hI:IntsAre acc.toList ns:=pQ (al.trans nl) λj v e=>by
  obtain⟨k,x,e1,e2⟩:=hacc.2 j v (by rw [<- Array.getElem?_toList];exact e)
  have e3:(ns.map Sum.inl)[j]?=some k:=by rw [<- kl,List.getElem?_map,e1];rfl
  rw [List.getElem?_map] at e3
  obtain⟨n,e4,e5⟩:=Option.map_eq_some_iff.mp e3
  rcases bb e2 with⟨i,t,e6,e7⟩|⟨i,t,e6,e7⟩
  ·rw [e6] at e5
   cases e5
   exact⟨n,t,e4,e7⟩
  ·rw [e6] at e5
   cases e5
 refine wpAny_bind (wpAny_newList ?_ (by rw [al];exact zl))
 have z2:=Heap.get?_push_size h' (o:=seqObj "list" acc.toList.toArray 0) rfl
 refine wpAny_bind (wpAny_holding (wpAny_call_entry slot_list_sort ⟨_,z2,rfl⟩ entry_list_sort (Tim.vV z2 hI (by rw [al];exact zl) λout ns' a b c=>⟨_,rfl,wpAny_pure ⟨_,rfl,?_⟩⟩) (args_list_sort _)))
 have lt:∀ b o,s.heap.get? b=some o->b<h'.objs.size:=λb o e=>Heap.lt_size (hk' b o e)
 have old:∀ b o,s.heap.get? b=some o->(sortedHeap (h'.push (seqObj "list" acc.toList.toArray 0)) h'.objs.size acc.toList out).get? b=some o:=λb o e=>by
  rw [sortedHeap_old (Nat.ne_of_lt (lt b o e)) (by rw [Heap.size_push];exact Nat.lt_succ_of_lt (lt b o e))]
  exact Heap.get?_push_of_some _ (hk' b o e)
 have I0:Inv X pins σ H { s with heap:=h',toks:=tk }:=I.kept hk'
 have I1:Inv X pins σ H { s with heap:=sortedHeap (h'.push (seqObj "list" acc.toList.toArray 0)) h'.objs.size acc.toList out,toks:=tk }:=I.kept old
 obtain⟨e,he⟩:=sortedHeap_at (out:=out) z2
 have fT:H h'.objs.size=none:=I0.hok.fresh (Nat.le_refl _)
 have lo:ns'.length=acc.toList.length:=by rw [b.length_eq,<- nl,al]
 refine⟨.ref h'.objs.size,upd H h'.objs.size (.lst (ns'.map V.int)),?_,rfl,q _ ns' b c fT⟩
 exact I1.adopt (T:=h'.objs.size) (o:=.lst (ns'.map V.int)) (I0.ow (Nat.le_refl _) fT) ⟨by rw [List.length_map,lo,al];exact zl,out.toList,e,fJ a,he⟩
end L2
namespace Sst
open PySem
def Am (xs:Array Nat):Prop:=∀ i j,(h':i<j)->(h:j<xs.size)->xs[i]'(Nat.lt_trans h' h)<xs[j]
structure Led (t:SetTable):Prop where
 led:t.led=true
 rise:t.plain=true->Am t.place
end Sst
namespace Sst
open PySem
section
variable {prog:Program} {w:World} {A:Around} {E:Value->Shared->Prop} {s:Shared}
theorem stored {h:Heap} {a:Addr} {o:Obj} {es:Array (Int × Value)} {ep:Nat} {t:SetTable} (ho:h.get? a=some o) (hd:o.data=.set es ep t) (es':Array (Int × Value)) (t':SetTable) :
  (h.update a (Obj.putSet es' t')).get? a=some { o with data:=.set es' (ep+1) t' }:=by
 rw [<- putSet_of es' t' hd]
 exact Heap.get?_update_self (Obj.putSet es' t') ho (by rw [putSet_of es' t' hd];rfl)
end
end Sst
namespace Sst
open PySem PyProof.Rows
section
variable {prog:Program} {w:World} {A:Around} {E:Value->Shared->Prop} {s:Shared}
end
end Sst
namespace Sst
open PySem PyProof.Rows
section
variable {prog:Program} {w:World} {A:Around} {E:Value->Shared->Prop} {s:Shared}
end
end Sst
namespace Sst
open PySem PyProof.Rows
section
variable {prog:Program} {w:World} {A:Around} {E:Value->Shared->Prop} {s:Shared}
end
end Sst
namespace Sst
open PySem PyProof.Rows PySem.W
section
variable {prog:Program} {w:World} {A:Around} {E:Value->Shared->Prop} {s:Shared}
end
end Sst
set_option maxHeartbeats 3200000
namespace Dp
open PySem PyProof.Rows PySem.Spec
theorem j7:entryFor table "dict.update.loop"=some Builtin.«dict.update.loop»:=entryFor_of_tree (by kernel_rfl)
theorem fk:plainId "dict.update.loop"=true:=by decide +kernel
def dst (ps:List (L2.Key × Value)):List (L2.Key × Value):=ps.foldl (λacc p=>stored acc p.1 p.2) []
theorem iT (ps:List (L2.Key × Value)) (p:L2.Key × Value):dst (ps++[p])=stored (dst ps) p.1 p.2:=by
 unfold dst
 rw [List.foldl_append]
 rfl
theorem oW (kvs:List (L2.Key × Value)) (k:L2.Key) (v:Value):(stored kvs k v).length<=kvs.length+1:=by
 unfold stored
 split
 ·rw [List.length_map];omega
 ·rw [List.length_append];simp
theorem pG (ps:List (L2.Key × Value)):∀ n,(dst (ps.take n)).length<=n
 | 0=>Nat.le_refl _
 | n+1=>by
  have ih:=pG ps n
  rw [List.take_add_one]
  cases h:ps[n]? with
  | none =>
   simp only [Option.toList]
   rw [List.append_nil]
   omega
  | some p =>
   have:=oW (dst (ps.take n)) p.1 p.2
   show (dst (ps.take n++[p])).length<=_
   rw [iT]
   omega
section
variable {prog:Program} {w:World} {A:Around} {E:Value->Shared->Prop} {s:Shared}
def z9 (h:Heap) (D I:Addr) (items:Array Value) (ps:List (L2.Key × Value)):Prop:=∀(i:Nat) (v:Value),items[i]?=some v->∃(t:Addr) (u:Value) (p:L2.Key × Value),v=Value.ref t/\t≠D/\t≠I/\ps[i]?=some p/\L2.gi p.1 u=true/\h.IsTuple t #[u,p.2]
theorem z9.keep {h h':Heap} {D I:Addr} {items:Array Value} {ps:List (L2.Key × Value)} (x:z9 h D I items ps) (k:∀ b o,b≠D->b≠I->h.get? b=some o->h'.get? b=some o):z9 h' D I items ps:=λi v e=>by
 obtain⟨t,u,p,e1,e2,e3,e4,e5,o,g,r⟩:=x i v e
 exact⟨t,u,p,e1,e2,e3,e4,e5,o,k _ _ e2 e3 g,r⟩
theorem uA (hh:A.handled=none) {D I l:Addr} (hDI:D≠I) (hDl:D≠l) (hlI:l≠I) (items:Array Value) (ps:List (L2.Key × Value)) (hz:items.size<=sizeLine) (hps:ps.length=items.size) {R:Result->Shared->Prop} :
  ∀(k i:Nat) (s:Shared),items.size-i=k->i<=items.size->s.heap.IsListIter I l i->s.heap.IsList l items->s.heap.DictOf (L2.aI prog w) D (dst (ps.take i))->z9 s.heap D I items ps ->
   (∀ h' tk,(∀ b o,b≠D->b≠I->s.heap.get? b=some o->h'.get? b=some o)->h'.DictOf (L2.aI prog w) D (dst ps)->R (.ok (.ret .none)) { s with heap:=h',toks:=tk })->codeAny (model prog w) A (.builtin "dict.update.loop" ⟨[.ref D,.ref I,rawInt i,.none],[]⟩) R s:=by
 have W:=Walks.list (prog:=prog) (w:=w) (A:=A.in1) (by simp [hh]) I l hlI items
 intro k
 induction k with
 | zero =>
  intro i s hk hi it ls hd hp r
  have e:i=items.size:=by omega
  subst e
  refine codeAny_builtin j7 ?_
  rw [Around.under_plainId fk _]
  unfold Builtin.«dict.update.loop»
  dsimp only [rawInt]
  refine wpAny_bind (m:=pyNext (.ref I)) (W.done s _ _ ⟨it,ls⟩ λh' tk keep=>?_)
  dsimp only
  refine wpAny_bind (wpAny_pure (wpAny_pure (r h' tk (λb o nD nI e=>keep b o (by simpa using nI) e) ?_)))
  rw [<- hps,List.take_length] at hd
  obtain⟨o,es,ep,ho,z⟩:=hd
  exact⟨o,es,ep,keep D o (by simpa using hDI) ho,z⟩
 | succ k ih =>
  intro i s hk hi it ls hd hp r
  have lt:i<items.size:=by omega
  refine codeAny_builtin j7 ?_
  rw [Around.under_plainId fk _]
  unfold Builtin.«dict.update.loop»
  dsimp only [rawInt]
  refine wpAny_bind (m:=pyNext (.ref I)) (W.item i s _ _ lt ⟨it,ls⟩ λv h' tk hv st keep=>?_)
  dsimp only
  obtain⟨t,u,p,rfl,tD,tI,hpi,hky,ot,gt,ct,nt,dt⟩:=hp i v hv
  have gt':h'.get? t=some ot:=keep t ot (by simpa using tI) gt
  have hd':h'.DictOf (L2.aI prog w) D (dst (ps.take i)):=by
   obtain⟨o,es,ep,ho,z⟩:=hd
   exact⟨o,es,ep,keep D o (by simpa using hDI) ho,z⟩
  have tk1:ps.take (i+1)=ps.take i++[p]:=by
   rw [List.take_add_one,hpi]
   rfl
  refine wpAny_bind (wpAny_holding ?_)
  refine wpAny_bind (wpAny_tryCatch ?_)
  unfold Builtin.Dict.pairItems
  refine wpAny_bind (wpAny_typeOf ⟨ot,gt',ct⟩ ?_)
  rw [if_pos (by decide)]
  refine wpAny_bind (wpAny_seqItems gt' dt ?_)
  refine wpAny_pure ?_
  show wpAny _ _ (holding [u,p.2] (dictSet D u p.2)) _ _ _
  refine wpAny_holding (wpAny_dictSet_pairs (knd:=L2.aI prog w) (k:=p.1) hky hd' (λh2 hd2 sb=>?_) (Nat.le_trans (pG ps i) (by omega)))
  have keep2:∀ b o,b≠D->h'.get? b=some o->h2.get? b=some o:=λb o n e=>by rw [sb.2 b n];exact e
  have keep3:∀ b o,b≠D->b≠I->s.heap.get? b=some o->h2.get? b=some o:=λb o n n' e=>keep2 b o n (keep b o (by simpa using n') e)
  refine wpAny_pure ⟨plainId_quiet fk _,ih (i+1) _ (by omega) lt ?_ ?_ (by rw [tk1,iT];exact hd2) (hp.keep keep3) λh'' tk'' k'' d''=>r h'' tk'' (λb o n n' e=>k'' b o n n' (keep3 b o n n' e)) d''⟩
  ·obtain⟨o,g,z⟩:=st.1
   exact⟨o,keep2 _ _ (Ne.symm hDI) g,z⟩
  ·obtain⟨o,g,z⟩:=st.2
   exact⟨o,keep2 _ _ (Ne.symm hDl) g,z⟩
theorem qU {a:Addr} {o:Obj} {xs:Array Value} {k:Nat} {Q:Option Value->Shared->Prop} (hx:s.heap.get? a=some o) (hc:o.cls=.type "list") (hdat:o.data=.seq xs k) (hd:o.dict=none) (hA:A.handled=none)
  (h:∀ h' tk,(∀ b ob,s.heap.get? b=some ob->h'.get? b=some ob)->Q none { s with heap:=h',toks:=tk }):wpAny (model prog w) A (getAttr? (.ref a) "keys") Q E s:=by
 have hmiss:typeLookup (.type "list") "keys"=pure none:=am_miss_of_fast (by decide +kernel)
 have hname:(["__module__","__name__","__qualname__","__doc__","__annotations__"]:List Str).contains "keys"=false:=by decide +kernel
 obtain⟨c,dct,dat,sl⟩:=o
 simp only at hc hdat hd
 subst hc hdat hd
 obtain⟨hp,g,d,tk,os⟩:=s
 have hT:∀ tk',(⟨hp,g,d,tk',os⟩:Shared).TypeIs (.ref a) "list":=λ_=>⟨_,hx,rfl⟩
 have f1:=sub_AttributeError
 have f3:=PySem.F.slot_list_getattribute.lookup
 have f4:=PySem.F.slot_list_getattribute.bind (.ref a)
 have f5:=am_list_getattr_none
 unfold getAttr? getAttrBy? getAttrBy
 repeat (any_goals (first | assumption | exact hT _ | ((with_reducible show wpAny _ _ (call (Value.builtin "list.__getattribute__") _ _) _ _ _);refine call_meets PySem.F.slot_list_getattribute (hT _) am_entry_list_getattribute (PySem.F.args_list_getattribute_2 _ _) (meets_getattribute_miss_list a xs k sl "keys" _ hmiss hname) ⟨hx,hA,λh' tk' e hx'=>?_⟩) | wp_step))
 obtain⟨t',u',he⟩:=hx'.there
 show wpAny _ _ (getattributeRaised _ _ _ _ _ _ _) _ _ _
 unfold getattributeRaised
 repeat (any_goals (first | assumption | wp_step))
 exact h _ _ hx'.keeps
abbrev newD:Obj:={ cls:=.type "dict",data:=.dict #[] }
theorem fM {l:Addr} {ol:Obj} {nl:Nat} {items:Array Value} {ps:List (L2.Key × Value)} {Q:Value->Shared->Prop} (hh:A.handled=none) (gl:s.heap.get? l=some ol) (cl:ol.cls=.type "list") (dl:ol.data=.seq items nl) (el:ol.dict=none)
  (hp:∀(i:Nat) (v:Value),items[i]?=some v->∃(t:Addr) (u:Value) (p:L2.Key × Value),v=Value.ref t/\ps[i]?=some p/\L2.gi p.1 u=true/\s.heap.IsTuple t #[u,p.2]) (hps:ps.length=items.size) (hz:items.size<=sizeLine)
  (q:∀ h' tk,h'.DictOf (L2.aI prog w) s.heap.objs.size (dst ps)->(∀ b o,b<s.heap.objs.size->s.heap.get? b=some o->h'.get? b=some o)->Q (.ref s.heap.objs.size) { s with heap:=h',toks:=tk }) :
  wpAny (model prog w) A (call (.type "dict") [.ref l]) Q E s:=by
 refine callType_codes (Q₁:=λobj s₁=>obj=.ref s.heap.objs.size/\s₁={ s with heap:=s.heap.push newD }) PySem.F.kt_called_dict (PySem.F.kt_typeCall_dict_1 _) PySem.F.entry_dict_init (kt_code_dict_new _ ⟨rfl,rfl⟩) ?_
 rintro obj s₁ ⟨rfl,rfl⟩
 have hnew:(s.heap.push newD).DictOf (L2.aI prog w) s.heap.objs.size []:=Heap.DictOf.new s.heap
 have gl1:(s.heap.push newD).get? l=some ol:=Heap.get?_push_of_some _ gl
 have lt:l<s.heap.objs.size:=Heap.lt_size gl
 refine⟨hnew.typeIs,PySem.F.args_dict_init_2 _ _,?_⟩
 unfold Builtin.«dict.__init__»
 refine wpAny_bind ?_
 unfold Builtin.Dict.selfAndRest
 refine wpAny_bind (wpAny_notOrdered_dict hnew.typeIs ?_)
 show wpAny _ _ (pure (s.heap.objs.size,[Value.ref l])) _ _ _
 refine wpAny_pure ?_
 show wpAny _ _ (Builtin.Dict.updateFrom "dict.__init__" s.heap.objs.size (.ref l) [] .none) _ _ _
 unfold Builtin.Dict.updateFrom
 refine wpAny_bind (wpAny_typeOf (T := "list") ⟨_,gl1,cl⟩ ?_)
 rw [if_pos (by decide)]
 refine wpAny_bind (qU gl1 cl dl el (by simp [hh]) λh1 tk1 keep1=>?_)
 rw [if_pos (show (none:Option Value).isNone=true from rfl)]
 have gD:(s.heap.push newD).get? s.heap.objs.size=some newD:=Heap.get?_push_size _ rfl
 have ltD:s.heap.objs.size<h1.objs.size:=Heap.lt_size (keep1 _ _ gD)
 have gl2:h1.get? l=some ol:=keep1 _ _ gl1
 have hl1:h1.IsList l items:=⟨ol,gl2,cl,nl,dl⟩
 have ltl:l<h1.objs.size:=Heap.lt_size gl2
 refine wpAny_bind (wpAny_rule ?_)
 refine wpAny_bind (wpAny_pyIter_list hl1 ?_)
 refine wpAny_pure ⟨plainId_quiet fk _,?_⟩
 have hd1:h1.DictOf (L2.aI prog w) s.heap.objs.size []:=by
  obtain⟨o,es,ep,ho,z⟩:=hnew
  exact⟨o,es,ep,keep1 _ _ ho,z⟩
 refine uA (A:=A.in1) (by simp [hh]) (D:=s.heap.objs.size) (I:=h1.objs.size) (l:=l) (Nat.ne_of_lt ltD) (Nat.ne_of_gt lt) (Nat.ne_of_lt ltl) items ps hz hps (items.size-0) 0 _ rfl (Nat.zero_le _) ⟨_,Heap.get?_push_size _ rfl,rfl,rfl⟩ (hl1.push _) (hd1.push _) (λi v e=>?_) λh' tk keep d=>⟨rfl,q h' tk d λb o hb e=>?_⟩
 ·obtain⟨t,u,p,e1,e2,e3,ot,gt,z⟩:=hp i v e
  have lt':=Heap.lt_size gt
  exact⟨t,u,p,e1,Nat.ne_of_lt lt',Nat.ne_of_lt (Nat.lt_trans lt' ltD),e2,e3,ot,Heap.get?_push_of_some _ (keep1 _ _ (Heap.get?_push_of_some _ gt)),z⟩
 ·exact keep b o (Nat.ne_of_lt hb) (Nat.ne_of_lt (Nat.lt_trans hb ltD)) (Heap.get?_push_of_some _ (keep1 _ _ (Heap.get?_push_of_some _ e)))
end
theorem stored_new {kvs:List (L2.Key × Value)} {k:L2.Key} {v:Value} (h:∀ p∈kvs,p.1≠k):stored kvs k v=kvs++[(k,v)]:=by
 unfold stored
 rw [if_neg]
 intro z
 obtain⟨p,hp,e⟩:=List.any_eq_true.mp z
 exact h p hp (of_decide_eq_true e)
theorem j6:∀(n:Nat) (ps:List (L2.Key × Value)),ps.length=n->(ps.map (·.1)).Nodup->dst ps=ps
 | 0,ps,h,_=>by rw [List.length_eq_zero_iff.mp h];rfl
 | n+1,ps,h,hn=>by
  rcases List.eq_nil_or_concat ps with z | ⟨l,p,z⟩
  ·rw [z] at h;cases h
  ·rw [List.concat_eq_append] at z
   subst z
   rw [List.map_append,List.nodup_append] at hn
   have hl:l.length=n:=by rw [List.length_append] at h;simpa using h
   rw [iT,j6 n l hl hn.1]
   exact stored_new λq hq e=>hn.2.2 q.1 (List.mem_map.mpr ⟨q,hq,rfl⟩) p.1 (by simp) e
end Dp
namespace L2
open PySem PySem.Spec PyProof.Rows
theorem boot_dict:bootBuiltins "dict"=some (.type "dict"):=by decide +kernel
def Ak (K:PySem.W.Frag) (H:Hp) (ys:List V) (kvs:List (Int × V)):Prop:=Paired (λy kv=>∃ t,y=V.ref t/\bS K H t [.int kv.1,kv.2]) ys kvs
def yj (K:PySem.W.Frag):List V->Hp->VK->Prop:=λxs H Q=>∃(l:Addr) (ys:List V) (kvs:List (Int × V)),xs=[.ref l]/\aS K H l ys/\Ak K H ys kvs/\(kvs.map (·.1)).Nodup/\∀ p,H p=none->Q (.ref p) (upd H p (.dK (kvs.map λy=>(Sum.inl y.1,y.2))))
theorem yi {X:Cx} {pins:List (Addr × Obj)} {σ:St} {H:Hp} {s:Shared} (I:Inv X pins σ H s):∀{ys:List V} {kvs:List (Int × V)} {its:List Value},Ak X.K H ys kvs->Vals ys its ->
  ∃ ps:List (Key × Value),KV (kvs.map λy=>((Sum.inl y.1:Key),y.2)) ps/\ps.length=its.length/\ps.map (·.1)=kvs.map (λy=>(Sum.inl y.1:Key))/\∀(i:Nat) (v:Value),its[i]?=some v->∃(t:Addr) (u:Value) (p:Key × Value),v=Value.ref t/\ps[i]?=some p/\gi p.1 u=true/\s.heap.IsTuple t #[u,p.2]:=by
 intro ys kvs its h r
 induction h generalizing its with
 | nil =>
  cases r
  exact⟨[],.nil,rfl,rfl,λi v e=>by simp at e⟩
 | cons hd tl ih =>
  rename_i y kv l1 l2
  obtain⟨t,rfl,hT⟩:=hd
  cases r with
  | cons r0 r1 =>
   obtain⟨ps,h1,h2,h3,h4⟩:=ih r1
   obtain⟨its',rt,⟨ot,gt,ct,nt,dt⟩,_⟩:=I.tuple hT
   cases r0
   cases rt with
   | cons ra rb =>
    cases rb with
    | cons rc rd =>
     cases rd
     rename_i va vb
     refine⟨(Sum.inl kv.1,vb)::ps,.cons ⟨rfl,rc⟩ h1,by rw [List.length_cons,List.length_cons,h2],by rw [List.map_cons,List.map_cons,h3],λi v e=>?_⟩
     cases i with
     | zero =>
      simp at e
      subst e
      refine⟨t,va,_,rfl,rfl,?_,ot,gt,ct,nt,dt⟩
      obtain⟨u,rfl⟩:=ra
      exact kg _ _
     | succ i =>
      simp only [List.getElem?_cons_succ] at e
      obtain⟨t',u',p',e1,e2,e3⟩:=h4 i v e
      exact⟨t',u',p',e1,by simpa using e2,e3⟩
theorem fM {X:Cx} (hc:X.calm=true):cQ X (.type "dict") (yj X.K):=by
 intro pins s σ H xs us Q I r h
 obtain⟨l,ys,kvs,rfl,hq,hp,hn,q⟩:=h
 obtain⟨u,rfl,rx⟩:=vals1 r
 cases rx
 obtain⟨its,r',⟨o,n,e,c1,c2,c3⟩,hz⟩:=I.list hq
 have hlen:=r'.length
 obtain⟨ps,h1,h2,h3,h4⟩:=yi I hp r'
 have hnd:(ps.map (·.1)).Nodup:=by
  rw [h3]
  have:(kvs.map (·.1)).map (λy=>(Sum.inl y:Key))=kvs.map (λy=>(Sum.inl y.1:Key)):=by rw [List.map_map];rfl
  rw [<- this]
  exact List.Pairwise.map _ (λa b n e=>n (Sum.inl.inj e)) hn
 refine Dp.fM (I.ok.hd hc) e c1 c3 c2 (ps:=ps) (λi v e'=>h4 i v (by simpa using e')) (by rw [h2,List.size_toArray]) (by rw [List.size_toArray];omega) λh' tk hd kp=>?_
 rw [Dp.j6 _ ps rfl hnd] at hd
 have kp':∀ b o',s.heap.get? b=some o'->h'.get? b=some o':=λb o' x=>kp b o' (Heap.lt_size x) x
 have kl:(kvs.map λy=>((Sum.inl y.1:Key),y.2)).length<=sizeLine:=by
  have:=Paired.length h1
  omega
 refine⟨.ref s.heap.objs.size,_,I.laid (t':=tk) kp' (Nat.le_refl _) (show ba X.prog X.w _ h' _ (.dK _) from ⟨kl,?_,ps,h1,hd⟩),rfl,q _ (I.hok.fresh (Nat.le_refl _))⟩
 exact beq_eq_false_iff_ne.mpr (Ne.symm (Nat.ne_of_lt I.big))
end L2
set_option maxHeartbeats 1000000
namespace L2
open PySem PySem.Spec PyProof.Rows
section
variable {X:Cx}
end
def sN:List Expr->Option TA
 | []=>some v3
 | e::es=>match e,sN es with
  | .Constant (.int i) _ _,some b=>some (nL (tC (.int i)) b)
  | _,_=>none
theorem pY {X:Cx}:∀{es:List Expr} {ta:TA},sN es=some ta->PA X es ta
 | [],ta,h=>by
  injection h with h
  subst h
  exact af
 | e::es,ta,h=>by
  unfold sN at h
  split at h
  ·rename_i i x y b hb
   injection h with h
   subst h
   exact aa ag (pY hb) rfl
  ·cases h
end L2
set_option maxHeartbeats 8000000
namespace K
open PySem PySem.Spec PyProof.Rows L2
def top (i:Nat):Stmt:=PySem.Challenge.pw_rootprime_k31_orders_by_what_lies_beside.main.body.getD i (.Pass ⟨0,0,0,0⟩)
theorem wB {us:List Value} (h:us.length=1):∃ a,us=[a]:=match us,h with | [a],_=>⟨a,rfl⟩
theorem wC {us:List Value} (h:us.length=2):∃ a b,us=[a,b]:=match us,h with | [a,b],_=>⟨a,b,rfl⟩
theorem wD {us:List Value} (h:us.length=3):∃ a b c,us=[a,b,c]:=match us,h with | [a,b,c],_=>⟨a,b,c,rfl⟩
theorem wF {us:List Value} (h:us.length=4):∃ a b c d,us=[a,b,c,d]:=match us,h with | [a,b,c,d],_=>⟨a,b,c,d,rfl⟩
theorem wG {us:List Value} (h:us.length=5):∃ a b c d e,us=[a,b,c,d,e]:=match us,h with | [a,b,c,d,e],_=>⟨a,b,c,d,e,rfl⟩
theorem wH {us:List Value} (h:us.length=6):∃ a b c d e f,us=[a,b,c,d,e,f]:=match us,h with | [a,b,c,d,e,f],_=>⟨a,b,c,d,e,f,rfl⟩
theorem d6 {N P:List Str} {sc:Scope} (a:sc.kind=.function:=by exact rfl) (b:sc.isCoroutine=false:=by exact rfl) (c:sc.isGenerator=false:=by exact rfl) (d:N.Nodup:=by decide +kernel) (e:N.take P.length=P:=by exact rfl) (f:∀ x∈P,sc.names.lookup x=some .local∨sc.names.lookup x=some .cell:=by decide +kernel) (g:∀ y∈sc.names,y.2≠.free:=by decide +kernel):aw N P sc:=⟨a,b,c,d,e,f,g⟩
theorem d5 {F:PySem.W.Frag} {mg:Str->Option Value} {x:Str} {h:Heap} {f:Addr} {st:Stmt} {oc:Value} {od an:Option Addr} {osl:Array (Option Value)} {kV doc pm cdv ct:Value} (X:F.In h) (G:h.Ns mainGlobals mg) (a:PySem.W.nsIn F mainGlobals x=some (some (.ref f)):=by k_is) (l:F.lookup f=some ⟨oc,od,.func (PySem.W.fnOf x x (bO st) (aQ st) (ai st) .none kV doc pm an cdv ct),osl⟩:=by k_is) (c:PySem.W.codeIn F cdv x=true:=by k_is) (kk:PySem.W.keepIn F (.ref f)=true:=by k_is):au (dG X) mg x st:=rZ X G a l c kk
theorem oj {X:Cx} {N':List Str} {js:List (Option Nat)} {scope:Scope} {cl:List (Str × Addr)} (clos:closureFor scope X.env=pure cl) (kind:scope.kind=.function) (nocell:∀ y∈scope.names,y.2=.cell->scope.names.lookup y.1=some .cell/\∀ p∈js.zip N',p.1.isSome=true->p.2≠y.1:=by decide +kernel) (names:∀ y∈scope.names,y.2=.local->scope.names.lookup y.1=some .local:=by decide +kernel) (sub:AllIn X.env cl:=by repeat (first | exact True.intro | refine⟨rfl,?_⟩)) (has:gN cl scope.names:=by repeat (first | exact True.intro | refine⟨rfl,?_⟩ | refine⟨True.intro,?_⟩)) (j:fV X scope cl js N':=by repeat (first | exact True.intro | refine⟨⟨rfl,rfl,.inl rfl,.inl rfl⟩,?_⟩)):fK X N' js scope cl:=xD clos kind nocell names sub has j
theorem bY {X:Cx} {pos:Pos} {i:Nat} {x:Str} {e:Expr} {te:TE} {pos':Pos} (hN:X.N.Nodup) (he:PE X e te) (hi:X.N[i]?=some x:=by exact rfl) (hx:Loc X.env.scope x:=by exact Or.inl rfl) (hs:swapsWith e (some (.Name x pos')) pos.line X.env=pure false:=by rfl) (hf:X.fn x=true∨X.env.scope.names.lookup x=some .local:=by first | exact .inl rfl | exact .inr rfl | assumption):PS X (.Assign [.Name x pos'] e pos) (rL te (cH i)):=gY hN hi hx he hs hf
theorem b0 {X:Cx} {CX:jJ} {k n:Nat} {x:Str} {ps:List Str} {sp:Sp} {E:XK} {e:Expr} {es:List Expr} {t:TA} {p pos:Pos} (C:Callee X.prog X.w X.K X.mg X.base CX k x ps sp) (hr:bW n X.A) (hx:Passes CX X E) (ha:PA X (e::es) t) (hm:k<=n:=by decide) (hg:Gl X x:=by exact rfl) (hdb:(x==("__debug__":Str))=false:=by decide) (he:starEach (e::es) X.env=(false,eval e X.env)::starEach es X.env:=by rfl) (hpl:(backTo pos (starEach es X.env)).any (·.1)=false:=by rfl):PE X (.Call (.Name x p) (e::es) [] pos) (nK sp [] E t):=bf C (hr.mono hm) hg hx ha hdb he hpl
theorem cO {P:Program} {w:World} {F:PySem.W.Frag} {mg:Str->Option Value} {base:Heap} {k:Nat} {x:Str} {ps:List Str} {sp:Sp} {st:Stmt} {N:List Str} (D:au F mg x st) (S:aw N ps (ai st))
  (hbody:∀(f:Addr) (cdv:Value) (A:Around) (outer:List Env) (s:Shared) (H:Hp) (vs:List V) (Q:VK) (E:XK),bW k (A.deeper (envOfC x (ai st) s.heap.objs.size f cdv))->sp vs H Q E->∃ t,jL (dH aO P w F mg base N x (ai st) f cdv A outer s H E).pW (aQ st) t/\t { nx:=λ_ H'=>Q .non H',rt:=Q } (start N vs) H)
  (hb:∀(kV doc pm:Value) (an:Option Addr) (cdv ct:Value) (us:List Value),us.length=ps.length->bindArgs (PySem.W.fnOf x x (bO st) (aQ st) (ai st) .none kV doc pm an cdv ct) ⟨us,[]⟩=pure (ps.zip us):=by
    intro _ _ _ _ _ _ us hl
    first | (obtain⟨_,rfl⟩:=wB hl;exact rfl) | (obtain⟨_,_,rfl⟩:=wC hl;exact rfl) | (obtain⟨_,_,_,rfl⟩:=wD hl;exact rfl) | (obtain⟨_,_,_,_,rfl⟩:=wF hl;exact rfl) | (obtain⟨_,_,_,_,_,rfl⟩:=wG hl;exact rfl) | (obtain⟨_,_,_,_,_,_,rfl⟩:=wH hl;exact rfl))
  (len:∀ vs H Q E,sp vs H Q E->vs.length=ps.length:=by
    intro _ _ _ _ h
    first | (obtain⟨_,rfl,_⟩:=h;rfl) | (obtain⟨_,_,rfl,_⟩:=h;rfl) | (obtain⟨_,_,_,rfl,_⟩:=h;rfl) | (obtain⟨_,_,_,_,rfl,_⟩:=h;rfl) | (obtain⟨_,_,_,_,_,rfl,_⟩:=h;rfl) | (obtain⟨_,_,_,_,_,_,rfl,_⟩:=h;rfl) | (obtain⟨_,_,_,_,_,_,_,rfl,_⟩:=h;rfl) | (obtain⟨_,_,_,_,_,_,_,_,rfl,_⟩:=h;rfl) | (obtain⟨_,_,_,_,_,_,_,_,_,rfl,_⟩:=h;rfl) | (obtain⟨_,_,_,_,_,_,_,_,_,_,rfl,_⟩:=h;rfl) | (obtain⟨_,_,_,_,_,_,_,_,_,_,_,rfl,_⟩:=h;rfl) | (obtain⟨_,_,_,_,_,_,_,_,_,_,_,_,rfl,_⟩:=h;rfl) | (obtain⟨_,_,_,_,_,_,_,_,_,_,_,_,_,rfl,_⟩:=h;rfl) | (obtain⟨_,_,_,_,_,_,_,_,_,_,_,_,_,_,rfl,_⟩:=h;rfl) | (obtain⟨_,_,_,_,_,_,_,_,_,_,_,_,_,_,_,rfl,_⟩:=h;rfl)):Callee P w F mg base aO (k+1) x ps sp:=qJ D hb S len hbody
theorem cX {P:Program} {w:World} {F:PySem.W.Frag} {mg:Str->Option Value} {base:Heap} {k:Nat} {x:Str} {ps:List Str} {sp:Sp} {st:Stmt} {N:List Str} (D:au F mg x st) (S:aw N ps (ai st))
  (hbody:∀(f:Addr) (cdv:Value) (A:Around) (outer:List Env) (s:Shared) (H:Hp) (vs:List V) (Q:VK) (E:XK),bW k (A.deeper (envOfC x (ai st) s.heap.objs.size f cdv))->sp vs H Q E->∃ t,jL (dH (iE P w) P w F mg base N x (ai st) f cdv A outer s H E) (aQ st) t/\t { nx:=λ_ H'=>Q .non H',rt:=Q } (start N vs) H)
  (hb:∀(kV doc pm:Value) (an:Option Addr) (cdv ct:Value) (us:List Value),us.length=ps.length->bindArgs (PySem.W.fnOf x x (bO st) (aQ st) (ai st) .none kV doc pm an cdv ct) ⟨us,[]⟩=pure (ps.zip us):=by
    intro _ _ _ _ _ _ us hl
    first | (obtain⟨_,rfl⟩:=wB hl;exact rfl) | (obtain⟨_,_,rfl⟩:=wC hl;exact rfl) | (obtain⟨_,_,_,rfl⟩:=wD hl;exact rfl) | (obtain⟨_,_,_,_,rfl⟩:=wF hl;exact rfl) | (obtain⟨_,_,_,_,_,rfl⟩:=wG hl;exact rfl) | (obtain⟨_,_,_,_,_,_,rfl⟩:=wH hl;exact rfl))
  (len:∀ vs H Q E,sp vs H Q E->vs.length=ps.length:=by
    intro _ _ _ _ h
    first | (obtain⟨_,rfl,_⟩:=h;rfl) | (obtain⟨_,_,rfl,_⟩:=h;rfl) | (obtain⟨_,_,_,rfl,_⟩:=h;rfl) | (obtain⟨_,_,_,_,rfl,_⟩:=h;rfl) | (obtain⟨_,_,_,_,_,rfl,_⟩:=h;rfl) | (obtain⟨_,_,_,_,_,_,rfl,_⟩:=h;rfl) | (obtain⟨_,_,_,_,_,_,_,rfl,_⟩:=h;rfl) | (obtain⟨_,_,_,_,_,_,_,_,rfl,_⟩:=h;rfl) | (obtain⟨_,_,_,_,_,_,_,_,_,rfl,_⟩:=h;rfl) | (obtain⟨_,_,_,_,_,_,_,_,_,_,rfl,_⟩:=h;rfl) | (obtain⟨_,_,_,_,_,_,_,_,_,_,_,rfl,_⟩:=h;rfl) | (obtain⟨_,_,_,_,_,_,_,_,_,_,_,_,rfl,_⟩:=h;rfl) | (obtain⟨_,_,_,_,_,_,_,_,_,_,_,_,_,rfl,_⟩:=h;rfl) | (obtain⟨_,_,_,_,_,_,_,_,_,_,_,_,_,_,rfl,_⟩:=h;rfl) | (obtain⟨_,_,_,_,_,_,_,_,_,_,_,_,_,_,_,rfl,_⟩:=h;rfl)):Callee P w F mg base (iE P w) (k+1) x ps sp:=n8 D hb S len hbody
end K
local macro_rules | `(tactic| k_data) => `(tactic| (iterate 2 ((try dsimp only [L2.bT, L2.zV, L2.xh, L2.nL, L2.v3, L2.AJ, L2.rM, L2.tC, L2.zU, L2.rI, L2.rP, L2.rU, L2.A6, L2.xj, L2.rL, L2.cH, L2.lZ, L2.zW, L2.zY, L2.zS, L2.A3, L2.zR, L2.xc, L2.zN, L2.A4, L2.zT, L2.wZ, L2.AL, L2.xf, L2.tB, L2.zO, L2.xb, L2.pO, L2.xJ, L2.nK, L2.vZ, L2.yA, L2.wy, L2.yY, L2.yZ, L2.wx, L2.y4, L2.A5, L2.AM, L2.xi, L2.qy, L2.uk, L2.AZ, L2.A1, L2.A2, L2.zP, L2.Bo, L2.As, L2.w5, L2.wR, L2.w6, L2.lY, L2.yX, L2.y7, L2.wz, L2.um, L2.yC, L2.yB, L2.Bp, L2.AN, L2.zX, L2.vd, L2.pP, List.getElem?_cons_zero, List.getElem?_cons_succ, List.set_cons_zero, List.set_cons_succ, List.nil_append, List.cons_append, L2.yL, L2.Bi, L2.yS]); (try simp only [Option.some.injEq, exists_eq_left', exists_and_left, List.cons.injEq, L2.V.int.injEq, L2.V.bl.injEq, and_true, true_and, and_assoc, decide_eq_true_eq, List.append_nil, Int.reduceToNat, Int.reducePow, Int.reduceLT, Int.reduceLE, Int.reduceNeg, Int.zero_add, Nat.reducePow, Nat.reduceLT, Int.reduceAdd, Int.reduceSub, Int.reduceMul, L2.V.ref.injEq, L2.aN, L2.uu, exists_eq_left, exists_eq', exists_eq, exists_const, L2.gz, L2.vP, L2.vR, L2.vS, L2.vT, L2.vQ, L2.vU, reduceIte, reduceCtorEq, Bool.not_eq_true', decide_eq_false_iff_not, Int.reduceAbs, Bool.not_true, Bool.not_false, if_true, Bool.false_eq_true, if_false]))))
namespace K
open PySem PySem.Spec PyProof.Rows L2
section
variable {P:Program} {w:World} {K:PySem.W.Frag} {mg:Str->Option Value} {base:Heap}
theorem yG {i:Int} (h:(decide (i.natAbs<10^250))=true):Bd i:=Nat.lt_of_lt_of_le (of_decide_eq_true h) rT
def qr:Sp:=λvs H Q _=>∃ c:Int,vs=[.int c]/\∀ p l b H',az H H'->H p=none->H' p=some (lW l b)->sV l b->Q (.ref p) H'
theorem fF:aw ["_law_cell"] ["_law_cell"] (ai (top 33)):=d6
theorem tw (D:au K mg "_law_state" (top 33)) (n_abs:mg "abs"=none):Callee P w K mg base aO 1 "_law_state" ["_law_cell"] qr:=by
 refine cO D fF (λf cdv A outer s H vs Q E hr h=>?_)
 obtain⟨c,rfl,q⟩:=h
 have nd:=fF.nd
 refine⟨_,(ae (bt (aC tH (aF eh rfl n_abs L2.boot_abs (aa (pv 0) af)) (aq lH ag ag) (aB _)) (aj (ay (pZ (gu cW (aq cU (aF eh rfl n_abs L2.boot_abs (aa (pv 0) af)) (aq lH ag ag)) (gu cW bU qc)) rfl rfl (by intro z;cases z) (by decide)))) aG) (aj (ay (pZ (gu cW (aq bG ag (aq aU (pv 0) ag)) (gu cW bU qc)) rfl rfl (by intro z;cases z) (by decide))))),?_⟩
 show bT _ _ _ [some (.int c)] H
 k_data
 refine aP (λz=>λp hp=>⟨ah,[(Sum.inr "left",.int _),(Sum.inr "free",.bl true)],rfl,by show 2<=15;decide,?_⟩) (λz=>λp hp=>⟨ah,[(Sum.inr "left",.int (1+c%2147483646)),(Sum.inr "free",.bl false)],rfl,by show 2<=15;decide,?_⟩)
 ·rw [hZ]
  exact q p _ true _ (ak hp) hp ah (.inl rfl)
 ·rw [hZ]
  exact q p (1+c%2147483646) false _ (ak hp) hp ah (.inr ⟨by omega,by omega⟩)
def jF:Sp:=λvs H Q _=>∃(p:Addr) (m l:Int) (b:Bool),vs=[.ref p,.int m]/\H p=some (lW l b)/\sV l b/\0<m/\m<10^200/\∀ r H',0<=r->r<m->Up p b H H'->Q (.int r) H'
theorem gv:aw ["_law_state_here","_law_many","_law_found"] ["_law_state_here","_law_many"] (ai (top 34)):=d6
theorem vx (D:au K mg "_law_take" (top 34)):Callee P w K mg base aO 1 "_law_take" ["_law_state_here","_law_many"] jF:=by
 refine cO D gv (λf cdv A outer s H vs Q E hr h=>?_)
 obtain⟨p,m,l,b,rfl,hp,hl,hm,hm1,q⟩:=h
 have nd:=gv.nd
 refine⟨_,(ae (bt (aR (fg (fA hr) (pv 0) cW (λ_ _=>rfl)) (λ_=>rfl)) (ae (bY (i:=2) nd (aq aU (fg (fA hr) (pv 0) cW (λ_ _=>rfl)) (pv 1))) (ae (lK (fA hr) (pv 0) cW (aq bQ (fg (fA hr) (pv 0) cW (λ_ _=>rfl)) (pv 1)) rfl) (aj (ay (pv 2))))) aG) (ae (lK (fA hr) (pv 0) cW (aq aU (aq bw (fg (fA hr) (pv 0) cW (λ_ _=>rfl)) ag) ag) rfl) (aj (ay (aq aU (aq bQ (aq aU (aq bw (fg (fA hr) (pv 0) cW (λ_ _=>rfl)) ag) ag) ag) (pv 1)))))),?_⟩
 show bT _ _ _ [some (.ref p),some (.int m),none] H
 k_data
 refine⟨_,sH hp,b,aN.mpr rfl,?_⟩
 refine aP (λz=>?_) (λz=>?_)
 ·subst z
  refine⟨_,gc hp,l,rfl,hm,_,gc hp,l,rfl,hm,Bd.of (by omega) (by omega),_,nA hp,?_⟩
  exact q _ _ (Int.emod_nonneg _ (by omega)) (Int.emod_lt_of_pos _ hm) ⟨_,.inl rfl,rfl⟩
 ·have z:b=false:=by simpa using z
  subst z
  obtain⟨l0,l1⟩:0<=l/\l<2147483647:=by rcases hl with z | z;cases z;exact z
  refine⟨_,gc hp,l,rfl,Bd.of (by omega) (by omega),yG (by decide),_,nA hp,_,gc ah,_,rfl,Bd.of (by omega) (by omega),yG (by decide),yG (by decide),hm,?_⟩
  exact q _ _ (Int.emod_nonneg _ (by omega)) (Int.emod_lt_of_pos _ hm) ⟨_,.inr ⟨by omega,by omega⟩,rfl⟩
def ig (a:Int):Prop := -(10^240)<=a/\a<=10^240
theorem ig.bd {a:Int} (h:ig a):Bd a:=Bd.of (by have:=h.1;omega) (by have:=h.2;omega)
def kA:Sp:=λvs H Q _=>∃ a b:Int,vs=[.int a,.int b]/\ig a/\ig b/\∀ g u v p H',Gcd.zZ a b g u v->az H H'->H' p=some (.tup [.int g,.int u,.int v])->Q (.ref p) H'
theorem ju:aw ["a","b","g","u","v","next_g","next_u","next_v","times"] ["a","b"] (ai (top 7)):=d6
structure DS where
 (g u v ng nu nv:Int)
 t:Option V
theorem oI (D:au K mg "divisor" (top 7)) (n_abs:mg "abs"=none):Callee P w K mg base aO 1 "divisor" ["a","b"] kA:=by
 refine cO D ju (λf cdv A outer s H vs Q E hr h=>?_)
 obtain⟨a,b,rfl,ha,hb,q⟩:=h
 have nd:=ju.nd
 refine⟨_,(ae (qe (i:=2) (j:=3) (k:=4) rfl nd rfl rfl rfl (by decide) (by decide) (by decide) rfl rfl rfl (aa (aF eh rfl n_abs L2.boot_abs (aa (pv 0) af)) (aa ag (aa ag af))) rfl) (ae (qe (i:=5) (j:=6) (k:=7) rfl nd rfl rfl rfl (by decide) (by decide) (by decide) rfl rfl rfl (aa (aF eh rfl n_abs L2.boot_abs (aa (pv 1) af)) (aa ag (aa ag af))) rfl) (ae (bB PassesOwn.never (aC fC (pv 5) ag (aB _)) (ae (bY (i:=8) nd (aq bQ (pv 2) (pv 5))) (ae (lL (i:=2) (j:=5) rfl nd rfl rfl (by decide) rfl rfl (aa (pv 5) (aa (aq cU (pv 2) (aq bw (pv 8) (pv 5))) af)) rfl) (ae (lL (i:=3) (j:=6) rfl nd rfl rfl (by decide) rfl rfl (aa (pv 6) (aa (aq cU (pv 3) (aq bw (pv 8) (pv 6))) af)) rfl) (aj (lL (i:=4) (j:=7) rfl nd rfl rfl (by decide) rfl rfl (aa (pv 7) (aa (aq cU (pv 4) (aq bw (pv 8) (pv 7))) af)) rfl)))))) (aj (ay (bj (aa (pv 2) (aa (jc (aC ir (pv 0) ag (aB _)) (wN ux (pv 3)) (pv 3)) (aa (jc (aC ir (pv 1) ag (aB _)) (wN ux (pv 4)) (pv 4)) af))))))))),?_⟩
 show bT _ _ _ [some (.int a),some (.int b),none,none,none,none,none,none,none] H
 k_data
 have hA:0<=(if a<0 then -a else a)/\(if a<0 then -a else a)<=10^240:=by have:=ha.1;have:=ha.2;split<;>omega
 have hB:0<=(if b<0 then -b else b)/\(if b<0 then -b else b)<=10^240:=by have:=hb.1;have:=hb.2;split<;>omega
 refine bC (α:=DS) (λx=>[some (.int a),some (.int b),some (.int x.g),some (.int x.u),some (.int x.v),some (.int x.ng),some (.int x.nu),some (.int x.nv),x.t])
  (λx H'=>H'=H/\Gcd.J (if a<0 then -a else a) (if b<0 then -b else b) x.g x.u x.v x.ng x.nu x.nv/\x.g<=10^240/\x.ng<=10^240) (λx=>x.ng.toNat)
  ⟨_,1,0,_,0,1,none⟩ rfl ⟨rfl,Gcd.J.start hA.1 hB.1,hA.2,hB.2⟩ ?_
 rintro x H1 ⟨rfl,j,hg,hng⟩
 k_data
 refine aP (λc=>?_) (λc=>?_)
 ·refine⟨_,λ_ _ z=>z,?_⟩
  obtain⟨s1,s2,s3,s4⟩:=j.small hA.1 hB.1 hA.2 hB.2 (by omega)
  obtain⟨j',l,q0,ql⟩:=j.turn c
  have bg:ig x.ng:=⟨by omega,hng⟩
  have bq:ig (x.g/x.ng):=⟨by omega,by omega⟩
  refine⟨c,bg.bd,bq.bd,bg.bd,bq.bd,ig.bd s3,bq.bd,ig.bd s4,⟨x.ng,x.nu,x.nv,x.g-x.g/x.ng*x.ng,x.u-x.g/x.ng*x.nu,x.v-x.g/x.ng*x.nv,some (.int (x.g/x.ng))⟩,rfl,rfl,j',hng,by show (x.g-x.g/x.ng*x.ng)<=_;omega,by show (x.g-x.g/x.ng*x.ng).toNat<x.ng.toNat;omega⟩
 ·have e:x.ng=0:=by have:=j.n0;omega
  rw [e] at j
  have z:=j.done
  refine aP (λca=>?_) (λca=>?_)<;>simp only [ca,if_true,if_false] at z ⊢<;>refine aP (λcb=>?_) (λcb=>?_)<;>simp only [cb,if_true,if_false] at z ⊢ <;>
   exact⟨by show 3<=sizeLine;decide,λp hp=>q _ _ _ p _ z (ak hp) ah⟩
end
end K
namespace K
open PySem PySem.Spec PyProof.Rows L2
structure Gd (n a g:Int):Prop where
 pos:0<g
 dn:g∣n
 da:g∣a
 gr:∀ d:Int,d∣n->d∣a->d∣g
theorem Gd.one {n a g g':Int} (h:Gd n a g) (h':Gd n a g'):g=g' :=
 Int.le_antisymm (Int.le_of_dvd h'.pos (h'.gr g h.dn h.da)) (Int.le_of_dvd h.pos (h.gr g' h'.dn h'.da))
theorem mM {n a g:Int} (dn:g∣n):g∣a%n↔g∣a:=by
 have e:=Int.mul_ediv_add_emod a n
 constructor
 ·intro h
  rw [<- e]
  exact Int.dvd_add (Int.dvd_mul_of_dvd_left dn) h
 ·intro h
  have:a%n=a-n*(a/n):=by omega
  rw [this]
  exact Int.dvd_sub h (Int.dvd_mul_of_dvd_left dn)
theorem Gd.of {n a g u v:Int} (hn:0<n) (z:Gcd.zZ (a%n) n g u v):Gd n a g:=by
 refine⟨?_,z.db,(mM z.db).mp z.da,λd h1 h2=>?_⟩
 ·have:=z.g0
  rcases (by omega:g=0∨0<g) with e | e
  ·have:=z.db
   rw [e] at this
   have:=Int.zero_dvd.mp this
   omega
  ·exact e
 ·rw [<- z.lin]
  exact Int.dvd_add (Int.dvd_mul_of_dvd_right ((mM h1).mpr h2)) (Int.dvd_mul_of_dvd_right h1)
theorem xK {n a u v:Int} (hn:0<n) (z:Gcd.zZ (a%n) n 1 u v):n∣u%n*a-1:=by
 have e:=z.lin
 have e1:=Int.mul_ediv_add_emod a n
 have e2:=Int.mul_ediv_add_emod u n
 refine⟨u*(a/n)-v-u/n*a,?_⟩
 generalize a%n=x at *
 generalize u%n=y at *
 generalize a/n=s at *
 generalize u/n=t at *
 grind
section
variable {P:Program} {w:World} {K:PySem.W.Frag} {mg:Str->Option Value} {base:Heap}
def kB (C:Addr):Sp:=λvs H Q E=>∃ n a:Int,vs=[.int n,.int a]/\0<n/\n<=10^240/\∀ g,Gd n a g ->
 (g=1->∀ r H',0<=r->r<n->n∣r*a-1->az H H'->Q (.int r) H') /\
 (1<g->∀ x dx H',az H H'->H x=none->H' x=some (XO x C (some dx))->H' dx=some (.xd [("divisor",.int g)])->E (.ref C) (some x) H')
theorem jv:aw ["n","a","g","u","v"] ["n","a"] (ai (top 8)):=d6
theorem oJ {C:Addr} (D:au K mg "inverse" (top 8)) (c_divisor:Callee P w K mg base aO 1 "divisor" ["a","b"] kA) (x_NoInverse:xx P w K mg base "NoInverse" C "divisor"):Callee P w K mg base (iE P w) 3 "inverse" ["n","a"] (kB C):=by
 refine cX D jv (λf cdv A outer s H vs Q E hr h=>?_)
 obtain⟨n,a,rfl,hn,hn1,q⟩:=h
 have nd:=jv.nd
 refine⟨_,(ae (ji (b0 c_divisor hr aD (aa (aq aU (pv 1) (pv 0)) (aa (pv 0) af))) (eI (n:=3) rfl (aE (ax (i:=2) nd rfl (Or.inl rfl) (.inr rfl)) (aE (ax (i:=3) nd rfl (Or.inl rfl) (.inr rfl)) (aE (ax (i:=4) nd rfl (Or.inl rfl) (.inr rfl)) bJ))))) (ae (bt (aC fC (pv 2) ag (aB _)) (aj (ny (yg x_NoInverse (hr.mono (by decide)) rfl (aa (pv 2) af)))) aG) (jL.pW (aj (ay (aq aU (pv 3) (pv 0))))))),?_⟩
 show bT _ _ _ [some (.int n),some (.int a),none,none,none] H
 k_data
 have r0:=Int.emod_nonneg a (show n≠0 by omega)
 have r1:=Int.emod_lt_of_pos a hn
 refine⟨hn,a%n,n,rfl,⟨by omega,by omega⟩,⟨by omega,by omega⟩,λg u v p H1 z hs hh=>?_⟩
 have G:=Gd.of hn z
 obtain⟨q1,q2⟩:=q g G
 refine⟨p,_,rfl,bS.of hh,rfl,?_⟩
 k_data
 refine aP (λc=>?_) (λc=>?_)
 ·intro x dx hx hdx ne
  have ne':dx≠x:=ne
  refine⟨C,some dx,ah,x_NoInverse.cls,?_,?_⟩
  ·cases e:H x with
   | none=>rfl
   | some o=>rw [hs _ _ e] at hx;cases hx
  ·refine q2 c x dx _ ?_ ?_ ah ?_
   ·intro b o e
    have e1:=hs _ _ e
    have bx:b≠x:=λy=>by rw [y,hx] at e1;cases e1
    have bd:b≠dx:=λy=>by rw [y,hdx] at e1;cases e1
    rw [ao bx,ao bx,ao bd,ao bx]
    exact e1
   ·cases e:H x with
    | none=>rfl
    | some o=>rw [hs _ _ e] at hx;cases hx
   ·rw [ao ne',ao ne',ah]
 ·have g1:g=1:=by have:=G.pos;omega
  subst g1
  exact⟨hn,q1 rfl _ _ (Int.emod_nonneg _ (by omega)) (Int.emod_lt_of_pos _ hn) (xK hn z) hs⟩
end
end K
namespace K
open PySem PySem.Spec PyProof.Rows L2
section
variable {P:Program} {w:World} {K:PySem.W.Frag} {mg:Str->Option Value} {base:Heap}
def dS (C:Addr):Sp:=λvs H Q E=>∃ n a e:Int,vs=[.int n,.int a,.int e]/\0<n/\n<=10^120 /\
 (0<=e->∀ H',az H H'->Q (.int (a^e.toNat%n)) H') /\
 (e<0->∀ g,Gd n a g ->
  (g=1->∀ b H',0<=b->b<n->n∣b*a-1->az H H'->Q (.int (b^(-e).toNat%n)) H') /\
  (1<g->∀ x dx H',az H H'->H x=none->H' x=some (XO x C (some dx))->H' dx=some (.xd [("divisor",.int g)])->E (.ref C) (some x) H'))
theorem nF:aw ["n","a","e","base","left","rest"] ["n","a","e"] (ai (top 15)):=d6
theorem tq {C:Addr} (D:au K mg "power" (top 15)) (c_inverse:Callee P w K mg base (iE P w) 3 "inverse" ["n","a"] (kB C)) (n_abs:mg "abs"=none):Callee P w K mg base (iE P w) 4 "power" ["n","a","e"] (dS C):=by
 refine cX D nF (λf cdv A outer s H vs Q E hr h=>?_)
 obtain⟨n,a,e,rfl,hn,hn1,q1,q2⟩:=h
 have nd:=nF.nd
 refine⟨_,(ae (bY (i:=3) nd (aq aU (pv 1) (pv 0))) (ae (gX (bt (aC ir (pv 2) ag (aB _)) (aj (bY (i:=3) nd (b0 c_inverse hr tO (aa (pv 0) (aa (pv 1) af))))) aG)) (jL.pW (ae (bY (i:=4) nd (aF eh rfl n_abs L2.boot_abs (aa (pv 2) af))) (ae (bY (i:=5) nd (aq aU ag (pv 0))) (ae (bB PassesOwn.never (aC fC (pv 4) ag (aB _)) (ae (gX (bt (aC cn (aq aU (pv 4) ag) ag (aB _)) (aj (bY (i:=5) nd (aq aU (aq bw (pv 5) (pv 3)) (pv 0)))) aG)) (ae (bY (i:=3) nd (aq aU (aq bw (pv 3) (pv 3)) (pv 0))) (aj (fU (i:=4) nd rfl (Or.inl rfl) ag (iW mS)))))) (aj (ay (pv 5))))))))),?_⟩
 show bT _ _ _ [some (.int n),some (.int a),some (.int e),none,none,none] H
 k_data
 refine⟨hn,λσ' H'=>az H H'/\∃ b:Int,σ'=[some (.int n),some (.int a),some (.int e),some (.int b),none,none]/\0<=b/\b<n/\Q (.int (b^e.natAbs%n)) H',?_,?_⟩
 ·k_data
  refine aP (λc=>?_) (λc=>?_)
  ·refine⟨n,a,rfl,hn,by omega,λg G=>⟨λe1 r H' r0 r1 r2 hs=>?_,λg1 x dx H' hs hx hX hd=>?_⟩⟩
   ·have:=(q2 c g G).1 e1 r H' r0 r1 r2 hs
    rw [show (-e).toNat=e.natAbs by omega] at this
    exact⟨hs,r,rfl,r0,r1,this⟩
   ·exact (q2 c g G).2 g1 x dx H' hs hx hX hd
  ·have:=q1 (by omega) H (az.refl _)
   rw [show e.toNat=e.natAbs by omega,<- Pw.gq] at this
   exact⟨az.refl _,Int.emod_nonneg _ (by omega),Int.emod_lt_of_pos _ hn,this⟩
 ·rintro σ' H' ⟨hs,b,rfl,hb0,hb1,q⟩
  k_data
  refine⟨hn,?_⟩
  have ee:(if e<0 then -e else e)=(e.natAbs:Int):=by split<;>omega
  rw [ee]
  refine bC (α:=Int × Nat × Int) (λx=>[some (.int n),some (.int a),some (.int e),some (.int x.1),some (.int x.2.1),some (.int x.2.2)]) (λx H1=>H1=H'/\0<=x.1/\x.1<n/\0<=x.2.2/\x.2.2<n/\x.2.2*x.1^x.2.1%n=b^e.natAbs%n) (λx=>x.2.1) (b,e.natAbs,1%n) rfl ⟨rfl,hb0,hb1,Int.emod_nonneg _ (by omega),Int.emod_lt_of_pos _ hn,?_⟩ ?_
  ·show 1%n*b^e.natAbs%n=_
   rw [Pw.wJ,Int.one_mul]
  rintro⟨b',l,r⟩ H1 ⟨rfl,h1,h2,h3,h4,h5⟩
  replace h1:0<=b':=h1
  replace h2:b'<n:=h2
  replace h3:0<=r:=h3
  replace h4:r<n:=h4
  replace h5:r*b'^l%n=b^e.natAbs%n:=h5
  k_data
  refine aP (λc=>?_) (λc=>?_)
  ·refine⟨_,λ_ _ z=>z,λσ' H2=>H2=H1/\σ'=[some (.int n),some (.int a),some (.int e),some (.int b'),some (.int l),some (.int (if l%2=1 then r*b'%n else r))],?_,?_⟩
   ·k_data
    refine aP (λc=>?_) (λc=>?_)
    ·exact⟨Bd.of (by omega) (by omega),Bd.of (by omega) (by omega),hn,by rw [if_pos (by omega)]⟩
    ·rw [if_neg (by omega)]
   rintro σ' H2 ⟨rfl,rfl⟩
   k_data
   have r0:0<=(if l%2=1 then r*b'%n else r)/\(if l%2=1 then r*b'%n else r)<n:=by
    split
    ·exact⟨Int.emod_nonneg _ (by omega),Int.emod_lt_of_pos _ hn⟩
    ·exact⟨h3,h4⟩
   refine⟨Bd.of (by omega) (by omega),Bd.of (by omega) (by omega),hn,yG (by decide),(b'*b'%n,l/2,if l%2=1 then r*b'%n else r),rfl,(by show (l:Int)/2=((l/2:Nat):Int);omega),rfl,Int.emod_nonneg _ (by omega),Int.emod_lt_of_pos _ hn,r0.1,r0.2,?_,?_⟩
   ·show (if l%2=1 then r*b'%n else r)*(b'*b'%n)^(l/2)%n=_
    rw [Pw.step]
    exact h5
   ·show l/2<l
    omega
  ·have l0:l=0:=by omega
   subst l0
   rw [Int.pow_zero,Int.mul_one] at h5
   have h6:r%n=r:=Int.emod_eq_of_lt h3 h4
   rw [<- h5,h6] at q
   exact q
end
end K
namespace L2
open PySem PySem.Spec PyProof.Rows
theorem bD {X:Cx} (K:PySem.W.Frag) (h:X.K=K):z5 X (yn K):=h▸aW
theorem dO {X:Cx} {pos:Pos} {es:List Expr} {k:Nat} {t:wc} {n:Nat} (K:PySem.W.Frag) (e:X.K=K) (hc:X.calm=true) (h:yQ X es t)
  (hn:(assignEach es X.env).length=n:=by rfl) (hst:(assignEach es X.env).findIdx? (·.1)=none:=by rfl):PG X (.Tuple es k pos) (jO K n t):=e▸eI hc h hn hst
end L2
namespace K
open PySem PySem.Spec PyProof.Rows L2
section
variable {P:Program} {w:World} {K:PySem.W.Frag} {mg:Str->Option Value} {base:Heap}
theorem bE {X:Cx}:Passes (iE P w) X E0:=by
 intro pins σ H1 s1 e s' I hq
 obtain⟨x,C,T,dd,H',_,_,_,_,_,_,_,_,_,_,z⟩:=hq
 exact z.elim
theorem bF {H:Hp} {q:Addr} {xs:List V} {k:Int} {v:V} {Q:VK} (t:bS K H q xs) (e:o7 xs k=some v) (h:Q v H):yn K (.ref q) (.int k) H Q:=⟨q,xs,k,v,rfl,rfl,t,e,h⟩
theorem iF {x:V} {r:List V}:o7 (x::r) 0=some x:=by
 unfold o7 vi
 simp
theorem allB {H:Hp} {p:Addr} {bs:List Bool} {Q:VK} (h:aS K H p (bs.map V.bl)) (q:Q (.bl (bs.all id)) H):vM K [.ref p] H Q:=⟨p,bs,rfl,h,q⟩
def Bk (row:PyData) (q:Int):Prop:=∃ ds es,row=.tuple (.tuple (.int q::ds)::es)
def AR (rows:List PyData) (qs:List Int):Prop:=rows.length=qs.length/\∀(i:Nat) (row:PyData),rows[i]?=some row->∃ q,qs[i]?=some q/\Bk row q
def jz (K:PySem.W.Frag):Sp:=λvs H Q _=>∃ v rows qs,vs=[v]/\dv K H (.tuple rows) v/\AR rows qs/\rows.length<=10^6/\∀ p H',az H H'->H p=none->H' p=some (.lst (qs.map V.int))->Q (.ref p) H'
theorem gw:aw ["parts"] ["parts"] (ai (top 12)):=d6
theorem nc (D:au K mg "primes_in" (top 12)):Callee P w K mg base aO 1 "primes_in" ["parts"] (jz K):=by
 refine cO D gw (λf cdv A outer s H vs Q E hr h=>?_)
 obtain⟨v,rows,qs,rfl,hd,⟨hl,hq⟩,h6,q⟩:=h
 have nd:=gw.nd
 refine⟨_,(aj (ay (dW rfl (oj (N':=["row"]) (js:=[none]) rfl rfl) (fS (pv 0)) (λ_ _ _ _=>(ax (i:=0) (show List.Nodup [("row":Str)] from by decide +kernel) rfl (Or.inl rfl) (.inr rfl))) (λ_ _ _ _=>bA) (λ_ _ _ _=>(aL (bD K rfl) (aL (bD K rfl) (pv 0) ag (λ_ _=>rfl)) ag (λ_ _=>rfl)))))),?_⟩
 show lZ _ _ [some v] H
 obtain⟨p,xs,rfl,hS,ht⟩:=hd
 k_data
 have xl:=ht.length
 refine⟨⟨_,hS⟩,?_⟩
 refine cP (xs:=xs) (λi zs H3=>H3=H/\zs=(qs.take i).map V.int) ⟨rfl,rfl⟩ (Nat.le_trans (by omega) (show 10^6<=sizeLine by decide)) (λi zs H3 hi ⟨e1,e2⟩=>⟨by rw [e1];exact hS,by rw [e2];simp;omega⟩) ?_ ?_
 ·rintro i x zs H3 hx ⟨rfl,rfl⟩
  obtain⟨d,hd,hv⟩:=ht.get hx
  obtain⟨q',hq',ds,es,rfl⟩:=hq i d hd
  obtain⟨p1,x1,rfl,t1,u,r1,rfl,hv2,_⟩:=hv
  obtain⟨p2,x2,rfl,t2,u',r2,rfl,hv3,_⟩:=hv2
  cases hv3
  show cH 0 _ [none] _ _
  k_data
  refine⟨True.intro,bF t1 iF (bF t2 iF ⟨rfl,?_⟩)⟩
  rw [List.take_add_one,hq',List.map_append]
  rfl
 ·rintro zs H3 p3 ⟨rfl,rfl⟩ hp3
  rw [show xs.length=qs.length by omega,List.take_length]
  exact q p3 _ (ak hp3) hp3 ah
def z6 (n a e:Int) (qs:List Int):Prop:=a^e.toNat%n=1/\∀ q∈qs,a^(e/q).toNat%n≠1
def kC (K:PySem.W.Frag):Sp:=λvs H Q _=>∃(n a e:Int) (p:Addr) (qs:List Int),vs=[.int n,.int a,.int e,.ref p]/\0<n/\n<=10^120/\0<=e/\e<=10^120/\aS K H p (qs.map V.int)/\(∀ q∈qs,0<q/\q<=10^120)/\qs.length<=10^6/\∀ b H',(b=true↔z6 n a e qs)->az H H'->Q (.bl b) H'
theorem iw:aw ["n","a","e","primes"] ["n","a","e","primes"] (ai (top 16)):=d6
theorem oK {C:Addr} (D:au K mg "is_least" (top 16)) (c_power:Callee P w K mg base (iE P w) 4 "power" ["n","a","e"] (dS C)) (n_all:mg "all"=none):Callee P w K mg base aO 5 "is_least" ["n","a","e","primes"] (kC K):=by
 refine cO D iw (λf cdv A outer s H vs Q E hr h=>?_)
 obtain⟨n,a,e,p,qs,rfl,hn,hn1,he,he1,hS,hq,hl,q⟩:=h
 have nd:=iw.nd
 refine⟨_,(aj (ay (bH (bR cn (b0 c_power hr bE (aa (pv 0) (aa (pv 1) (aa (pv 2) af)))) ag (aB _)) (cV (aF (iQ rfl) rfl n_all L2.boot_all (aa (dW rfl (oj (N':=["prime","n","a","e"]) (js:=[none,some 0,some 1,some 2]) rfl rfl) (b6 (pv 3)) (λ_ _ _ _=>(ax (i:=0) (show List.Nodup [("prime":Str),("n":Str),("a":Str),("e":Str)] from by decide +kernel) rfl (Or.inl rfl) (.inr rfl))) (λ_ _ _ _=>bA) (λ_ _ _ _=>(bR i9 (b0 c_power hr bE (aa (pv 1) (aa (pv 2) (aa (aq bQ (pv 3) (pv 0)) af)))) ag (aB _)))) af)))))),?_⟩
 show lZ _ _ [some (.int n),some (.int a),some (.int e),some (.ref p)] H
 k_data
 refine⟨n,a,e,rfl,hn,hn1,λ_ H1 s1=>?_,λz=>absurd z (by omega)⟩
 have hS1:=hS.same s1
 k_data
 refine aP (λc=>?_) (λc=>?_)
 ·refine⟨⟨_,hS1⟩,?_⟩
  refine bX (xs:=qs.map V.int) (λi zs H3=>az H H3/\zs=((qs.take i).map λq=>decide (a^(e/q).toNat%n≠1)).map V.bl) ⟨s1,rfl⟩ (by rw [List.length_map];exact Nat.le_trans hl (show 10^6<=sizeLine by decide)) (λi zs H3 hi ⟨e1,e2⟩=>⟨hS.same e1,by rw [e2];simp;omega⟩) ?_ ?_
  ·rintro i x zs H3 hx ⟨s3,rfl⟩
   rw [List.getElem?_map] at hx
   obtain⟨y,hy,rfl⟩:=Option.map_eq_some_iff.mp hx
   have my:=hq y (List.mem_of_getElem? hy)
   show cH 0 _ [none,some (.int n),some (.int a),some (.int e)] _ _
   k_data
   refine⟨⟨rfl,rfl,rfl,True.intro⟩,my.1,Bd.of (by omega) (by omega),n,a,e/y,rfl,hn,hn1,λ_ H4 s4=>⟨gz,?_⟩,λz=>absurd (Int.ediv_nonneg he (show 0<=y by omega)) (by omega)⟩
   refine⟨s3.trans s4,?_⟩
   rw [List.take_add_one,hy,List.map_append,List.map_append]
   simp
  ·rintro zs H3 p3 ⟨s3,rfl⟩ hp3
   rw [List.length_map,List.take_length]
   refine rS (bs:=qs.map λq=>decide (a^(e/q).toNat%n≠1)) (aS.of ah) ?_
   refine q _ _ ?_ (s3.trans (ak hp3))
   rw [List.all_eq_true]
   constructor
   ·intro h
    refine⟨c,λy hy=>?_⟩
    have:=h _ (List.mem_map.mpr ⟨y,hy,rfl⟩)
    simpa using this
   ·intro h b hb
    obtain⟨y,hy,rfl⟩:=List.mem_map.mp hb
    simpa using h.2 y hy
 ·exact q false _ ⟨λz=>(by cases z),λz=>absurd z.1 c⟩ s1
theorem cR {n x:Int} (hn:2<=n):x%n=1↔Num.Al n x 1:=by
 constructor
 ·intro h
  refine⟨x/n,?_⟩
  have:=Int.emod_add_mul_ediv x n
  omega
 ·rintro⟨k,hk⟩
  rw [show x=1+n*k by omega,Int.add_mul_emod_self_left]
  exact Int.emod_eq_of_lt (by omega) (by omega)
theorem lC {n a e:Int} {ps:List (Int × Int)} (hn:2<=n) (h:Num.Part e ps) (he:1<=e):z6 n a e (ps.map (·.1))↔Num.Ord n a e.toNat:=by
 rw [<- Num.tN h he]
 unfold z6
 rw [cR hn]
 constructor
 ·exact fun⟨h1,h2⟩=>⟨h1,λq hq z=>h2 q hq ((cR hn).mpr z)⟩
 ·exact fun⟨h1,h2⟩=>⟨h1,λq hq z=>h2 q hq ((cR hn).mp z)⟩
theorem eC (P:Int->Prop) {g:Int} (h1:1<=g) (h:P g):∃ m,1<=m/\m<=g/\P m/\∀ a,1<=a->a<m->¬P a:=by
 have:∀(k:Nat) (g:Int),g.toNat=k->1<=g->P g->∃ m,1<=m/\m<=g/\P m/\∀ a,1<=a->a<m->¬P a:=by
  intro k
  induction k using Nat.strongRecOn with
  | ind k ih =>
   intro g hk h1 hg
   by_cases c:∃ a,1<=a/\a<g/\P a
   ·obtain⟨a,a1,a2,a3⟩:=c
    obtain⟨m,m1,m2,m3,m4⟩:=ih a.toNat (by omega) a rfl a1 a3
    exact⟨m,m1,by omega,m3,m4⟩
   ·exact⟨g,h1,Int.le_refl _,hg,λa a1 a2 a3=>c ⟨a,a1,a2,a3⟩⟩
 exact this _ g rfl h1 h
theorem zj {p:Int} (hp:Num.Pm p):∃ g,Num.LF p g:=by
 obtain⟨g,g1,g2,g3⟩:=Num.vc hp
 obtain⟨m,m1,m2,m3,m4⟩:=eC (λa=>Num.Ord p a (p-1).toNat) g1 g3
 exact⟨m,m1,by omega,m3,m4⟩
theorem vH {n:Int} {ps:List (Int × Int)} (h:Num.Part n ps) (hn:1<=n):∀ q∈ps.map (·.1),2<=q/\q<=n:=λq hq=>by
 obtain⟨x,hx,rfl⟩:=List.mem_map.mp hq
 obtain⟨o1,o2,_⟩:=h.ok x hx
 have:=Num.cG hx o2
 rw [h.prod] at this
 exact⟨o1.two,Int.le_of_dvd (by omega) this⟩
def dF:Sp:=λvs H Q _=>∃(n a:Int) (e:Int),vs=[.int n,.int a,.int e]/\0<n/\n<=10^100/\0<=e/\Q (.int (a^e.toNat%n)) H
theorem fD:aw ["_law_n","_law_a","_law_e","_law_found","_law_base"] ["_law_n","_law_a","_law_e"] (ai (top 35)):=d6
theorem q5 (D:au K mg "_law_power" (top 35)):Callee P w K mg base aO 1 "_law_power" ["_law_n","_law_a","_law_e"] dF:=by
 refine cO D fD (λf cdv A outer s H vs Q E hr h=>?_)
 obtain⟨n,a,e,rfl,hn,hn1,he,q⟩:=h
 have nd:=fD.nd
 refine⟨_,(ae (bY (i:=3) nd (aq aU ag (pv 0))) (ae (bY (i:=4) nd (aq aU (pv 1) (pv 0))) (ae (bB PassesOwn.never (aC fC (pv 2) ag (aB _)) (ae (gX (bt (aC cn (aq aU (pv 2) ag) ag (aB _)) (aj (bY (i:=3) nd (aq aU (aq bw (pv 3) (pv 4)) (pv 0)))) aG)) (ae (bY (i:=4) nd (aq aU (aq bw (pv 4) (pv 4)) (pv 0))) (aj (bY (i:=2) nd (aq bQ (pv 2) ag)))))) (aj (ay (pv 3)))))),?_⟩
 show bT _ _ _ [some (.int n),some (.int a),some (.int e),none,none] H
 k_data
 refine⟨hn,hn,?_⟩
 have r0:=λx:Int=>Int.emod_nonneg x (show n≠0 by omega)
 have r1:=λx:Int=>Int.emod_lt_of_pos x hn
 refine bC (α:=Nat × Int × Int) (λx=>[some (.int n),some (.int a),some (.int (x.1:Int)),some (.int x.2.1),some (.int x.2.2)]) (λx H1=>H1=H/\0<=x.2.2/\x.2.2<n/\0<=x.2.1/\x.2.1<n/\x.2.1*x.2.2^x.1%n=a^e.toNat%n) (λx=>x.1) (e.toNat,1%n,a%n) (by rw [show ((e.toNat:Nat):Int)=e by omega]) ⟨rfl,r0 a,r1 a,r0 1,r1 1,?_⟩ ?_
 ·show 1%n*(a%n)^e.toNat%n=_
  rw [Pw.wJ,Int.one_mul,Pw.gq]
 rintro⟨l,r,b⟩ H1 ⟨rfl,h1,h2,h3,h4,h5⟩
 replace h1:0<=b:=h1
 replace h2:b<n:=h2
 replace h3:0<=r:=h3
 replace h4:r<n:=h4
 replace h5:r*b^l%n=a^e.toNat%n:=h5
 k_data
 refine aP (λc=>?_) (λc=>?_)
 ·refine⟨_,λ_ _ z=>z,λσ' H2=>H2=H1/\σ'=[some (.int n),some (.int a),some (.int (l:Int)),some (.int (if l%2=1 then r*b%n else r)),some (.int b)],?_,?_⟩
  ·k_data
   refine aP (λc=>?_) (λc=>?_)
   ·exact⟨Bd.of (by omega) (by omega),Bd.of (by omega) (by omega),hn,by rw [if_pos (by omega)]⟩
   ·rw [if_neg (by omega)]
  rintro σ' H2 ⟨rfl,rfl⟩
  k_data
  have z0:0<=(if l%2=1 then r*b%n else r)/\(if l%2=1 then r*b%n else r)<n:=by
   split
   ·exact⟨r0 _,r1 _⟩
   ·exact⟨h3,h4⟩
  refine⟨Bd.of (by omega) (by omega),Bd.of (by omega) (by omega),hn,yG (by decide),(l/2,(if l%2=1 then r*b%n else r),b*b%n),(by show (l:Int)/2=((l/2:Nat):Int);omega),rfl,rfl,r0 _,r1 _,z0.1,z0.2,?_,?_⟩
  ·show (if l%2=1 then r*b%n else r)*(b*b%n)^(l/2)%n=_
   rw [Pw.step]
   exact h5
  ·show l/2<l
   omega
 ·have l0:l=0:=by omega
  subst l0
  rw [Int.pow_zero,Int.mul_one,Int.emod_eq_of_lt h3 h4] at h5
  rw [h5]
  exact q
def rD (p:Int × Int):PyData:=.tuple [.int p.1,.int p.2]
def fm (K:PySem.W.Frag):Sp:=λvs H Q _=>∃ n:Int,vs=[.int n]/\1<=n/\n<=10^9/\∀ ps us p H',Num.Part n ps->ps.length<=29->az H H'->H p=none->H' p=some (.lst us)->aJ K H' (ps.map rD) us->Q (.ref p) H'
theorem j8 {n d:Int} (h:Ld.Inv n d) (hk:¬d∣n):Ld.Inv n (d+1+d%2):=by
 have:=h.step hk
 rcases h.odd with z | z
 ·rw [if_pos z] at this
  rwa [show d+1+d%2=d+1 by omega]
 ·rw [if_neg (by omega)] at this
  rwa [show d+1+d%2=d+2 by omega]
theorem eQ:aw ["_law_n","_law_found","_law_d","_law_many"] ["_law_n"] (ai (top 36)):=d6
theorem i7 (D:au K mg "_law_parted" (top 36)):Callee P w K mg base aO 1 "_law_parted" ["_law_n"] (fm K):=by
 refine cO D eQ (λf cdv A outer s H vs Q E hr h=>?_)
 obtain⟨n,rfl,n1,n9,q⟩:=h
 have nd:=eQ.nd
 refine⟨_,(ae (bY (i:=1) nd (fR af)) (ae (bY (i:=2) nd ag) (ae (bB PassesOwn.never (aC fC (pv 0) ag (aB _)) (ae (gX (bt (aC fC (aq bw (pv 2) (pv 2)) (pv 0) (aB _)) (aj (bY (i:=2) nd (pv 0))) aG)) (ae (bY (i:=3) nd ag) (ae (bB PassesOwn.never (aC cn (aq aU (pv 0) (pv 2)) ag (aB _)) (ae (bY (i:=0) nd (aq bQ (pv 0) (pv 2))) (aj (bY (i:=3) nd (aq bG (pv 3) ag))))) (ae (gX (bt (aC fC (pv 3) ag (aB _)) (aj (qd (wM PySem.F.plainAttrs_list PySem.F.slot_list_append PySem.F.type_list_append qX (pv 1) (aa (bj (aa (pv 2) (aa (pv 3) af))) af)))) aG)) (aj (bY (i:=2) nd (aq bG (aq bG (pv 2) ag) (aq aU (pv 2) ag))))))))) (aj (ay (pv 1)))))),?_⟩
 show bT _ _ _ [some (.int n),none,none,none] H
 k_data
 refine⟨by decide,λpp hpp=>?_⟩
 refine bC (α:=Int × Int × Option V) (λx=>[some (.int x.1),some (.ref pp),some (.int x.2.1),x.2.2]) (λx H1=>az H H1/\∃(ps:List (Int × Int)) (us:List V) (pr:Int),H1 pp=some (.lst us)/\aJ K H1 (ps.map rD) us/\Num.Way n ps x.1 pr/\Ld.Inv x.1 x.2.1/\x.2.1<=10^9+10) (λx=>(10^9+20-x.2.1).toNat+x.1.toNat*10^10) (n,2,none) rfl ⟨ak hpp,[],[],2,ah,rfl,.start (by omega),⟨by show (2:Int)<=2;decide,.inl rfl,λd d0 (d1:d<2)=>by omega⟩,by show (2:Int)<=10^9+10;decide⟩ ?_
 rintro⟨left,d,o⟩ H1 ⟨hs,ps,us,pr,epp,hd,W,I,d9⟩
 replace W:Num.Way n ps left pr:=W
 replace I:Ld.Inv left d:=I
 replace d9:d<=10^9+10:=d9
 have l1:=W.pos
 have d2:=I.two
 have ln:left<=n:=by
  have z:=W.two
  have p0:=Num.aA (show (0:Int)<2 by decide) ps.length
  have:=Int.mul_le_mul_of_nonneg_right (show (1:Int)<=2^ps.length by omega) (show 0<=left by omega)
  omega
 k_data
 refine aP (λc3=>?_) (λc3=>?_)
 ·have dl:d<=left:=by
   rcases (by omega:d<=left∨left<d) with z | z
   ·exact z
   ·exact absurd (Int.dvd_refl left) (I.no left (by omega) z)
  refine⟨_,λ_ _ z=>z,λσ' H2=>H2=H1/\∃ e:Int,σ'=[some (.int left),some (.ref pp),some (.int e),o]/\d<=e/\e<=left/\Ld.Inv left e,?_,?_⟩
  ·k_data
   refine⟨Bd.of (by omega) (by omega),Bd.of (by omega) (by omega),?_⟩
   refine aP (λc4=>?_) (λc4=>?_)
   ·have hL:=I.done (by omega) c4
    refine⟨dl,Int.le_refl _,⟨by omega,?_,hL.no⟩⟩
    rcases (by omega:left=2∨left%2=1∨(left%2=0/\2<left)) with z | z | z
    ·exact .inl z
    ·exact .inr z
    ·exact absurd (Int.dvd_of_emod_eq_zero z.1) (hL.no 2 (by decide) z.2)
   ·exact⟨Int.le_refl _,dl,I⟩
  rintro σ' H2 ⟨rfl,e,rfl,de,el,Ie⟩
  have e2:=Ie.two
  k_data
  refine bC (α:=Int × Nat) (λx=>[some (.int x.1),some (.ref pp),some (.int e),some (.int (x.2:Int))]) (λx H3=>H3=H2/\left=e^x.2*x.1/\1<=x.1/\x.1<=left) (λx=>x.1.toNat) (left,0) rfl ⟨rfl,by rw [Int.pow_zero,Int.one_mul],by omega,Int.le_refl _⟩ ?_
  rintro⟨lf,k⟩ H3 ⟨rfl,f1,f2,f3⟩
  replace f1:left=e^k*lf:=f1
  replace f2:1<=lf:=f2
  replace f3:lf<=left:=f3
  k_data
  refine⟨by omega,?_⟩
  refine aP (λc4=>?_) (λc4=>?_)
  ·obtain⟨y,hy⟩:=Int.dvd_of_emod_eq_zero c4
   have ey:lf/e=y:=by rw [hy];exact Int.mul_ediv_cancel_left _ (by omega)
   have y1:1<=y:=by
    rcases (by omega:y<=0∨1<=y) with z | z
    ·have:=Int.mul_nonpos_of_nonneg_of_nonpos (show 0<=e by omega) z
     omega
    ·exact z
   have yl:y<lf:=by
    rw [hy]
    have:=Int.mul_le_mul_of_nonneg_right e2 (show 0<=y by omega)
    omega
   refine⟨_,λ_ _ z=>z,by omega,Bd.of (by omega) (by omega),(y,k+1),?_,rfl,?_,y1,by show y<=left;omega,by show y.toNat<lf.toNat;omega⟩
   ·rw [ey];rfl
   ·show left=e^(k+1)*y
    rw [f1,hy,Int.pow_succ,Int.mul_assoc]
  ·have ng:¬e∣lf:=λz=>c4 (Int.emod_eq_zero_of_dvd z)
   refine⟨λσ' H4=>az H H4/\σ'=[some (.int lf),some (.ref pp),some (.int e),some (.int (k:Int))]/\∃(ps:List (Int × Int)) (us:List V) (pr:Int),H4 pp=some (.lst us)/\aJ K H4 (ps.map rD) us/\Num.Way n ps lf pr/\Ld.Inv lf (e+1+e%2)/\(k=0->lf=left)/\(0<k->lf<left),?_,?_⟩
   ·k_data
    refine aP (λc5=>?_) (λc5=>?_)
    ·have k1:1<=k:=by omega
     have hL:Ld.fw left e:=Ie.found (by
      obtain⟨k',rfl⟩:∃ k',k=k'+1:=⟨k-1,by omega⟩
      rw [f1,Int.pow_succ]
      exact Int.dvd_mul_of_dvd_left ⟨e^k',Int.mul_comm _ _⟩)
     have W2:=W.step n9 c3 hL f1 f2 k1 ng
     have len:=W.len n9
     have ul:us.length=ps.length:=by rw [hd.length,List.length_map]
     have lt:lf<left:=by
      obtain⟨k',rfl⟩:∃ k',k=k'+1:=⟨k-1,by omega⟩
      have p0:=Num.aA (show 0<e by omega) k'
      have h1:e<=e^(k'+1):=by
       rw [Int.pow_succ]
       have:=Int.mul_le_mul_of_nonneg_right (show 1<=e^k' by omega) (show 0<=e by omega)
       omega
      have:=Int.mul_le_mul_of_nonneg_right (show 2<=e^(k'+1) by omega) (show 0<=lf by omega)
      omega
     refine⟨.inl ⟨rfl,_,aS.of epp⟩,by show 2<=sizeLine;decide,λpt hpt=>?_⟩
     have s2:=ak (o:=.tup [V.int e,V.int (k:Int)]) hpt
     have npt:pp≠pt:=λz=>by rw [<- z,epp] at hpt;cases hpt
     have el':=s2 _ _ epp
     have et:upd H3 pt (.tup [V.int e,V.int (k:Int)]) pt=some (.tup [V.int e,V.int (k:Int)]):=ah
     have hd2:=aJ.same s2 _ hd
     have S2:=hs.trans s2
     generalize upd H3 pt _=H4 at *
     refine⟨pp,us,.ref pt,rfl,rfl,el',Nat.lt_of_le_of_lt (show us.length<=29 by omega) (by decide),S2.upd hpp,ps++[(e,(k:Int))],us++[.ref pt],ah,?_,e,W2,j8 W2.inv ng,λz=>absurd z (by omega),λ_=>lt⟩
     rw [List.map_append]
     refine aJ.append (aJ.but el' (λb o ne h=>by rw [ao ne];exact h) _ (m8 (λ_=>rfl) ps) hd2) (.one (dv.tup (xs:=[V.int e,V.int (k:Int)]) ?_ ⟨_,_,rfl,rfl,.one rfl⟩))
     rw [ao (Ne.symm npt)]
     exact et
    ·have k0:k=0:=by omega
     subst k0
     rw [Int.pow_zero,Int.one_mul] at f1
     subst f1
     exact⟨hs,ps,us,epp,hd,pr,W,j8 Ie ng,λ_=>rfl,λz=>absurd z (by omega)⟩
   ·rintro σ' H4 ⟨S4,rfl,ps',us',pr',g1,g2,g3,g4,g5,g6⟩
    k_data
    refine⟨(lf,e+1+e%2,some (.int (k:Int))),rfl,rfl,rfl,S4,⟨ps',us',g1,g2,pr',g3,g4,by show e+1+e%2<=10^9+10;omega⟩,?_⟩
    show (10^9+20-(e+1+e%2)).toNat+lf.toNat*10^10<(10^9+20-d).toNat+left.toNat*10^10
    rcases Nat.eq_zero_or_pos k with z | z
    ·have:=g5 z
     omega
    ·have:=g6 z
     omega
 ·have z:left=1:=by omega
  subst z
  exact q ps us pp H1 W.done (W.len n9) hs hpp epp hd
theorem iu {ps:List (Int × Int)} {p:Int × Int} {ds ds':Nat->PyData} (h:∀ j,j<ps.length->ds' j=ds j):Num.rowsOf (ps++[p]) ds'=Num.rowsOf ps ds++[.tuple [ds' ps.length,.int p.2]]:=by
 unfold Num.rowsOf
 rw [List.length_append,List.length_singleton,List.range_succ,List.map_append]
 congr 1
 ·refine List.map_congr_left λj hj=>?_
  have:=List.mem_range.mp hj
  rw [h j this,List.getD_eq_getElem?_getD,List.getD_eq_getElem?_getD,List.getElem?_append_left this]
 ·simp
theorem gO {H:Hp} {q k:Int} {v:V} (h:dv K H (rD (q,k)) v):∃ p,v=.ref p/\bS K H p [.int q,.int k]:=by
 obtain⟨p,xs,rfl,h1,x,r,rfl,d1,y,r',rfl,d2,h4⟩:=h
 cases h4
 cases d1
 cases d2
 exact⟨p,rfl,h1⟩
theorem ve {x:Int} {zs:List Int} {H:Hp} {p:Addr} {Q:VK} (h:aS K H p (zs.map V.int)) (q:Q (.bl (decide (x∈zs))) H):A0 K false (.int x) (.ref p) H Q:=by
 refine⟨p,_,rfl,.inl h,rfl,by simp [en],?_⟩
 have:Ab (.int x) (zs.map V.int)=decide (x∈zs):=by
  unfold Ab
  rw [Bool.eq_iff_iff,List.any_eq_true,decide_eq_true_iff]
  constructor
  ·rintro⟨v,hv,e⟩
   obtain⟨y,hy,rfl⟩:=List.mem_map.mp hv
   have:y=x:=by simpa [sr] using e
   rw [<- this];exact hy
  ·intro hx
   exact⟨.int x,List.mem_map.mpr ⟨x,hx,rfl⟩,by simp [sr]⟩
 rw [if_neg (by decide),this]
 exact q
theorem sF {n x:Int} {ps:List (Int × Int)} (hp:Num.Pm n) (hP:Num.Part (n-1) ps) (x1:1<=x) (x2:x<n):(1∉ps.map λp=>x^((n-1)/p.1).toNat%n)↔Num.Ord n x (n-1).toNat:=by
 have n2:=hp.two
 rw [<- lC n2 hP (by omega)]
 have f:=(cR n2).mpr (Num.xI hp (a:=x) λz=>by have:=Int.le_of_dvd (by omega) z;omega)
 constructor
 ·intro h
  refine⟨f,λq hq z=>?_⟩
  obtain⟨p,hp',rfl⟩:=List.mem_map.mp hq
  exact h (List.mem_map.mpr ⟨p,hp',z⟩)
 ·rintro⟨_,h⟩ z
  obtain⟨p,hp',e⟩:=List.mem_map.mp z
  exact h p.1 (List.mem_map.mpr ⟨p,hp',rfl⟩) e
def eU (K:PySem.W.Frag) (L:Nat):Sp:=λvs H Q _=>∃ n:Int,vs=[.int n]/\Num.Pm n/\n<=10^9/\Num.Ht L n/\∀ d v H',Num.fb n d->az H H'->dv K H' d v->Q v H'
theorem dg:aw ["_law_p","_law_some","_law_full"] ["_law_p"] (ai (top 37)):=d6
theorem oN {L:Nat} (D:au K mg "_law_paper" (top 37)) (c__law_parted:Callee P w K mg base aO 1 "_law_parted" ["_law_n"] (fm K)) (c__law_power:Callee P w K mg base aO 1 "_law_power" ["_law_n","_law_a","_law_e"] dF) (c__law_paper:Callee P w K mg base aO (L+2) "_law_paper" ["_law_p"] (eU K L)) (n_tuple:mg "tuple"=none):Callee P w K mg base aO (L+3) "_law_paper" ["_law_p"] (eU K (L+1)):=by
 refine cO D dg (λf cdv A outer s H vs Q E hr h=>?_)
 obtain⟨n,rfl,hp,hn,hH,q⟩:=h
 have n2:=hp.two
 obtain⟨g,G⟩:=zj hp
 have g1:=G.one
 have g2:=G.lt
 have nd:=dg.nd
 refine⟨_,(ae (bY (i:=1) nd (bf c__law_parted (hr.mono (by omega)) rfl aD (aa (aq cU (pv 0) ag) af))) (ae (gY (i:=2) nd rfl (Or.inr rfl) ag) (ae (bB PassesOwn.never (aC rq ag (dW rfl (oj (N':=["_law_q","_law_many","_law_p","_law_full"]) (js:=[none,none,some 0,some 2]) rfl rfl) (b6 (pv 1)) (λ_ _ _ _=>(dO K rfl (n:=2) rfl (aE (ax (i:=0) (show List.Nodup [("_law_q":Str),("_law_many":Str),("_law_p":Str),("_law_full":Str)] from by decide +kernel) rfl (Or.inl rfl) (.inr rfl)) (aE (ax (i:=1) (show List.Nodup [("_law_q":Str),("_law_many":Str),("_law_p":Str),("_law_full":Str)] from by decide +kernel) rfl (Or.inl rfl) (.inr rfl)) bJ)))) (λ_ _ _ _=>bA) (λ_ _ _ _=>(bf c__law_power (hr.mono (by omega)) rfl aD (aa (pv 2) (aa (pv 3) (aa (aq bQ (aq cU (pv 2) ag) (pv 0)) af)))))) (by with_unfolding_all rfl)) (aj (gY (i:=2) nd rfl (Or.inr rfl) (aq bG (pv 2) ag)))) (aj (ay (bj (aa (pv 0) (aa (pv 2) (aa (cu cz rfl n_tuple L2.boot_tuple (aa (dW rfl (oj (N':=["_law_q","_law_many"]) (js:=[none,none]) rfl rfl) (b6 (pv 1)) (λ_ _ _ _=>(dO K rfl (n:=2) rfl (aE (ax (i:=0) (show List.Nodup [("_law_q":Str),("_law_many":Str)] from by decide +kernel) rfl (Or.inl rfl) (.inr rfl)) (aE (ax (i:=1) (show List.Nodup [("_law_q":Str),("_law_many":Str)] from by decide +kernel) rfl (Or.inl rfl) (.inr rfl)) bJ)))) (λ_ _ _ _=>bA) (λ_ _ _ _=>(bj (aa (bf c__law_paper (hr.mono (by omega)) rfl aD (aa (pv 0) af)) (aa (pv 1) af))))) af)) af))))))))),?_⟩
 show bT _ _ _ [some (.int n),none,none] H
 k_data
 refine⟨n-1,rfl,by omega,by omega,λps us p H1 hP hl s1 f1 h1 hd=>?_⟩
 have ul:us.length=ps.length:=by rw [hd.length,List.length_map]
 refine bC (α:=Int) (λx=>[some (.int n),some (.ref p),some (.int x)]) (λx H2=>az H1 H2/\1<=x/\x<=g) (λx=>(g-x).toNat) 1 rfl ⟨az.refl _,Int.le_refl _,g1⟩ ?_
 rintro x H2 ⟨s2,x1,x2⟩
 replace x1:1<=x:=x1
 replace x2:x<=g:=x2
 k_data
 refine⟨⟨_,aS.of (s2 _ _ h1)⟩,?_⟩
 have at_:∀{i:Nat} {v:V},us[i]?=some v->∃ q' k',ps[i]?=some (q',k')/\(Num.Pm q'/\1<=k')/\q'∣n-1/\q'<=n-1/\∃ pt,v=.ref pt/\bS K H1 pt [.int q',.int k']:=by
  intro i v hx
  obtain⟨d,hd',hv⟩:=hd.get hx
  rw [List.getElem?_map] at hd'
  obtain⟨⟨q',k'⟩,hy,rfl⟩:=Option.map_eq_some_iff.mp hd'
  have hok:=hP.ok _ (List.mem_of_getElem? hy)
  have hdv:q'∣n-1:=by
   have:=Num.cG (List.mem_of_getElem? hy) hok.2.1
   rwa [hP.prod] at this
  exact⟨q',k',hy,⟨hok.1,hok.2.1⟩,hdv,Int.le_of_dvd (by omega) hdv,gO hv⟩
 refine bX (xs:=us) (λi zs H3=>H3=H2/\zs=((ps.take i).map λy=>x^((n-1)/y.1).toNat%n).map V.int) ⟨rfl,rfl⟩ (by rw [ul];exact Nat.le_trans hl (by decide)) (λi zs H3 hi ⟨z1,z2⟩=>⟨by rw [z1];exact aS.of (s2 _ _ h1),by rw [z2,List.length_map,List.length_map,List.length_take];omega⟩) ?_ ?_
 ·rintro i v zs H3 hx ⟨rfl,rfl⟩
  obtain⟨q',k',hy,hok,hdv,ql,pt,rfl,tt⟩:=at_ hx
  have q2:=hok.1.two
  show jO K 2 _ _ [none,none,some (.int n),some (.int x)] _ _
  refine⟨pt,_,rfl,tt.same s2,rfl,?_⟩
  k_data
  refine⟨⟨rfl,rfl,True.intro⟩,by omega,Bd.of (by omega) (by omega),n,x,(n-1)/q',rfl,by omega,by omega,Int.ediv_nonneg (by omega) (by omega),rfl,?_⟩
  rw [List.take_add_one,hy,List.map_append,List.map_append]
  rfl
 ·rintro zs H3 p3 ⟨rfl,rfl⟩ hp3
  rw [ul,List.take_length]
  have s3:=ak (o:=.lst ((ps.map λy=>x^((n-1)/y.1).toNat%n).map V.int)) hp3
  refine ve (aS.of ah) ⟨_,rfl,?_⟩
  have S3:=s2.trans s3
  generalize upd H3 p3 _=H4 at *
  have hf:=sF hp hP x1 (by omega)
  refine aP (λc=>?_) (λc=>?_)
  ·have hin:=of_decide_eq_true c
   have ne:x≠g:=λz=>(hf.mpr (z▸G.ord)) hin
   exact⟨_,λ_ _ z=>z,x+1,rfl,S3,by omega,by omega,by omega⟩
  ·have o:=hf.mp λz=>c (decide_eq_true z)
   have xg:x=g:=by
    rcases (by omega:x=g∨x<g) with z | z
    ·exact z
    ·exact absurd o (G.no x x1 z)
   subst xg
   refine⟨⟨_,aS.of (S3 _ _ h1)⟩,?_⟩
   refine bX (xs:=us) (λi zs H5=>az H4 H5/\∃ ds,(∀ j q k,(ps.take i)[j]?=some (q,k)->Num.fb q (ds j))/\aJ K H5 (Num.rowsOf (ps.take i) ds) zs) ⟨az.refl _,λ_=>.none,λj q k z=>by simp at z,rfl⟩ (by rw [ul];exact Nat.le_trans hl (by decide)) (λi zs H5 hi ⟨e1,ds,e2,e3⟩=>⟨aS.of (e1 _ _ (S3 _ _ h1)),by rw [e3.length,Num.aV,List.length_take];omega⟩) ?_ ?_
   ·rintro i v zs H5 hx ⟨s5,ds,hds,hz⟩
    obtain⟨q',k',hy,hok,hdv,ql,pt,rfl,tt⟩:=at_ hx
    show jO K 2 _ _ [none,none] _ _
    refine⟨pt,_,rfl,tt.same (S3.trans s5),rfl,?_⟩
    k_data
    refine⟨True.intro,q',rfl,hok.1,by omega,hH q' hok.1 hdv,λd v H6 hp6 s6 hv6=>⟨by show 2<=sizeLine;decide,λp7 hp7=>?_⟩⟩
    have s7:=ak (o:=.tup [v,V.int k']) hp7
    have tk:ps.take (i+1)=ps.take i++[(q',k')]:=by rw [List.take_add_one,hy];rfl
    have il:i<ps.length:=(List.getElem?_eq_some_iff.mp hy).1
    have tl:(ps.take i).length=i:=by rw [List.length_take];omega
    refine⟨(s5.trans s6).trans s7,λj=>if j=i then d else ds j,λj q k hj=>?_,?_⟩
    ·rw [tk] at hj
     rcases (by omega:j<i∨j=i∨i<j) with z | z | z
     ·rw [List.getElem?_append_left (by omega)] at hj
      show Num.fb q (if j=i then d else ds j)
      rw [if_neg (by omega)]
      exact hds j q k hj
     ·subst z
      rw [List.getElem?_append_right (by omega),tl,Nat.sub_self] at hj
      show Num.fb q (if j=j then d else ds j)
      rw [if_pos rfl]
      cases hj
      exact hp6
     ·rw [List.getElem?_eq_none (by simp;omega)] at hj
      cases hj
    ·rw [tk,iu (ds:=ds) (λj hj=>if_neg (by omega)),tl,if_pos rfl]
     exact aJ.append (aJ.same (s6.trans s7) _ hz) (.one (dv.tup ah ⟨_,_,rfl,dv.same s7 _ hv6,.one rfl⟩))
   ·rintro zs H5 p5 ⟨s5,ds,hds,hz⟩ hp5
    rw [ul,List.take_length] at hds hz
    have s6:=ak (o:=.lst zs) hp5
    refine⟨p5,rfl,zs,.inl ⟨aS.of ah,λl hl'=>⟨by show 3<=sizeLine;decide,λp8 hp8=>?_⟩⟩⟩
    generalize upd H5 p5 _=H6 at *
    have s7:=ak (o:=.tup zs) hl'
    have e7:upd H6 l (.tup zs) l=some (.tup zs):=ah
    generalize upd H6 l _=H7 at *
    have s8:=ak (o:=.tup [V.int n,V.int x,V.ref l]) hp8
    refine q _ _ _ (.mk n x ps ds hp hn G hP hl hds) (((((s1.trans S3).trans s5).trans s6).trans s7).trans s8) (dv.tup ah ⟨_,_,rfl,rfl,_,_,rfl,rfl,.one (dv.tup (s8 _ _ e7) (aJ.same ((s6.trans s7).trans s8) _ hz))⟩)
theorem oM (D:au K mg "_law_paper" (top 37)):Callee P w K mg base aO 2 "_law_paper" ["_law_p"] (eU K 0):=by
 refine cO D dg (λf cdv A outer s H vs Q E hr h=>?_)
 obtain⟨n,rfl,hp,hn,hH,q⟩:=h
 exact hH.elim
theorem i6 (D:au K mg "_law_paper" (top 37)) (c__law_parted:Callee P w K mg base aO 1 "_law_parted" ["_law_n"] (fm K)) (c__law_power:Callee P w K mg base aO 1 "_law_power" ["_law_n","_law_a","_law_e"] dF) (n_tuple:mg "tuple"=none):∀ L:Nat,Callee P w K mg base aO (L+2) "_law_paper" ["_law_p"] (eU K L)
 | 0=>oM D
 | L+1=>(oN D c__law_parted c__law_power (i6 D c__law_parted c__law_power n_tuple L) n_tuple).mono (by omega)
def kE (K:PySem.W.Frag):Sp:=λvs H Q _=>∃ n:Int,vs=[.int n]/\Num.Pm n/\n<=10^9/\∀ d v H',Num.fb n d->az H H'->dv K H' d v->Q v H'
theorem vm (h:Callee P w K mg base aO (30+2) "_law_paper" ["_law_p"] (eU K 30)):Callee P w K mg base aO 32 "_law_paper" ["_law_p"] (kE K) :=
 Callee.imp h λvs H Q E z=>by
  obtain⟨n,h1,h2,h3,q⟩:=z
  exact⟨n,h1,h2,h3,Num.sM h2 h3,q⟩
theorem vE {n:Int} {d:PyData} (h:Num.fb n d):∃ g ps ds,d=.tuple [.int n,.int g,.tuple (Num.rowsOf ps ds)]/\Num.LF n g/\Num.Part (n-1) ps/\ps.length<=29/\∀ i q k,ps[i]?=some (q,k)->Num.fb q (ds i):=by
 cases h with
 | mk _ g ps ds h1 h2 h3 h4 h5 h6=>exact⟨g,ps,ds,rfl,h3,h4,h5,h6⟩
theorem ja {n:Int} {d:PyData} (h:Num.fb n d):Num.Pm n/\n<=10^9:=by
 cases h with
 | mk _ _ _ _ a b=>exact⟨a,b⟩
mutual
def sD:Nat->PyData->Prop
 | 0,_=>False
 | _+1,.none=>True
 | _+1,.bool _=>True
 | _+1,.int _=>True
 | L+1,.list ds=>ds.length<=10^6/\uI L ds
 | L+1,.tuple ds=>ds.length<=10^6/\uI L ds
 | _+1,_=>False
def uI:Nat->List PyData->Prop
 | _,[]=>True
 | L,d::ds=>sD L d/\uI L ds
end
theorem ub:∀{L:Nat} {ds:List PyData} {i:Nat} {d:PyData},uI L ds->ds[i]?=some d->sD L d
 | L,[],i,d,_,h=>by simp at h
 | L,e::ds,0,d,h,z=>by
  simp only [uI] at h
  cases z
  exact h.1
 | L,e::ds,i+1,d,h,z=>by
  simp only [uI] at h
  exact ub h.2 (by simpa using z)
theorem mv {k:Sd} {H H':Hp} {a:Addr} {xs:List V} (h:mf k K H a xs) (s:az H H'):mf k K H' a xs:=by
 cases k
 ·exact aS.same h s
 ·exact bS.same h s
def fo (K:PySem.W.Frag) (L:Nat):Sp:=λvs H Q _=>∃(u v:V) (d:PyData),vs=[u,v]/\dv K H d u/\dv K H d v/\sD L d/\∀ H',az H H'->Q (.bl true) H'
theorem dR:aw ["_law_found","_law_due"] ["_law_found","_law_due"] (ai (top 39)):=d6
theorem ri (D:au K mg "_law_same" (top 39)):Callee P w K mg base aO 1 "_law_same" ["_law_found","_law_due"] (fo K 0):=by
 refine cO D dR (λf cdv A outer s H vs Q E hr h=>?_)
 obtain⟨u,v,d,rfl,hu,hv,hs,q⟩:=h
 simp only [sD] at hs
theorem rj {L:Nat} (D:au K mg "_law_same" (top 39)) (c__law_same:Callee P w K mg base aO (L+1) "_law_same" ["_law_found","_law_due"] (fo K L)) (n_isinstance:mg "isinstance"=none) (n_bool:mg "bool"=none) (n_int:mg "int"=none) (n_list:mg "list"=none) (n_tuple:mg "tuple"=none) (n_len:mg "len"=none) (n_zip:mg "zip"=none) (n_all:mg "all"=none):Callee P w K mg base aO (L+2) "_law_same" ["_law_found","_law_due"] (fo K (L+1)):=by
 refine cO D dR (λf cdv A outer s H vs Q E hr h=>?_)
 obtain⟨u,v,d,rfl,hu,hv,hs,q⟩:=h
 have nd:=dR.nd
 refine⟨_,(ae (bt (aR (aF j4 rfl n_isinstance PyProof.Rows.boot_isinstance (aa (pv 1) (aa (bj (aa (bz (v:=.ty "list") rfl n_list L2.boot_list rfl) (aa (bz (v:=.ty "tuple") rfl n_tuple L2.boot_tuple rfl) af))) af))) (λ_=>rfl)) (ae (bt (PW.pt (jj (df (aR (aF j4 rfl n_isinstance PyProof.Rows.boot_isinstance (aa (pv 0) (aa (bj (aa (bz (v:=.ty "list") rfl n_list L2.boot_list rfl) (aa (bz (v:=.ty "tuple") rfl n_tuple L2.boot_tuple rfl) af))) af))) (λ_=>rfl))) (gZ (aC i9 (aF bo rfl n_isinstance PyProof.Rows.boot_isinstance (aa (pv 0) (aa (bz (v:=.ty "list") rfl n_list L2.boot_list rfl) af))) (aF bo rfl n_isinstance PyProof.Rows.boot_isinstance (aa (pv 1) (aa (bz (v:=.ty "list") rfl n_list L2.boot_list rfl) af))) (aB _))))) (aj (ay bU)) aG) (aj (ay (bH (bR cn (aF cq rfl n_len PySem.boot_len (aa (pv 0) af)) (aF cq rfl n_len PySem.boot_len (aa (pv 1) af)) (aB _)) (cV (aF (iQ rfl) rfl n_all L2.boot_all (aa (dW rfl (oj (N':=["_law_one","_law_other"]) (js:=[none,none]) rfl rfl) (vJ rfl n_zip (aa (pv 0) (aa (pv 1) af))) (λ_ _ _ _=>(dO K rfl (n:=2) rfl (aE (ax (i:=0) (show List.Nodup [("_law_one":Str),("_law_other":Str)] from by decide +kernel) rfl (Or.inl rfl) (.inr rfl)) (aE (ax (i:=1) (show List.Nodup [("_law_one":Str),("_law_other":Str)] from by decide +kernel) rfl (Or.inl rfl) (.inr rfl)) bJ)))) (λ_ _ _ _=>bA) (λ_ _ _ _=>(bf c__law_same (hr.mono (by omega)) rfl aD (aa (pv 0) (aa (pv 1) af))))) af))))))) aG) (ae (bt (aC tJ (pv 1) tT (aB _)) (aj (ay (bR tJ (pv 0) tT (aB _)))) aG) (ae (bt (PW.pt (jj (aR (aF bo rfl n_isinstance PyProof.Rows.boot_isinstance (aa (pv 1) (aa (bz (v:=.ty "bool") rfl n_bool L2.boot_bool rfl) af))) (λ_=>rfl)) (gZ (aR (aF bo rfl n_isinstance PyProof.Rows.boot_isinstance (aa (pv 0) (aa (bz (v:=.ty "bool") rfl n_bool L2.boot_bool rfl) af))) (λ_=>rfl))))) (aj (ay (bH (aF bo rfl n_isinstance PyProof.Rows.boot_isinstance (aa (pv 1) (aa (bz (v:=.ty "bool") rfl n_bool L2.boot_bool rfl) af))) (bH (aF bo rfl n_isinstance PyProof.Rows.boot_isinstance (aa (pv 0) (aa (bz (v:=.ty "bool") rfl n_bool L2.boot_bool rfl) af))) (cV (bR cn (pv 0) (pv 1) (aB _))))))) aG) (aj (ay (bH (aF bo rfl n_isinstance PyProof.Rows.boot_isinstance (aa (pv 0) (aa (bz (v:=.ty "int") rfl n_int L2.boot_int rfl) af))) (cV (bR cn (pv 0) (pv 1) (aB _))))))))),?_⟩
 show bT _ _ _ [some u,some v] H
 have sq:∀(k:Sd) (a b:Addr) (us vs:List V) (ds:List PyData) (H2:Hp),mf k K H2 a us->mf k K H2 b vs->aJ K H2 ds us->aJ K H2 ds vs->uI L ds->ds.length<=10^6->(∀ H',az H2 H'->Q (.bl true) H') ->
   mj (yN k k K a b) [none,none] (jO K 2 (pO (cH 0) (pO (cH 1) xJ))) uk (nK (fo K L) [] E0 (nL (rM 0) (nL (rM 1) v3))) [some (.ref a),some (.ref b)] (λx H1=>vM K [x] H1 Q) H2:=by
  intro k a b us vs ds H2 ha hb du dw hs hl q
  have ul:=du.length
  have vl:=dw.length
  refine j5 (xs:=us) (ys:=vs) (λi zs H3=>az H2 H3/\zs=(List.replicate i true).map V.bl) ⟨az.refl _,rfl⟩ (by omega) (Nat.le_trans (by omega) (show 10^6<=sizeLine by decide)) (λi zs H3 hi ⟨z1,z2⟩=>⟨mv ha z1,mv hb z1,by rw [z2,List.length_map,List.length_replicate];exact Nat.le_refl _⟩) ?_ ?_
  ·rintro i x y zs H3 p3 hx hy ⟨s3,rfl⟩ hp3
   obtain⟨d1,e1,v1⟩:=du.get hx
   obtain⟨d2,e2,v2⟩:=dw.get hy
   rw [e1] at e2
   cases e2
   have s4:=ak (o:=.tup [x,y]) hp3
   show jO K 2 _ _ [none,none] _ _
   refine⟨p3,_,rfl,bS.of ah,rfl,?_⟩
   generalize upd H3 p3 _=H4 at *
   k_data
   refine⟨True.intro,x,y,d1,rfl,dv.same (s3.trans s4) _ v1,dv.same (s3.trans s4) _ v2,ub hs e1,λH5 s5=>⟨(s3.trans s4).trans s5,?_⟩⟩
   rw [List.replicate_succ',List.map_append]
   rfl
  ·rintro zs H3 p3 ⟨s3,rfl⟩ hp3
   refine rS (bs:=List.replicate us.length true) (aS.of ah) ?_
   have:(List.replicate us.length true).all id=true:=by
    rw [List.all_eq_true]
    intro b hb
    exact (List.mem_replicate.mp hb).2
   rw [this]
   exact q _ (s3.trans (ak hp3))
 k_data
 refine⟨by show 2<=sizeLine;decide,λp1 hp1=>?_⟩
 have s1:=ak (o:=.tup [V.ty "list",V.ty "tuple"]) hp1
 have e1:upd H p1 (.tup [V.ty "list",V.ty "tuple"]) p1=some (.tup [V.ty "list",V.ty "tuple"]):=ah
 generalize upd H p1 _=H1 at *
 have hu1:=dv.same s1 _ hu
 have hv1:=dv.same s1 _ hv
 cases d with
 | none =>
  cases hu
  cases hv
  refine fO (d:=.none) rfl e1 ⟨false,aN.mpr rfl,?_⟩
  rw [if_neg (by decide),if_pos rfl]
  exact q _ s1
 | bool y =>
  cases hu
  cases hv
  refine fO (d:=.bool y) rfl e1 ⟨false,aN.mpr rfl,?_⟩
  rw [if_neg (by decide),if_neg (by intro z;cases z)]
  refine dk (d:=.bool y) rfl ⟨true,aN.mpr rfl,?_⟩
  rw [if_pos rfl]
  refine dk (d:=.bool y) rfl ⟨true,rfl,?_⟩
  rw [if_pos rfl]
  refine dk (d:=.bool y) rfl ⟨true,rfl,?_⟩
  rw [if_pos rfl]
  refine⟨rfl,?_⟩
  rw [decide_eq_true rfl]
  exact q _ s1
 | int y =>
  cases hu
  cases hv
  refine fO (d:=.int y) rfl e1 ⟨false,aN.mpr rfl,?_⟩
  rw [if_neg (by decide),if_neg (by intro z;cases z)]
  refine dk (d:=.int y) rfl ⟨false,aN.mpr rfl,?_⟩
  rw [if_neg (by decide)]
  refine dk (d:=.int y) rfl ⟨false,aN.mpr rfl,?_⟩
  rw [if_neg (by decide)]
  refine pT (d:=.int y) rfl ⟨true,rfl,?_⟩
  rw [if_pos rfl]
  refine⟨rfl,?_⟩
  rw [decide_eq_true rfl]
  exact q _ s1
 | list ds =>
  simp only [sD] at hs
  refine fO hv1 e1 ⟨true,aN.mpr rfl,?_⟩
  rw [if_pos rfl]
  refine⟨by show 2<=sizeLine;decide,λp2 hp2=>?_⟩
  have s2:=ak (o:=.tup [V.ty "list",V.ty "tuple"]) hp2
  have e2:upd H1 p2 (.tup [V.ty "list",V.ty "tuple"]) p2=some (.tup [V.ty "list",V.ty "tuple"]):=ah
  generalize upd H1 p2 _=H2 at *
  have hu2:=dv.same s2 _ hu1
  have hv2:=dv.same s2 _ hv1
  refine fO hu2 e2 ⟨true,aN.mpr rfl,?_⟩
  rw [if_neg (by decide)]
  refine iL hu2 (iL hv2 ⟨rfl,?_⟩)
  rw [if_neg (by intro z;exact z rfl)]
  obtain⟨pa,us,rfl,hSu,du⟩:=hu2
  obtain⟨pb,vs,rfl,hSv,dw⟩:=hv2
  have ul:=du.length
  have vl:=dw.length
  refine gj hSu (gj hSv ⟨rfl,?_⟩)
  rw [if_pos (by rw [ul,vl])]
  exact⟨pa,rfl,pb,rfl,.l,⟨_,hSu⟩,.l,⟨_,hSv⟩,sq .l pa pb us vs ds H2 hSu hSv du dw hs.2 hs.1 λH' s'=>q H' ((s1.trans s2).trans s')⟩
 | tuple ds =>
  simp only [sD] at hs
  refine fO hv1 e1 ⟨true,aN.mpr rfl,?_⟩
  rw [if_pos rfl]
  refine⟨by show 2<=sizeLine;decide,λp2 hp2=>?_⟩
  have s2:=ak (o:=.tup [V.ty "list",V.ty "tuple"]) hp2
  have e2:upd H1 p2 (.tup [V.ty "list",V.ty "tuple"]) p2=some (.tup [V.ty "list",V.ty "tuple"]):=ah
  generalize upd H1 p2 _=H2 at *
  have hu2:=dv.same s2 _ hu1
  have hv2:=dv.same s2 _ hv1
  refine fO hu2 e2 ⟨true,aN.mpr rfl,?_⟩
  rw [if_neg (by decide)]
  refine iL hu2 (iL hv2 ⟨rfl,?_⟩)
  rw [if_neg (by intro z;exact z rfl)]
  obtain⟨pa,us,rfl,hSu,du⟩:=hu2
  obtain⟨pb,vs,rfl,hSv,dw⟩:=hv2
  have ul:=du.length
  have vl:=dw.length
  refine iM hSu (iM hSv ⟨rfl,?_⟩)
  rw [if_pos (by rw [ul,vl])]
  exact⟨pa,rfl,pb,rfl,.t,⟨_,hSu⟩,.t,⟨_,hSv⟩,sq .t pa pb us vs ds H2 hSu hSv du dw hs.2 hs.1 λH' s'=>q H' ((s1.trans s2).trans s')⟩
 | _=>simp only [sD] at hs
theorem nh (D:au K mg "_law_same" (top 39)) (n_isinstance:mg "isinstance"=none) (n_bool:mg "bool"=none) (n_int:mg "int"=none) (n_list:mg "list"=none) (n_tuple:mg "tuple"=none) (n_len:mg "len"=none) (n_zip:mg "zip"=none) (n_all:mg "all"=none):∀ L:Nat,Callee P w K mg base aO (L+1) "_law_same" ["_law_found","_law_due"] (fo K L)
 | 0=>ri D
 | L+1=>rj D (nh D n_isinstance n_bool n_int n_list n_tuple n_len n_zip n_all L) n_isinstance n_bool n_int n_list n_tuple n_len n_zip n_all
theorem rX {ns:List Int} {lo hi:Option Int} {x:V} (h:x∈cS (ns.map V.int) lo hi):∃ c,x=.int c:=by
 unfold cS at h
 have:=List.mem_of_mem_drop (List.mem_of_mem_take h)
 obtain⟨c,_,e⟩:=List.mem_map.mp this
 exact⟨c,e.symm⟩
theorem xN {x y k lo hi:Int} {p:Addr} {H':Hp} {Q:VK} (e:H' p=some (.lst [.int x,.int y])) (h0:0<=k) (h1:k<2) (hx:lo<=x/\x<hi) (hy:lo<=y/\y<hi) (q:∀ m,lo<=m->m<hi->Q (.int m) H'):yk K (.ref p) (.int k) H' Q :=
 lu (aS.of e) h0 (by show _<(2:Int);omega) λv hv=>by
  simp only [List.mem_cons,List.not_mem_nil,or_false] at hv
  rcases hv with rfl | rfl
  ·exact q _ hx.1 hx.2
  ·exact q _ hy.1 hy.2
theorem vL {a d L:Int} (hd:0<d) (h0:-L<=a) (h1:a<=L):-L<=a/d/\a/d<=L:=by
 have L0:0<=L:=by omega
 have h2:L*1<=L*d:=Int.mul_le_mul_of_nonneg_left (show 1<=d by omega) L0
 refine⟨Int.le_ediv_of_mul_le hd (by rw [Int.neg_mul];omega),Int.ediv_le_of_le_mul hd (by omega)⟩
def wX (K:PySem.W.Frag):Sp:=λvs H Q _=>∃(a:Addr) (ns:List Int),vs=[.ref a]/\aS K H a (ns.map V.int)/\ns.length<=63/\∀ H',Q (.bl true) H'
def zL (K:PySem.W.Frag):Sp:=λvs H Q _=>∃ d v,vs=[v]/\dv K H d v/\Q (.bl (wA d)) H
theorem ix:aw ["thing"] ["thing"] (ai (top 10)):=d6
theorem AA (D:au K mg "is_whole" (top 10)) (n_isinstance:mg "isinstance"=none) (n_int:mg "int"=none) (n_bool:mg "bool"=none):Callee P w K mg base aO 1 "is_whole" ["thing"] (zL K):=by
 refine cO D ix (λf cdv A outer s H vs Q E hr h=>?_)
 obtain⟨d,v,rfl,hd,q⟩:=h
 have nd:=ix.nd
 refine⟨_,(aj (ay (bH (aF bo rfl n_isinstance PyProof.Rows.boot_isinstance (aa (pv 0) (aa (bz (v:=.ty "int") rfl n_int L2.boot_int rfl) af))) (cV (ye (aF bo rfl n_isinstance PyProof.Rows.boot_isinstance (aa (pv 0) (aa (bz (v:=.ty "bool") rfl n_bool L2.boot_bool rfl) af)))))))),?_⟩
 show lZ _ _ [some v] H
 k_data
 refine pT hd ?_
 k_data
 refine aP (λc=>?_) (λc=>?_)
 ·refine dk hd ?_
  k_data
  cases d<;>first | exact q | simp [wA,Av] at c
 ·cases d<;>first | exact q | exact absurd rfl c
def ip:PyData->Nat->Bool
 | .tuple ds,m=>decide (ds.length=m)
 | _,_=>false
def qu (K:PySem.W.Frag):Sp:=λvs H Q _=>∃ d v,∃ m:Nat,vs=[v,.int m]/\dv K H d v/\Q (.bl (ip d m)) H
theorem eT:aw ["thing","many"] ["thing","many"] (ai (top 11)):=d6
theorem x8 (D:au K mg "is_tuple_of" (top 11)) (n_isinstance:mg "isinstance"=none) (n_tuple:mg "tuple"=none) (n_len:mg "len"=none):Callee P w K mg base aO 1 "is_tuple_of" ["thing","many"] (qu K):=by
 refine cO D eT (λf cdv A outer s H vs Q E hr h=>?_)
 obtain⟨d,v,m,rfl,hd,q⟩:=h
 have nd:=eT.nd
 refine⟨_,(aj (ay (bH (aF bo rfl n_isinstance PyProof.Rows.boot_isinstance (aa (pv 0) (aa (bz (v:=.ty "tuple") rfl n_tuple L2.boot_tuple rfl) af))) (cV (bR cn (aF cq rfl n_len PySem.boot_len (aa (pv 0) af)) (pv 1) (aB _)))))),?_⟩
 show lZ _ _ [some v,some (.int m)] H
 k_data
 refine lq hd ?_
 k_data
 refine aP (λc=>?_) (λc=>?_)
 ·cases d with
  | tuple ds =>
   obtain⟨p,xs,rfl,hS,ht⟩:=hd
   refine iM hS ⟨gz,?_⟩
   have:decide (V.int (xs.length:Int)=V.int (m:Int))=ip (.tuple ds) m:=by
    show _=decide (ds.length=m)
    rw [ht.length]
    refine decide_eq_decide.mpr ⟨λz=>?_,λz=>by rw [z]⟩
    have:=V.int.inj z
    omega
   rw [this]
   exact q
  | _=>exact absurd c (by simp [y8])
 ·cases d<;>first | exact q | exact absurd rfl c
theorem gf {d:PyData} (h:wA d=true):∃ i,d=.int i:=by
 cases d<;>first | exact⟨_,rfl⟩ | cases h
theorem pS {d:PyData} (h:y8 d=true):∃ i,d=.tuple i:=by
 cases d<;>first | exact⟨_,rfl⟩ | cases h
def PF (d:PyData):Prop:=∃(p g:Int) (rows:List PyData),d=.tuple [.int p,.int g,.tuple rows]/\2<=p
def yx (K:PySem.W.Frag):Sp:=λvs H Q _=>∃ d v,vs=[v]/\dv K H d v/\∀ b:Bool,(b=true↔PF d)->Q (.bl b) H
theorem xG {H:Hp} {d1 d2 d3:PyData} {v:V} (h:dv K H (.tuple [d1,d2,d3]) v):∃ p x1 x2 x3,v=.ref p/\bS K H p [x1,x2,x3]/\dv K H d1 x1/\dv K H d2 x2/\dv K H d3 x3:=by
 obtain⟨p,xs,rfl,h1,x1,r1,rfl,e1,x2,r2,rfl,e2,x3,r3,rfl,e3,z⟩:=h
 cases z
 exact⟨p,x1,x2,x3,rfl,h1,e1,e2,e3⟩
theorem Ax {ds:List PyData} (h:ds.length=3):∃ a b c,ds=[a,b,c]:=by
 match ds,h with
 | [a,b,c],_=>exact⟨a,b,c,rfl⟩
theorem dA:aw ["thing","p","full","parts"] ["thing"] (ai (top 27)):=d6
theorem zt (D:au K mg "is_paper_form" (top 27)) (c_is_whole:Callee P w K mg base aO 1 "is_whole" ["thing"] (zL K)) (c_is_tuple_of:Callee P w K mg base aO 1 "is_tuple_of" ["thing","many"] (qu K)) (n_isinstance:mg "isinstance"=none) (n_tuple:mg "tuple"=none):Callee P w K mg base aO 2 "is_paper_form" ["thing"] (yx K):=by
 refine cO D dA (λf cdv A outer s H vs Q E hr h=>?_)
 obtain⟨d,v,rfl,hd,q⟩:=h
 have nd:=dA.nd
 refine⟨_,(ae (bt (df (aR (b0 c_is_tuple_of hr aD (aa (pv 0) (aa ag af))) (λ_=>rfl))) (aj (ay bU)) aG) (ae (ji (pv 0) (eI (n:=3) rfl (aE (ax (i:=1) nd rfl (Or.inl rfl) (.inr rfl)) (aE (ax (i:=2) nd rfl (Or.inl rfl) (.inr rfl)) (aE (ax (i:=3) nd rfl (Or.inl rfl) (.inr rfl)) bJ))))) (aj (ay (bH (b0 c_is_whole hr aD (aa (pv 1) af)) (bH (bR tH (pv 1) ag (aB _)) (bH (b0 c_is_whole hr aD (aa (pv 2) af)) (cV (aF bo rfl n_isinstance PyProof.Rows.boot_isinstance (aa (pv 3) (aa (bz (v:=.ty "tuple") rfl n_tuple L2.boot_tuple rfl) af))))))))))),?_⟩
 show bT _ _ _ [some v,none,none,none] H
 k_data
 refine⟨d,v,3,rfl,hd,ip d 3,aN.mpr rfl,?_⟩
 refine aP (λc=>?_) (λc=>?_)
 ·refine q false ⟨λz=>(by cases z),fun⟨p,g,rows,e,_⟩=>?_⟩
  rw [e] at c
  cases c
 ·cases d with
  | tuple ds =>
   obtain⟨d1,d2,d3,rfl⟩:=Ax (ds:=ds) (by simpa [ip] using c)
   obtain⟨p,x1,x2,x3,rfl,hS,e1,e2,e3⟩:=xG hd
   refine⟨p,_,rfl,hS,rfl,?_⟩
   k_data
   refine⟨d1,x1,rfl,e1,wA d1,rfl,?_⟩
   refine aP (λc1=>?_) (λc1=>?_)
   ·obtain⟨i,rfl⟩:=gf c1
    cases e1
    refine⟨i,rfl,?_⟩
    refine aP (λc2=>?_) (λc2=>?_)
    ·refine⟨d2,x2,rfl,e2,wA d2,rfl,?_⟩
     refine aP (λc3=>?_) (λc3=>?_)
     ·obtain⟨j,rfl⟩:=gf c3
      refine lq e3 (q _ ⟨λz=>?_,λz=>?_⟩)
      ·obtain⟨rows,rfl⟩:=pS z
       exact⟨i,j,rows,rfl,c2⟩
      ·obtain⟨p,g,rows,e,_⟩:=z
       cases e
       rfl
     ·refine q false ⟨λz=>(by cases z),fun⟨p,g,rows,e,_⟩=>?_⟩
      cases e
      exact absurd rfl c3
    ·refine q false ⟨λz=>(by cases z),fun⟨p,g,rows,e,h2⟩=>?_⟩
     cases e
     exact absurd h2 c2
   ·refine q false ⟨λz=>(by cases z),fun⟨p,g,rows,e,_⟩=>?_⟩
    cases e
    exact absurd rfl c1
  | _=>exact absurd rfl c
def RF (width:Nat) (d:PyData):Prop:=∃(pd:PyData) (k:Int) (more:List PyData),d=.tuple (pd::.int k::more)/\more.length+2=width/\PF pd/\1<=k
def zK (K:PySem.W.Frag):Sp:=λvs H Q _=>∃ d v,∃ m:Nat,vs=[v,.int m]/\2<=m/\dv K H d v/\∀ b:Bool,(b=true↔RF m d)->Q (.bl b) H
theorem we {x y:V} {r:List V}:o7 (x::y::r) 1=some y:=by
 unfold o7 vi
 simp
 rw [if_pos (by omega)]
 rfl
theorem eS:aw ["thing","width"] ["thing","width"] (ai (top 29)):=d6
theorem zw (D:au K mg "is_row_form" (top 29)) (c_is_whole:Callee P w K mg base aO 1 "is_whole" ["thing"] (zL K)) (c_is_tuple_of:Callee P w K mg base aO 1 "is_tuple_of" ["thing","many"] (qu K)) (c_is_paper_form:Callee P w K mg base aO 2 "is_paper_form" ["thing"] (yx K)):Callee P w K mg base aO 3 "is_row_form" ["thing","width"] (zK K):=by
 refine cO D eS (λf cdv A outer s H vs Q E hr h=>?_)
 obtain⟨d,v,m,rfl,hm,hd,q⟩:=h
 have nd:=eS.nd
 refine⟨_,(aj (ay (bH (b0 c_is_tuple_of hr aD (aa (pv 0) (aa (pv 1) af))) (bH (b0 c_is_paper_form hr aD (aa (aL aW (pv 0) ag (λ_ _=>rfl)) af)) (bH (b0 c_is_whole hr aD (aa (aL aW (pv 0) ag (λ_ _=>rfl)) af)) (cV (bR tH (aL aW (pv 0) ag (λ_ _=>rfl)) ag (aB _)))))))),?_⟩
 show lZ _ _ [some v,some (.int m)] H
 k_data
 refine⟨d,v,m,rfl,hd,ip d m,rfl,?_⟩
 refine aP (λc=>?_) (λc=>?_)
 ·cases d with
  | tuple ds =>
   have hl:ds.length=m:=by simpa [ip] using c
   obtain⟨d1,d2,more,rfl⟩:∃ a b c,ds=a::b::c:=by
    match ds,hl with
    | [],h=>exact absurd h (by simp;omega)
    | [a],h=>exact absurd h (by simp;omega)
    | a::b::c,_=>exact⟨a,b,c,rfl⟩
   obtain⟨p,xs,rfl,hS,x1,r1,rfl,e1,x2,r2,rfl,e2,e3⟩:=hd
   refine bF hS iF ⟨d1,x1,rfl,e1,λb hb=>⟨b,rfl,?_⟩⟩
   refine aP (λc1=>?_) (λc1=>?_)
   ·have hPF:=hb.mp c1
    refine bF hS we ⟨d2,x2,rfl,e2,wA d2,rfl,?_⟩
    refine aP (λc2=>?_) (λc2=>?_)
    ·obtain⟨k,rfl⟩:=gf c2
     cases e2
     refine bF hS we ⟨k,rfl,?_⟩
     refine q _ ⟨λz=>⟨d1,k,more,rfl,by simpa using hl,hPF,of_decide_eq_true z⟩,fun⟨pd,k',more',e,_,_,hk⟩=>?_⟩
     cases e
     exact decide_eq_true hk
    ·refine q false ⟨λz=>(by cases z),fun⟨pd,k,more',e,_⟩=>?_⟩
     cases e
     exact absurd rfl c2
   ·refine q false ⟨λz=>(by cases z),fun⟨pd,k,more',e,_,h3,_⟩=>?_⟩
    cases e
    exact absurd (hb.mpr h3) c1
  | _=>exact absurd c (by simp [ip])
 ·refine q false ⟨λz=>(by cases z),fun⟨pd,k,more,e,h2,_⟩=>?_⟩
  rw [e] at c
  exact absurd (decide_eq_true (by simpa using h2)) c
def Wo (n q k r:Int):Prop:=(q^k.toNat∣n/\n=q^k.toNat*r)∨(¬q^k.toNat∣n/\r=0)
def zM:Sp:=λvs H Q _=>∃ n q k:Int,vs=[.int n,.int q,.int k]/\1<=n/\n<=10^110/\2<=q/\q<=10^110/\1<=k/\∀ r,Wo n q k r->0<=r->r<=n->Q (.int r) H
theorem jx:aw ["whole","prime","many","left","missing"] ["whole","prime","many"] (ai (top 30)):=d6
theorem zz (D:au K mg "without" (top 30)):Callee P w K mg base aO 1 "without" ["whole","prime","many"] zM:=by
 refine cO D jx (λf cdv A outer s H vs Q E hr h=>?_)
 obtain⟨n,q,k,rfl,n1,n9,q2,q9,k1,Qr⟩:=h
 have nd:=jx.nd
 refine⟨_,(ae (bY (i:=3) nd (pv 0)) (ae (bY (i:=4) nd (pv 2)) (ae (bB PassesOwn.never (PW.pt (lN (aC fC (pv 4) ag (aB _)) (lO (aC cn (aq aU (pv 3) (pv 1)) ag (aB _))))) (ae (fU (i:=3) nd rfl (Or.inl rfl) (pv 1) (iW mS)) (aj (fU (i:=4) nd rfl (Or.inl rfl) ag (iW vh))))) (aj (ay (jc (aC cn (pv 4) ag (aB _)) (pv 3) ag)))))),?_⟩
 show bT _ _ _ [some (.int n),some (.int q),some (.int k),none,none] H
 k_data
 refine bC (α:=Int × Int) (λx=>[some (.int n),some (.int q),some (.int k),some (.int x.1),some (.int x.2)]) (λx H1=>H1=H/\1<=x.1/\x.1<=n/\0<=x.2/\x.2<=k/\n=q^(k-x.2).toNat*x.1) (λx=>x.1.toNat) (n,k) rfl ⟨rfl,n1,Int.le_refl _,by show 0<=k;omega,Int.le_refl _,by show n=q^(k-k).toNat*n;rw [Int.sub_self];show n=q^0*n;rw [Int.pow_zero,Int.one_mul]⟩ ?_
 rintro⟨l,m⟩ H1 ⟨rfl,l1,l2,m0,m1,e⟩
 replace l1:1<=l:=l1
 replace l2:l<=n:=l2
 replace m0:0<=m:=m0
 replace m1:m<=k:=m1
 replace e:n=q^(k-m).toNat*l:=e
 k_data
 refine aP (λc=>?_) (λc=>?_)
 ·refine⟨by omega,?_⟩
  refine aP (λc2=>?_) (λc2=>?_)
  ·obtain⟨y,hy⟩:=Int.dvd_of_emod_eq_zero c2
   have ey:l/q=y:=by rw [hy];exact Int.mul_ediv_cancel_left _ (by omega)
   have y1:1<=y:=by
    rcases (by omega:y<=0∨1<=y) with z | z
    ·have:=Int.mul_nonpos_of_nonneg_of_nonpos (show 0<=q by omega) z
     omega
    ·exact z
   have yl:y<l:=by
    rw [hy]
    have:=Int.mul_le_mul_of_nonneg_right q2 (show 0<=y by omega)
    omega
   refine⟨_,λ_ _ z=>z,by omega,Bd.of (by omega) (by omega),(y,m-1),by rw [ey],rfl,y1,by show y<=n;omega,by show 0<=m-1;omega,by show m-1<=k;omega,?_,by show y.toNat<l.toNat;omega⟩
   show n=q^(k-(m-1)).toNat*y
   rw [show (k-(m-1)).toNat=(k-m).toNat+1 by omega,Int.pow_succ,Int.mul_assoc,<- hy]
   exact e
  ·rw [if_neg (by omega)]
   refine Qr 0 (.inr ⟨λz=>?_,rfl⟩) (Int.le_refl _) (by omega)
   have pp:=Num.aA (show 0<q by omega) (k-m).toNat
   obtain⟨t,ht⟩:=z
   have e3:q^k.toNat=q^(k-m).toNat*q^m.toNat:=by rw [<- Pw.pow_add];congr 1;omega
   rw [e,e3,Int.mul_assoc] at ht
   have ht2:=Int.eq_of_mul_eq_mul_left (by omega) ht
   obtain⟨j,hj⟩:∃ j,m.toNat=j+1:=⟨m.toNat-1,by omega⟩
   rw [hj,Int.pow_succ,Int.mul_comm (q^j) q,Int.mul_assoc] at ht2
   exact c2 (Int.emod_eq_zero_of_dvd ⟨_,ht2⟩)
 ·have mz:m=0:=by omega
  rw [if_pos mz]
  rw [mz,Int.sub_zero] at e
  exact Qr l (.inl ⟨⟨l,e⟩,e⟩) (by omega) l2
def CT (width:Nat):Int->Int->List PyData->Prop
 | left,_,[]=>left=1
 | left,last,d::ds=>1<=left/\∃(p g k:Int) (rows more:List PyData),d=.tuple (.tuple [.int p,.int g,.tuple rows]::.int k::more)/\more.length+2=width/\2<=p/\1<=k/\last<p/\∃ r,Wo left p k r/\CT width r p ds
def yw (K:PySem.W.Frag):Sp:=λvs H Q _=>∃(n:Int) (rows:List PyData) (v:V) (m:Nat),vs=[.int n,v,.int m]/\2<=m/\n<=10^110/\dv K H (.tuple rows) v/\(∀(p g k:Int) (rs more:List PyData),.tuple (.tuple [.int p,.int g,.tuple rs]::.int k::more)∈rows->p<=10^110)/\∀ b:Bool,(b=true↔CT m n 1 rows)->Q (.bl b) H
theorem Wo.one {n q k r r':Int} (h2:2<=q) (h:Wo n q k r) (h':Wo n q k r'):r=r':=by
 have pp:=Num.aA (show 0<q by omega) k.toNat
 rcases h with⟨h1,h2⟩|⟨h1,h2⟩<;>rcases h' with⟨h3,h4⟩|⟨h3,h4⟩
 ·exact Int.eq_of_mul_eq_mul_left (by omega) (h2.symm.trans h4)
 ·exact absurd h1 h3
 ·exact absurd h3 h1
 ·rw [h2,h4]
theorem jr:aw ["n","rows","width","left","last","row"] ["n","rows","width"] (ai (top 28)):=d6
theorem zq (D:au K mg "come_to" (top 28)) (c_is_row_form:Callee P w K mg base aO 3 "is_row_form" ["thing","width"] (zK K)) (c_without:Callee P w K mg base aO 1 "without" ["whole","prime","many"] zM):Callee P w K mg base aO 4 "come_to" ["n","rows","width"] (yw K):=by
 refine cO D jr (λf cdv A outer s H vs Q E hr h=>?_)
 obtain⟨n,rows,v,m,rfl,hm,n9,hd,hb9,q⟩:=h
 obtain⟨p,xs,rfl,hS,ht⟩:=hd
 have nd:=jr.nd
 refine⟨_,(ae (bY (i:=3) nd (pv 0)) (ae (bY (i:=4) nd ag) (ae (dQ PassesOwn.never rfl (fS (pv 1)) (ax (i:=5) nd rfl (Or.inl rfl) (.inr rfl)) (ae (bt (PW.pt (jj (aC ir (pv 3) ag (aB _)) (jj (df (aR (b0 c_is_row_form hr aD (aa (pv 5) (aa (pv 2) af))) (λ_=>rfl))) (gZ (aC wL (aL aW (aL aW (pv 5) ag (λ_ _=>rfl)) ag (λ_ _=>rfl)) (pv 4) (aB _)))))) (aj (ay bU)) aG) (ae (bY (i:=4) nd (aL aW (aL aW (pv 5) ag (λ_ _=>rfl)) ag (λ_ _=>rfl))) (aj (bY (i:=3) nd (b0 c_without hr aD (aa (pv 3) (aa (pv 4) (aa (aL aW (pv 5) ag (λ_ _=>rfl)) af))))))))) (aj (ay (bR cn (pv 3) ag (aB _))))))),?_⟩
 show bT _ _ _ [some (.int n),some (.ref p),some (.int m),none,none,none] H
 k_data
 refine⟨⟨_,hS⟩,?_⟩
 refine sQ (xs:=xs) (λi σ' H'=>H'=H/\∃(l t:Int) (o:Option V),σ'=[some (.int n),some (.ref p),some (.int m),some (.int l),some (.int t),o]/\l<=10^110/\(CT m n 1 rows↔CT m l t (rows.drop i))) ⟨rfl,n,1,none,rfl,n9,by rw [List.drop_zero]⟩ (λi σ' H' _ h=>by rw [h.1];exact hS) ?_ ?_
 ·rintro i x σ' H' hx ⟨rfl,l,t,o,rfl,l9,hc⟩
  obtain⟨d,hd,hv⟩:=ht.get hx
  have dr:rows.drop i=d::rows.drop (i+1):=by
   obtain⟨hi,e⟩:=List.getElem?_eq_some_iff.mp hd
   rw [List.drop_eq_getElem_cons hi,e]
  rw [dr] at hc
  k_data
  refine aP (λc=>?_) (λc=>?_)
  ·exact q false ⟨λz=>(by cases z),λz=>absurd (hc.mp z).1 (by omega)⟩
  refine⟨d,x,m,rfl,hm,hv,λb hb=>⟨b,aN.mpr rfl,?_⟩⟩
  refine aP (λc1=>?_) (λc1=>?_)
  ·refine q false ⟨λz=>(by cases z),λz=>?_⟩
   obtain⟨_,p',g',k',rs',more',e1,e2,e3,e4,_⟩:=hc.mp z
   have:=hb.mpr ⟨_,k',more',e1,e2,⟨p',g',rs',rfl,e3⟩,e4⟩
   rw [c1] at this
   cases this
  ·obtain⟨pd,k,more,rfl,f2,⟨p',g,rs,rfl,f3⟩,f4⟩:=hb.mp (by simpa using c1)
   obtain⟨a1,y1,rfl,t1,u1,r1,rfl,hv2,u2,r2,rfl,hk,hmr⟩:=hv
   obtain⟨a2,x1,x2,x3,rfl,t2,w1,w2,w3⟩:=xG hv2
   cases w1
   cases hk
   refine bF t1 iF (bF t2 iF ⟨p',rfl,?_⟩)
   refine aP (λc2=>?_) (λc2=>?_)
   ·refine q false ⟨λz=>(by cases z),λz=>?_⟩
    obtain⟨_,p2,g2,k2,rs2,more2,e1,e2,e3,e4,e5,_⟩:=hc.mp z
    cases e1
    omega
   ·have p9:=hb9 p' g k rs more (List.mem_of_getElem? hd)
    refine bF t1 iF (bF t2 iF (bF t1 we ⟨l,p',k,rfl,by omega,l9,f3,p9,f4,λr hr' r0 r1=>⟨rfl,r,rfl,p',rfl,by omega,?_⟩⟩))
    rw [hc]
    constructor
    ·rintro⟨_,p2,g2,k2,rs2,more2,e1,e2,e3,e4,e5,r',e6,e7⟩
     cases e1
     rw [hr'.one f3 e6]
     exact e7
    ·intro z
     exact⟨by omega,p',g,k,rs,more,rfl,f2,f3,f4,by omega,r,hr',z⟩
 ·rintro σ' H' ⟨rfl,l,t,o,rfl,l9,hc⟩
  k_data
  rw [ht.length,List.drop_length] at hc
  refine q _ ?_
  rw [hc]
  exact decide_eq_true_iff
end
end K
namespace K
open PySem PySem.Spec PyProof.Rows L2
mutual
def gE:PyData->Prop
 | .int i=>i<=10^110
 | .tuple ds=>cw ds
 | .list ds=>cw ds
 | _=>True
def cw:List PyData->Prop
 | []=>True
 | d::ds=>gE d/\cw ds
end
mutual
def di:PyData->Nat
 | .tuple ds=>1+bh ds
 | .list ds=>1+bh ds
 | _=>1
def bh:List PyData->Nat
 | []=>0
 | d::ds=>di d+bh ds
end
theorem cj:∀{ds:List PyData} {d:PyData},cw ds->d∈ds->gE d
 | a::r,d,⟨h1,h2⟩,h=>by
  rcases List.mem_cons.mp h with z | z
  ·rw [z];exact h1
  ·exact cj h2 z
theorem gF:∀{ds:List PyData},(∀ d∈ds,gE d)->cw ds
 | [],_=>True.intro
 | a::r,h=>⟨h a (by simp),gF λd hd=>h d (List.mem_cons_of_mem _ hd)⟩
theorem gJ:∀(xs ys:List PyData),bh (xs++ys)=bh xs+bh ys
 | [],ys=>by simp [bh]
 | a::r,ys=>by
  show di a+bh (r++ys)=di a+bh r+bh ys
  rw [gJ r ys]
  omega
theorem lX:∀ d:PyData,1<=di d
 | .tuple _=>by simp [di]
 | .list _=>by simp [di]
 | .none=>Nat.le_refl _
 | .bool _=>Nat.le_refl _
 | .int _=>Nat.le_refl _
 | .str _=>Nat.le_refl _
 | .dict _=>by simp [di]
theorem eW:∀ ds:List PyData,ds.length<=bh ds
 | []=>Nat.le_refl _
 | a::r=>by
  have:=lX a
  have:=eW r
  show r.length+1<=di a+bh r
  omega
def f7:PyData->PyData
 | .tuple (x::_)=>x
 | _=>.none
def qD:PyData->Int
 | .tuple (.tuple (.int q::_)::_)=>q
 | _=>0
def RA (d:PyData):Prop:=∃(p g:Int) (rows:List PyData),d=.tuple [.int p,.int g,.tuple rows]/\2<=p/\1<=g/\g<p/\CT 2 (p-1) 1 rows/\z6 p g (p-1) (rows.map qD)
inductive PP:PyData->Prop
 | mk (p g:Int) (rows:List PyData):RA (.tuple [.int p,.int g,.tuple rows])->(∀ r∈rows,PP (f7 r))->PP (.tuple [.int p,.int g,.tuple rows])
theorem cM {w:Nat}:∀{rows:List PyData} {l t:Int},CT w l t rows->∀ r∈rows,∃(p g k:Int) (rs more:List PyData),r=.tuple (.tuple [.int p,.int g,.tuple rs]::.int k::more)/\2<=p/\1<=k/\more.length+2=w
 | d::ds,l,t,⟨_,p,g,k,rs,more,e1,e2,e3,e4,e5,r',e6,e7⟩,r,hr=>by
  rcases List.mem_cons.mp hr with z | z
  ·rw [z];exact⟨p,g,k,rs,more,e1,e3,e4,e2⟩
  ·exact cM e7 r z
theorem xE {w:Nat} {rows:List PyData} {l t:Int} (h:CT w l t rows):AR rows (rows.map qD):=by
 refine⟨by rw [List.length_map],λi row hi=>?_⟩
 obtain⟨p,g,k,rs,more,e,_⟩:=cM h row (List.mem_of_getElem? hi)
 exact⟨p,by rw [List.getElem?_map,hi,e];rfl,[.int g,.tuple rs],.int k::more,e⟩
section
variable {P:Program} {w:World} {K:PySem.W.Frag} {mg:Str->Option Value} {base:Heap}
def zJ (K:PySem.W.Frag):Sp:=λvs H Q _=>∃ d v,vs=[v]/\dv K H d v/\gE d/\di d<=10^6/\∀ b H',(b=true↔RA d)->az H H'->Q (.bl b) H'
theorem c8:aw ["thing","p","full","parts"] ["thing"] (ai (top 26)):=d6
theorem zu (D:au K mg "is_right_above" (top 26)) (c_is_paper_form:Callee P w K mg base aO 2 "is_paper_form" ["thing"] (yx K)) (c_come_to:Callee P w K mg base aO 4 "come_to" ["n","rows","width"] (yw K)) (c_is_least:Callee P w K mg base aO 5 "is_least" ["n","a","e","primes"] (kC K)) (c_primes_in:Callee P w K mg base aO 1 "primes_in" ["parts"] (jz K)):Callee P w K mg base aO 6 "is_right_above" ["thing"] (zJ K):=by
 refine cO D c8 (λf cdv A outer s H vs Q E hr h=>?_)
 obtain⟨d,v,rfl,hd,hs,hz,q⟩:=h
 have nd:=c8.nd
 refine⟨_,(ae (bt (df (aR (b0 c_is_paper_form hr aD (aa (pv 0) af)) (λ_=>rfl))) (aj (ay bU)) aG) (ae (ji (pv 0) (eI (n:=3) rfl (aE (ax (i:=1) nd rfl (Or.inl rfl) (.inr rfl)) (aE (ax (i:=2) nd rfl (Or.inl rfl) (.inr rfl)) (aE (ax (i:=3) nd rfl (Or.inl rfl) (.inr rfl)) bJ))))) (aj (ay (bH (tP wL ir ag (pv 2) (pv 1)) (bH (b0 c_come_to hr aD (aa (aq cU (pv 1) ag) (aa (pv 3) (aa ag af)))) (cV (b0 c_is_least hr aD (aa (pv 1) (aa (pv 2) (aa (aq cU (pv 1) ag) (aa (b0 c_primes_in hr aD (aa (pv 3) af)) af)))))))))))),?_⟩
 show bT _ _ _ [some v,none,none,none] H
 k_data
 refine⟨d,v,rfl,hd,λb hb=>⟨b,aN.mpr rfl,?_⟩⟩
 refine aP (λc=>?_) (λc=>?_)
 ·refine q false _ ⟨λz=>(by cases z),fun⟨p,g,rows,e,p2,_⟩=>?_⟩ (az.refl _)
  have:=hb.mpr ⟨p,g,rows,e,p2⟩
  rw [c] at this
  cases this
 ·obtain⟨p,g,rows,rfl,p2⟩:=hb.mp (by simpa using c)
  obtain⟨pa,x1,x2,x3,rfl,hS,e1,e2,e3⟩:=xG hd
  cases e1
  cases e2
  refine⟨pa,_,rfl,hS,rfl,?_⟩
  k_data
  simp only [ui,rM,tC,rP,List.getElem?_cons_zero,List.getElem?_cons_succ,Option.some.injEq,exists_eq_left',V.int.injEq,exists_and_left,V.bl.injEq]
  obtain⟨hp9,hrows⟩:p<=10^110/\cw rows:=by
   simp only [gE,cw,and_true] at hs
   exact⟨hs.1,hs.2.2⟩
  have hzr:bh rows<=10^6:=by
   simp only [di,bh] at hz
   omega
  have no:∀{b:Bool},b=false->¬RA (.tuple [.int p,.int g,.tuple rows])->(b=true↔RA (.tuple [.int p,.int g,.tuple rows])):=λe n=>⟨λz=>(by rw [e] at z;cases z),λz=>absurd z n⟩
  refine aP (λc1=>?_) (λc1=>?_)
  ·refine aP (λc2=>?_) (λc2=>?_)
   ·have g1:1<=g:=of_decide_eq_true c1
    have g2:g<p:=of_decide_eq_true c2
    refine⟨p-1,rows,x3,2,rfl,by decide,by omega,e3,λp' g' k' rs more hm=>?_,λb1 hb1=>⟨b1,rfl,?_⟩⟩
    ·have:=cj hrows hm
     simp only [gE,cw] at this
     exact this.1.1
    refine aP (λc3=>?_) (λc3=>?_)
    ·have hct:=hb1.mp c3
     have hh:=xE hct
     have rl:rows.length<=10^6:=Nat.le_trans (eW rows) hzr
     refine⟨x3,rows,rows.map qD,rfl,e3,hh,rl,λpq H1 s1 f1 h1=>?_⟩
     refine⟨p,g,p-1,pq,rows.map qD,rfl,by omega,by omega,by omega,by omega,aS.of h1,λy hy=>?_,by rw [List.length_map];exact rl,λb2 H2 hb2 s2=>?_⟩
     ·obtain⟨r,hr',rfl⟩:=List.mem_map.mp hy
      obtain⟨p',g',k',rs,more,e,h2,_⟩:=cM hct r hr'
      have:=cj hrows hr'
      rw [e] at this ⊢
      simp only [gE,cw] at this
      show 0<p'/\p'<=_
      omega
     ·refine q b2 H2 (hb2.trans ⟨λz=>⟨p,g,rows,rfl,p2,g1,g2,hct,z⟩,fun⟨p',g',rows',e,_,_,_,_,z⟩=>?_⟩) (s1.trans s2)
      cases e
      exact z
    ·refine q false _ (no rfl fun⟨p',g',rows',e,_,_,_,z,_⟩=>?_) (az.refl _)
     cases e
     exact c3 (hb1.mpr z)
   ·refine q false _ (no rfl fun⟨p',g',rows',e,_,_,z,_⟩=>?_) (az.refl _)
    cases e
    exact c2 (decide_eq_true z)
  ·refine q false _ (no rfl fun⟨p',g',rows',e,_,z,_⟩=>?_) (az.refl _)
   cases e
   exact c1 (decide_eq_true z)
theorem mN {H:Hp}:∀{ds:List PyData} {us:List V},aJ K H ds us->ds≠[]->∃ ds' d us' u,ds=ds'++[d]/\us=us'++[u]/\aJ K H ds' us'/\dv K H d u
 | [d],us,⟨x,r,e,h,t⟩,_=>by
  cases t
  exact⟨[],d,[],x,rfl,e,rfl,h⟩
 | d::d2::ds,us,⟨x,r,e,h,t⟩,_=>by
  obtain⟨ds',d',us',u,e1,e2,h1,h2⟩:=mN t (by simp)
  exact⟨d::ds',d',x::us',u,by rw [e1];rfl,by rw [e,e2];rfl,⟨x,us',rfl,h,h1⟩,h2⟩
theorem gK:∀ rows:List PyData,bh (rows.map f7)<=bh rows
 | []=>Nat.le_refl _
 | a::r=>by
  have h1:=gK r
  have h2:di (f7 a)<=di a:=by
   match a with
   | .tuple (x::xs) =>
    show di x<=1+(di x+bh xs)
    omega
   | .tuple []=>exact Nat.le_refl _
   | .list ds=>exact lX (.list ds)
   | .none=>exact Nat.le_refl _
   | .bool _=>exact Nat.le_refl _
   | .int _=>exact Nat.le_refl _
   | .str _=>exact Nat.le_refl _
   | .dict ds=>exact lX (.dict ds)
  show di (f7 a)+bh (r.map f7)<=di a+bh r
  omega
def wY (K:PySem.W.Frag):Sp:=λvs H Q _=>∃(p:Addr) (ds:List PyData) (us:List V),vs=[.ref p]/\(aS K H p us∨bS K H p us)/\aJ K H ds us/\cw ds/\bh ds<=10^6/\∀ b H',(b=true↔∀ d∈ds,PP d)->az H H'->Q (.bl b) H'
theorem cK:aw ["things","waiting","paper"] ["things"] (ai (top 25)):=d6
theorem x6 (D:au K mg "are_prime_papers" (top 25)) (c_is_right_above:Callee P w K mg base aO 6 "is_right_above" ["thing"] (zJ K)) (n_list:mg "list"=none):Callee P w K mg base aO 7 "are_prime_papers" ["things"] (wY K):=by
 refine cO D cK (λf cdv A outer s H vs Q E hr h=>?_)
 obtain⟨p,ds0,us0,rfl,hS,hd0,hsm0,hsz0,q⟩:=h
 have nd:=cK.nd
 refine⟨_,(ae (bY (i:=1) nd (cu kO rfl n_list L2.boot_list (aa (pv 0) af))) (ae (bB PassesOwn.never (aR (pv 1) (λ_=>rfl)) (ae (bY (i:=2) nd (yd PySem.F.plainAttrs_list PySem.F.slot_list_pop PySem.F.type_list_pop xV (pv 1))) (ae (bt (df (aR (b0 c_is_right_above hr aD (aa (pv 2) af)) (λ_=>rfl))) (aj (ay bU)) aG) (aj (qd (wM PySem.F.plainAttrs_list PySem.F.slot_list_extend PySem.F.type_list_extend qY (pv 1) (aa (dW rfl (oj (N':=["row"]) (js:=[none]) rfl rfl) (fS (aL aW (pv 2) ag (λ_ _=>rfl))) (λ_ _ _ _=>(ax (i:=0) (show List.Nodup [("row":Str)] from by decide +kernel) rfl (Or.inl rfl) (.inr rfl))) (λ_ _ _ _=>bA) (λ_ _ _ _=>(aL (bD K rfl) (pv 0) ag (λ_ _=>rfl)))) af))))))) (aj (ay bU)))),?_⟩
 show bT _ _ _ [some (.ref p),none,none] H
 k_data
 refine⟨us0,hS,λpw hpw=>?_⟩
 refine bC (α:=List PyData × List V × Option V) (λx=>[some (.ref p),some (.ref pw),x.2.2]) (λx H1=>az H H1/\H1 pw=some (.lst x.2.1)/\aJ K H x.1 x.2.1/\cw x.1/\bh x.1<=10^6/\((∀ d∈ds0,PP d)↔∀ d∈x.1,PP d)) (λx=>bh x.1) (ds0,us0,none) rfl ⟨ak hpw,ah,hd0,hsm0,hsz0,Iff.rfl⟩ ?_
 rintro⟨ds,us,o⟩ H1 ⟨s1,h1,hd,hsm,hsz,hPP⟩
 replace h1:H1 pw=some (.lst us):=h1
 replace hd:aJ K H ds us:=hd
 replace hsm:cw ds:=hsm
 replace hsz:bh ds<=10^6:=hsz
 replace hPP:(∀ d∈ds0,PP d)↔∀ d∈ds,PP d:=hPP
 k_data
 refine⟨!us.isEmpty,.inl ⟨us,aS.of h1,rfl⟩,?_⟩
 by_cases hne:ds=[]
 ·subst hne
  have hu:us=[]:=hd
  subst hu
  rw [if_neg (by simp)]
  exact q true H1 ⟨λ_=>hPP.mpr λd z=>by simp at z,λ_=>rfl⟩ s1
 obtain⟨ds',d,us',u,rfl,rfl,hd',hdu⟩:=mN hd hne
 rw [if_pos (by simp)]
 have smd:gE d:=cj hsm (by simp)
 have szd:bh (ds'++[d])=bh ds'+di d:=by
  rw [gJ]
  show bh ds'+(di d+0)=_
  omega
 refine⟨_,λ_ _ z=>z,.inl ⟨rfl,_,aS.of h1⟩,pw,us'++[u],u,rfl,rfl,h1,by simp,?_⟩
 rw [List.dropLast_concat]
 have S2:=s1.upd (o:=.lst us') hpw
 have e2:upd H1 pw (.lst us') pw=some (.lst us'):=ah
 generalize upd H1 pw _=H2 at *
 refine⟨d,u,rfl,dv.same S2 _ hdu,smd,by omega,λb H3 hb s3=>⟨b,aN.mpr rfl,?_⟩⟩
 have S3:=S2.trans s3
 have e3:=s3 _ _ e2
 refine aP (λc=>?_) (λc=>?_)
 ·refine q false H3 ⟨λz=>(by cases z),λz=>?_⟩ S3
  have hp:=hPP.mp z d (by simp)
  cases hp with
  | mk _ _ _ hra _ =>
   have:=hb.mpr hra
   rw [c] at this
   cases this
 ·have hra:=hb.mp (by simpa using c)
  obtain⟨p',g,rows,rfl,p2,g1,g2,hct,hlst⟩:=hra
  have hra:=hb.mp (by simpa using c)
  obtain⟨pa,x1,x2,x3,rfl,hSu,f1,f2,f3⟩:=xG hdu
  obtain⟨pr,xs,rfl,hSr,hdr⟩:=f3
  have xl:=hdr.length
  have szr:bh rows<di (.tuple [.int p',.int g,.tuple rows]):=by
   simp only [di,bh]
   omega
  have rl:=eW rows
  refine⟨.inl ⟨rfl,_,aS.of e3⟩,bF (hSu.same S3) rfl ⟨pr,rfl,⟨_,hSr.same S3⟩,?_⟩⟩
  refine cP (xs:=xs) (λi zs H4=>H4=H3/\aJ K H ((rows.take i).map f7) zs) ⟨rfl,rfl⟩ (Nat.le_trans (show xs.length<=10^6 by omega) (by decide)) (λi zs H4 hi ⟨z1,z2⟩=>⟨by rw [z1];exact hSr.same S3,by rw [z2.length,List.length_map,List.length_take];omega⟩) ?_ ?_
  ·rintro i x zs H4 hx ⟨rfl,hz⟩
   obtain⟨r,hr',hv⟩:=hdr.get hx
   obtain⟨p4,g4,k4,rs,more,rfl,_⟩:=cM hct r (List.mem_of_getElem? hr')
   obtain⟨a1,y1,rfl,t1,u1,r1,rfl,hv2,_⟩:=hv
   show cH 0 _ [none] _ _
   k_data
   refine⟨True.intro,bF (t1.same S3) iF ⟨rfl,?_⟩⟩
   rw [List.take_add_one,hr',List.map_append]
   exact aJ.append hz (.one hv2)
  ·rintro zs H4 p4 ⟨rfl,hz⟩ hp4
   rw [show xs.length=rows.length by omega,List.take_length] at hz
   have zl:zs.length=rows.length:=by rw [hz.length,List.length_map]
   have s5:=ak (o:=.lst zs) hp4
   have e5:upd H4 p4 (.lst zs) p4=some (.lst zs):=ah
   have e6:=s5 _ _ e3
   have S5:=S3.trans s5
   generalize upd H4 p4 _=H5 at *
   have ul:=hd'.length
   have dl:=eW ds'
   refine⟨pw,p4,us',zs,rfl,rfl,e6,e5,Nat.le_trans (show us'.length+zs.length<=10^6 by omega) (by decide),(ds'++rows.map f7,us'++zs,some (.ref pa)),rfl,S5.upd hpw,ah,aJ.append hd' hz,?_,?_,?_,?_⟩
   ·refine gF λx hx=>?_
    rcases List.mem_append.mp hx with z | z
    ·exact cj hsm (List.mem_append.mpr (.inl z))
    ·obtain⟨r,hr',rfl⟩:=List.mem_map.mp z
     obtain⟨p4,g4,k4,rs,more,rfl,_⟩:=cM hct r hr'
     simp only [gE,cw] at smd
     have:=cj smd.2.2.1 hr'
     simp only [gE,cw] at this
     simp only [f7,gE,cw]
     exact this.1
   ·show bh (ds'++rows.map f7)<=_
    rw [gJ]
    have:=gK rows
    omega
   ·rw [hPP]
    constructor
    ·intro z x hx
     rcases List.mem_append.mp hx with y | y
     ·exact z x (List.mem_append.mpr (.inl y))
     ·obtain⟨r,hr',rfl⟩:=List.mem_map.mp y
      have hp:=z (.tuple [.int p',.int g,.tuple rows]) (by simp)
      cases hp with
      | mk _ _ _ _ h=>exact h r hr'
    ·intro z x hx
     rcases List.mem_append.mp hx with y | y
     ·exact z x (List.mem_append.mpr (.inl y))
     ·rw [List.mem_singleton.mp y]
      exact .mk p' g rows hra λr hr'=>z _ (List.mem_append.mpr (.inr (List.mem_map.mpr ⟨r,hr',rfl⟩)))
   ·show bh (ds'++rows.map f7)<_
    rw [gJ,szd]
    have:=gK rows
    omega
end
end K
namespace K
open PySem PySem.Spec PyProof.Rows L2
theorem cZ {p:Int × Int} {ps:List (Int × Int)} {ds:Nat->PyData}:Num.rowsOf (p::ps) ds=.tuple [ds 0,.int p.2]::Num.rowsOf ps (λi=>ds (i+1)):=by
 unfold Num.rowsOf
 rw [List.length_cons,List.range_succ_eq_map,List.map_cons,List.map_map]
 rfl
theorem nr:∀{ps:List (Int × Int)},(∀ p∈ps,2<=p.1)->1<=Num.aH ps
 | [],_=>Int.le_refl _
 | p::ps,h=>by
  have h1:=nr (ps:=ps) λq hq=>h q (List.mem_cons_of_mem _ hq)
  have h2:=Num.aA (show 0<p.1 by have:=h p (by simp);omega) p.2.toNat
  have:=Int.mul_pos h2 (show 0<Num.aH ps by omega)
  show 1<=p.1^p.2.toNat*Num.aH ps
  omega
theorem wk:∀{ps:List (Int × Int)} {ds:Nat->PyData} {t:Int},(∀ p∈ps,2<=p.1/\1<=p.2/\t<p.1)->ps.Pairwise (λa b=>a.1<b.1)->(∀ i q k,ps[i]?=some (q,k)->∃ g rows,ds i=.tuple [.int q,.int g,.tuple rows])->CT 2 (Num.aH ps) t (Num.rowsOf ps ds)
 | [],_,_,_,_,_=>rfl
 | p::ps,ds,t,h,hw,hd=>by
  rw [cZ]
  obtain⟨g,rows,e⟩:=hd 0 p.1 p.2 rfl
  obtain⟨p2,k1,tp⟩:=h p (by simp)
  obtain⟨w1,w2⟩:=List.pairwise_cons.mp hw
  refine⟨nr λq hq=>(h q hq).1,p.1,g,p.2,rows,[],by rw [e],rfl,p2,k1,tp,Num.aH ps,.inl ⟨⟨_,rfl⟩,rfl⟩,?_⟩
  exact wk (λq hq=>⟨(h q (List.mem_cons_of_mem _ hq)).1,(h q (List.mem_cons_of_mem _ hq)).2.1,w1 q hq⟩) w2 λi q k hi=>hd (i+1) q k (by simpa using hi)
theorem vG {n:Int} {ps:List (Int × Int)} {ds:Nat->PyData} (h:Num.Part n ps) (hd:∀ i q k,ps[i]?=some (q,k)->Num.fb q (ds i)):CT 2 n 1 (Num.rowsOf ps ds):=by
 have:=wk (t:=1) (ds:=ds) (λp hp=>⟨(h.ok p hp).1.two,(h.ok p hp).2.1,by have:=(h.ok p hp).1.two;omega⟩) h.rise λi q k hi=>(hd i q k hi).head
 rwa [h.prod] at this
theorem ua:∀{ps:List (Int × Int)} {ds:Nat->PyData},(∀ i q k,ps[i]?=some (q,k)->∃ g rows,ds i=.tuple [.int q,.int g,.tuple rows])->(Num.rowsOf ps ds).map qD=ps.map (·.1)
 | [],_,_=>rfl
 | p::ps,ds,hd=>by
  rw [cZ]
  obtain⟨g,rows,e⟩:=hd 0 p.1 p.2 rfl
  rw [List.map_cons,List.map_cons,ua λi q k hi=>hd (i+1) q k (by simpa using hi),e]
  rfl
theorem jq {ps:List (Int × Int)} {ds:Nat->PyData} {r:PyData} (h:r∈Num.rowsOf ps ds):∃ i q k,ps[i]?=some (q,k)/\r=.tuple [ds i,.int k]:=by
 unfold Num.rowsOf at h
 obtain⟨i,hi,e⟩:=List.mem_map.mp h
 have hi':=List.mem_range.mp hi
 have g:=List.getElem?_eq_getElem hi'
 refine⟨i,ps[i].1,ps[i].2,g,?_⟩
 rw [<- e,List.getD_eq_getElem?_getD,g]
 rfl
theorem yp {n a:Int} {ps:List (Int × Int)} {ds:Nat->PyData} (n2:2<=n) (h:Num.Part (n-1) ps) (hd:∀ i q k,ps[i]?=some (q,k)->Num.fb q (ds i)):RA (.tuple [.int n,.int a,.tuple (Num.rowsOf ps ds)])↔1<=a/\a<n/\Num.Ord n a (n-1).toNat:=by
 have hq:=ua (ps:=ps) (ds:=ds) λi q k hi=>(hd i q k hi).head
 constructor
 ·rintro⟨p,g,rows,e,p2,g1,g2,c,l⟩
  cases e
  rw [hq,lC n2 h (by omega)] at l
  exact⟨g1,g2,l⟩
 ·rintro⟨a1,a2,o⟩
  exact⟨n,a,_,rfl,n2,a1,a2,vG h hd,by rw [hq,lC n2 h (by omega)];exact o⟩
theorem yb {n:Int} {d:PyData} (h:Num.fb n d):PP d:=by
 induction h with
 | mk p g ps ds hp h9 hl hP hn hds ih =>
  refine .mk p g _ ((yp hp.two hP hds).mpr ⟨hl.one,hl.lt,hl.ord⟩) λr hr=>?_
  obtain⟨i,q,k,hi,rfl⟩:=jq hr
  exact ih i q k hi
theorem tM {n:Int} {d:PyData} (h:Num.fb n d):gE d:=by
 induction h with
 | mk p g ps ds hp h9 hl hP hn hds ih =>
  have:=hl.lt
  simp only [gE,cw,and_true]
  refine⟨by omega,by omega,gF λr hr=>?_⟩
  obtain⟨i,q,k,hi,rfl⟩:=jq hr
  have hk:=(hP.ok _ (List.mem_of_getElem? hi)).2.2
  simp only [gE,cw,and_true]
  exact⟨ih i q k hi,by show k<=_;have:k<=30:=hk;omega⟩
theorem qg:∀{ps:List (Int × Int)} {ds:Nat->PyData},(∀ p∈ps,2<=p.1/\1<=p.2)->(∀ i q k,ps[i]?=some (q,k)->2^(di (ds i)+2)<=q.natAbs^12)->2^bh (Num.rowsOf ps ds)<=(Num.aH ps).natAbs^12
 | [],_,_,_=>by show 2^0<=1^12;decide
 | p::ps,ds,h,hd=>by
  rw [cZ]
  have h1:=hd 0 p.1 p.2 rfl
  have h2:=qg (ps:=ps) (ds:=λi=>ds (i+1)) (λq hq=>h q (List.mem_cons_of_mem _ hq)) λi q k hi=>hd (i+1) q k (by simpa using hi)
  obtain⟨p2,k1⟩:=h p (by simp)
  have e:bh (.tuple [ds 0,.int p.2]::Num.rowsOf ps (λi=>ds (i+1)))=(di (ds 0)+2)+bh (Num.rowsOf ps (λi=>ds (i+1))):=by
   simp only [bh,di]
   omega
  rw [e,Nat.pow_add]
  have h3:=Nat.mul_le_mul h1 h2
  rw [<- Nat.mul_pow] at h3
  refine Nat.le_trans h3 (Nat.pow_le_pow_left ?_ 12)
  show _<=(p.1^p.2.toNat*Num.aH ps).natAbs
  rw [Int.natAbs_mul,Int.natAbs_pow]
  exact Nat.mul_le_mul_right _ (Nat.le_self_pow (by omega) _)
theorem yc {n:Int} {d:PyData} (h:Num.fb n d):2^(di d+2)<=n.natAbs^12/\(n=2->di d=4):=by
 induction h with
 | mk p g ps ds hp h9 hl hP hn hds ih =>
  have p2:=hp.two
  have esz:di (.tuple [.int p,.int g,.tuple (Num.rowsOf ps ds)])=4+bh (Num.rowsOf ps ds):=by
   simp only [di,bh]
   omega
  have nil2:p=2->ps=[]:=λe=>by
   cases ps with
   | nil=>rfl
   | cons x r =>
    exfalso
    obtain⟨o1,o2,_⟩:=hP.ok x (by simp)
    have:=Num.cG (ps:=x::r) (p:=x) (by simp) o2
    rw [hP.prod,e] at this
    have:=Int.le_of_dvd (by decide) this
    have:=o1.two
    omega
  refine⟨?_,λe=>by rw [esz,nil2 e];rfl⟩
  rw [esz]
  by_cases c:p=2
  ·rw [nil2 c,c]
   show 2^(4+0+2)<=2^12
   decide
  ·have podd:p%2=1:=by
    rcases (by omega:p%2=1∨p%2=0) with z | z
    ·exact z
    ·exact absurd (Int.dvd_of_emod_eq_zero z) (hp.no 2 (by decide) (by omega))
   have pm2:Num.Pm 2:=⟨by decide,λd d2 dn=>by omega⟩
   obtain⟨x,hx,ex⟩:=Num.dy pm2 (λx z=>(hP.ok x z).1) (by rw [hP.prod];exact⟨(p-1)/2,by omega⟩)
   cases ps with
   | nil=>simp at hx
   | cons y r =>
    have ey:y.1=2:=by
     have:=(hP.ok y (by simp)).1.two
     rcases List.mem_cons.mp hx with z | z
     ·rw [<- z];exact ex
     ·have:=(List.pairwise_cons.mp hP.rise).1 x z
      omega
    have s0:=(ih 0 y.1 y.2 rfl).2 ey
    have hr:=qg (ps:=r) (ds:=λi=>ds (i+1)) (λq hq=>⟨(hP.ok q (List.mem_cons_of_mem _ hq)).1.two,(hP.ok q (List.mem_cons_of_mem _ hq)).2.1⟩) λi q k hi=>(ih (i+1) q k (by simpa using hi)).1
    rw [cZ]
    have e:4+bh (.tuple [ds 0,.int y.2]::Num.rowsOf r (λi=>ds (i+1)))+2=12+bh (Num.rowsOf r (λi=>ds (i+1))):=by
     simp only [bh,di,s0]
     omega
    rw [e,Nat.pow_add]
    have h3:=Nat.mul_le_mul_left (2^12) hr
    rw [<- Nat.mul_pow] at h3
    refine Nat.le_trans h3 (Nat.pow_le_pow_left ?_ 12)
    have hpr:Num.aH (y::r)=p-1:=hP.prod
    have k1:=(hP.ok y (by simp)).2.1
    have:(Num.aH (y::r)).natAbs=2^y.2.toNat*(Num.aH r).natAbs:=by
     show (y.1^y.2.toNat*Num.aH r).natAbs=_
     rw [Int.natAbs_mul,Int.natAbs_pow,ey]
     rfl
    rw [hpr] at this
    have h5:2*(Num.aH r).natAbs<=2^y.2.toNat*(Num.aH r).natAbs:=Nat.mul_le_mul_right _ (Nat.le_self_pow (by omega) _)
    omega
theorem kq {n:Int} {d:PyData} (h:Num.fb n d):di d<=358:=by
 have h1:=(yc h).1
 have h9:n<=10^9/\2<=n:=by
  cases h with
  | mk _ _ _ _ a b=>exact⟨b,a.two⟩
 have e30:(2:Nat)^30=1073741824:=by decide
 have h2:n.natAbs^12<=(2^30)^12:=Nat.pow_le_pow_left (show n.natAbs<=2^30 by omega) 12
 rw [<- Nat.pow_mul] at h2
 have:=(Nat.pow_le_pow_iff_right (by decide:1<2)).mp (Nat.le_trans h1 h2)
 omega
end K
namespace K
open PySem PySem.Spec PyProof.Rows L2
section
variable {P:Program} {w:World} {K:PySem.W.Frag} {mg:Str->Option Value} {base:Heap}
def RS (n a e:Int) (row:PyData):Prop:=∃(q:Int) (ds:List PyData) (k r:Int),row=.tuple [.tuple (.int q::ds),.int k,.int r]/\r≠1/\r=a^(e/q).toNat%n
def OP (n a:Int) (d:PyData):Prop:=∃(e:Int) (rows:List PyData),d=.tuple [.int e,.tuple rows]/\CT 3 e 1 rows/\a^e.toNat%n=1/\(∀ row∈rows,RS n a e row)/\∀ row∈rows,PP (f7 row)
theorem iS {m:Nat}:∀{rows:List PyData} {e t:Int},CT m e t rows->1<=e
 | [],e,t,h=>by
  have:e=1:=h
  omega
 | _::_,e,t,h=>h.1
def ug (K:PySem.W.Frag):Sp:=λvs H Q _=>∃(n a e q g k:Int) (rs rd:PyData) (v:V),vs=[.int n,.int a,.int e,v]/\2<=n/\n<=10^100/\1<=e/\e<=10^110/\2<=q/\q<=10^110/\dv K H (.tuple [.tuple [.int q,.int g,rs],.int k,rd]) v/\∀ b H',(b=true↔∃ r,rd=.int r/\r≠1/\r=a^(e/q).toNat%n)->az H H'->Q (.bl b) H'
theorem jw:aw ["n","a","e","row","rest"] ["n","a","e","row"] (ai (top 31)):=d6
theorem vw {C:Addr} (D:au K mg "is_rest" (top 31)) (c_is_whole:Callee P w K mg base aO 1 "is_whole" ["thing"] (zL K)) (c_power:Callee P w K mg base (iE P w) 4 "power" ["n","a","e"] (dS C)):Callee P w K mg base aO 5 "is_rest" ["n","a","e","row"] (ug K):=by
 refine cO D jw (λf cdv A outer s H vs Q E hr h=>?_)
 obtain⟨n,a,e,q',g,k,rs,rd,v,rfl,n2,n9,e1,e9,q2,q9,hd,q⟩:=h
 have nd:=jw.nd
 refine⟨_,(ae (bY (i:=4) nd (aL aW (pv 3) ag (λ_ _=>rfl))) (aj (ay (bH (b0 c_is_whole hr aD (aa (pv 4) af)) (bH (bR i9 (pv 4) ag (aB _)) (cV (bR cn (pv 4) (b0 c_power hr bE (aa (pv 0) (aa (pv 1) (aa (aq bQ (pv 2) (aL aW (aL aW (pv 3) ag (λ_ _=>rfl)) ag (λ_ _=>rfl))) af)))) (aB _)))))))),?_⟩
 show bT _ _ _ [some (.int n),some (.int a),some (.int e),some v,none] H
 obtain⟨pt,x1,x2,x3,rfl,tS,d1,d2,d3⟩:=xG hd
 obtain⟨pq,y1,y2,y3,rfl,tQ,f1,f2,f3⟩:=xG d1
 cases f1
 k_data
 refine bF tS rfl ?_
 refine⟨rd,x3,rfl,d3,?_⟩
 refine⟨_,rfl,aP (λc=>?_) (λc=>?_)⟩
 ·obtain⟨r,rfl⟩:=gf c
  cases d3
  refine⟨rfl,aP (λc1=>?_) (λc1=>?_)⟩
  ·refine bF tS iF (bF tQ iF ⟨q',rfl,by omega,Bd.of (by omega) (by omega),n,a,e/q',rfl,by omega,by omega,λ_ H1 s1=>⟨rfl,?_⟩,λz=>absurd z (by have:=Int.ediv_nonneg (show 0<=e by omega) (show 0<=q' by omega);omega)⟩)
   refine q _ H1 ?_ s1
   rw [decide_eq_true_iff]
   constructor
   ·intro z
    exact⟨r,rfl,λy=>c1 (by rw [y]),V.int.inj z⟩
   ·rintro⟨r',e',_,h⟩
    cases e'
    rw [h]
  ·refine q false _ ⟨λz=>(by cases z),?_⟩ (az.refl _)
   rintro⟨r',e',h,_⟩
   cases e'
   exact absurd (λy=>h (V.int.inj y)) c1
 ·refine q false _ ⟨λz=>(by cases z),?_⟩ (az.refl _)
  rintro⟨r',e',_⟩
  rw [e'] at c
  exact absurd rfl c
def Ah (H1:Hp) (n a e:Int) (rows:List PyData) (i:Nat) (zs:List V) (H3:Hp):Prop:=az H1 H3/\∃ bs:List Bool,zs=bs.map V.bl/\bs.length=i/\(bs.all id=true↔∀ row∈rows.take i,RS n a e row)
def zI (K:PySem.W.Frag):Sp:=λvs H Q _=>∃(n a:Int) (d:PyData) (v:V),vs=[.int n,.int a,v]/\2<=n/\n<=10^100/\dv K H d v/\gE d/\di d<=10^6/\∀ b H',(b=true↔OP n a d)->az H H'->Q (.bl b) H'
theorem c7:aw ["n","a","thing","e","parts"] ["n","a","thing"] (ai (top 24)):=d6
theorem zr {C:Addr} (D:au K mg "is_order_paper" (top 24)) (c_is_whole:Callee P w K mg base aO 1 "is_whole" ["thing"] (zL K)) (c_is_tuple_of:Callee P w K mg base aO 1 "is_tuple_of" ["thing","many"] (qu K)) (c_come_to:Callee P w K mg base aO 4 "come_to" ["n","rows","width"] (yw K)) (c_power:Callee P w K mg base (iE P w) 4 "power" ["n","a","e"] (dS C)) (c_is_rest:Callee P w K mg base aO 5 "is_rest" ["n","a","e","row"] (ug K)) (c_are_prime_papers:Callee P w K mg base aO 7 "are_prime_papers" ["things"] (wY K)) (n_isinstance:mg "isinstance"=none) (n_tuple:mg "tuple"=none) (n_all:mg "all"=none):Callee P w K mg base aO 8 "is_order_paper" ["n","a","thing"] (zI K):=by
 refine cO D c7 (λf cdv A outer s H vs Q E hr h=>?_)
 obtain⟨n,a,d,v,rfl,n2,n9,hd,hs,hz,q⟩:=h
 have nd:=c7.nd
 refine⟨_,(ae (bt (df (PW.pt (lN (aR (b0 c_is_tuple_of hr aD (aa (pv 2) (aa ag af))) (λ_=>rfl)) (lN (aR (b0 c_is_whole hr aD (aa (aL aW (pv 2) ag (λ_ _=>rfl)) af)) (λ_=>rfl)) (lO (aR (aF bo rfl n_isinstance PyProof.Rows.boot_isinstance (aa (aL aW (pv 2) ag (λ_ _=>rfl)) (aa (bz (v:=.ty "tuple") rfl n_tuple L2.boot_tuple rfl) af))) (λ_=>rfl))))))) (aj (ay bU)) aG) (ae (ji (pv 2) (eI (n:=2) rfl (aE (ax (i:=3) nd rfl (Or.inr rfl) (.inl rfl)) (aE (ax (i:=4) nd rfl (Or.inl rfl) (.inr rfl)) bJ)))) (ae (bt (PW.pt (jj (df (aR (b0 c_come_to hr aD (aa (pv 3) (aa (pv 4) (aa ag af)))) (λ_=>rfl))) (gZ (aC i9 (b0 c_power hr bE (aa (pv 0) (aa (pv 1) (aa (pv 3) af)))) ag (aB _))))) (aj (ay bU)) aG) (aj (ay (bH (aF (iQ rfl) rfl n_all L2.boot_all (aa (dW rfl (oj (N':=["row","n","a","e"]) (js:=[none,some 0,some 1,some 3]) rfl rfl) (fS (pv 4)) (λ_ _ _ _=>(ax (i:=0) (show List.Nodup [("row":Str),("n":Str),("a":Str),("e":Str)] from by decide +kernel) rfl (Or.inl rfl) (.inr rfl))) (λ_ _ _ _=>bA) (λ_ _ _ _=>(b0 c_is_rest hr aD (aa (pv 1) (aa (pv 2) (aa (pv 3) (aa (pv 0) af))))))) af)) (cV (b0 c_are_prime_papers hr aD (aa (dW rfl (oj (N':=["row"]) (js:=[none]) rfl rfl) (fS (pv 4)) (λ_ _ _ _=>(ax (i:=0) (show List.Nodup [("row":Str)] from by decide +kernel) rfl (Or.inl rfl) (.inr rfl))) (λ_ _ _ _=>bA) (λ_ _ _ _=>(aL (bD K rfl) (pv 0) ag (λ_ _=>rfl)))) af))))))))),?_⟩
 show bT _ _ _ [some (.int n),some (.int a),some v,none,none] H
 k_data
 refine⟨d,v,2,rfl,hd,?_⟩
 have no:∀{H'},az H H'->¬OP n a d->Q (.bl false) H':=λs' h=>q false _ ⟨λz=>(by cases z),λz=>absurd z h⟩ s'
 refine⟨ip d 2,aN.mpr rfl,aP (λc=>?_) (λc=>?_)⟩
 ·obtain⟨d1,d2,rfl⟩:∃ d1 d2,d=.tuple [d1,d2]:=by
   cases d with
   | tuple ds =>
    have:ds.length=2:=of_decide_eq_true c
    match ds,this with
    | [x,y],_=>exact⟨x,y,rfl⟩
   | _=>cases c
  obtain⟨pt,us,rfl,tS,x1,r1,rfl,h1,x2,r2,rfl,h2,z⟩:=hd
  cases z
  refine bF tS iF ⟨d1,x1,rfl,h1,wA d1,aN.mpr rfl,aP (λc1=>?_) (λc1=>?_)⟩
  ·obtain⟨e,rfl⟩:=gf c1
   cases h1
   refine bF tS rfl (lq h2 ⟨y8 d2,aN.mpr rfl,aP (λc2=>?_) (λc2=>?_)⟩)
   ·refine no (az.refl _) ?_
    rintro⟨e',rows,h,_⟩
    cases h
    cases c2
   ·obtain⟨rows,rfl⟩:=pS (d:=d2) (by simpa using c2)
    have hs':e<=10^110/\cw rows:=by
     simp only [gE,cw,and_true] at hs
     exact hs
    have hzr:bh rows<=10^6:=by
     simp only [di,bh] at hz
     omega
    refine⟨pt,_,rfl,tS,rfl,?_⟩
    k_data
    refine⟨e,rows,x2,3,rfl,by decide,hs'.1,h2,λp' g' k' rs more hm=>?_,λb hb=>⟨b,aN.mpr rfl,aP (λc3=>?_) (λc3=>?_)⟩⟩
    ·have:=cj hs'.2 hm
     simp only [gE,cw] at this
     exact this.1.1
    ·refine no (az.refl _) ?_
     rintro⟨e',rows',h,h',_⟩
     cases h
     have:=hb.mpr h'
     rw [c3] at this
     cases this
    ·have hct:=hb.mp (by simpa using c3)
     have e1:=iS hct
     refine⟨n,a,e,rfl,by omega,by omega,λ_ H1 s1=>⟨rfl,aP (λc4=>?_) (λc4=>?_)⟩,λz=>absurd z (by omega)⟩
     ·refine no s1 ?_
      rintro⟨e',rows',h,_,h',_⟩
      cases h
      exact c4 (by rw [h'])
     ·have pw1:a^e.toNat%n=1:=by simpa using c4
      obtain⟨pr,xs,rfl,hS,ht⟩:=h2
      have xl:=ht.length
      have rl:rows.length<=10^6:=Nat.le_trans (eW rows) hzr
      refine⟨pr,rfl,⟨_,hS.same s1⟩,?_⟩
      refine cP (xs:=xs) (λi zs H3=>Ah H1 n a e rows i zs H3) ⟨az.refl _,[],rfl,rfl,by simp⟩ (Nat.le_trans (by omega) (show 10^6<=sizeLine by decide)) (λi zs H3 hi ⟨z1,bs,z2,z3,_⟩=>⟨hS.same (s1.trans z1),by rw [z2,List.length_map];omega⟩) ?_ ?_
      ·rintro i x zs H3 hx ⟨s3,bs,rfl,bl,hbs⟩
       obtain⟨row,hrow,hv⟩:=ht.get hx
       obtain⟨q',g',k',rs,more,rfl,q2,k1,ml⟩:=cM hct row (List.mem_of_getElem? hrow)
       have q9:=cj hs'.2 (List.mem_of_getElem? hrow)
       simp only [gE,cw] at q9
       obtain⟨rd,rfl⟩:∃ rd,more=[rd]:=by
        match more,ml with
        | [x],_=>exact⟨x,rfl⟩
       show cH 0 _ [none,some (.int n),some (.int a),some (.int e)] _ _
       k_data
       refine⟨⟨rfl,rfl,rfl,True.intro⟩,n,a,e,q',g',k',.tuple rs,rd,x,rfl,n2,n9,e1,hs'.1,q2,q9.1.1,dv.same (s1.trans s3) _ hv,λb2 H4 hb2 s4=>⟨s3.trans s4,bs++[b2],by rw [List.map_append];rfl,by rw [List.length_append];show bs.length+1=_;omega,?_⟩⟩
       rw [List.take_add_one,hrow,List.all_append]
       show (bs.all id && ([b2].all id))=true↔∀ row∈rows.take i++[_],RS n a e row
       rw [Bool.and_eq_true,hbs]
       have eb:([b2].all id=true)↔RS n a e (.tuple [.tuple [.int q',.int g',.tuple rs],.int k',rd]):=by
        rw [show [b2].all id=b2 by simp,hb2]
        constructor
        ·rintro⟨r,rfl,z1,z2⟩
         exact⟨q',_,k',r,rfl,z1,z2⟩
        ·rintro⟨q3,ds3,k3,r,h,z1,z2⟩
         cases h
         exact⟨r,rfl,z1,z2⟩
       rw [eb]
       constructor
       ·rintro⟨z1,z2⟩ row hr'
        rcases List.mem_append.mp hr' with y | y
        ·exact z1 row y
        ·rw [List.mem_singleton.mp y];exact z2
       ·intro z
        exact⟨λrow hr'=>z row (List.mem_append.mpr (.inl hr')),z _ (List.mem_append.mpr (.inr (List.mem_singleton.mpr rfl)))⟩
      ·rintro zs H3 p3 ⟨s3,bs,rfl,bl,hbs⟩ hp3
       rw [xl,List.take_length] at hbs
       refine allB (aS.of ah) ⟨_,rfl,aP (λc5=>?_) (λc5=>?_)⟩
       ·have s4:=ak (o:=.lst (bs.map V.bl)) hp3
        generalize upd H3 p3 _=H4 at *
        have S4:=(s1.trans s3).trans s4
        refine⟨pr,rfl,⟨_,hS.same S4⟩,?_⟩
        refine cP (xs:=xs) (λi zs H5=>az H4 H5/\aJ K H5 ((rows.take i).map f7) zs) ⟨az.refl _,rfl⟩ (Nat.le_trans (by omega) (show 10^6<=sizeLine by decide)) (λi zs H5 hi ⟨z1,z2⟩=>⟨hS.same (S4.trans z1),by rw [z2.length,List.length_map,List.length_take];omega⟩) ?_ ?_
        ·rintro i x zs H5 hx ⟨s5,hz5⟩
         obtain⟨row,hrow,hv⟩:=ht.get hx
         obtain⟨q',g',k',rs,more,rfl,q2,k1,ml⟩:=cM hct row (List.mem_of_getElem? hrow)
         obtain⟨a1,y1,rfl,t1,u1,r1,rfl,hv2,hrest⟩:=hv
         show cH 0 _ [none] _ _
         k_data
         refine⟨True.intro,bF (t1.same (S4.trans s5)) iF ⟨s5,?_⟩⟩
         rw [List.take_add_one,hrow,List.map_append]
         exact aJ.append hz5 (.one (dv.same (S4.trans s5) _ hv2))
        ·rintro zs H5 p5 ⟨s5,hz5⟩ hp5
         rw [xl,List.take_length] at hz5
         have s6:=ak (o:=.lst zs) hp5
         refine⟨p5,rows.map f7,zs,rfl,.inl (aS.of ah),aJ.same s6 _ hz5,gF λd hd'=>?_,Nat.le_trans (gK rows) hzr,λb H7 hb7 s7=>?_⟩
         ·obtain⟨row,hr',rfl⟩:=List.mem_map.mp hd'
          obtain⟨q',g',k',rs,more,rfl,q2,k1,ml⟩:=cM hct row hr'
          have:=cj hs'.2 hr'
          simp only [gE,cw] at this
          simp only [f7,gE,cw]
          exact this.1
         ·refine q b H7 (hb7.trans ⟨λz=>⟨e,rows,rfl,hct,pw1,hbs.mp c5,λrow hr'=>z _ (List.mem_map.mpr ⟨row,hr',rfl⟩)⟩,?_⟩) (((S4.trans s5).trans s6).trans s7)
          rintro⟨e',rows',h,_,_,_,h'⟩ d hd'
          cases h
          obtain⟨row,hr',rfl⟩:=List.mem_map.mp hd'
          exact h' row hr'
       ·refine no ((s1.trans s3).trans (ak hp3)) ?_
        rintro⟨e',rows',h,_,_,h',_⟩
        cases h
        exact c5 (hbs.mpr h')
  ·refine no (az.refl _) ?_
   rintro⟨e',rows,h,_⟩
   cases h
   exact absurd rfl c1
 ·refine no (az.refl _) ?_
  rintro⟨e',rows,h,_⟩
  rw [h] at c
  exact absurd rfl c
end
end K
namespace K
open PySem PySem.Spec PyProof.Rows L2
def mD:PyData->Int
 | .tuple (_::.int k::_)=>k
 | _=>0
def jI:List PyData->Int
 | []=>1
 | d::ds=>qD d^(mD d).toNat*jI ds
theorem dP:∀ a b:List PyData,jI (a++b)=jI a*jI b
 | [],b=>by show jI b=1*jI b;omega
 | d::ds,b=>by
  show qD d^(mD d).toNat*jI (ds++b)=qD d^(mD d).toNat*jI ds*jI b
  rw [dP ds b,Int.mul_assoc]
theorem iG {m:Nat}:∀{rows:List PyData} {l t:Int},CT m l t rows->l=jI rows
 | [],l,t,h=>h
 | d::ds,l,t,h=>by
  obtain⟨l1,p,g,k,rs,more,rfl,e2,e3,e4,e5,r,hw,hc⟩:=h
  have r1:=iS hc
  have ih:=iG hc
  rcases hw with⟨_,z⟩|⟨_,z⟩
  ·rw [z,ih]
   rfl
  ·omega
theorem lI {n a e:Int} {rows:List PyData} (h:OP n a (.tuple [.int e,.tuple rows])):CT 3 e 1 rows/\∀ row∈rows,RS n a e row:=by
 obtain⟨e',rows',h',h1,_,h2,_⟩:=h
 cases h'
 exact⟨h1,h2⟩
theorem mC {e:Int} {rows:List PyData} {i:Nat} {row:PyData} (h:CT 3 e 1 rows) (hi:rows[i]?=some row):∃ q g k:Int,∃ rs rd,row=.tuple [.tuple [.int q,.int g,.tuple rs],.int k,rd]/\2<=q/\1<=k/\e=q^k.toNat*jI (rows.take i++rows.drop (i+1)):=by
 obtain⟨q,g,k,rs,more,rfl,q2,k1,ml⟩:=cM h row (List.mem_of_getElem? hi)
 obtain⟨rd,rfl⟩:∃ rd,more=[rd]:=by
  match more,ml with
  | [x],_=>exact⟨x,rfl⟩
 refine⟨q,g,k,rs,rd,rfl,q2,k1,?_⟩
 have e1:rows=rows.take i++([.tuple [.tuple [.int q,.int g,.tuple rs],.int k,rd]]++rows.drop (i+1)):=by
  have h1:rows.take (i+1)=rows.take i++[.tuple [.tuple [.int q,.int g,.tuple rs],.int k,rd]]:=by rw [List.take_add_one,hi];rfl
  rw [<- List.append_assoc,<- h1,List.take_append_drop]
 have h2:=iG h
 have h3:jI rows=jI (rows.take i)*(q^k.toNat*1*jI (rows.drop (i+1))):=by
  have:=congrArg jI e1
  rw [dP,dP] at this
  exact this
 rw [h2,h3,dP]
 grind
theorem xW {n a e:Int} {rows:List PyData} {i:Nat} {row:PyData} (h:CT 3 e 1 rows) (hi:rows[i]?=some row):¬OP n a (.tuple [.int e,.tuple (rows.take i++rows.drop (i+1))]):=λz=>by
 obtain⟨q,g,k,rs,rd,_,q2,k1,e1⟩:=mC h hi
 have h2:=iG (lI z).1
 have e0:=iS h
 rw [<- h2] at e1
 obtain⟨j,hj⟩:∃ j,k.toNat=j+1:=⟨k.toNat-1,by omega⟩
 have pp:=Num.aA (show 0<q by omega) j
 rw [hj,Int.pow_succ] at e1
 have h3:1*2<=q^j*q:=Int.mul_le_mul (by omega) q2 (by omega) (by omega)
 have:=Int.mul_le_mul_of_nonneg_right h3 (show 0<=e by omega)
 omega
theorem vo {n a e q g k:Int} {rows rs:List PyData} {rd:PyData} {i:Nat} (h:CT 3 e 1 rows) (hi:rows[i]?=some (.tuple [.tuple [.int q,.int g,.tuple rs],.int k,rd])):¬OP n a (.tuple [.int e,.tuple (rows.take i++[.tuple [.tuple [.int q,.int g,.tuple rs],.int (k+1),rd]]++rows.drop (i+1))]):=λz=>by
 obtain⟨q',g',k',rs',rd',er,q2,k1,e1⟩:=mC h hi
 cases er
 have h2:=iG (lI z).1
 have e0:=iS h
 have h3:jI (rows.take i++[.tuple [.tuple [.int q,.int g,.tuple rs],.int (k+1),rd]]++rows.drop (i+1))=jI (rows.take i)*(q^(k+1).toNat*1)*jI (rows.drop (i+1)):=by
  rw [dP,dP]
  rfl
 rw [h3,show (k+1).toNat=k.toNat+1 by omega,Int.pow_succ] at h2
 rw [dP] at e1
 have h4:e=e*q:=by
  rw [Int.mul_one] at h2
  have:jI (rows.take i)*(q^k.toNat*q)*jI (rows.drop (i+1))=q^k.toNat*(jI (rows.take i)*jI (rows.drop (i+1)))*q:=by grind
  rw [this,<- e1] at h2
  exact h2
 have:=Int.mul_le_mul_of_nonneg_left q2 (show 0<=e by omega)
 omega
theorem vp {n a e q k r:Int} {rows ds:List PyData} {i:Nat} (hr:r=a^(e/q).toNat%n):¬OP n a (.tuple [.int e,.tuple (rows.take i++[.tuple [.tuple (.int q::ds),.int k,.int (r+1)]]++rows.drop (i+1))]):=λz=>by
 obtain⟨q',ds',k',r',h1,_,h2⟩:=(lI z).2 (.tuple [.tuple (.int q::ds),.int k,.int (r+1)]) (by simp)
 cases h1
 omega
end K
namespace K
open PySem PySem.Spec PyProof.Rows L2
section
variable {P:Program} {w:World} {K:PySem.W.Frag} {mg:Str->Option Value} {base:Heap}
def Bj (row:PyData) (y:Int × Int):Prop:=∃ ds,row=.tuple [.tuple (.int y.1::ds),.int y.2]
def uK (rows:List PyData) (ps:List (Int × Int)):Prop:=rows.length=ps.length/\∀(i:Nat) (row:PyData),rows[i]?=some row->∃ y,ps[i]?=some y/\Bj row y
def qp (K:PySem.W.Frag):Sp:=λvs H Q _=>∃(v:V) (rows:List PyData) (ps:List (Int × Int)),vs=[v]/\dv K H (.tuple rows) v/\uK rows ps/\rows.length<=10^6/\∀ p us H',az H H'->H p=none->H' p=some (.lst us)->aJ K H' (ps.map rD) us->Q (.ref p) H'
theorem sJ {H:Hp} {rows:List PyData} {ps:List (Int × Int)} {xs:List V} (hd:aJ K H rows xs) (h:uK rows ps) {i:Nat} {x:V} (hx:xs[i]?=some x):∃ q k pt pq r,ps[i]?=some (q,k)/\x=.ref pt/\bS K H pt [.ref pq,.int k]/\bS K H pq (.int q::r):=by
 obtain⟨d,hd',hv⟩:=hd.get hx
 obtain⟨⟨q,k⟩,hy,ds,rfl⟩:=h.2 i d hd'
 obtain⟨pt,ys,rfl,h1,x1,r1,rfl,e1,x2,r2,rfl,e2,z⟩:=hv
 cases z
 obtain⟨pq,zs,rfl,h2,y1,r3,rfl,f1,f2⟩:=e1
 cases f1
 cases e2
 exact⟨q,k,pt,pq,r3,hy,rfl,h1,h2⟩
theorem cF:aw ["parts"] ["parts"] (ai (top 13)):=d6
theorem tj (D:au K mg "parting_in" (top 13)):Callee P w K mg base aO 1 "parting_in" ["parts"] (qp K):=by
 refine cO D cF (λf cdv A outer s H vs Q E hr h=>?_)
 obtain⟨v,rows,ps,rfl,hd,hh,h6,q⟩:=h
 have nd:=cF.nd
 refine⟨_,(aj (ay (dW rfl (oj (N':=["row"]) (js:=[none]) rfl rfl) (fS (pv 0)) (λ_ _ _ _=>(ax (i:=0) (show List.Nodup [("row":Str)] from by decide +kernel) rfl (Or.inl rfl) (.inr rfl))) (λ_ _ _ _=>bA) (λ_ _ _ _=>(bj (aa (aL (bD K rfl) (aL (bD K rfl) (pv 0) ag (λ_ _=>rfl)) ag (λ_ _=>rfl)) (aa (aL (bD K rfl) (pv 0) ag (λ_ _=>rfl)) af))))))),?_⟩
 show lZ _ _ [some v] H
 obtain⟨p,xs,rfl,hS,ht⟩:=hd
 have xl:=ht.length
 have rl:=hh.1
 k_data
 refine⟨⟨_,hS⟩,?_⟩
 refine cP (xs:=xs) (λi zs H3=>az H H3/\aJ K H3 ((ps.take i).map rD) zs) ⟨az.refl _,rfl⟩ (Nat.le_trans (by omega) (show 10^6<=sizeLine by decide)) (λi zs H3 hi ⟨e1,e2⟩=>⟨hS.same e1,by rw [e2.length,List.length_map,List.length_take];omega⟩) ?_ ?_
 ·rintro i x zs H3 hx ⟨s3,hz⟩
  obtain⟨q',k',pt,pq,r,hy,rfl,t1,t2⟩:=sJ ht hh hx
  show cH 0 _ [none] _ _
  k_data
  refine⟨True.intro,bF (t1.same s3) iF (bF (t2.same s3) iF (bF (t1.same s3) rfl ⟨by show 2<=sizeLine;decide,λp4 hp4=>?_⟩))⟩
  have s4:=ak (o:=.tup [V.int q',V.int k']) hp4
  refine⟨s3.trans s4,?_⟩
  rw [List.take_add_one,hy,List.map_append]
  exact aJ.append (aJ.same s4 _ hz) (.one (dv.tup ah ⟨_,_,rfl,rfl,.one rfl⟩))
 ·rintro zs H3 p3 ⟨s3,hz⟩ hp3
  rw [show xs.length=ps.length by omega,List.take_length] at hz
  exact q p3 zs _ (s3.trans (ak hp3)) (s3.free hp3) ah (aJ.same (ak hp3) _ hz)
def ue:Sp:=λvs H Q _=>∃ n q:Int,vs=[.int n,.int q]/\0<=n/\n<=10^60/\2<=q/\q<=10^60/\∀ t:Nat,n<=q^(t+1)->Q (.int t) H
theorem fH:aw ["n","prime","times","product"] ["n","prime"] (ai (top 19)):=d6
theorem vv (D:au K mg "most_times" (top 19)):Callee P w K mg base aO 1 "most_times" ["n","prime"] ue:=by
 refine cO D fH (λf cdv A outer s H vs Q E hr h=>?_)
 obtain⟨n,q',rfl,n0,n9,q2,q9,q⟩:=h
 have nd:=fH.nd
 refine⟨_,(ae (bY (i:=2) nd ag) (ae (bY (i:=3) nd (pv 1)) (ae (bB PassesOwn.never (aC ir (pv 3) (pv 0) (aB _)) (ae (fU (i:=3) nd rfl (Or.inl rfl) (pv 1) (iW mT)) (aj (fU (i:=2) nd rfl (Or.inl rfl) ag (iW pR))))) (aj (ay (pv 2)))))),?_⟩
 show bT _ _ _ [some (.int n),some (.int q'),none,none] H
 k_data
 refine bC (α:=Nat) (λt=>[some (.int n),some (.int q'),some (.int (t:Int)),some (.int (q'^(t+1)))]) (λt H1=>H1=H/\(t=0∨q'^t<n)) (λt=>(n-q'^(t+1)).toNat) 0 (by rw [Int.pow_succ,Int.pow_zero,Int.one_mul];rfl) ⟨rfl,.inl rfl⟩ ?_
 rintro t H1 ⟨rfl,ht⟩
 replace ht:t=0∨q'^t<n:=ht
 have p0:0<q'^(t+1):=Num.aA (by omega) _
 k_data
 refine aP (λc=>?_) (λc=>?_)
 ·have up:q'^(t+1)*2<=q'^(t+1)*q':=Int.mul_le_mul_of_nonneg_left q2 (by omega)
  refine⟨_,λ_ _ z=>z,Bd.of (by omega) (by omega),Bd.of (by omega) (by omega),t+1,?_,rfl,.inr c,?_⟩
  ·rw [Int.pow_succ q' (t+1)];rfl
  ·show (n-q'^(t+1+1)).toNat<(n-q'^(t+1)).toNat
   rw [Int.pow_succ q' (t+1)]
   omega
 ·exact q t (by omega)
def gG (K:PySem.W.Frag):Sp:=λvs H Q _=>∃(n a:Int) (p:Addr) (us:List V) (ps:List (Int × Int)),vs=[.int n,.int a,.ref p]/\0<n/\n<=10^60/\0<=a/\a<n/\H p=some (.lst us)/\aJ K H (ps.map rD) us/\(∀ y∈ps,2<=y.1/\0<=y.2/\y.2<=10^6)/\∀ H',az H H'->Q (.int (a^Num.eN ps%n)) H'
theorem fY (ps:List (Int × Int)) (q k:Int):Num.eN (ps++[(q,k)])=Num.eN ps*q.toNat^k.toNat:=by
 rw [Num.bP]
 show Num.eN ps*(q.toNat^k.toNat*1)=_
 rw [Nat.mul_one]
theorem pJ:∀{ps:List (Int × Int)},(∀ y∈ps,2<=y.1)->Num.eN ps≠0
 | [],_=>by decide
 | p::r,h=>by
  have:=h p (List.mem_cons_self ..)
  exact Nat.mul_ne_zero (Nat.ne_of_gt (Nat.pow_pos (by omega))) (pJ λy z=>h y (List.mem_cons_of_mem _ z))
theorem pow_step {n a q:Int} {M j:Nat} (n0:0<n):(a^(M*q.toNat^j)%n)^q.toNat%n=a^(M*q.toNat^(j+1))%n:=by
 rw [Num.Al.iff.mp ((Num.Al.rest n (a^(M*q.toNat^j))).pow q.toNat),Num.cE,Nat.pow_succ,Nat.mul_assoc]
theorem kz:aw ["n","a","parting","rest","prime","many","turn"] ["n","a","parting"] (ai (top 20)):=d6
theorem rh {C:Addr} (D:au K mg "raised" (top 20)) (c_power:Callee P w K mg base (iE P w) 4 "power" ["n","a","e"] (dS C)) (n_range:mg "range"=none):Callee P w K mg base aO 5 "raised" ["n","a","parting"] (gG K):=by
 refine cO D kz (λf cdv A outer s H vs Q E hr h=>?_)
 obtain⟨n,a,p,us,ps,rfl,n0,n9,a0,a1,hp,hd,hok,q⟩:=h
 have nd:=kz.nd
 refine⟨_,(ae (bY (i:=3) nd (pv 1)) (ae (dQ PassesOwn.never rfl (b6 (pv 2)) (eI (n:=2) rfl (aE (ax (i:=4) nd rfl (Or.inl rfl) (.inr rfl)) (aE (ax (i:=5) nd rfl (Or.inl rfl) (.inr rfl)) bJ))) (aj (dQ PassesOwn.never rfl (fh rfl n_range (aa (pv 5) af)) (ax (i:=6) nd rfl (Or.inl rfl) (.inr rfl)) (aj (bY (i:=3) nd (b0 c_power hr bE (aa (pv 0) (aa (pv 3) (aa (pv 4) af))))))))) (aj (ay (pv 3))))),?_⟩
 show bT _ _ _ [some (.int n),some (.int a),some (.ref p),none,none,none,none] H
 have ul:us.length=ps.length:=by rw [hd.length,List.length_map]
 k_data
 refine⟨⟨_,aS.of hp⟩,?_⟩
 refine fe (xs:=us) (λi σ' H'=>az H H'/\∃ o4 o5 o6,σ'=[some (.int n),some (.int a),some (.ref p),some (.int (a^Num.eN (ps.take i)%n)),o4,o5,o6]) ⟨az.refl _,none,none,none,?_⟩ (λi σ' H' _ h=>aS.of (h.1 _ _ hp)) ?_ ?_
 ·show _=[_,_,_,some (V.int (a^1%n)),none,none,none]
  rw [Int.pow_one,Int.emod_eq_of_lt a0 a1]
 ·rintro i x σ' H' hx ⟨s',o4,o5,o6,rfl⟩
  obtain⟨d,hd',hv⟩:=hd.get hx
  rw [List.getElem?_map] at hd'
  obtain⟨⟨q',k'⟩,hy,rfl⟩:=Option.map_eq_some_iff.mp hd'
  obtain⟨q2,k0,k6⟩:=hok _ (List.mem_of_getElem? hy)
  replace q2:2<=q':=q2
  replace k0:0<=k':=k0
  replace k6:k'<=10^6:=k6
  obtain⟨pt,rfl,tt⟩:=gO hv
  refine⟨pt,_,rfl,tt.same s',rfl,?_⟩
  k_data
  refine⟨by omega,by omega,?_⟩
  refine dI (λj σ2 H2=>az H H2/\∃ o6,σ2=[some (.int n),some (.int a),some (.ref p),some (.int (a^(Num.eN (ps.take i)*q'.toNat^j)%n)),some (.int q'),some (.int k'),o6]) ⟨s',o6,by rw [Nat.pow_zero,Nat.mul_one]⟩ ?_ ?_
  ·rintro j σ2 H2 hj ⟨s2,o6,rfl⟩
   k_data
   refine⟨n,_,q',rfl,n0,by omega,λ_ H3 s3=>⟨s2.trans s3,?_⟩,λz=>absurd z (by omega)⟩
   rw [pow_step n0]
  ·rintro σ2 H2 ⟨s2,o6,rfl⟩
   refine⟨s2,some (.int q'),some (.int k'),o6,?_⟩
   rw [List.take_add_one,hy]
   show _=[_,_,_,some (V.int (a^Num.eN (ps.take i++[(q',k')])%n)),_,_,_]
   rw [fY]
 ·rintro σ' H' ⟨s',o4,o5,o6,rfl⟩
  rw [ul,List.take_length]
  k_data
  exact q H' s'
def lV:Sp:=λvs H Q _=>∃(n a q:Int) (k:Nat),vs=[.int n,.int a,.int q]/\2<=n/\n<=10^60/\0<=a/\a<n/\2<=q/\a^q.toNat^k%n=1/\∀(t:Nat) H',t<=k->a^q.toNat^t%n=1->(∀ j,j<t->a^q.toNat^j%n≠1)->az H H'->Q (.int t) H'
theorem dY:aw ["n","a","prime","times","rest"] ["n","a","prime"] (ai (top 22)):=d6
theorem tE {C:Addr} (D:au K mg "times_to_one" (top 22)) (c_power:Callee P w K mg base (iE P w) 4 "power" ["n","a","e"] (dS C)):Callee P w K mg base aO 5 "times_to_one" ["n","a","prime"] lV:=by
 refine cO D dY (λf cdv A outer s H vs Q E hr h=>?_)
 obtain⟨n,a,q',k,rfl,n2,n9,a0,a1,q2,hk,q⟩:=h
 have nd:=dY.nd
 refine⟨_,(ae (bY (i:=3) nd ag) (ae (bY (i:=4) nd (pv 1)) (ae (bB PassesOwn.never (aC i9 (pv 4) ag (aB _)) (ae (bY (i:=4) nd (b0 c_power hr bE (aa (pv 0) (aa (pv 4) (aa (pv 2) af))))) (aj (fU (i:=3) nd rfl (Or.inl rfl) ag (iW pR))))) (aj (ay (pv 3)))))),?_⟩
 show bT _ _ _ [some (.int n),some (.int a),some (.int q'),none,none] H
 k_data
 refine bC (α:=Nat) (λt=>[some (.int n),some (.int a),some (.int q'),some (.int (t:Int)),some (.int (a^q'.toNat^t%n))]) (λt H1=>az H H1/\t<=k/\∀ j,j<t->a^q'.toNat^j%n≠1) (λt=>k-t) 0 (by rw [Nat.pow_zero,Int.pow_one,Int.emod_eq_of_lt a0 a1];rfl) ⟨az.refl _,Nat.zero_le _,λj hj=>absurd hj (Nat.not_lt_zero _)⟩ ?_
 rintro t H1 ⟨s1,tk,no⟩
 replace tk:t<=k:=tk
 replace no:∀ j,j<t->a^q'.toNat^j%n≠1:=no
 k_data
 refine aP (λc=>?_) (λc=>?_)
 ·have tk':t≠k:=λz=>c (z▸hk)
  refine⟨_,λ_ _ z=>z,n,_,q',rfl,by omega,by omega,λ_ H2 s2=>⟨t+1,?_,s1.trans s2,by omega,λj hj=>?_,?_⟩,λz=>absurd z (by omega)⟩
  ·have:=pow_step (n:=n) (a:=a) (M:=1) (q:=q') (j:=t) (by omega)
   rw [Nat.one_mul,Nat.one_mul] at this
   rw [this]
   rfl
  ·rcases (by omega:j<t∨j=t) with z | z
   ·exact no j z
   ·rw [z];exact c
  ·show k-(t+1)<k-t
   omega
 ·exact q t H1 tk (by simpa using c) no s1
def qv (K:PySem.W.Frag):Sp:=λvs H Q _=>∃(p:Addr) (us:List V) (ps:List (Int × Int)),vs=[.ref p]/\H p=some (.lst us)/\aJ K H (ps.map rD) us/\(∀ y∈ps,2<=y.1/\0<=y.2/\y.2<=10^6)/\Num.eN ps<=10^100/\∀ H',az H H'->Q (.int (Num.eN ps)) H'
theorem pH {ps:List (Int × Int)} (h:∀ y∈ps,2<=y.1) {i:Nat} {q k:Int} (hy:ps[i]?=some (q,k)) {j:Nat} (hj:j<=k.toNat):Num.eN (ps.take i)*q.toNat^j<=Num.eN ps/\q.toNat<=Num.eN (ps.take i)*q.toNat^k.toNat*Num.eN (ps.drop (i+1))*q.toNat:=by
 have pos:∀ l:List (Int × Int),(∀ y∈l,2<=y.1)->0<Num.eN l:=by
  intro l
  induction l with
  | nil=>intro _;exact Nat.one_pos
  | cons p r ih =>
   intro hl
   have:=hl p (List.mem_cons_self ..)
   exact Nat.mul_pos (Nat.pow_pos (by omega)) (ih λy z=>hl y (List.mem_cons_of_mem _ z))
 have q2:2<=q:=h _ (List.mem_of_getElem? hy)
 have e:ps=ps.take i++[(q,k)]++ps.drop (i+1):=by
  have h1:ps.take (i+1)=ps.take i++[(q,k)]:=by rw [List.take_add_one,hy];rfl
  rw [<- h1,List.take_append_drop]
 have p1:=pos (ps.take i) λy z=>h y (List.mem_of_mem_take z)
 have p2:=pos (ps.drop (i+1)) λy z=>h y (List.mem_of_mem_drop z)
 have e2:Num.eN ps=Num.eN (ps.take i)*q.toNat^k.toNat*Num.eN (ps.drop (i+1)):=by
  have:Num.eN ps=Num.eN (ps.take i++[(q,k)]++ps.drop (i+1)):=congrArg _ e
  rw [this,Num.bP,fY]
 have p3:0<q.toNat^k.toNat:=Nat.pow_pos (by omega)
 constructor
 ·rw [e2]
  refine Nat.le_trans (Nat.mul_le_mul_left _ (Nat.pow_le_pow_right (by omega) hj)) ?_
  exact Nat.le_mul_of_pos_right _ p2
 ·exact Nat.le_mul_of_pos_left _ (Nat.mul_pos (Nat.mul_pos p1 p3) p2)
theorem iy:aw ["parting","whole","prime","many","turn"] ["parting"] (ai (top 5)):=d6
theorem tF (D:au K mg "whole_of" (top 5)) (n_range:mg "range"=none):Callee P w K mg base aO 1 "whole_of" ["parting"] (qv K):=by
 refine cO D iy (λf cdv A outer s H vs Q E hr h=>?_)
 obtain⟨p,us,ps,rfl,hp,hd,hok,h100,q⟩:=h
 have nd:=iy.nd
 refine⟨_,(ae (bY (i:=1) nd ag) (ae (dQ PassesOwn.never rfl (b6 (pv 0)) (eI (n:=2) rfl (aE (ax (i:=2) nd rfl (Or.inl rfl) (.inr rfl)) (aE (ax (i:=3) nd rfl (Or.inl rfl) (.inr rfl)) bJ))) (aj (dQ PassesOwn.never rfl (fh rfl n_range (aa (pv 3) af)) (ax (i:=4) nd rfl (Or.inl rfl) (.inr rfl)) (aj (fU (i:=1) nd rfl (Or.inl rfl) (pv 2) (iW mT)))))) (aj (ay (pv 1))))),?_⟩
 show bT _ _ _ [some (.ref p),none,none,none,none] H
 have ul:us.length=ps.length:=by rw [hd.length,List.length_map]
 k_data
 refine⟨⟨_,aS.of hp⟩,?_⟩
 refine fe (xs:=us) (λi σ' H'=>az H H'/\∃ o4 o5 o6,σ'=[some (.ref p),some (.int (Num.eN (ps.take i))),o4,o5,o6]) ⟨az.refl _,none,none,none,rfl⟩ (λi σ' H' _ h=>aS.of (h.1 _ _ hp)) ?_ ?_
 ·rintro i x σ' H' hx ⟨s',o4,o5,o6,rfl⟩
  obtain⟨d,hd',hv⟩:=hd.get hx
  rw [List.getElem?_map] at hd'
  obtain⟨⟨q',k'⟩,hy,rfl⟩:=Option.map_eq_some_iff.mp hd'
  obtain⟨q2,k0,k6⟩:=hok _ (List.mem_of_getElem? hy)
  replace q2:2<=q':=q2
  replace k0:0<=k':=k0
  replace k6:k'<=10^6:=k6
  obtain⟨pt,rfl,tt⟩:=gO hv
  refine⟨pt,_,rfl,tt.same s',rfl,?_⟩
  k_data
  refine⟨by omega,by omega,?_⟩
  refine dI (λj σ2 H2=>H2=H'/\∃ o6,σ2=[some (.ref p),some (.int ((Num.eN (ps.take i)*q'.toNat^j:Nat):Int)),some (.int q'),some (.int k'),o6]) ⟨rfl,o6,by rw [Nat.pow_zero,Nat.mul_one]⟩ ?_ ?_
  ·rintro j σ2 H2 hj ⟨rfl,o6,rfl⟩
   have g1:=(pH (λy z=>(hok y z).1) hy (j:=j) (by omega)).1
   have g2:=(pH (λy z=>(hok y z).1) hy (j:=1) (by omega)).1
   have qb:q'.toNat<=10^100:=by
    rw [Nat.pow_one] at g2
    have:0<Num.eN (ps.take i):=by
     rcases Nat.eq_zero_or_pos (Num.eN (ps.take i)) with z | z
     ·exact absurd z (pJ λy z=>(hok y (List.mem_of_mem_take z)).1)
     ·exact z
    have:=Nat.le_mul_of_pos_left q'.toNat this
    omega
   k_data
   refine⟨Bd.of (by omega) (by omega),Bd.of (by omega) (by omega),?_⟩
   rw [Nat.pow_succ,<- Nat.mul_assoc,Int.natCast_mul _ q'.toNat,show (q'.toNat:Int)=q' by omega]
  ·rintro σ2 H2 ⟨rfl,o6,rfl⟩
   refine⟨s',some (.int q'),some (.int k'),o6,?_⟩
   rw [List.take_add_one,hy]
   show _=[_,some (V.int (Num.eN (ps.take i++[(q',k')]):Nat)),_,_,_]
   rw [fY]
 ·rintro σ' H' ⟨s',o4,o5,o6,rfl⟩
  rw [ul,List.take_length]
  k_data
  exact q H' s'
theorem aJ.qz {H:Hp}:∀(m:Nat) {ds:List PyData} {us:List V},aJ K H ds us->aJ K H (ds.take m) (us.take m)/\aJ K H (ds.drop m) (us.drop m)
 | 0,ds,us,h=>⟨by simp only [List.take_zero];exact rfl,by simpa using h⟩
 | m+1,[],us,h=>by cases h;exact⟨rfl,rfl⟩
 | m+1,d::ds,us,h=>by
  obtain⟨x,r,rfl,h1,h2⟩:=h
  have ih:=qz m h2
  exact⟨⟨x,_,rfl,h1,ih.1⟩,ih.2⟩
theorem mG {us:List V} {m:Nat} (h:m<=us.length):cS us none (some (m:Int))=us.take m:=by
 unfold cS
 have e1:HT.bZ us.length 0 none=0:=rfl
 have e2:HT.bZ us.length us.length (some (m:Int))=m:=by
  simp only [HT.bZ]
  split<;>omega
 rw [e1,e2,List.drop_zero,Nat.sub_zero]
theorem mF {us:List V} {m:Nat} (h:m<=us.length):cS us (some (m:Int)) none=us.drop m:=by
 unfold cS
 have e1:HT.bZ us.length us.length none=us.length:=rfl
 have e2:HT.bZ us.length 0 (some (m:Int))=m:=by
  simp only [HT.bZ]
  split<;>omega
 rw [e1,e2]
 exact List.take_of_length_le (by rw [List.length_drop];omega)
def gH (K:PySem.W.Frag) (L:Nat):Sp:=λvs H Q _=>∃(n a:Int) (p:Addr) (us:List V) (ps:List (Int × Int)),vs=[.int n,.int a,.ref p]/\(1<=L/\ps.length<=2^(L-1))/\ps.length<=10^6/\2<=n/\n<=10^60/\0<=a/\a<n/\H p=some (.lst us)/\aJ K H (ps.map rD) us/\(∀ y∈ps,Num.Pm y.1/\0<=y.2/\y.2<=10^6)/\ps.Pairwise (λx y=>y.1≠x.1)/\a^Num.eN ps%n=1 /\
 ∀ pt ts H',Num.TO n a ps ts->az H H'->H pt=none->H' pt=some (.lst (ts.map V.int))->Q (.ref pt) H'
theorem cf:aw ["n","a","parting","half","ahead","behind"] ["n","a","parting"] (ai (top 21)):=d6
theorem rm (D:au K mg "times_in_order" (top 21)):Callee P w K mg base aO 6 "times_in_order" ["n","a","parting"] (gH K 0):=by
 refine cO D cf (λf cdv A outer s H vs Q E hr h=>?_)
 obtain⟨n,a,p,us,ps,rfl,hL,_⟩:=h
 exact absurd hL.1 (by decide)
theorem ro {L:Nat} (D:au K mg "times_in_order" (top 21)) (c_raised:Callee P w K mg base aO 5 "raised" ["n","a","parting"] (gG K)) (c_times_to_one:Callee P w K mg base aO 5 "times_to_one" ["n","a","prime"] lV) (c_times_in_order:Callee P w K mg base aO (L+6) "times_in_order" ["n","a","parting"] (gH K L)) (n_len:mg "len"=none):Callee P w K mg base aO (L+7) "times_in_order" ["n","a","parting"] (gH K (L+1)):=by
 refine cO D cf (λf cdv A outer s H vs Q E hr h=>?_)
 obtain⟨n,a,p,us,ps,rfl,hL,h6,n2,n9,a0,a1,hp,hd,hok,pw,h1,q⟩:=h
 have nd:=cf.nd
 refine⟨_,(ae (bt (aC cn (aF cq rfl n_len PySem.boot_len (aa (pv 2) af)) ag (aB _)) (aj (ay (fR af))) aG) (ae (bt (aC cn (aF cq rfl n_len PySem.boot_len (aa (pv 2) af)) ag (aB _)) (aj (ay (fR (aa (bf c_times_to_one (hr.mono (by omega)) rfl aD (aa (pv 0) (aa (pv 1) (aa (aL aW (aL lr (pv 2) ag (λ_ _=>rfl)) ag (λ_ _=>rfl)) af)))) af)))) aG) (ae (bY (i:=3) nd (aq bQ (aF cq rfl n_len PySem.boot_len (aa (pv 2) af)) ag)) (ae (bY (i:=4) nd (eG lS (pv 2) gk (gm (pv 3)))) (ae (bY (i:=5) nd (eG lS (pv 2) (gm (pv 3)) gk)) (aj (ay (aq tG (bf c_times_in_order (hr.mono (by omega)) rfl aD (aa (pv 0) (aa (bf c_raised (hr.mono (by omega)) rfl aD (aa (pv 0) (aa (pv 1) (aa (pv 5) af)))) (aa (pv 4) af)))) (bf c_times_in_order (hr.mono (by omega)) rfl aD (aa (pv 0) (aa (bf c_raised (hr.mono (by omega)) rfl aD (aa (pv 0) (aa (pv 1) (aa (pv 4) af)))) (aa (pv 5) af)))))))))))),?_⟩
 show bT _ _ _ [some (.int n),some (.int a),some (.ref p),none,none,none] H
 have ul:us.length=ps.length:=by rw [hd.length,List.length_map]
 k_data
 refine gj (aS.of hp) ⟨rfl,?_⟩
 refine aP (λc=>?_) (λc=>?_)
 ·have e0:ps=[]:=List.eq_nil_of_length_eq_zero (by injection c;omega)
  subst e0
  refine⟨by show 0<=sizeLine;decide,λp1 hp1=>q p1 [] _ (.none ?_) (ak hp1) hp1 ah⟩
  have:a^1%n=1:=h1
  rw [Int.pow_one] at this
  exact Num.Al.iff.mpr (by rw [this];exact (Int.emod_eq_of_lt (by omega) (by omega)).symm)
 refine gj (aS.of hp) ⟨rfl,?_⟩
 refine aP (λc1=>?_) (λc1=>?_)
 ·have l1:ps.length=1:=by injection c1;omega
  obtain⟨⟨q',k'⟩,rfl⟩:∃ y,ps=[y]:=by
   cases ps with
   | nil=>cases l1
   | cons y r=>cases r with
    | nil=>exact⟨y,rfl⟩
    | cons _ _=>simp at l1
  obtain⟨pq,k0,k6⟩:=hok (q',k') (List.mem_singleton.mpr rfl)
  replace pq:Num.Pm q':=pq
  obtain⟨u,r,rfl,hv,z⟩:=hd
  cases z
  obtain⟨pt,rfl,tt⟩:=gO hv
  refine lu (aS.of hp) (by omega) (by show (0:Int)<1;decide) λv hv=>?_
  have ev:v=V.ref pt:=List.mem_singleton.mp hv
  subst ev
  have h1':a^q'.toNat^k'.toNat%n=1:=by
   have:a^(q'.toNat^k'.toNat*1)%n=1:=h1
   rwa [Nat.mul_one] at this
  refine bF tt iF ⟨n,a,q',k'.toNat,rfl,n2,n9,a0,a1,pq.two,h1',λt H1 _ t1 t2 s1=>⟨by show 1<=sizeLine;decide,λp2 hp2=>?_⟩⟩
  refine q p2 [(t:Int)] _ (.one pq ((cR n2).mp t1) λj hj z=>t2 j hj ((cR n2).mpr z)) (s1.trans (ak hp2)) (s1.free hp2) ah
 have l2:2<=ps.length:=by
  have h0:us.length≠0:=λz=>c (by rw [z];rfl)
  have h1:us.length≠1:=λz=>c1 (by rw [z];rfl)
  omega
 refine gj (aS.of hp) ⟨_,rfl,Bd.of (by omega) (by omega),?_⟩
 obtain⟨m,em,m1,m2⟩:∃ m:Nat,(us.length:Int)/2=m/\1<=m/\m=ps.length/2:=⟨us.length/2,by omega,by omega,by omega⟩
 rw [em]
 refine⟨p,us,rfl,aS.of hp,λpa hpa=>?_⟩
 rw [mG (by omega)]
 have s1:=ak (o:=.lst (us.take m)) hpa
 have ea:upd H pa (.lst (us.take m)) pa=some (.lst (us.take m)):=ah
 generalize upd H pa _=H1 at *
 refine⟨p,us,rfl,aS.of (s1 _ _ hp),λpb hpb=>?_⟩
 rw [mF (by omega)]
 have s2:=ak (o:=.lst (us.drop m)) hpb
 have eb:upd H1 pb (.lst (us.drop m)) pb=some (.lst (us.drop m)):=ah
 generalize upd H1 pb _=H2 at *
 have S2:=s1.trans s2
 have hT:=aJ.qz m (aJ.same S2 _ hd)
 rw [<- List.map_take,<- List.map_drop] at hT
 have okA:∀ y∈ps.take m,Num.Pm y.1/\0<=y.2/\y.2<=10^6:=λy z=>hok y (List.mem_of_mem_take z)
 have okB:∀ y∈ps.drop m,Num.Pm y.1/\0<=y.2/\y.2<=10^6:=λy z=>hok y (List.mem_of_mem_drop z)
 have ne:∀ x∈ps.take m,∀ y∈ps.drop m,y.1≠x.1:=by
  rw [<- List.take_append_drop m ps,List.pairwise_append] at pw
  exact pw.2.2
 have pwA:(ps.take m).Pairwise (λx y=>y.1≠x.1):=pw.sublist (List.take_sublist ..)
 have pwB:(ps.drop m).Pairwise (λx y=>y.1≠x.1):=pw.sublist (List.drop_sublist ..)
 have h1A:Num.Al n (a^(Num.eN (ps.take m)*Num.eN (ps.drop m))) 1:=by
  rw [<- Num.bP,List.take_append_drop]
  exact (cR n2).mp h1
 have lA:(ps.take m).length<=2^(L-1)/\(ps.drop m).length<=2^(L-1)/\1<=L:=by
  have hL2:ps.length<=2^L:=hL.2
  have L1:1<=L:=by
   rcases Nat.eq_zero_or_pos L with z | z
   ·subst z;simp at hL2;omega
   ·exact z
  obtain⟨L',rfl⟩:∃ L',L=L'+1:=⟨L-1,by omega⟩
  rw [Nat.pow_succ] at hL2
  rw [List.length_take,List.length_drop]
  refine⟨?_,?_,by omega⟩<;>(simp only [Nat.add_sub_cancel];omega)
 have md:∀ e:Nat,0<=a^e%n/\a^e%n<n:=λe=>⟨Int.emod_nonneg _ (by omega),Int.emod_lt_of_pos _ (by omega)⟩
 have p1:∀ e E:Nat,Num.Al n (a^(e*E)) 1->(a^e%n)^E%n=1:=λe E z=>by
  rw [Num.Al.iff.mp ((Num.Al.rest n (a^e)).pow E),Num.cE]
  exact (cR n2).mpr z
 refine⟨n,a,pb,_,ps.drop m,rfl,by omega,n9,a0,a1,eb,hT.2,λy z=>⟨(okB y z).1.two,(okB y z).2⟩,λH3 s3=>?_⟩
 refine⟨n,_,pa,_,ps.take m,rfl,⟨lA.2.2,lA.1⟩,by rw [List.length_take];omega,n2,n9,(md _).1,(md _).2,s3 _ _ (s2 _ _ ea),aJ.same s3 _ hT.1,okA,pwA,p1 _ _ (by rw [Nat.mul_comm];exact h1A),λpt ts H4 hTO s4 f4 e4=>?_⟩
 have S4:=s3.trans s4
 refine⟨n,a,pa,_,ps.take m,rfl,by omega,n9,a0,a1,S4 _ _ (s2 _ _ ea),aJ.same S4 _ hT.1,λy z=>⟨(okA y z).1.two,(okA y z).2⟩,λH5 s5=>?_⟩
 refine⟨n,_,pb,_,ps.drop m,rfl,⟨lA.2.2,lA.2.1⟩,by rw [List.length_drop];omega,n2,n9,(md _).1,(md _).2,s5 _ _ (S4 _ _ eb),aJ.same (S4.trans s5) _ hT.2,okB,pwB,p1 _ _ h1A,λpt2 ts2 H6 hTO2 s6 f6 e6=>?_⟩
 have tl:(ts.map V.int).length+(ts2.map V.int).length<=10^6:=by
  rw [List.length_map,List.length_map,hTO.len,hTO2.len,List.length_take,List.length_drop]
  omega
 refine⟨pt,pt2,_,_,rfl,rfl,s6 _ _ (s5 _ _ e4),e6,Nat.le_trans tl (by decide),λpl hpl=>?_⟩
 have S6:=((S2.trans S4).trans s5).trans s6
 have:=Num.TO.two (λy z=>(okA y z).1) (λy z=>(okB y z).1) ne (by rw [Num.bP];exact h1A) (hTO.al (Num.Al.rest n _)) (hTO2.al (Num.Al.rest n _))
 rw [List.take_append_drop] at this
 refine q pl (ts++ts2) _ this (S6.trans (ak hpl)) (S6.free hpl) ?_
 rw [List.map_append]
 exact ah
theorem ni (D:au K mg "times_in_order" (top 21)) (c_raised:Callee P w K mg base aO 5 "raised" ["n","a","parting"] (gG K)) (c_times_to_one:Callee P w K mg base aO 5 "times_to_one" ["n","a","prime"] lV) (n_len:mg "len"=none):∀ L:Nat,Callee P w K mg base aO (L+6) "times_in_order" ["n","a","parting"] (gH K L)
 | 0=>rm D
 | L+1=>ro D c_raised c_times_to_one (ni D c_raised c_times_to_one n_len L) n_len
def qj (K:PySem.W.Frag):Sp:=λvs H Q _=>∃(p:Addr) (xs:List V) (rows:List PyData) (ps:List (Int × Int)),vs=[.ref p]/\H p=some (.lst xs)/\aJ K H rows xs/\uK rows ps/\rows.length<=10^6/\∀ p us H',az H H'->H p=none->H' p=some (.lst us)->aJ K H' (ps.map rD) us->Q (.ref p) H'
theorem sZ (D:au K mg "parting_in" (top 13)):Callee P w K mg base aO 1 "parting_in" ["parts"] (qj K):=by
 refine cO D cF (λf cdv A outer s H vs Q E hr h=>?_)
 obtain⟨p,xs,rows,ps,rfl,hS,ht,hh,h6,q⟩:=h
 have nd:=cF.nd
 refine⟨_,(aj (ay (dW rfl (oj (N':=["row"]) (js:=[none]) rfl rfl) (b6 (pv 0)) (λ_ _ _ _=>(ax (i:=0) (show List.Nodup [("row":Str)] from by decide +kernel) rfl (Or.inl rfl) (.inr rfl))) (λ_ _ _ _=>bA) (λ_ _ _ _=>(bj (aa (aL (bD K rfl) (aL (bD K rfl) (pv 0) ag (λ_ _=>rfl)) ag (λ_ _=>rfl)) (aa (aL (bD K rfl) (pv 0) ag (λ_ _=>rfl)) af))))))),?_⟩
 show lZ _ _ [some (.ref p)] H
 have xl:=ht.length
 have rl:=hh.1
 k_data
 refine⟨⟨_,aS.of hS⟩,?_⟩
 refine bX (xs:=xs) (λi zs H3=>az H H3/\aJ K H3 ((ps.take i).map rD) zs) ⟨az.refl _,rfl⟩ (Nat.le_trans (by omega) (show 10^6<=sizeLine by decide)) (λi zs H3 hi ⟨e1,e2⟩=>⟨aS.of (e1 _ _ hS),by rw [e2.length,List.length_map,List.length_take];omega⟩) ?_ ?_
 ·rintro i x zs H3 hx ⟨s3,hz⟩
  obtain⟨q',k',pt,pq,r,hy,rfl,t1,t2⟩:=sJ ht hh hx
  show cH 0 _ [none] _ _
  k_data
  refine⟨True.intro,bF (t1.same s3) iF (bF (t2.same s3) iF (bF (t1.same s3) rfl ⟨by show 2<=sizeLine;decide,λp4 hp4=>?_⟩))⟩
  have s4:=ak (o:=.tup [V.int q',V.int k']) hp4
  refine⟨s3.trans s4,?_⟩
  rw [List.take_add_one,hy,List.map_append]
  exact aJ.append (aJ.same s4 _ hz) (.one (dv.tup ah ⟨_,_,rfl,rfl,.one rfl⟩))
 ·rintro zs H3 p3 ⟨s3,hz⟩ hp3
  rw [show xs.length=ps.length by omega,List.take_length] at hz
  exact q p3 zs _ (s3.trans (ak hp3)) (s3.free hp3) ah (aJ.same (ak hp3) _ hz)
def bM (p a e:Int) (y:PyData × Int × Int):PyData:=.tuple [y.1,.int y.2.2,.int (a^(e/y.2.1).toNat%p)]
def kf (ps:List (Int × Int)) (ds:Nat->PyData) (ts:List Int) (i:Nat):Option (PyData × Int × Int):=match ps[i]?,ts[i]? with
 | some y,some t=>if 0<t then some (ds i,y.1,t) else none
 | _,_=>none
def aZ (ps:List (Int × Int)) (ds:Nat->PyData) (ts:List Int) (n:Nat):List (PyData × Int × Int):=(List.range n).filterMap (kf ps ds ts)
def fP (ps:List (Int × Int)) (ds:Nat->PyData) (ts:List Int):List (PyData × Int × Int):=aZ ps ds ts ps.length
theorem eB {ps:List (Int × Int)} {ds:Nat->PyData} {ts:List Int} {i:Nat} {q k t:Int} (hp:ps[i]?=some (q,k)) (ht:ts[i]?=some t):aZ ps ds ts (i+1)=aZ ps ds ts i++(if 0<t then [(ds i,q,t)] else []):=by
 unfold aZ
 rw [List.range_succ,List.filterMap_append]
 congr 1
 have:kf ps ds ts i=if 0<t then some (ds i,q,t) else none:=by unfold kf;rw [hp,ht]
 by_cases c:0<t
 ·rw [if_pos c] at this ⊢
  simp [this]
 ·rw [if_neg c] at this ⊢
  simp [this]
theorem fQ {ps:List (Int × Int)} {ds:Nat->PyData} {ts:List Int} {n:Nat} {y:PyData × Int × Int} (h:y∈aZ ps ds ts n):∃ i k,ps[i]?=some (y.2.1,k)/\ts[i]?=some y.2.2/\0<y.2.2/\y.1=ds i:=by
 unfold aZ at h
 obtain⟨i,_,e⟩:=List.mem_filterMap.mp h
 unfold kf at e
 cases hp:ps[i]? with
 | none=>rw [hp] at e;cases e
 | some z =>
  cases ht:ts[i]? with
  | none=>rw [hp,ht] at e;cases e
  | some t =>
   rw [hp,ht] at e
   by_cases c:0<t
   ·have e':(if 0<t then some (ds i,z.1,t) else none)=some y:=e
    rw [if_pos c] at e'
    cases e'
    exact⟨i,z.2,hp,ht,c,rfl⟩
   ·have e':(if 0<t then some (ds i,z.1,t) else none)=some y:=e
    rw [if_neg c] at e'
    cases e'
theorem cT {ps:List (Int × Int)} {ds:Nat->PyData} {ts:List Int} {n:Nat}:(aZ ps ds ts n).length<=n:=by
 unfold aZ
 exact Nat.le_trans (List.length_filterMap_le ..) (by rw [List.length_range];exact Nat.le_refl _)
def kp (y:PyData × Int × Int):Int × Int:=(y.2.1,y.2.2)
def kD (y:PyData × Int × Int):PyData:=.tuple [y.1,.int y.2.2]
theorem gR {ps:List (Int × Int)} {ds:Nat->PyData} {ts:List Int} (hl:ts.length=ps.length) (h0:∀ t∈ts,0<=t):∀ n,n<=ps.length->Num.eN ((aZ ps ds ts n).map kp)=Num.eN (((ps.map (·.1)).zip ts).take n)
 | 0,_=>rfl
 | n+1,h=>by
  have ih:=gR (ds:=ds) hl h0 n (by omega)
  have hp:ps[n]?=some (ps[n].1,ps[n].2):=List.getElem?_eq_getElem (by omega)
  have ht:ts[n]?=some ts[n]:=List.getElem?_eq_getElem (by omega)
  have hz:((ps.map (·.1)).zip ts)[n]?=some (ps[n].1,ts[n]):=by
   rw [List.getElem?_zip_eq_some]
   exact⟨by rw [List.getElem?_map,hp];rfl,ht⟩
  rw [eB hp ht,List.take_add_one,hz,List.map_append,Num.bP,ih]
  show _=Num.eN (((ps.map (·.1)).zip ts).take n++[(ps[n].1,ts[n])])
  rw [fY]
  have t0:=h0 ts[n] (List.getElem_mem _)
  by_cases c:0<ts[n]
  ·rw [if_pos c]
   show _*(ps[n].1.toNat^ts[n].toNat*1)=_
   rw [Nat.mul_one]
  ·rw [if_neg c,show ts[n].toNat=0 by omega,Nat.pow_zero]
   rfl
theorem yW {ps:List (Int × Int)} {ds:Nat->PyData} (h:∀ i q k,ps[i]?=some (q,k)->Num.fb q (ds i)):uK (Num.rowsOf ps ds) ps:=by
 refine⟨Num.aV,λi row hr=>?_⟩
 have hi:=(List.getElem?_eq_some_iff.mp hr).1
 rw [Num.aV] at hi
 have hg:ps[i]?=some (ps[i].1,ps[i].2):=List.getElem?_eq_getElem hi
 rw [Num.cY hg] at hr
 cases hr
 obtain⟨g,rows,e⟩:=(h i _ _ hg).head
 exact⟨_,hg,_,by rw [e]⟩
theorem qf {H:Hp} {ps:List (Int × Int)} {ds:Nat->PyData} {xs:List V} (hd:aJ K H (Num.rowsOf ps ds) xs) {i:Nat} {x:V} (hx:xs[i]?=some x):∃ q k pt u,ps[i]?=some (q,k)/\x=.ref pt/\bS K H pt [u,.int k]/\dv K H (ds i) u:=by
 obtain⟨d,hd',hv⟩:=hd.get hx
 have hi:=(List.getElem?_eq_some_iff.mp hd').1
 rw [Num.aV] at hi
 have hg:=List.getElem?_eq_getElem hi
 rw [Num.cY hg] at hd'
 cases hd'
 obtain⟨pt,ys,rfl,h1,x1,r1,rfl,e1,x2,r2,rfl,e2,z⟩:=hv
 cases z
 cases e2
 exact⟨ps[i].1,ps[i].2,pt,x1,hg,rfl,h1,e1⟩
theorem qK {n a:Int} {m:Nat} (h0:0<m) (h:Num.Al n (a^m) 1):Num.Co a n:=by
 obtain⟨k,rfl⟩:∃ k,m=k+1:=⟨m-1,by omega⟩
 obtain⟨c,hc⟩:=h
 refine⟨a^k,-c,?_⟩
 rw [Int.pow_succ] at hc
 rw [Int.neg_mul,Int.mul_comm c n]
 omega
theorem oS {n a:Int} {m:Nat} (hn:2<=n) (o:Num.Ord n a m):(m:Int)<n:=by
 have c:=qK o.pos o.one
 have nz:∀ i:Nat,(a^i%n).toNat≠0:=λi z=>by
  have h1:=Int.emod_nonneg (a^i) (show n≠0 by omega)
  have h2:n∣a^i:=Int.dvd_of_emod_eq_zero (by omega)
  obtain⟨u,v,e⟩:=c.pow i
  have h3:n∣1:=by
   rw [<- e]
   exact Int.dvd_add (Int.dvd_mul_of_dvd_right h2) ⟨v,Int.mul_comm _ _⟩
  have:=Int.le_of_dvd (by omega) h3
  omega
 have nd:(0::(List.range m).map λi=>(a^i%n).toNat).Nodup:=by
  rw [List.nodup_cons]
  refine⟨λz=>?_,Num.gT λi j ij jm e=>?_⟩
  ·obtain⟨i,_,e⟩:=List.mem_map.mp z
   exact nz i e
  ·have:=o.inj c (show i<m by omega) jm (Num.rest_eq (by omega) e)
   omega
 have:=Num.jf n.toNat _ nd λx hx=>by
  rcases List.mem_cons.mp hx with z | z
  ·omega
  ·obtain⟨i,_,rfl⟩:=List.mem_map.mp z
   have h1:=Int.emod_nonneg (a^i) (show n≠0 by omega)
   have h2:=Int.emod_lt_of_pos (a^i) (show 0<n by omega)
   show (a^i%n).toNat<n.toNat
   omega
 rw [List.length_cons,List.length_map,List.length_range] at this
 omega
def uJ (n:Int) (y z:Int × Int):Prop:=z.1=y.1/\0<=z.2/\z.2<=y.2/\(z.2=y.2∨n<=y.1^(z.2.toNat+1))
def Cut (n:Int):List (Int × Int)->List (Int × Int)->Prop
 | [],[]=>True
 | y::r,z::s=>uJ n y z/\Cut n r s
 | _,_=>False
theorem Cut.snoc {n:Int} {y z:Int × Int} (h:uJ n y z):∀{a b:List (Int × Int)},Cut n a b->Cut n (a++[y]) (b++[z])
 | [],[],_=>⟨h,True.intro⟩
 | _::_,_::_,e=>⟨e.1,Cut.snoc h e.2⟩
 | [],_::_,e=>e.elim
 | _::_,[],e=>e.elim
theorem Cut.fst {n:Int}:∀{a b:List (Int × Int)},Cut n a b->b.map (·.1)=a.map (·.1)
 | [],[],_=>rfl
 | y::a,z::b,e=>by
  show z.1::b.map (·.1)=y.1::a.map (·.1)
  rw [e.1.1,Cut.fst e.2]
 | [],_::_,e=>e.elim
 | _::_,[],e=>e.elim
theorem Cut.len {n:Int} {a b:List (Int × Int)} (h:Cut n a b):b.length=a.length:=by
 have:=congrArg List.length h.fst
 rwa [List.length_map,List.length_map] at this
theorem Cut.mem {n:Int}:∀{a b:List (Int × Int)},Cut n a b->∀ z∈b,∃ y∈a,uJ n y z
 | [],[],_,z,hz=>by simp at hz
 | y::a,x::b,e,z,hz=>by
  rcases List.mem_cons.mp hz with c | c
  ·rw [c];exact⟨y,List.mem_cons_self ..,e.1⟩
  ·obtain⟨w,h1,h2⟩:=Cut.mem e.2 z c
   exact⟨w,List.mem_cons_of_mem _ h1,h2⟩
 | [],_::_,e,_,_=>e.elim
 | _::_,[],e,_,_=>e.elim
theorem Cut.dvd {n:Int}:∀{a b:List (Int × Int)},Cut n a b->Num.eN b∣Num.eN a
 | [],[],_=>Nat.dvd_refl _
 | y::a,z::b,e=>by
  show z.1.toNat^z.2.toNat*Num.eN b∣y.1.toNat^y.2.toNat*Num.eN a
  rw [e.1.1]
  exact Nat.mul_dvd_mul (Nat.pow_dvd_pow _ (by have:=e.1.2.2.1;omega)) (Cut.dvd e.2)
 | [],_::_,e=>e.elim
 | _::_,[],e=>e.elim
theorem Cut.apart {n:Int} {a b:List (Int × Int)} (h:Cut n a b) (pw:a.Pairwise (λx y=>y.1≠x.1)):b.Pairwise (λx y=>y.1≠x.1):=by
 have h1:(a.map (·.1)).Pairwise (λx y:Int=>y≠x):=List.pairwise_map.mpr pw
 rw [<- h.fst] at h1
 exact List.pairwise_map.mp h1
theorem ph {n:Int}:∀{a b:List (Int × Int)},Cut n a b->(∀ y∈a,Num.Pm y.1)->a.Pairwise (λx y=>y.1≠x.1)->∀ m:Nat,0<m->(m:Int)<n->m∣Num.eN a->m∣Num.eN b
 | [],[],_,_,_,m,_,_,h=>h
 | y::a,z::b,e,hp,pw,m,m0,mn,h=>by
  obtain⟨⟨f1,f2,f3,f4⟩,e2⟩:=e
  have hq:=hp y (List.mem_cons_self ..)
  have q2:=hq.two
  obtain⟨p1,p2⟩:=List.pairwise_cons.mp pw
  obtain⟨t,m',e1,nd⟩:=Num.jG (q:=y.1.toNat) (by omega) m m0
  have co:Nat.Coprime (y.1.toNat^y.2.toNat) m':=Num.kS (Num.i5 hq) nd _
  have h':m∣y.1.toNat^y.2.toNat*Num.eN a:=h
  have m'0:0<m':=by
   rcases Nat.eq_zero_or_pos m' with c | c
   ·rw [c,Nat.mul_zero] at e1;omega
   ·exact c
  have qt:0<y.1.toNat^t:=Nat.pow_pos (by omega)
  have d1:m'∣Num.eN a:=co.symm.dvd_of_dvd_mul_left (Nat.dvd_trans ⟨y.1.toNat^t,by rw [e1,Nat.mul_comm]⟩ h')
  have m'm:m'<=m:=by rw [e1];exact Nat.le_mul_of_pos_left _ qt
  have tm:y.1.toNat^t<=m:=by rw [e1];exact Nat.le_mul_of_pos_right _ m'0
  have ih:=ph e2 (λx c=>hp x (List.mem_cons_of_mem _ c)) p2 m' m'0 (by omega) d1
  have na:¬y.1.toNat∣Num.eN a:=Num.pI hq (λx c=>hp x (List.mem_cons_of_mem _ c)) λx c=>p1 x c
  have ct:Nat.Coprime (y.1.toNat^t) (Num.eN a):=Num.kS (Num.i5 hq) na _
  have d2:y.1.toNat^t∣y.1.toNat^y.2.toNat:=ct.dvd_of_dvd_mul_right (Nat.dvd_trans ⟨m',e1⟩ h')
  have tz:t<=z.2.toNat:=by
   rcases f4 with c | c
   ·rw [c]
    exact (Nat.pow_dvd_pow_iff_le_right (show 1<y.1.toNat by omega)).mp d2
   ·rcases (by omega:t<=z.2.toNat∨z.2.toNat+1<=t) with g | g
    ·exact g
    ·have g1:y.1.toNat^(z.2.toNat+1)<=y.1.toNat^t:=Nat.pow_le_pow_right (by omega) g
     have g2:y.1^(z.2.toNat+1)=((y.1.toNat^(z.2.toNat+1):Nat):Int):=by rw [Int.natCast_pow,show (y.1.toNat:Int)=y.1 by omega]
     omega
  show m∣z.1.toNat^z.2.toNat*Num.eN b
  rw [e1,f1]
  exact Nat.mul_dvd_mul (Nat.pow_dvd_pow _ tz) ih
 | [],_::_,e,_,_,_,_,_,_=>e.elim
 | _::_,[],e,_,_,_,_,_,_=>e.elim
theorem uU {n a:Int} {ps qs:List (Int × Int)} (hn:2<=n) (h:Cut n ps qs) (hp:∀ y∈ps,Num.Pm y.1) (pw:ps.Pairwise (λx y=>y.1≠x.1)):Num.Al n (a^Num.eN ps) 1↔Num.Al n (a^Num.eN qs) 1:=by
 constructor
 ·intro z
  obtain⟨m,o,_⟩:=Num.gU (Num.kZ ps hp) z
  obtain⟨c,hc⟩:=ph h hp pw m o.pos (oS hn o) (o.dv _ z)
  rw [hc]
  exact Num.aM o.one
 ·intro z
  obtain⟨c,hc⟩:=h.dvd
  rw [hc]
  exact Num.aM z
end
end K
namespace K
open PySem PySem.Spec PyProof.Rows L2
structure iP (n:Int) (ps:List (Int × Int)):Prop where
 ok:∀ p∈ps,Num.Pm p.1/\1<=p.2/\p.2<=199
 rise:ps.Pairwise λa b=>a.1<b.1
 prod:Num.aH ps=n
theorem nk {n:Int} {ps:List (Int × Int)} (h:iP n ps) (hn:1<=n):∀ q∈ps.map (·.1),2<=q/\q<=n:=λq hq=>by
 obtain⟨x,hx,rfl⟩:=List.mem_map.mp hq
 obtain⟨o1,o2,_⟩:=h.ok x hx
 have:=Num.cG hx o2
 rw [h.prod] at this
 exact⟨o1.two,Int.le_of_dvd (by omega) this⟩
end K
namespace K
open PySem PySem.Spec PyProof.Rows L2
section
variable {P:Program} {w:World} {K:PySem.W.Frag} {mg:Str->Option Value} {base:Heap}
def bN (E p a:Int) (rows:PyData) (r:PyData):Prop:=∃(e:Int) (ps:List (Int × Int)) (ds:Nat->PyData) (ts:List Int),rows=.tuple (Num.rowsOf ps ds)/\iP E ps/\ps.length<=29/\(∀ i q k,ps[i]?=some (q,k)->Num.fb q (ds i))/\1<=e/\e<p/\Num.Ord p a e.toNat/\Num.TO p a ps ts/\r=.tuple [.int e,.tuple ((fP ps ds ts).map (bM p a e))]
def uf (K:PySem.W.Frag) (C:Addr):Sp:=λvs H Q X=>∃(v:V) (p a E:Int) (ps:List (Int × Int)) (ds:Nat->PyData),vs=[.int p,.int a,v]/\dv K H (.tuple (Num.rowsOf ps ds)) v/\2<=p/\p<=10^59/\1<=E/\E<=10^59/\iP E ps/\ps.length<=29/\(∀ i q k,ps[i]?=some (q,k)->Num.fb q (ds i)) /\ -(10^60)<=a/\a<=10^60 /\
 (¬Num.Al p (a^E.toNat) 1->AQ C H X) /\
 (Num.Al p (a^E.toNat) 1->∀ r u H',bN E p a (.tuple (Num.rowsOf ps ds)) r->az H H'->dv K H' r u->Q u H')
def Ba (K:PySem.W.Frag) (p:Int) (ps:List (Int × Int)) (H1:Hp) (i:Nat) (zs:List V) (H3:Hp):Prop:=az H1 H3/\∃ qs,Cut p (ps.take i) qs/\aJ K H3 (qs.map rD) zs
theorem fI:aw ["n","a","parts","parting","times","kept","e"] ["n","a","parts"] (ai (top 18)):=d6
theorem jS {C C0:Addr} (D:au K mg "order_from" (top 18)) (c_parting_in:Callee P w K mg base aO 1 "parting_in" ["parts"] (qp K)) (c_parting_inL:Callee P w K mg base aO 1 "parting_in" ["parts"] (qj K)) (c_most_times:Callee P w K mg base aO 1 "most_times" ["n","prime"] ue) (c_raised:Callee P w K mg base aO 5 "raised" ["n","a","parting"] (gG K)) (c_times_in_order:Callee P w K mg base aO 12 "times_in_order" ["n","a","parting"] (gH K 6)) (c_whole_of:Callee P w K mg base aO 1 "whole_of" ["parting"] (qv K)) (c_power:Callee P w K mg base (iE P w) 4 "power" ["n","a","e"] (dS C)) (x_NoOrder:xw K mg "NoOrder" C0) (n_min:mg "min"=none) (n_zip:mg "zip"=none) (n_tuple:mg "tuple"=none):Callee P w K mg base (iE P w) 13 "order_from" ["n","a","parts"] (uf K C0):=by
 refine cX D fI (λf cdv A outer s H vs Q E hr h=>?_)
 obtain⟨v,p,a,E',ps,ds,rfl,hd,p2,p9,E1,E9,hP,hl29,hds,a0,a1,q1,q⟩:=h
 have nd:=fI.nd
 refine⟨_,(ae (lM (i0:=3) nd rfl (Or.inl rfl) rfl (oj (N':=["prime","many","n"]) (js:=[none,none,some 0]) rfl rfl) (b6 (b0 c_parting_in hr aD (aa (pv 2) af))) (λ_ _ _ _=>(dO K rfl (n:=2) rfl (aE (ax (i:=0) (show List.Nodup [("prime":Str),("many":Str),("n":Str)] from by decide +kernel) rfl (Or.inl rfl) (.inr rfl)) (aE (ax (i:=1) (show List.Nodup [("prime":Str),("many":Str),("n":Str)] from by decide +kernel) rfl (Or.inl rfl) (.inr rfl)) bJ)))) (λ_ _ _ _=>bA) (λ_ _ _ _=>(bj (aa (pv 0) (aa (aF (qI rfl) rfl n_min L2.boot_min (aa (pv 1) (aa (b0 c_most_times hr aD (aa (pv 2) (aa (pv 0) af))) af))) af)))) (by rfl) (by first | exact .inl rfl | exact .inr rfl)) (ae (bt (aC i9 (b0 c_raised hr aD (aa (pv 0) (aa (aq aU (pv 1) (pv 0)) (aa (pv 3) af)))) ag (aB _)) (aj (ny (yf x_NoOrder rfl))) aG) (jL.pW (ae (bY (i:=4) nd (b0 c_times_in_order hr aD (aa (pv 0) (aa (aq aU (pv 1) (pv 0)) (aa (pv 3) af))))) (ae (lM (i0:=5) nd rfl (Or.inl rfl) rfl (oj (N':=["row","many"]) (js:=[none,none]) rfl rfl) (yh .t .l rfl n_zip (aa (pv 2) (aa (pv 4) af))) (λ_ _ _ _=>(dO K rfl (n:=2) rfl (aE (ax (i:=0) (show List.Nodup [("row":Str),("many":Str)] from by decide +kernel) rfl (Or.inl rfl) (.inr rfl)) (aE (ax (i:=1) (show List.Nodup [("row":Str),("many":Str)] from by decide +kernel) rfl (Or.inl rfl) (.inr rfl)) bJ)))) (λ_ _ _ _=>(nq (aC fC (pv 1) ag (aB _)))) (λ_ _ _ _=>(bj (aa (aL (bD K rfl) (pv 0) ag (λ_ _=>rfl)) (aa (pv 1) af)))) (by rfl) (by first | exact .inl rfl | exact .inr rfl)) (ae (gY (i:=6) nd rfl (Or.inr rfl) (b0 c_whole_of hr aD (aa (b0 c_parting_inL hr aD (aa (pv 5) af)) af))) (aj (ay (bj (aa (pv 6) (aa (cu cz rfl n_tuple L2.boot_tuple (aa (dW rfl (oj (N':=["paper","many","n","a","e"]) (js:=[none,none,some 0,some 1,some 6]) rfl rfl) (b6 (pv 5)) (λ_ _ _ _=>(dO K rfl (n:=2) rfl (aE (ax (i:=0) (show List.Nodup [("paper":Str),("many":Str),("n":Str),("a":Str),("e":Str)] from by decide +kernel) rfl (Or.inl rfl) (.inr rfl)) (aE (ax (i:=1) (show List.Nodup [("paper":Str),("many":Str),("n":Str),("a":Str),("e":Str)] from by decide +kernel) rfl (Or.inl rfl) (.inr rfl)) bJ)))) (λ_ _ _ _=>bA) (λ_ _ _ _=>(bj (aa (pv 0) (aa (pv 1) (aa (b0 c_power hr bE (aa (pv 2) (aa (pv 3) (aa (aq bQ (pv 4) (aL (bD K rfl) (pv 0) ag (λ_ _=>rfl))) af)))) af)))))) af)) af))))))))))),?_⟩
 show bT _ _ _ [some (.int p),some (.int a),some v,none,none,none,none] H
 obtain⟨pr,xs,rfl,hSr,hdr⟩:=hd
 have xl:xs.length=ps.length:=by rw [hdr.length,Num.aV]
 have eE:Num.eN ps=E'.toNat:=by
  have:=Num.iH ps λy z=>(hP.ok y z).1
  rw [hP.prod] at this
  omega
 have big:∀{zs:List (Int × Int)},(∀ y∈zs,2<=y.1)->Num.eN zs<=10^59->∀{i:Nat} {q k:Int},zs[i]?=some (q,k)->q.toNat^k.toNat<=10^59/\k<=199:=by
  intro zs h2 hz i q k hy
  have g1:=(pH h2 hy (j:=k.toNat) (Nat.le_refl _)).1
  have e0:Num.eN (zs.take i)≠0:=pJ λy z=>h2 y (List.mem_of_mem_take z)
  have g2:q.toNat^k.toNat<=10^59:=Nat.le_trans (Nat.le_mul_of_pos_left _ (Nat.pos_of_ne_zero e0)) (Nat.le_trans g1 hz)
  have q2:2<=q:=h2 _ (List.mem_of_getElem? hy)
  have g3:(2:Int)^k.toNat<=q^k.toNat:=Num.two_pow_le q2 _
  have g4:q^k.toNat=((q.toNat^k.toNat:Nat):Int):=by rw [Int.natCast_pow,show (q.toNat:Int)=q by omega]
  have g5:k.toNat<=199:=by
   rcases (by omega:k.toNat<=199∨200<=k.toNat) with z | z
   ·exact z
   ·have g6:(2:Int)^200<=2^k.toNat:=by
     obtain⟨m,hm⟩:∃ m,k.toNat=200+m:=⟨k.toNat-200,by omega⟩
     rw [hm,Pw.pow_add]
     have:=Num.aA (show (0:Int)<2 by decide) m
     have h7:(2:Int)^200*1<=2^200*2^m:=Int.mul_le_mul_of_nonneg_left (by omega) (by decide)
     omega
    have h8:(10:Int)^59<2^200:=by decide
    omega
  exact⟨g2,by omega⟩
 have okP:∀ y∈ps,Num.Pm y.1/\0<=y.2/\y.2<=10^6:=λy hy=>by
  obtain⟨o1,o2,_⟩:=hP.ok y hy
  obtain⟨i,hi⟩:=List.mem_iff_getElem?.mp hy
  have:=(big (λy z=>(hP.ok y z).1.two) (by rw [eE];omega) hi).2
  exact⟨o1,by omega,by omega⟩
 have pwP:ps.Pairwise (λx y=>y.1≠x.1):=hP.rise.imp λh=>by omega
 k_data
 refine⟨.ref pr,_,ps,rfl,⟨pr,xs,rfl,hSr,hdr⟩,yW hds,by rw [Num.aV];omega,λp1 us1 H1 s1 f1 e1 d1=>?_⟩
 refine⟨p1,rfl,⟨_,aS.of e1⟩,?_⟩
 have ul:us1.length=ps.length:=by rw [d1.length,List.length_map]
 refine bX (xs:=us1) (λi zs H3=>Ba K p ps H1 i zs H3) ⟨az.refl _,[],True.intro,rfl⟩ (by rw [ul];exact Nat.le_trans hl29 (by decide)) (λi zs H3 hi ⟨z1,qs,z3,z2⟩=>⟨aS.of (z1 _ _ e1),by rw [z2.length,List.length_map,z3.len,List.length_take];omega⟩) ?_ ?_
 ·rintro i x zs H3 hx ⟨s3,qs,hc,hz⟩
  obtain⟨d,hd',hv⟩:=d1.get hx
  rw [List.getElem?_map] at hd'
  obtain⟨⟨q',k'⟩,hy,rfl⟩:=Option.map_eq_some_iff.mp hd'
  obtain⟨pq,k0,k6⟩:=okP _ (List.mem_of_getElem? hy)
  replace pq:Num.Pm q':=pq
  replace k0:0<=k':=k0
  have q2:=pq.two
  obtain⟨pt,rfl,tt⟩:=gO hv
  have qb:=(big (λy z=>(okP y z).1.two) (by rw [eE];omega) hy).1
  have q9:q'<=10^59:=by
   have:=(nk hP (by omega) q' (List.mem_map.mpr ⟨_,List.mem_of_getElem? hy,rfl⟩)).2
   omega
  show jO K 2 _ _ [none,none,some (.int p)] _ _
  refine⟨pt,_,rfl,tt.same s3,rfl,?_⟩
  k_data
  refine⟨⟨rfl,True.intro⟩,p,q',rfl,by omega,by omega,q2,by omega,λt ht=>⟨(t:Int),rfl,by show 2<=sizeLine;decide,λp4 hp4=>?_⟩⟩
  have hc1:uJ p (q',k') (q',if (t:Int)<k' then (t:Int) else k'):=by
   refine⟨rfl,?_,?_,?_⟩
   ·show 0<=if (t:Int)<k' then (t:Int) else k'
    split<;>omega
   ·show (if (t:Int)<k' then (t:Int) else k')<=k'
    split<;>omega
   ·show (if (t:Int)<k' then (t:Int) else k')=k'∨_<=q'^((if (t:Int)<k' then (t:Int) else k').toNat+1)
    by_cases c:(t:Int)<k'
    ·rw [if_pos c,Int.toNat_natCast]
     exact .inr ht
    ·rw [if_neg c]
     exact .inl rfl
  generalize (if (t:Int)<k' then (t:Int) else k')=k2 at *
  have s4:=ak (o:=.tup [V.int q',V.int k2]) hp4
  refine⟨s3.trans s4,qs++[(q',k2)],?_,?_⟩
  ·rw [List.take_add_one,hy]
   exact hc.snoc hc1
  ·rw [List.map_append]
   exact aJ.append (aJ.same s4 _ hz) (.one (dv.tup ah ⟨_,_,rfl,rfl,.one rfl⟩))
 ·rintro zs H3 p3 ⟨s3,qs,hc,hz⟩ hp3
  rw [ul,List.take_length] at hc
  have s4:=ak (o:=.lst zs) hp3
  have e4:upd H3 p3 (.lst zs) p3=some (.lst zs):=ah
  generalize upd H3 p3 _=H4 at *
  have S4:=(s1.trans s3).trans s4
  have d4:=aJ.same s4 _ hz
  have r0:=Int.emod_nonneg a (show p≠0 by omega)
  have r1:=Int.emod_lt_of_pos a (show 0<p by omega)
  have okQ:∀ y∈qs,Num.Pm y.1/\0<=y.2/\y.2<=10^6:=λy z=>by
   obtain⟨x,hx,c1,c2,c3,_⟩:=hc.mem y z
   obtain⟨o1,o2,o3⟩:=okP x hx
   rw [c1]
   exact⟨o1,c2,by omega⟩
  have pwQ:=hc.apart pwP
  have ql:qs.length=ps.length:=hc.len
  have one:(a%p)^Num.eN qs%p=1↔Num.Al p (a^E'.toNat) 1:=by
   rw [cR p2,<- eE,uU p2 hc (λy z=>(okP y z).1) pwP]
   exact⟨λz=>((Num.Al.rest p a).pow _).symm.trans z,λz=>((Num.Al.rest p a).pow _).trans z⟩
  refine⟨by omega,p,a%p,p3,zs,qs,rfl,by omega,by omega,r0,r1,e4,d4,λy z=>⟨(okQ y z).1.two,(okQ y z).2⟩,λH5 s5=>⟨rfl,?_⟩⟩
  refine aP (λc=>?_) (λc=>?_)
  ·exact λx hx=>qN x_NoOrder.cls (S4.trans s5) hx (q1 λz=>c (by rw [one.mpr z]))
  have al1:(a%p)^Num.eN qs%p=1:=by simpa using c
  have alE:=one.mp al1
  replace q:=q alE
  refine⟨by omega,p,a%p,p3,zs,qs,rfl,⟨by decide,by show qs.length<=32;omega⟩,by omega,p2,by omega,r0,r1,s5 _ _ e4,aJ.same s5 _ d4,okQ,pwQ,al1,λp6 ts H6 hTOq s6 f6 e6=>?_⟩
  have hTO:Num.TO p (a%p) ps ts:=⟨by rw [hTOq.len,ql],hTOq.nn,by rw [<- hc.fst];exact hTOq.ord⟩
  have hTO':=hTO.al (Num.Al.rest p a)
  have S6:=(S4.trans s5).trans s6
  have tl:ts.length=ps.length:=hTO.len
  have eZ:Num.eN ((aZ ps ds ts ps.length).map kp)=Num.eN ((ps.map (·.1)).zip ts):=by
   rw [gR tl hTO.nn _ (Nat.le_refl _),List.take_of_length_le]
   rw [List.length_zip,List.length_map]
   omega
  have oE:=hTO'.ord
  rw [<- eZ] at oE
  have eP:0<Num.eN ((aZ ps ds ts ps.length).map kp)/\Num.eN ((aZ ps ds ts ps.length).map kp)<=(p-1).toNat:=by
   have:=oS p2 oE
   exact⟨oE.pos,by omega⟩
  k_data
  refine⟨⟨xs,hSr.same S6⟩,⟨_,aS.of e6⟩,?_⟩
  refine j5 (xs:=xs) (ys:=ts.map V.int) (λi zs H7=>az H6 H7/\aJ K H7 ((aZ ps ds ts i).map kD) zs) ⟨az.refl _,rfl⟩ (by rw [List.length_map,tl,xl]) (by rw [xl];exact Nat.le_trans hl29 (by decide)) (λi zs H7 hi ⟨z1,z2⟩=>⟨hSr.same (S6.trans z1),aS.of (z1 _ _ e6),by rw [z2.length,List.length_map];exact cT⟩) ?_ ?_
  ·rintro i x y zs H7 p7 hx hy ⟨s7,hz7⟩ hp7
   obtain⟨q',k',pt,u,hpi,rfl,t1,t2⟩:=qf hdr hx
   rw [List.getElem?_map] at hy
   obtain⟨t,ht,rfl⟩:=Option.map_eq_some_iff.mp hy
   have s8:=ak (o:=.tup [V.ref pt,V.int t]) hp7
   show jO K 2 _ _ [none,none] _ _
   refine⟨p7,_,rfl,bS.of ah,rfl,?_⟩
   generalize upd H7 p7 _=H8 at *
   have S8:=(S6.trans s7).trans s8
   rw [eB hpi ht]
   k_data
   refine⟨True.intro,aP (λc=>?_) (λc=>?_)⟩
   ·rw [if_pos c]
    refine bF (t1.same S8) iF ⟨by show 2<=sizeLine;decide,λp9 hp9=>?_⟩
    have s9:=ak (o:=.tup [u,V.int t]) hp9
    refine⟨(s7.trans s8).trans s9,?_⟩
    rw [List.map_append]
    exact aJ.append (aJ.same (s8.trans s9) _ hz7) (.one (dv.tup ah ⟨_,_,rfl,dv.same (S8.trans s9) _ t2,.one rfl⟩))
   ·rw [if_neg c,List.append_nil]
    exact⟨s7.trans s8,aJ.same s8 _ hz7⟩
  ·rintro zs H7 p7 ⟨s7,hz7⟩ hp7
   rw [xl] at hz7
   have s8:=ak (o:=.lst zs) hp7
   have e8:upd H7 p7 (.lst zs) p7=some (.lst zs):=ah
   generalize upd H7 p7 _=H8 at *
   have S8:=(S6.trans s7).trans s8
   have d8:=aJ.same s8 _ hz7
   have kl:(aZ ps ds ts ps.length).length<=29:=Nat.le_trans cT hl29
   have kmem:∀ y∈aZ ps ds ts ps.length,Num.Pm y.2.1/\0<y.2.2/\y.2.2<=199/\Num.fb y.2.1 y.1:=λy hy=>by
    obtain⟨i,k,h1,h2,h3,h4⟩:=fQ hy
    have hz:((ps.map (·.1)).zip ts)[i]?=some (y.2.1,y.2.2):=by
     rw [List.getElem?_zip_eq_some]
     exact⟨by rw [List.getElem?_map,h1];rfl,h2⟩
    have h5:=(big (zs:=(ps.map (·.1)).zip ts) (λz hz=>by
     have:=(List.of_mem_zip (show (z.1,z.2)∈_ from hz)).1
     obtain⟨w',hw',e⟩:=List.mem_map.mp this
     rw [<- e]
     exact (okP w' hw').1.two) (by rw [<- eZ];have:=eP.2;omega) hz).2
    exact⟨(okP _ (List.mem_of_getElem? h1)).1,h3,h5,by rw [h4];exact hds i _ _ h1⟩
   obtain⟨ks,hks⟩:∃ ks,aZ ps ds ts ps.length=ks:=⟨_,rfl⟩
   rw [hks] at eZ oE eP kl kmem d8
   have zl:zs.length=ks.length:=by rw [d8.length,List.length_map]
   refine⟨p7,zs,ks.map kD,ks.map kp,rfl,e8,d8,⟨by rw [List.length_map,List.length_map],λi row hr=>?_⟩,by rw [List.length_map];omega,λp9 us9 H9 s9 f9 e9 d9=>?_⟩
   ·rw [List.getElem?_map] at hr
    obtain⟨y,hy,rfl⟩:=Option.map_eq_some_iff.mp hr
    obtain⟨g',rows',e'⟩:=(kmem y (List.mem_of_getElem? hy)).2.2.2.head
    exact⟨kp y,by rw [List.getElem?_map,hy];rfl,_,by show PyData.tuple [y.1,.int y.2.2]=_;rw [e'];rfl⟩
   refine⟨p9,us9,_,rfl,e9,d9,λy hy=>?_,by omega,λH10 s10=>?_⟩
   ·obtain⟨z,hz,rfl⟩:=List.mem_map.mp hy
    obtain⟨m1,m2,m3,_⟩:=kmem z hz
    exact⟨m1.two,by show 0<=z.2.2;omega,by show z.2.2<=10^6;omega⟩
   have S10:=s9.trans s10
   refine⟨p7,rfl,⟨_,aS.of (S10 _ _ e8)⟩,?_⟩
   have eb:(1:Int)<=(Num.eN (ks.map kp):Int)/\(Num.eN (ks.map kp):Int)<p:=by omega
   have oE':Num.Ord p a ((Num.eN (ks.map kp):Int)).toNat:=by rw [Int.toNat_natCast];exact oE
   generalize (Num.eN (ks.map kp):Int)=e at *
   refine bX (xs:=zs) (λi rs H11=>az H10 H11/\aJ K H11 ((ks.take i).map (bM p a e)) rs) ⟨az.refl _,rfl⟩ (by rw [zl];exact Nat.le_trans kl (by decide)) (λi rs H11 hi ⟨z1,z2⟩=>⟨aS.of (z1 _ _ (S10 _ _ e8)),by rw [z2.length,List.length_map,List.length_take];omega⟩) ?_ ?_
   ·rintro i x rs H11 hx ⟨s11,hr⟩
    obtain⟨d,hd',hv⟩:=(aJ.same (S10.trans s11) _ d8).get hx
    rw [List.getElem?_map] at hd'
    obtain⟨y,hy,rfl⟩:=Option.map_eq_some_iff.mp hd'
    obtain⟨m1,m2,m3,m4⟩:=kmem y (List.mem_of_getElem? hy)
    obtain⟨pt,ys,rfl,h1,x1,r1,rfl,e1',x2,r2,rfl,e2',z⟩:=hv
    cases z
    cases e2'
    have e1d:=e1'
    obtain⟨g',rows',e'⟩:=m4.head
    rw [e'] at e1'
    obtain⟨pq,zs',rfl,h2,y1,r3,rfl,f1',f2⟩:=e1'
    cases f1'
    have q2:=m1.two
    have q9:=(ja m4).2
    show jO K 2 _ _ [none,none,some (.int p),some (.int a),some (.int e)] _ _
    refine⟨pt,_,rfl,h1,rfl,?_⟩
    k_data
    refine⟨⟨rfl,rfl,rfl,True.intro⟩,bF h2 iF ⟨y.2.1,rfl,by omega,Bd.of (by omega) (by omega),p,a,e/y.2.1,rfl,by omega,by omega,λ_ H12 s12=>⟨by show 3<=sizeLine;decide,λp13 hp13=>?_⟩,λz=>absurd z (by have:=Int.ediv_nonneg (show 0<=e by omega) (show 0<=y.2.1 by omega);omega)⟩⟩
    have s13:=ak (o:=.tup [V.ref pq,V.int y.2.2,V.int (a^(e/y.2.1).toNat%p)]) hp13
    refine⟨(s11.trans s12).trans s13,?_⟩
    rw [List.take_add_one,hy,List.map_append]
    exact aJ.append (aJ.same (s12.trans s13) _ hr) (.one (dv.tup ah ⟨_,_,rfl,dv.same (s12.trans s13) _ e1d,_,_,rfl,rfl,.one rfl⟩))
   ·rintro rs H11 p11 ⟨s11,hr⟩ hp11
    rw [zl,List.take_length] at hr
    have s12:=ak (o:=.lst rs) hp11
    refine⟨p11,rfl,rs,.inl ⟨aS.of ah,λl hl'=>⟨by show 2<=sizeLine;decide,λp13 hp13=>?_⟩⟩⟩
    generalize upd H11 p11 _=H12 at *
    have s13:=ak (o:=.tup rs) hl'
    have e13:upd H12 l (.tup rs) l=some (.tup rs):=ah
    generalize upd H12 l _=H13 at *
    have s14:=ak (o:=.tup [V.int e,V.ref l]) hp13
    have ek:fP ps ds ts=ks:=hks
    refine q _ _ _ ⟨e,ps,ds,ts,rfl,hP,hl29,hds,eb.1,eb.2,oE',hTO',rfl⟩ (((((S8.trans S10).trans s11).trans s12).trans s13).trans s14) ?_
    rw [ek]
    exact dv.tup ah ⟨_,_,rfl,rfl,.one (dv.tup (s14 _ _ e13) (aJ.same ((s12.trans s13).trans s14) _ hr))⟩
theorem zG:∀{L:Nat} {d:PyData},sD L d->1<=L:=by
 intro L d h
 cases L with
 | zero=>simp only [sD] at h
 | succ _=>omega
theorem uc {L:Nat}:∀{ds:List PyData},(∀ d∈ds,sD L d)->uI L ds
 | [],_=>by simp only [uI]
 | d::ds,h=>by
  simp only [uI]
  exact⟨h d (List.mem_cons_self ..),uc λe z=>h e (List.mem_cons_of_mem _ z)⟩
theorem hG {L:Nat} {i:Int} (h:1<=L):sD L (.int i):=by
 obtain⟨k,rfl⟩:∃ k,L=k+1:=⟨L-1,by omega⟩
 simp only [sD]
theorem hJ {L:Nat} {ds:List PyData} (h:1<=L) (hl:ds.length<=10^6) (hd:∀ d∈ds,sD (L-1) d):sD L (.tuple ds):=by
 obtain⟨k,rfl⟩:∃ k,L=k+1:=⟨L-1,by omega⟩
 simp only [sD]
 exact⟨hl,uc hd⟩
theorem tL:∀(L:Nat) {n:Int} {d:PyData},Num.Ht L n->Num.fb n d->sD (3*L) d
 | 0,n,d,h,_=>h.elim
 | L+1,n,d,h,hp=>by
  obtain⟨g,ps,ds,rfl,_,hP,hl,hds⟩:=vE hp
  obtain⟨pm,n9⟩:=ja hp
  have p2:=pm.two
  refine hJ (by omega) (by show 3<=_;decide) λd hd=>?_
  simp only [List.mem_cons,List.not_mem_nil,or_false] at hd
  rcases hd with rfl | rfl | rfl
  ·exact hG (by omega)
  ·exact hG (by omega)
  ·refine hJ (by omega) (by rw [Num.aV];omega) λrow hr=>?_
   obtain⟨i,hi⟩:=List.mem_iff_getElem?.mp hr
   have hi':=(List.getElem?_eq_some_iff.mp hi).1
   rw [Num.aV] at hi'
   have hg:ps[i]?=some (ps[i].1,ps[i].2):=List.getElem?_eq_getElem hi'
   rw [Num.cY hg] at hi
   cases hi
   have hok:=hP.ok _ (List.mem_of_getElem? hg)
   have hdv:ps[i].1∣n-1:=by
    have:=Num.cG (List.mem_of_getElem? hg) hok.2.1
    rwa [hP.prod] at this
   have ih:=tL L (h ps[i].1 hok.1 hdv) (hds i _ _ hg)
   refine hJ (by omega) (by show 2<=_;decide) λe he=>?_
   simp only [List.mem_cons,List.not_mem_nil,or_false] at he
   have l1:=zG ih
   rcases he with rfl | rfl
   ·exact ih
   ·exact hG (by omega)
theorem ko {E p a:Int} {rows r:PyData} (h:bN E p a rows r):sD 93 r:=by
 obtain⟨e,ps,ds,ts,_,hP,hl29,hds,_,_,_,hT,rfl⟩:=h
 refine hJ (by omega) (by show 2<=_;decide) λd hd=>?_
 simp only [List.mem_cons,List.not_mem_nil,or_false] at hd
 rcases hd with rfl | rfl
 ·exact hG (by omega)
 ·have hl:(fP ps ds ts).length<=ps.length:=cT
  refine hJ (by omega) (by rw [List.length_map];omega) λrow hr=>?_
  obtain⟨y,hy,rfl⟩:=List.mem_map.mp hr
  obtain⟨i,k,h1,h2,h3,h4⟩:=fQ hy
  have hok:=hP.ok _ (List.mem_of_getElem? h1)
  have pp:=hds i _ _ h1
  refine hJ (by omega) (by show 3<=_;decide) λd hd=>?_
  simp only [List.mem_cons,List.not_mem_nil,or_false] at hd
  rcases hd with rfl | rfl | rfl
  ·rw [h4]
   exact tL 30 (Num.sM (ja pp).1 (ja pp).2) pp
  ·exact hG (by omega)
  ·exact hG (by omega)
theorem iU {zs:List (Int × Int)} (hp:∀ y∈zs,Num.Pm y.1) (pw:zs.Pairwise (λx y=>y.1≠x.1)) {i:Nat} {q t:Int} (hy:zs[i]?=some (q,t)):∃ M,Num.eN zs=q.toNat^t.toNat*M/\¬q.toNat∣M:=by
 have e:zs=zs.take i++[(q,t)]++zs.drop (i+1):=by
  have h1:zs.take (i+1)=zs.take i++[(q,t)]:=by rw [List.take_add_one,hy];rfl
  rw [<- h1,List.take_append_drop]
 have e2:Num.eN zs=Num.eN (zs.take i)*q.toNat^t.toNat*Num.eN (zs.drop (i+1)):=by
  have:Num.eN zs=Num.eN (zs.take i++[(q,t)]++zs.drop (i+1)):=congrArg _ e
  rw [this,Num.bP,fY]
 have hq:Num.Pm q:=hp _ (List.mem_of_getElem? hy)
 have pw':=pw
 rw [e,List.pairwise_append,List.pairwise_append] at pw'
 obtain⟨⟨_,_,h3⟩,_,h5⟩:=pw'
 have n1:¬q.toNat∣Num.eN (zs.take i):=Num.pI hq (λy z=>hp y (List.mem_of_mem_take z)) λy z=>λc=>h3 y z (q,t) (List.mem_singleton.mpr rfl) c.symm
 have n2:¬q.toNat∣Num.eN (zs.drop (i+1)):=Num.pI hq (λy z=>hp y (List.mem_of_mem_drop z)) λy z=>h5 (q,t) (List.mem_append.mpr (.inr (List.mem_singleton.mpr rfl))) y z
 refine⟨Num.eN (zs.take i)*Num.eN (zs.drop (i+1)),by rw [e2,Nat.mul_comm (Num.eN (zs.take i)),Nat.mul_assoc],λz=>?_⟩
 have co:=(Num.i5 hq).co n1
 exact n2 (co.dvd_of_dvd_mul_left z)
def nG:Sp:=λvs H Q _=>∃(e q:Int) (t M:Nat),vs=[.int e,.int q]/\2<=q/\q<=10^60/\e=(q.toNat^t*M:Nat)/\¬q.toNat∣M/\Q (.int t) H
theorem fG:aw ["_law_e","_law_q","_law_many"] ["_law_e","_law_q"] (ai (top 38)):=d6
theorem rf (D:au K mg "_law_times" (top 38)):Callee P w K mg base aO 1 "_law_times" ["_law_e","_law_q"] nG:=by
 refine cO D fG (λf cdv A outer s H vs Q E hr h=>?_)
 obtain⟨e,q',t,M,rfl,q2,q9,rfl,hM,q⟩:=h
 have nd:=fG.nd
 refine⟨_,(ae (bY (i:=2) nd ag) (ae (bB PassesOwn.never (aC cn (aq aU (pv 0) (pv 1)) ag (aB _)) (ae (bY (i:=0) nd (aq bQ (pv 0) (pv 1))) (aj (bY (i:=2) nd (aq bG (pv 2) ag))))) (aj (ay (pv 2))))),?_⟩
 show bT _ _ _ [some (.int _),some (.int q'),none] H
 k_data
 refine bC (α:=Nat) (λj=>[some (.int ((q'.toNat^(t-j)*M:Nat):Int)),some (.int q'),some (.int (j:Int))]) (λj H1=>H1=H/\j<=t) (λj=>t-j) 0 rfl ⟨rfl,Nat.zero_le _⟩ ?_
 rintro j H1 ⟨rfl,jt⟩
 replace jt:j<=t:=jt
 have eq:(q'.toNat:Int)=q':=by omega
 k_data
 refine⟨by omega,?_⟩
 rcases (by omega:j=t∨j<t) with c | c
 ·subst c
  rw [Nat.sub_self,Nat.pow_zero,Nat.one_mul]
  rw [if_neg (λz=>hM (by
   have:=Int.dvd_of_emod_eq_zero z
   rw [<- eq] at this
   exact Int.natCast_dvd_natCast.mp this))]
  exact q
 ·obtain⟨k,hk⟩:∃ k,t-j=k+1:=⟨t-j-1,by omega⟩
  have e1:((q'.toNat^(t-j)*M:Nat):Int)=q'*((q'.toNat^(t-(j+1))*M:Nat):Int):=by
   rw [hk,show t-(j+1)=k by omega,Nat.pow_succ,Nat.mul_comm (q'.toNat^k),Nat.mul_assoc,Int.natCast_mul,eq]
  rw [e1,if_pos (Int.mul_emod_right _ _)]
  refine⟨_,λ_ _ z=>z,by omega,Bd.of (by omega) (by omega),j+1,?_,rfl,c,?_⟩
  ·rw [Int.mul_ediv_cancel_left _ (by omega)]
   rfl
  ·show t-(j+1)<t-j
   omega
theorem m7 {q:Nat} (q2:2<=q):∀{t t' M M':Nat},q^t*M=q^t'*M'->¬q∣M->¬q∣M'->t=t'
 | 0,0,_,_,_,_,_=>rfl
 | 0,t'+1,M,M',h,h1,_=>by
  rw [Nat.pow_zero,Nat.one_mul,Nat.pow_succ,Nat.mul_comm (q^t'),Nat.mul_assoc] at h
  exact absurd ⟨_,h⟩ h1
 | t+1,0,M,M',h,_,h2=>by
  rw [Nat.pow_zero,Nat.one_mul,Nat.pow_succ,Nat.mul_comm (q^t),Nat.mul_assoc] at h
  exact absurd ⟨_,h.symm⟩ h2
 | t+1,t'+1,M,M',h,h1,h2=>by
  rw [Nat.pow_succ,Nat.pow_succ,Nat.mul_comm (q^t),Nat.mul_comm (q^t'),Nat.mul_assoc,Nat.mul_assoc] at h
  rw [m7 q2 (Nat.eq_of_mul_eq_mul_left (by omega) h) h1 h2]
theorem ie {p:Int} {ps:List (Int × Int)} {ts:List Int} (hP:iP p ps):∀ y∈(ps.map (·.1)).zip ts,Num.Pm y.1:=λy hy=>by
 obtain⟨w',hw',e'⟩:=List.mem_map.mp (List.of_mem_zip (show (y.1,y.2)∈_ from hy)).1
 rw [<- e']
 exact (hP.ok w' hw').1
theorem ic {p:Int} {ps:List (Int × Int)} {ts:List Int} (hP:iP p ps) (tl:ts.length=ps.length):((ps.map (·.1)).zip ts).Pairwise (λx y=>y.1≠x.1):=by
 have h1:(ps.map (·.1)).Pairwise (λx y:Int=>y≠x):=List.pairwise_map.mpr (hP.rise.imp λh=>by omega)
 have h2:((ps.map (·.1)).zip ts).map Prod.fst=ps.map (·.1):=List.map_fst_zip (by rw [List.length_map];omega)
 rw [<- h2] at h1
 exact List.pairwise_map.mp h1
theorem uD {ps:List (Int × Int)} {ts:List Int} {i:Nat} {q k t:Int} (hp:ps[i]?=some (q,k)) (ht:ts[i]?=some t):((ps.map (·.1)).zip ts)[i]?=some (q,t):=by
 rw [List.getElem?_zip_eq_some]
 exact⟨by rw [List.getElem?_map,hp];rfl,ht⟩
theorem gh {ps:List (Int × Int)} {ds ds':Nat->PyData} {ts:List Int}:∀ n,(∀ i,i<n->ds i=ds' i)->aZ ps ds ts n=aZ ps ds' ts n
 | 0,_=>rfl
 | n+1,h=>by
  unfold aZ
  rw [List.range_succ,List.filterMap_append,List.filterMap_append]
  have ih:=gh (ps:=ps) (ts:=ts) n λi hi=>h i (by omega)
  unfold aZ at ih
  rw [ih]
  congr 1
  have:kf ps ds ts n=kf ps ds' ts n:=by
   unfold kf
   rw [h n (by omega)]
  simp only [List.filterMap_cons,List.filterMap_nil,this]
theorem bN.one {E p a:Int} {rows r r':PyData} (h:bN E p a rows r) (h':bN E p a rows r'):r=r':=by
 obtain⟨e,ps,ds,ts,er,hP,hl,hds,e1,e2,oe,hT,rfl⟩:=h
 obtain⟨e',ps',ds',ts',er',hP',hl',hds',e1',e2',oe',hT',rfl⟩:=h'
 have ee:e=e':=by have:=oe.i8 oe';omega
 subst ee
 rw [er] at er'
 have rr:Num.rowsOf ps ds=Num.rowsOf ps' ds':=by injection er'
 have ln:ps.length=ps'.length:=by
  have:=congrArg List.length rr
  rwa [Num.aV,Num.aV] at this
 have at_:∀ i,i<ps.length->ps[i]?=ps'[i]?/\ds i=ds' i:=λi hi=>by
  have g:ps[i]?=some (ps[i].1,ps[i].2):=List.getElem?_eq_getElem hi
  have g':ps'[i]?=some ((ps'[i]'(by omega)).1,(ps'[i]'(by omega)).2):=List.getElem?_eq_getElem (by omega)
  have h1:=Num.cY (ds:=ds) g
  have h2:=Num.cY (ds:=ds') g'
  rw [rr,h2] at h1
  injection h1 with h3
  injection h3 with h4
  injection h4 with h5 h6
  injection h6 with h7 _
  injection h7 with h8
  have h50:=h5
  obtain⟨a1,b1,c1⟩:=(hds i _ _ g).head
  obtain⟨a2,b2,c2⟩:=(hds' i _ _ g').head
  rw [c1,c2] at h5
  injection h5 with k1
  injection k1 with k2 _
  injection k2 with k3
  refine⟨?_,?_⟩
  ·rw [g,g',k3,h8]
  ·exact h50.symm
 have eps:ps=ps':=by
  apply List.ext_getElem?
  intro i
  rcases (by omega:i<ps.length∨ps.length<=i) with z | z
  ·exact (at_ i z).1
  ·rw [List.getElem?_eq_none z,List.getElem?_eq_none (by omega)]
 subst eps
 have l1:=hT.len
 have l2:=hT'.len
 have ets:ts=ts':=by
  apply List.ext_getElem?
  intro i
  rcases (by omega:i<ps.length∨ps.length<=i) with z | z
  ·have g:ps[i]?=some (ps[i].1,ps[i].2):=List.getElem?_eq_getElem z
   have t1:ts[i]?=some (ts[i]'(by omega)):=List.getElem?_eq_getElem (by omega)
   have t2:ts'[i]?=some (ts'[i]'(by omega)):=List.getElem?_eq_getElem (by omega)
   obtain⟨M,m1,m2⟩:=iU (ie hP) (ic hP l1) (uD g t1)
   obtain⟨M',m1',m2'⟩:=iU (ie hP) (ic hP l2) (uD g t2)
   have eE:Num.eN ((ps.map (·.1)).zip ts)=Num.eN ((ps.map (·.1)).zip ts'):=hT.ord.i8 hT'.ord
   rw [m1,m1'] at eE
   have q2:=(hP.ok _ (List.mem_of_getElem? g)).1.two
   have:=m7 (by omega) eE m2 m2'
   have n1:=hT.nn _ (List.getElem_mem (show i<ts.length by omega))
   have n2:=hT'.nn _ (List.getElem_mem (show i<ts'.length by omega))
   rw [t1,t2,show ts[i]'(by omega)=ts'[i]'(by omega) by omega]
  ·rw [List.getElem?_eq_none (by omega),List.getElem?_eq_none (by omega)]
 subst ets
 have:fP ps ds ts=fP ps ds' ts:=gh ps.length λi hi=>(at_ i hi).2
 rw [this]
theorem mK:∀(ps:List (Int × Int)),(∀ y∈ps,Num.Pm y.1)->ps.Pairwise (λx y=>y.1≠x.1)->∀ E:Nat,0<E->E∣Num.eN ps->∃ ts:List Int,ts.length=ps.length/\(∀ t∈ts,0<=t)/\Num.eN ((ps.map (·.1)).zip ts)=E
 | [],_,_,E,_,hd=>⟨[],rfl,λ_ z=>by simp at z,by
  have:E=1:=Nat.eq_one_of_dvd_one hd
  rw [this];rfl⟩
 | (q,k)::r,hp,pw,E,h0,hd=>by
  have hq:Num.Pm q:=hp (q,k) (List.mem_cons_self ..)
  have hr:∀ y∈r,Num.Pm y.1:=λy z=>hp y (List.mem_cons_of_mem _ z)
  obtain⟨p1,p2⟩:=List.pairwise_cons.mp pw
  obtain⟨t,E',e1,e2⟩:=Num.jG (q:=q.toNat) (by have:=hq.two;omega) E h0
  have co:Nat.Coprime (q.toNat^k.toNat) E':=Num.kS (Num.i5 hq) e2 _
  have E0:0<E':=by
   rcases Nat.eq_zero_or_pos E' with z | z
   ·rw [z,Nat.mul_zero] at e1;omega
   ·exact z
  have d:E'∣Num.eN r:=by
   have h1:E'∣q.toNat^k.toNat*Num.eN r:=Nat.dvd_trans ⟨q.toNat^t,by rw [e1,Nat.mul_comm]⟩ hd
   exact co.symm.dvd_of_dvd_mul_left h1
  obtain⟨ts,l,n,e⟩:=mK r hr p2 E' E0 d
  refine⟨(t:Int)::ts,by simp [l],λx z=>?_,?_⟩
  ·rcases List.mem_cons.mp z with y | y
   ·rw [y];omega
   ·exact n x y
  ·show q.toNat^(t:Int).toNat*Num.eN ((r.map (·.1)).zip ts)=E
   rw [e,Int.toNat_natCast,e1]
theorem bN.ex {E n a:Int} {ps:List (Int × Int)} {ds:Nat->PyData} (n2:2<=n) (E1:1<=E) (hP:iP E ps) (hl29:ps.length<=29) (hds:∀ i q k,ps[i]?=some (q,k)->Num.fb q (ds i)) (h:Num.Al n (a^E.toNat) 1):∃ r,bN E n a (.tuple (Num.rowsOf ps ds)) r:=by
 obtain⟨m,om,_⟩:=Num.gU (by omega) h
 have mp:=oS n2 om
 have eE:Num.eN ps=E.toNat:=by
  have:=Num.iH ps λy z=>(hP.ok y z).1
  rw [hP.prod] at this
  omega
 obtain⟨ts,l,n,e⟩:=mK ps (λy z=>(hP.ok y z).1) (hP.rise.imp λh=>by omega) m om.pos (by rw [eE];exact om.dv _ h)
 exact⟨_,(m:Int),ps,ds,ts,rfl,hP,hl29,hds,by have:=om.pos;omega,by omega,by rw [Int.toNat_natCast];exact om,⟨l,n,by rw [e];exact om⟩,rfl⟩
def wW:Sp:=λvs H Q _=>∃ a b:Nat,vs=[.int a,.int b]/\Q (.int (Nat.gcd a b:Nat)) H
theorem dX:aw ["_law_one","_law_other"] ["_law_one","_law_other"] (ai (top 41)):=d6
theorem x4 (D:au K mg "_law_divisor" (top 41)):Callee P w K mg base aO 1 "_law_divisor" ["_law_one","_law_other"] wW:=by
 refine cO D dX (λf cdv A outer s H vs Q E hr h=>?_)
 obtain⟨a,b,rfl,q⟩:=h
 have nd:=dX.nd
 refine⟨_,(ae (bB PassesOwn.never (aC fC (pv 1) ag (aB _)) (aj (lL (i:=0) (j:=1) rfl nd rfl rfl (by decide) rfl rfl (aa (pv 1) (aa (aq aU (pv 0) (pv 1)) af)) rfl))) (aj (ay (pv 0)))),?_⟩
 show bT _ _ _ [some (.int a),some (.int b)] H
 k_data
 refine bC (α:=Nat × Nat) (λx=>[some (.int (x.1:Int)),some (.int (x.2:Int))]) (λx H1=>H1=H/\Nat.gcd x.1 x.2=Nat.gcd a b) (λx=>x.2) (a,b) rfl ⟨rfl,rfl⟩ ?_
 rintro⟨x,y⟩ H1 ⟨rfl,hg⟩
 replace hg:Nat.gcd x y=Nat.gcd a b:=hg
 k_data
 refine aP (λc=>?_) (λc=>?_)
 ·refine⟨_,λ_ _ z=>z,by omega,(y,x%y),rfl,rfl,?_,?_⟩
  ·show Nat.gcd y (x%y)=_
   rw [<- hg,Nat.gcd_comm x y,Nat.gcd_comm y (x%y),<- Nat.gcd_rec]
  ·show x%y<y
   exact Nat.mod_lt _ (by omega)
 ·have y0:y=0:=by omega
  subst y0
  rw [Nat.gcd_zero_right] at hg
  rw [hg]
  exact q
theorem b7 {b:Int} (h:1<=b) {m n:Nat} (l:m<=n):b^m<=b^n:=by
 obtain⟨k,rfl⟩:∃ k,n=m+k:=⟨n-m,by omega⟩
 have h1:=Num.aA (show 0<b by omega) m
 have h2:=Num.aA (show 0<b by omega) k
 have h3:b^m*1<=b^m*b^k:=Int.mul_le_mul_of_nonneg_left (by omega) (by omega)
 rw [Pw.pow_add]
 omega
def hW:Sp:=λvs H Q _=>∃(b:Int) (e:Nat),vs=[.int b,.int e]/\2<=b/\b<=10^7/\e<=1000/\b^e<=10^60/\Q (.int (b^e)) H
theorem eR:aw ["_law_b","_law_e","_law_found","_law_k"] ["_law_b","_law_e"] (ai (top 42)):=d6
theorem oP (D:au K mg "_law_raised" (top 42)) (n_range:mg "range"=none):Callee P w K mg base aO 1 "_law_raised" ["_law_b","_law_e"] hW:=by
 refine cO D eR (λf cdv A outer s H vs Q E hr h=>?_)
 obtain⟨b,e,rfl,b2,b9,e9,he,q⟩:=h
 have nd:=eR.nd
 refine⟨_,(ae (bY (i:=2) nd ag) (ae (dQ PassesOwn.never rfl (fh rfl n_range (aa (pv 1) af)) (ax (i:=3) nd rfl (Or.inl rfl) (.inr rfl)) (aj (bY (i:=2) nd (aq bw (pv 2) (pv 0))))) (aj (ay (pv 2))))),?_⟩
 show bT _ _ _ [some (.int b),some (.int e),none,none] H
 k_data
 refine⟨by omega,by omega,?_⟩
 refine dI (λi σ' H'=>H'=H/\∃ o,σ'=[some (.int b),some (.int e),some (.int (b^i)),o]) ⟨rfl,none,by rw [Int.pow_zero]⟩ ?_ ?_
 ·rintro i σ' H' hi ⟨rfl,o,rfl⟩
  have h1:=b7 (show 1<=b by omega) (show i<=e by omega)
  have h2:=Num.aA (show 0<b by omega) i
  k_data
  refine⟨Bd.of (by omega) (by omega),Bd.of (by omega) (by omega),?_⟩
  rw [Int.pow_succ]
 ·rintro σ' H' ⟨rfl,o,rfl⟩
  k_data
  have:((e:Int)).toNat=e:=by omega
  first | (rw [this];exact q) | exact q
def wV:Sp:=λvs H Q _=>∃(p:Addr) (l b:Int) (f:Bool),vs=[.ref p,.int b]/\H p=some (lW l f)/\sV l f/\2<=b/\b<=10^7/\∀(e:Nat) H',1<=e->e<=193->b^e<10^58->Up p f H H'->Q (.int e) H'
theorem dz:aw ["_law_state_here","_law_b","_law_most","_law_high"] ["_law_state_here","_law_b"] (ai (top 43)):=d6
theorem xZ (D:au K mg "_law_exponent" (top 43)) (c__law_take:Callee P w K mg base aO 1 "_law_take" ["_law_state_here","_law_many"] jF):Callee P w K mg base aO 2 "_law_exponent" ["_law_state_here","_law_b"] wV:=by
 refine cO D dz (λf cdv A outer s H vs Q E hr h=>?_)
 obtain⟨p,l,b,f',rfl,hp,hl,b2,b9,q⟩:=h
 have nd:=dz.nd
 refine⟨_,(ae (bY (i:=2) nd ag) (ae (bY (i:=3) nd (aq bw (pv 1) (pv 1))) (ae (bB PassesOwn.never (aC ir (pv 3) (aq lH ag ag) (aB _)) (ae (bY (i:=3) nd (aq bw (pv 3) (pv 1))) (aj (bY (i:=2) nd (aq bG (pv 2) ag))))) (aj (ay (aq bG ag (b0 c__law_take hr aD (aa (pv 0) (aa (pv 2) af))))))))),?_⟩
 show bT _ _ _ [some (.ref p),some (.int b),none,none] H
 k_data
 refine⟨Bd.of (by omega) (by omega),Bd.of (by omega) (by omega),?_⟩
 have small:∀ m:Nat,b^m<10^58->m<=193:=λm h=>by
  rcases (by omega:m<=193∨194<=m) with z | z
  ·exact z
  ·have h1:=b7 (show 1<=b by omega) z
   have h2:=Num.two_pow_le b2 194
   have h3:(10:Int)^58<=2^194:=by decide
   omega
 refine bC (α:=Nat) (λm=>[some (.ref p),some (.int b),some (.int ((m:Int)+1)),some (.int (b^(m+2)))]) (λm H1=>H1=H/\b^(m+1)<10^58) (λm=>200-m) 0 ?_ ⟨rfl,?_⟩ ?_
 ·show _=_
  simp [Int.pow_succ]
 ·show b^(0+1)<10^58
  rw [Int.pow_succ,Int.pow_zero,Int.one_mul]
  omega
 rintro m H1 ⟨rfl,hm⟩
 replace hm:b^(m+1)<10^58:=hm
 have sm:=small _ hm
 have pp:=Num.aA (show 0<b by omega) (m+1)
 have pq:=Num.aA (show 0<b by omega) (m+2)
 have pw:b^(m+2)=b^(m+1)*b:=Int.pow_succ ..
 have pb:b^(m+1)*b<=10^58*10^7:=Int.mul_le_mul (by omega) b9 (by omega) (by decide)
 k_data
 refine aP (λc=>?_) (λc=>?_)
 ·refine⟨_,λ_ _ z=>z,Bd.of (by omega) (by omega),Bd.of (by omega) (by omega),m+1,?_,rfl,c,by omega⟩
  rw [show m+1+2=m+2+1 from rfl,Int.pow_succ b (m+2)]
  congr 4
 ·refine⟨p,_,l,f',rfl,hp,hl,by omega,by omega,λr H2 r0 r1 u2=>⟨r,rfl,?_⟩⟩
  obtain⟨k,rfl⟩:∃ k:Nat,r=(k:Int):=⟨r.toNat,by omega⟩
  have e1:1+(k:Int)=((k+1:Nat):Int):=by omega
  rw [e1]
  have h1:=b7 (show 1<=b by omega) (show k+1<=m+1 by omega)
  exact q (k+1) H2 (by omega) (by omega) (by omega) u2
def wU (K:PySem.W.Frag):Sp:=λvs H Q _=>∃(E p a e:Int) (vr:V) (rows r:PyData),vs=[.int p,.int a,.int e,vr]/\2<=p/\p<=10^59/\1<=E/\E<=10^59/\1<=e/\Num.Ord p a e.toNat/\dv K H rows vr/\bN E p a rows r/\∀ v H',az H H'->dv K H' r v->Q v H'
theorem c6:aw ["_law_n","_law_a","_law_least","_law_papers_here","_law_rows"] ["_law_n","_law_a","_law_least","_law_papers_here"] (ai (top 40)):=d6
theorem xY (D:au K mg "_law_paper_due" (top 40)) (c__law_power:Callee P w K mg base aO 1 "_law_power" ["_law_n","_law_a","_law_e"] dF) (c__law_times:Callee P w K mg base aO 1 "_law_times" ["_law_e","_law_q"] nG) (n_tuple:mg "tuple"=none):Callee P w K mg base aO 2 "_law_paper_due" ["_law_n","_law_a","_law_least","_law_papers_here"] (wU K):=by
 refine cO D c6 (λf cdv A outer s H vs Q E hr h=>?_)
 obtain⟨E',p,a,e0,vr,rows,r,rfl,p2,p9,E1,E9,e00,oe0,hr',ho,q⟩:=h
 have nd:=c6.nd
 refine⟨_,(ae (lM (i0:=4) nd rfl (Or.inl rfl) rfl (oj (N':=["_law_paper_here","_law_many","_law_least","_law_n","_law_a"]) (js:=[none,none,some 2,some 0,some 1]) rfl rfl) (fS (pv 3)) (λ_ _ _ _=>(dO K rfl (n:=2) rfl (aE (ax (i:=0) (show List.Nodup [("_law_paper_here":Str),("_law_many":Str),("_law_least":Str),("_law_n":Str),("_law_a":Str)] from by decide +kernel) rfl (Or.inl rfl) (.inr rfl)) (aE (ax (i:=1) (show List.Nodup [("_law_paper_here":Str),("_law_many":Str),("_law_least":Str),("_law_n":Str),("_law_a":Str)] from by decide +kernel) rfl (Or.inl rfl) (.inr rfl)) bJ)))) (λ_ _ _ _=>(nq (aC cn (aq aU (pv 2) (aL (bD K rfl) (pv 0) ag (λ_ _=>rfl))) ag (aB _)))) (λ_ _ _ _=>(bj (aa (pv 0) (aa (b0 c__law_times hr aD (aa (pv 2) (aa (aL (bD K rfl) (pv 0) ag (λ_ _=>rfl)) af))) (aa (b0 c__law_power hr aD (aa (pv 3) (aa (pv 4) (aa (aq bQ (pv 2) (aL (bD K rfl) (pv 0) ag (λ_ _=>rfl))) af)))) af))))) (by rfl) (by first | exact .inl rfl | exact .inr rfl)) (aj (ay (bj (aa (pv 2) (aa (cu cz rfl n_tuple L2.boot_tuple (aa (pv 4) af)) af)))))),?_⟩
 show bT _ _ _ [some (.int p),some (.int a),some (.int e0),some vr,none] H
 obtain⟨e,ps,ds,ts,rfl,hP,hl29,hds,e1,e2,oe,hT,rfl⟩:=ho
 have ee:e0=e:=by have:=oe.i8 oe0;omega
 subst ee
 obtain⟨pr,xs,rfl,hSr,hdr⟩:=hr'
 have xl:xs.length=ps.length:=by rw [hdr.length,Num.aV]
 have tl:ts.length=ps.length:=hT.len
 have ez:e0.toNat=Num.eN ((ps.map (·.1)).zip ts):=oe.i8 hT.ord
 k_data
 refine⟨⟨_,hSr⟩,?_⟩
 refine cP (xs:=xs) (λi zs H3=>az H H3/\aJ K H3 ((aZ ps ds ts i).map (bM p a e0)) zs) ⟨az.refl _,rfl⟩ (by rw [xl];exact Nat.le_trans hl29 (by decide)) (λi zs H3 hi ⟨z1,z2⟩=>⟨hSr.same z1,by rw [z2.length,List.length_map];exact cT⟩) ?_ ?_
 ·rintro i x zs H3 hx ⟨s3,hz⟩
  obtain⟨q',k',pt,u,hpi,rfl,t1,t2⟩:=qf hdr hx
  have hi:=(List.getElem?_eq_some_iff.mp hpi).1
  have pq:=(hP.ok _ (List.mem_of_getElem? hpi)).1
  replace pq:Num.Pm q':=pq
  have q2:=pq.two
  have ql:=(nk hP (by omega) q' (List.mem_map.mpr ⟨_,List.mem_of_getElem? hpi,rfl⟩)).2
  obtain⟨t,ht⟩:∃ t,ts[i]?=some t:=⟨_,List.getElem?_eq_getElem (by omega)⟩
  have t0:=hT.nn t (List.mem_of_getElem? ht)
  have hzi:((ps.map (·.1)).zip ts)[i]?=some (q',t):=by
   rw [List.getElem?_zip_eq_some]
   exact⟨by rw [List.getElem?_map,hpi];rfl,ht⟩
  obtain⟨M,hM1,hM2⟩:=iU (ie hP) (ic hP tl) hzi
  have eM:e0=((q'.toNat^t.toNat*M:Nat):Int):=by rw [<- hM1,<- ez];omega
  have iff0:e0%q'=0↔0<t:=by
   constructor
   ·intro c
    rcases (by omega:t=0∨0<t) with z | z
    ·exfalso
     have h1:=Int.dvd_of_emod_eq_zero c
     rw [eM,z] at h1
     rw [show (q':Int)=(q'.toNat:Int) by omega] at h1
     have h2:=Int.natCast_dvd_natCast.mp h1
     simp at h2
     exact hM2 h2
    ·exact z
   ·intro c
    obtain⟨k,hk⟩:∃ k,t.toNat=k+1:=⟨t.toNat-1,by omega⟩
    rw [eM,hk,Nat.pow_succ,Nat.mul_comm (q'.toNat^k),Nat.mul_assoc,Int.natCast_mul,show (q'.toNat:Int)=q' by omega]
    exact Int.mul_emod_right _ _
  obtain⟨g',rows',ed'⟩:=(hds i q' k' hpi).head
  have t2':=t2
  rw [ed'] at t2'
  obtain⟨pq',zs',rfl,h2,y1,r3,rfl,f1',f2⟩:=t2'
  cases f1'
  rw [eB hpi ht]
  show jO K 2 _ _ [none,none,some (.int e0),some (.int p),some (.int a)] _ _
  refine⟨pt,_,rfl,t1.same s3,rfl,?_⟩
  k_data
  refine⟨⟨rfl,rfl,rfl,True.intro⟩,bF (h2.same s3) iF ⟨q',rfl,by omega,aP (λc=>?_) (λc=>?_)⟩⟩
  ·rw [if_pos (iff0.mp c)]
   refine bF (h2.same s3) iF ⟨e0,q',t.toNat,M,rfl,q2,by omega,eM,hM2,?_⟩
   refine bF (h2.same s3) iF ⟨q',rfl,by omega,Bd.of (by omega) (by omega),p,a,e0/q',rfl,by omega,by omega,Int.ediv_nonneg (by omega) (by omega),?_⟩
   rw [show ((t.toNat:Nat):Int)=t by omega]
   refine⟨by show 3<=sizeLine;decide,λp4 hp4=>?_⟩
   have s4:=ak (o:=.tup [V.ref pq',V.int t,V.int (a^(e0/q').toNat%p)]) hp4
   refine⟨s3.trans s4,?_⟩
   rw [List.map_append]
   exact aJ.append (aJ.same s4 _ hz) (.one (dv.tup ah ⟨_,_,rfl,dv.same (s3.trans s4) _ t2,_,_,rfl,rfl,.one rfl⟩))
  ·rw [if_neg (λz=>c (iff0.mpr z)),List.append_nil]
   exact⟨s3,hz⟩
 ·rintro zs H3 p3 ⟨s3,hz⟩ hp3
  rw [xl] at hz
  have s4:=ak (o:=.lst zs) hp3
  have e4:upd H3 p3 (.lst zs) p3=some (.lst zs):=ah
  generalize upd H3 p3 _=H4 at *
  have S4:=s3.trans s4
  have hz4:=aJ.same s4 _ hz
  refine⟨p3,rfl,zs,.inl ⟨aS.of e4,λl hl'=>⟨by show 2<=sizeLine;decide,λp13 hp13=>?_⟩⟩⟩
  have s13:=ak (o:=.tup zs) hl'
  have e13:upd H4 l (.tup zs) l=some (.tup zs):=ah
  generalize upd H4 l _=H13 at *
  have s14:=ak (o:=.tup [V.int e0,V.ref l]) hp13
  exact q _ _ ((S4.trans s13).trans s14) (dv.tup ah ⟨_,_,rfl,rfl,.one (dv.tup (s14 _ _ e13) (aJ.same (s13.trans s14) _ hz4))⟩)
end
end K
namespace K
open PySem PySem.Spec PyProof.Rows L2
theorem vD {n b:Int} {E j:Nat} (o:Num.Ord n b E):Num.Ord n (b^j) (E/Nat.gcd E j):=by
 have g0:0<Nat.gcd E j:=Nat.gcd_pos_of_pos_left _ o.pos
 obtain⟨E',hE⟩:=Nat.gcd_dvd_left E j
 obtain⟨j',hj⟩:=Nat.gcd_dvd_right E j
 have hE':E/Nat.gcd E j=E':=by
  have:=Nat.mul_div_cancel_left E' g0
  rw [<- hE] at this
  exact this
 have hj':j/Nat.gcd E j=j':=by
  have:=Nat.mul_div_cancel_left j' g0
  rw [<- hj] at this
  exact this
 have co:Nat.Coprime E' j':=by
  have:=Nat.coprime_div_gcd_div_gcd g0
  rwa [hE',hj'] at this
 rw [hE']
 have Ep:0<E':=by
  rcases Nat.eq_zero_or_pos E' with z | z
  ·rw [z,Nat.mul_zero] at hE
   have:=o.pos
   omega
  ·exact z
 refine⟨Ep,?_,λm hm=>?_⟩
 ·have e1:(b^j)^E'=(b^E)^j':=by
   rw [<- Int.pow_mul,<- Int.pow_mul]
   congr 1
   rw [hj]
   conv=>rhs;rw [hE]
   rw [Nat.mul_assoc,Nat.mul_assoc,Nat.mul_comm j' E']
  rw [e1]
  have:=o.one.pow j'
  rwa [Int.one_pow] at this
 ·rw [<- Int.pow_mul] at hm
  have h1:=o.dv _ hm
  rw [hj] at h1
  have h2:Nat.gcd E j*E'∣Nat.gcd E j*(j'*m):=by rw [<- hE,<- Nat.mul_assoc];exact h1
  exact co.dvd_of_dvd_mul_left (Nat.dvd_of_mul_dvd_mul_left g0 h2)
theorem lJ {b:Int} (b2:2<=b) {i e:Nat} (h:i<e):b^i*2<=b^e:=by
 obtain⟨k,rfl⟩:∃ k,e=i+1+k:=⟨e-i-1,by omega⟩
 have h1:=Num.aA (show 0<b by omega) i
 have h2:=Num.aA (show 0<b by omega) k
 rw [Pw.pow_add,Int.pow_succ,Int.mul_assoc]
 have h3:(2:Int)*1<=b*b^k:=Int.mul_le_mul b2 (by omega) (by decide) (by omega)
 exact Int.mul_le_mul_of_nonneg_left (by omega) (by omega)
theorem lF {n x:Int} (h0:0<x) (h1:x<n):¬n∣x:=λh=>by
 have:=Int.le_of_dvd h0 h
 omega
theorem rA {b:Int} {e:Nat} (b2:2<=b) (e1:1<=e):Num.Ord (b^e-1) b e:=by
 refine Num.dN (by omega) (show b^e-1∣b^e-1 from ⟨1,by omega⟩) λj j0 je h=>?_
 have h1:=lJ b2 je
 have h2:=lJ b2 j0
 have h3:=Num.aA (show 0<b by omega) j
 rw [Int.pow_zero] at h2
 exact lF (n:=b^e-1) (x:=b^j-1) (by omega) (by omega) h
theorem tK {b:Int} {e:Nat} (b2:2<=b) (e1:1<=e):Num.Ord (b^e+1) b (2*e):=by
 refine Num.dN (by omega) (show b^e+1∣b^(2*e)-1 from ⟨b^e-1,?_⟩) λj j0 je h=>?_
 ·rw [Nat.two_mul,Pw.pow_add,Int.mul_sub,Int.add_mul]
  omega
 ·replace h:b^e+1∣b^j-1:=h
  have h2:=lJ b2 j0
  rw [Int.pow_zero] at h2
  rcases (by omega:j<=e∨e<j) with z | z
  ·have h1:=b7 (show 1<=b by omega) z
   exact lF (x:=b^j-1) (by omega) (by omega) h
  ·obtain⟨i,rfl⟩:∃ i,j=i+e:=⟨j-e,by omega⟩
   have h1:=lJ b2 (show i<e by omega)
   have h3:=Num.aA (show 0<b by omega) i
   have h4:=Num.aA (show 0<b by omega) e
   have h5:b^e+1∣b^i+1:=by
    obtain⟨c,hc⟩:=h
    refine⟨b^i-c,?_⟩
    rw [Pw.pow_add] at hc
    rw [Int.mul_sub,<- hc,Int.add_mul,Int.mul_comm (b^e)]
    omega
   exact lF (x:=b^i+1) (by omega) (by omega) h5
end K
namespace K
open PySem PySem.Spec PyProof.Rows L2
def gQ (kv:List (Int × Int)):List (Key × V):=kv.map λy=>(Sum.inl y.1,V.int y.2)
def nS:List (Int × Int)->Int->Int->List (Int × Int)
 | [],q,d=>[(q,d)]
 | y::r,q,d=>if y.1=q then (y.1,y.2+d)::r else y::nS r q d
def iI (kv:List (Int × Int)) (q:Int):Int:=((kv.find? λy=>decide (y.1=q)).map (·.2)).getD 0
theorem sA:∀(kv:List (Int × Int)) (q:Int),(d7 (gQ kv) (Sum.inl q)).getD (.int 0)=.int (iI kv q)
 | [],q=>rfl
 | y::r,q=>by
  by_cases h:y.1=q
  ·show (d7 ((Sum.inl y.1,V.int y.2)::gQ r) (Sum.inl q)).getD (.int 0)=_
   rw [eY (by rw [h])]
   simp [iI,List.find?_cons,h]
  ·show (d7 ((Sum.inl y.1,V.int y.2)::gQ r) (Sum.inl q)).getD (.int 0)=_
   rw [eX (λe=>h (Sum.inl.inj e)),sA r q]
   simp [iI,List.find?_cons,h]
theorem pK:∀{kv:List (Int × Int)} {q:Int},q∈kv.map (·.1)->d7 (gQ kv) (Sum.inl q)=some (.int (iI kv q))
 | y::r,q,hq=>by
  by_cases h:y.1=q
  ·show d7 ((Sum.inl y.1,V.int y.2)::gQ r) (Sum.inl q)=_
   rw [eY (by rw [h])]
   simp [iI,List.find?_cons,h]
  ·show d7 ((Sum.inl y.1,V.int y.2)::gQ r) (Sum.inl q)=_
   rw [List.map_cons] at hq
   rcases List.mem_cons.mp hq with z | z
   ·exact absurd z.symm h
   ·rw [eX (λe=>h (Sum.inl.inj e)),pK z]
    simp [iI,List.find?_cons,h]
theorem t4 {kvs:List (Key × V)} {p:Key × V} {k:Key} {v:V} (h:p.1=k) (n:∀ x∈kvs,x.1≠k):putK (p::kvs) k v=(p.1,v)::kvs:=by
 unfold putK
 rw [if_pos (by simp [h]),List.map_cons,if_pos h]
 congr 1
 refine (List.map_congr_left λx hx=>?_).trans (List.map_id _)
 rw [if_neg (n x hx)]
 rfl
theorem tZ {kvs:List (Key × V)} {p:Key × V} {k:Key} {v:V} (h:p.1≠k):putK (p::kvs) k v=p::putK kvs k v:=by
 unfold putK
 rw [List.any_cons,decide_eq_false h,Bool.false_or]
 split
 ·rw [List.map_cons,if_neg h]
 ·rfl
theorem su:∀{kv:List (Int × Int)} (q d:Int),(kv.map (·.1)).Nodup->putK (gQ kv) (Sum.inl q) (.int (iI kv q+d))=gQ (nS kv q d)
 | [],q,d,_=>by
  show [((Sum.inl q:Key),V.int (0+d))]=[((Sum.inl q:Key),V.int d)]
  rw [Int.zero_add]
 | y::r,q,d,hn=>by
  rw [List.map_cons,List.nodup_cons] at hn
  by_cases h:y.1=q
  ·have e1:iI (y::r) q=y.2:=by simp [iI,List.find?_cons,h]
   show putK ((Sum.inl y.1,V.int y.2)::gQ r) (Sum.inl q) _=gQ (if y.1=q then _ else _)
   rw [t4 (by rw [h]) (λx hx e=>?_),if_pos h,e1]
   ·rfl
   ·obtain⟨z,hz,rfl⟩:=List.mem_map.mp hx
    have:z.1=q:=Sum.inl.inj e
    exact hn.1 (by rw [h,<- this];exact List.mem_map.mpr ⟨z,hz,rfl⟩)
  ·have e1:iI (y::r) q=iI r q:=by simp [iI,List.find?_cons,h]
   show putK ((Sum.inl y.1,V.int y.2)::gQ r) (Sum.inl q) _=gQ (if y.1=q then _ else _)
   rw [tZ (λe=>h (Sum.inl.inj e)),if_neg h,e1,su q d hn.2]
   rfl
theorem qB:∀{kv:List (Int × Int)} {q d x:Int},x∈(nS kv q d).map (·.1)↔x=q∨x∈kv.map (·.1)
 | [],q,d,x=>by simp [nS]
 | y::r,q,d,x=>by
  unfold nS
  split
  ·rename_i h
   simp only [List.map_cons,List.mem_cons]
   constructor
   ·rintro (z | z)
    ·exact .inr (.inl z)
    ·exact .inr (.inr z)
   ·rintro (z | z | z)
    ·exact .inl (by rw [z,h])
    ·exact .inl z
    ·exact .inr z
  ·rw [List.map_cons,List.mem_cons,qB,List.map_cons,List.mem_cons]
   constructor
   ·rintro (z | z | z)
    ·exact .inr (.inl z)
    ·exact .inl z
    ·exact .inr (.inr z)
   ·rintro (z | z | z)
    ·exact .inr (.inl z)
    ·exact .inl z
    ·exact .inr (.inr z)
theorem nQ:∀{kv:List (Int × Int)} {q d:Int},(kv.map (·.1)).Nodup->((nS kv q d).map (·.1)).Nodup
 | [],q,d,_=>by simp [nS]
 | y::r,q,d,hn=>by
  rw [List.map_cons,List.nodup_cons] at hn
  unfold nS
  split
  ·rw [List.map_cons,List.nodup_cons]
   exact hn
  ·rename_i h
   rw [List.map_cons,List.nodup_cons]
   refine⟨λz=>?_,nQ hn.2⟩
   rcases qB.mp z with z | z
   ·exact h z
   ·exact hn.1 z
theorem uz:∀{kv:List (Int × Int)} {q d:Int} {y:Int × Int},y∈nS kv q d->y∈kv∨y=(q,d)∨∃ z∈kv,z.1=q/\y=(z.1,z.2+d)
 | [],q,d,y,h=>.inr (.inl (List.mem_singleton.mp h))
 | x::r,q,d,y,h=>by
  unfold nS at h
  split at h
  ·rename_i e
   rcases List.mem_cons.mp h with z | z
   ·exact .inr (.inr ⟨x,List.mem_cons_self ..,e,z⟩)
   ·exact .inl (List.mem_cons_of_mem _ z)
  ·rcases List.mem_cons.mp h with z | z
   ·exact .inl (by rw [z];exact List.mem_cons_self ..)
   ·rcases uz z with z | z | ⟨w,hw,z⟩
    ·exact .inl (List.mem_cons_of_mem _ z)
    ·exact .inr (.inl z)
    ·exact .inr (.inr ⟨w,List.mem_cons_of_mem _ hw,z⟩)
theorem qC:∀{kv:List (Int × Int)} {q d:Int},(∀ y∈kv,0<=y.2)->0<=d->Num.aH (nS kv q d)=Num.aH kv*q^d.toNat
 | [],q,d,_,_=>by show q^d.toNat*1=1*_;rw [Int.mul_one,Int.one_mul]
 | y::r,q,d,h,hd=>by
  have h0:=h y (List.mem_cons_self ..)
  unfold nS
  split
  ·rename_i e
   show y.1^(y.2+d).toNat*Num.aH r=y.1^y.2.toNat*Num.aH r*q^d.toNat
   rw [show (y.2+d).toNat=y.2.toNat+d.toNat by omega,Pw.pow_add,e,Int.mul_assoc,Int.mul_assoc,Int.mul_comm (q^d.toNat)]
  ·show y.1^y.2.toNat*Num.aH (nS r q d)=y.1^y.2.toNat*Num.aH r*q^d.toNat
   rw [qC (λz hz=>h z (List.mem_cons_of_mem _ hz)) hd,Int.mul_assoc]
theorem rF {a b:List (Int × Int)} (h:a.Perm b):Num.aH a=Num.aH b:=by
 induction h with
 | nil=>rfl
 | cons x _ ih=>show _*_=_*_;rw [ih]
 | swap x y l =>
  show _*(_*_)=_*(_*_)
  rw [<- Int.mul_assoc,<- Int.mul_assoc,Int.mul_comm (y.1^y.2.toNat)]
 | trans _ _ ih1 ih2=>exact ih1.trans ih2
end K
namespace K
open PySem PySem.Spec PyProof.Rows L2
section
variable {P:Program} {w:World} {K:PySem.W.Frag} {mg:Str->Option Value} {base:Heap}
theorem two_len:∀{ps:List (Int × Int)},(∀ y∈ps,2<=y.1/\1<=y.2)->(2:Int)^ps.length<=Num.aH ps
 | [],_=>by show (2:Int)^0<=1;decide
 | y::r,h=>by
  have ih:=two_len (ps:=r) λz hz=>h z (List.mem_cons_of_mem _ hz)
  obtain⟨h1,h2⟩:=h y (List.mem_cons_self ..)
  have h3:=b7 (show 1<=y.1 by omega) (show 1<=y.2.toNat by omega)
  rw [Int.pow_succ,Int.pow_zero,Int.one_mul] at h3
  have h4:=Num.aA (show (0:Int)<2 by decide) r.length
  show (2:Int)^(r.length+1)<=y.1^y.2.toNat*Num.aH r
  rw [Int.pow_succ,Int.mul_comm]
  exact Int.mul_le_mul (by omega) ih (by omega) (by omega)
def kF (K:PySem.W.Frag):Sp:=λvs H Q _=>∃(p:Addr) (l wh:Int) (f:Bool),vs=[.ref p,.int wh]/\H p=some (lW l f)/\sV l f/\1<=wh/\wh<=5000/\∀ E ps ds v H',iP E ps->ps.length<=29->wh∣E->1<=E->E<=10^59->(∀ i q k,ps[i]?=some (q,k)->Num.fb q (ds i))->Us p f H H'->dv K H' (.tuple (Num.rowsOf ps ds)) v->Q v H'
def Bc (p:Addr) (f:Bool) (wh:Int) (H:Hp) (d:Addr) (i:Nat) (σ:List (Option V)) (H':Hp):Prop:=Us p f H H'/\∃ kv o3 o4,σ=[some (.ref p),some (.int wh),some (.ref d),o3,o4]/\H' d=some (.dK (gQ kv))/\(kv.map (·.1)).Nodup/\(∀ y∈kv,Num.Pm y.1/\y.1<=5000/\1<=y.2/\y.2<=30+4*(i:Int))/\kv.length<=12+i/\∃ c,1<=c/\Num.aH kv=wh*c/\c<=10^(8*i)
theorem uy:∀(kv:List (Int × Int)) (q d:Int),(nS kv q d).length<=kv.length+1
 | [],q,d=>Nat.le_refl _
 | y::r,q,d=>by
  unfold nS
  split
  ·simp
  ·have:=uy r q d
   rw [List.length_cons,List.length_cons]
   omega
theorem mO:∀{kv:List (Int × Int)},(kv.map (·.1)).Nodup->(kv.map (·.1)).map (λq=>(q,iI kv q))=kv
 | [],_=>rfl
 | y::r,hn=>by
  rw [List.map_cons,List.nodup_cons] at hn
  rw [List.map_cons,List.map_cons]
  have e1:iI (y::r) y.1=y.2:=by simp [iI,List.find?_cons]
  rw [e1]
  congr 1
  have ih:=mO hn.2
  conv=>rhs;rw [<- ih]
  refine List.map_congr_left λq hq=>?_
  have:¬y.1=q:=λz=>hn.1 (by rw [z];exact hq)
  simp [iI,List.find?_cons,this]
theorem tX {H:Hp}:∀{ps:List (Int × Int)} {us:List V},aJ K H (ps.map rD) us->Ak K H us (ps.map λy=>(y.1,V.int y.2))
 | [],us,h=>by
  cases h
  exact .nil
 | y::r,us,h=>by
  obtain⟨x,rest,rfl,h1,h2⟩:=h
  obtain⟨pt,rfl,tt⟩:=gO h1
  exact .cons ⟨pt,rfl,tt⟩ (tX h2)
theorem zC {v:V} (hv:v∈[V.int 2,V.int 3,V.int 5,V.int 7,V.int 11,V.int 13,V.int 17,V.int 19,V.int 23,V.int 29,V.int 31,V.int 37,V.int 41,V.int 43,V.int 47,V.int 53,V.int 59,V.int 61,V.int 67,V.int 71,V.int 73,V.int 79,V.int 83,V.int 89,V.int 97]):∃ q:Int,v=.int q/\Num.Pm q/\q<=97:=by
 have key:∀ n:Nat,2<=n->n<100->(∀ k,k<n->2<=k->¬k∣n)->Num.Pm (n:Int):=λn h2 h9 h=>⟨by omega,λd d2 dn hd=>h d.toNat (by omega) (by omega) (Int.natCast_dvd_natCast.mp (by rw [show ((d.toNat:Nat):Int)=d by omega];exact hd))⟩
 simp only [List.mem_cons,List.not_mem_nil,or_false] at hv
 rcases hv with rfl | rfl | rfl | rfl | rfl | rfl | rfl | rfl | rfl | rfl | rfl | rfl | rfl | rfl | rfl | rfl | rfl | rfl | rfl | rfl | rfl | rfl | rfl | rfl | rfl
 ·exact⟨2,rfl,key 2 (by decide) (by decide) (by decide),by decide⟩
 ·exact⟨3,rfl,key 3 (by decide) (by decide) (by decide),by decide⟩
 ·exact⟨5,rfl,key 5 (by decide) (by decide) (by decide),by decide⟩
 ·exact⟨7,rfl,key 7 (by decide) (by decide) (by decide),by decide⟩
 ·exact⟨11,rfl,key 11 (by decide) (by decide) (by decide),by decide⟩
 ·exact⟨13,rfl,key 13 (by decide) (by decide) (by decide),by decide⟩
 ·exact⟨17,rfl,key 17 (by decide) (by decide) (by decide),by decide⟩
 ·exact⟨19,rfl,key 19 (by decide) (by decide) (by decide),by decide⟩
 ·exact⟨23,rfl,key 23 (by decide) (by decide) (by decide),by decide⟩
 ·exact⟨29,rfl,key 29 (by decide) (by decide) (by decide),by decide⟩
 ·exact⟨31,rfl,key 31 (by decide) (by decide) (by decide),by decide⟩
 ·exact⟨37,rfl,key 37 (by decide) (by decide) (by decide),by decide⟩
 ·exact⟨41,rfl,key 41 (by decide) (by decide) (by decide),by decide⟩
 ·exact⟨43,rfl,key 43 (by decide) (by decide) (by decide),by decide⟩
 ·exact⟨47,rfl,key 47 (by decide) (by decide) (by decide),by decide⟩
 ·exact⟨53,rfl,key 53 (by decide) (by decide) (by decide),by decide⟩
 ·exact⟨59,rfl,key 59 (by decide) (by decide) (by decide),by decide⟩
 ·exact⟨61,rfl,key 61 (by decide) (by decide) (by decide),by decide⟩
 ·exact⟨67,rfl,key 67 (by decide) (by decide) (by decide),by decide⟩
 ·exact⟨71,rfl,key 71 (by decide) (by decide) (by decide),by decide⟩
 ·exact⟨73,rfl,key 73 (by decide) (by decide) (by decide),by decide⟩
 ·exact⟨79,rfl,key 79 (by decide) (by decide) (by decide),by decide⟩
 ·exact⟨83,rfl,key 83 (by decide) (by decide) (by decide),by decide⟩
 ·exact⟨89,rfl,key 89 (by decide) (by decide) (by decide),by decide⟩
 ·exact⟨97,rfl,key 97 (by decide) (by decide) (by decide),by decide⟩
def Bb (K:PySem.W.Frag) (ps:List (Int × Int)) (H4:Hp) (i:Nat) (zs:List V) (H5:Hp):Prop:=az H4 H5/\∃ ds,(∀ j q k,(ps.take i)[j]?=some (q,k)->Num.fb q (ds j))/\aJ K H5 (Num.rowsOf (ps.take i) ds) zs
theorem eO:aw ["_law_state_here","_law_whole","_law_found","_law_k","_law_q"] ["_law_state_here","_law_whole"] (ai (top 44)):=d6
theorem oO (D:au K mg "_law_papers" (top 44)) (c__law_take:Callee P w K mg base aO 1 "_law_take" ["_law_state_here","_law_many"] jF) (c__law_parted:Callee P w K mg base aO 1 "_law_parted" ["_law_n"] (fm K)) (c__law_paper:Callee P w K mg base aO 32 "_law_paper" ["_law_p"] (kE K)) (n_dict:mg "dict"=none) (n_int:mg "int"=none) (n_range:mg "range"=none) (n_sorted:mg "sorted"=none) (n_tuple:mg "tuple"=none):Callee P w K mg base aO 33 "_law_papers" ["_law_state_here","_law_whole"] (kF K):=by
 refine cO D eO (λf cdv A outer s H vs Q E hr h=>?_)
 obtain⟨p,l,wh,f',rfl,hp,hl,w1,w9,q⟩:=h
 have nd:=eO.nd
 refine⟨_,(@ae _ _ _ _ _ (@gY _ _ 2 _ _ _ _ nd rfl (Or.inr rfl) (@cu _ _ _ _ _ _ _ _ _ (fM rfl) rfl n_dict L2.boot_dict (@aa _ _ _ _ _ (@bf _ _ _ _ _ _ _ _ _ _ _ _ c__law_parted (hr.mono (by decide)) rfl aD (@aa _ _ _ _ _ (pv 1) af (by rfl)) (by decide) (by rfl) (by rfl)) af (by rfl)) (by decide) (by decide) (by rfl) (by rfl)) (by rfl) (by first | exact .inl rfl | exact .inr rfl | assumption)) (@ae _ _ _ _ _ (@dQ _ _ _ _ _ _ _ _ PassesOwn.never rfl (@fh _ _ _ _ _ _ rfl n_range (@aa _ _ _ _ _ (@aq _ _ _ _ _ _ _ _ bw ag (@cu _ _ _ _ _ _ _ _ _ qH rfl n_int L2.boot_int (@aa _ _ _ _ _ (@bR _ _ _ _ _ _ _ _ cn (@bf _ _ _ _ _ _ _ _ _ _ _ _ c__law_take (hr.mono (by decide)) rfl aD (@aa _ _ _ _ _ (pv 0) (@aa _ _ _ _ _ ag af (by rfl)) (by rfl)) (by decide) (by rfl) (by rfl)) ag (aB _)) af (by rfl)) (by decide) (by decide) (by rfl) (by rfl))) af (by rfl)) (by rfl)) (ax (i:=3) nd rfl (Or.inl rfl) (.inr rfl)) (@ae _ _ _ _ _ (@gY _ _ 4 _ _ _ _ nd rfl (Or.inl rfl) (@aL _ _ _ _ _ _ _ lr (@fR _ _ _ _ (@pY _ _ _ rfl)) (@bf _ _ _ _ _ _ _ _ _ _ _ _ c__law_take (hr.mono (by decide)) rfl aD (@aa _ _ _ _ _ (pv 0) (@aa _ _ _ _ _ ag af (by rfl)) (by rfl)) (by decide) (by rfl) (by rfl)) (λ_ _=>rfl)) (by rfl) (by first | exact .inl rfl | exact .inr rfl | assumption)) (@aj _ _ _ (@lK _ _ _ _ _ _ _ _ _ (fA hr) (pv 2) (pv 4) (@aq _ _ _ _ _ _ _ _ bG (@aq _ _ _ _ _ _ _ _ bG (@tR _ _ _ _ _ _ _ _ _ (fA hr) (pv 2) (pv 4) ag ⟨rfl,rfl,rfl,rfl⟩) ag) (@bf _ _ _ _ _ _ _ _ _ _ _ _ c__law_take (hr.mono (by decide)) rfl aD (@aa _ _ _ _ _ (pv 0) (@aa _ _ _ _ _ ag af (by rfl)) (by rfl)) (by decide) (by rfl) (by rfl))) rfl))) (by intro _;rfl)) (@aj _ _ _ (@ay _ _ _ _ (@cu _ _ _ _ _ _ _ _ _ cz rfl n_tuple L2.boot_tuple (@aa _ _ _ _ _ (@dW _ _ _ _ _ _ _ _ _ _ _ _ _ _ rfl (oj (N':=["_law_q","_law_found"]) (js:=[none,some 2]) rfl rfl) (@b6 _ _ _ _ (@aF _ _ _ _ _ _ _ _ _ (kP rfl) rfl n_sorted PyProof.Rows.boot_sorted (@aa _ _ _ _ _ (pv 2) af (by rfl)) (by decide) (by decide) (by rfl) (by rfl))) (λ_ _ _ _=>(ax (i:=0) (show List.Nodup [("_law_q":Str),("_law_found":Str)] from by decide +kernel) rfl (Or.inl rfl) (.inr rfl))) (λ_ _ _ _=>bA) (λ_ _ _ _=>(@bj _ _ _ _ _ (@aa _ _ _ _ _ (@bf _ _ _ _ _ _ _ _ _ _ _ _ c__law_paper (hr.mono (by decide)) rfl aD (@aa _ _ _ _ _ (pv 0) af (by rfl)) (by decide) (by rfl) (by rfl)) (@aa _ _ _ _ _ (@fg _ _ _ _ _ _ (fA hr) (pv 1) (pv 0) (λ_ _=>rfl)) af (by rfl)) (by rfl)))) (by intro _;rfl)) af (by rfl)) (by decide) (by decide) (by rfl) (by rfl)))))),?_⟩
 show bT _ _ _ [some (.ref p),some (.int wh),none,none,none] H
 k_data
 refine⟨wh,rfl,w1,by omega,λps us pl H1 hP hl29 s1 f1 h1 hd=>?_⟩
 have ndp:(ps.map (·.1)).Nodup:=by
  rw [List.nodup_iff_pairwise_ne,List.pairwise_map]
  exact hP.rise.imp λh=>by omega
 have mm:(ps.map λy=>(y.1,V.int y.2)).map (·.1)=ps.map (·.1):=by rw [List.map_map];rfl
 refine⟨pl,us,ps.map (λy=>(y.1,V.int y.2)),rfl,aS.of h1,tX hd,by rw [mm];exact ndp,λd hd'=>?_⟩
 have ex:((ps.map λy=>(y.1,V.int y.2)).map λy=>((Sum.inl y.1:Key),y.2))=gQ ps:=by rw [List.map_map];rfl
 rw [ex]
 have hp1:=s1 _ _ hp
 have dp:d≠p:=λz=>by rw [z,hp1] at hd';cases hd'
 have hd0:H d=none:=by
  cases e:H d with
  | none=>rfl
  | some o=>rw [s1 _ _ e] at hd';cases hd'
 have U1:Us p f' H H1:=⟨⟨l,hl,hp1⟩,λq o n e=>s1 _ _ e⟩
 have U2:Us p f' H (upd H1 d (.dK (gQ ps))):=U1.lay hd'
 have e2:upd H1 d (.dK (gQ ps)) d=some (.dK (gQ ps)):=ah
 generalize upd H1 d _=H2 at *
 obtain⟨l2,k2,g2⟩:=U2.1
 refine⟨p,8,l2,f',rfl,g2,k2,by decide,by decide,λr H3 r0 r1 u3=>⟨gz,yG (by decide),?_⟩⟩
 have U3:=U2.trans u3.us
 have e3:H3 d=some (.dK (gQ ps)):=by rw [u3.ne dp];exact e2
 obtain⟨c,hc,c0,c1⟩:∃ c:Int,(if V.int r=V.int 0 then (1:Int) else 0)=c/\0<=c/\c<=1:=⟨_,rfl,by split<;>omega,by split<;>omega⟩
 rw [hc]
 refine⟨Bd.of (by omega) (by omega),by omega,by omega,?_⟩
 obtain⟨n,hn,n6⟩:∃ n:Nat,(6*c).toNat=n/\n<=6:=⟨_,rfl,by omega⟩
 rw [hn]
 have okP:∀ y∈ps,Num.Pm y.1/\y.1<=5000/\1<=y.2/\y.2<=30:=λy hy=>by
  obtain⟨a1,a2,a3⟩:=hP.ok y hy
  have:=(vH hP w1 y.1 (List.mem_map.mpr ⟨y,hy,rfl⟩)).2
  exact⟨a1,by omega,a2,a3⟩
 have pl12:ps.length<=12:=by
  have h2:=two_len λy hy=>⟨(okP y hy).1.two,(okP y hy).2.2.1⟩
  rw [hP.prod] at h2
  rcases (by omega:ps.length<=12∨13<=ps.length) with z | z
  ·exact z
  ·have h3:=b7 (show (1:Int)<=2 by decide) z
   have h4:(2:Int)^13=8192:=by decide
   omega
 refine dI (Bc p f' wh H d) ⟨U3,ps,none,none,rfl,e3,ndp,λy hy=>?_,by omega,1,by decide,by rw [hP.prod,Int.mul_one],by decide⟩ ?_ ?_
 ·obtain⟨a1,a2,a3,a4⟩:=okP y hy
  exact⟨a1,a2,a3,by omega⟩
 ·rintro i σ' H4 hi ⟨U4,kv,o3,o4,rfl,e4,nd4,ok4,len4,c4,c41,pr4,cb4⟩
  k_data
  refine⟨by show 25<=sizeLine;decide,λa1 ha1=>?_⟩
  have U5:=U4.lay (o:=.lst [V.int 2,V.int 3,V.int 5,V.int 7,V.int 11,V.int 13,V.int 17,V.int 19,V.int 23,V.int 29,V.int 31,V.int 37,V.int 41,V.int 43,V.int 47,V.int 53,V.int 59,V.int 61,V.int 67,V.int 71,V.int 73,V.int 79,V.int 83,V.int 89,V.int 97]) ha1
  have e5:upd H4 a1 (.lst [V.int 2,V.int 3,V.int 5,V.int 7,V.int 11,V.int 13,V.int 17,V.int 19,V.int 23,V.int 29,V.int 31,V.int 37,V.int 41,V.int 43,V.int 47,V.int 53,V.int 59,V.int 61,V.int 67,V.int 71,V.int 73,V.int 79,V.int 83,V.int 89,V.int 97]) a1=some (.lst [V.int 2,V.int 3,V.int 5,V.int 7,V.int 11,V.int 13,V.int 17,V.int 19,V.int 23,V.int 29,V.int 31,V.int 37,V.int 41,V.int 43,V.int 47,V.int 53,V.int 59,V.int 61,V.int 67,V.int 71,V.int 73,V.int 79,V.int 83,V.int 89,V.int 97]):=ah
  have ad:d≠a1:=λz=>by rw [<- z,e4] at ha1;cases ha1
  have e5d:upd H4 a1 (.lst [V.int 2,V.int 3,V.int 5,V.int 7,V.int 11,V.int 13,V.int 17,V.int 19,V.int 23,V.int 29,V.int 31,V.int 37,V.int 41,V.int 43,V.int 47,V.int 53,V.int 59,V.int 61,V.int 67,V.int 71,V.int 73,V.int 79,V.int 83,V.int 89,V.int 97]) d=some (.dK (gQ kv)):=by rw [ao ad];exact e4
  have ap:a1≠p:=λz=>by
   obtain⟨_,_,g⟩:=U4.1
   rw [z,g] at ha1;cases ha1
  generalize upd H4 a1 _=H5 at *
  obtain⟨l5,k5,g5⟩:=U5.1
  refine⟨p,25,l5,f',rfl,g5,k5,by decide,by decide,λr6 H6 r60 r61 u6=>?_⟩
  have U6:=U5.trans u6.us
  have e6:H6 a1=some (.lst [V.int 2,V.int 3,V.int 5,V.int 7,V.int 11,V.int 13,V.int 17,V.int 19,V.int 23,V.int 29,V.int 31,V.int 37,V.int 41,V.int 43,V.int 47,V.int 53,V.int 59,V.int 61,V.int 67,V.int 71,V.int 73,V.int 79,V.int 83,V.int 89,V.int 97]):=by rw [u6.ne ap];exact e5
  have e6d:H6 d=some (.dK (gQ kv)):=by rw [u6.ne dp];exact e5d
  refine lu (aS.of e6) r60 (by show _<(25:Int);omega) λv hv=>?_
  obtain⟨q',rfl,pq,q97⟩:=zC hv
  have q2:=pq.two
  clear e5 e6 hv
  unfold uj
  k_data
  refine⟨.inl ⟨_,.inl e6d⟩,_,fL.k (k:=Sum.inl q') e6d,iI kv q',sA kv q',?_⟩
  obtain⟨l6,k6,g6⟩:=U6.1
  refine⟨p,4,l6,f',rfl,g6,k6,by decide,by decide,λr7 H7 r70 r71 u7=>⟨r7,rfl,?_⟩⟩
  have U7:=U6.trans u7.us
  have e7d:H7 d=some (.dK (gQ kv)):=by rw [u7.ne dp];exact e6d
  have e8:iI kv q'+1+r7=iI kv q'+(1+r7):=by omega
  rw [e8]
  refine⟨_,mq.k (k:=Sum.inl q') e7d (Nat.lt_of_le_of_lt (show (gQ kv).length<=30 by unfold gQ;rw [List.length_map];omega) (by decide)),?_⟩
  rw [su q' (1+r7) nd4]
  have ul:=uy kv q' (1+r7)
  refine⟨U7.set hd0 dp,nS kv q' (1+r7),_,_,rfl,ah,nQ nd4,λy hy=>?_,by omega,c4*q'^(1+r7).toNat,?_,?_,?_⟩
  ·rcases uz hy with z | z | ⟨z,hz,z1,z2⟩
   ·obtain⟨b1,b2,b3,b4⟩:=ok4 y z
    exact⟨b1,b2,b3,by omega⟩
   ·rw [z]
    exact⟨pq,by show q'<=5000;omega,by show 1<=1+r7;omega,by show 1+r7<=_;omega⟩
   ·obtain⟨b1,b2,b3,b4⟩:=ok4 z hz
    rw [z2]
    exact⟨b1,b2,by show 1<=z.2+(1+r7);omega,by show z.2+(1+r7)<=_;omega⟩
  ·have:=Num.aA (show 0<q' by omega) (1+r7).toNat
   have:=Int.mul_pos (show 0<c4 by omega) this
   omega
  ·rw [qC (λy hy=>by have:=(ok4 y hy).2.2.1;omega) (by omega),pr4,Int.mul_assoc]
  ·have h1:=b7 (show 1<=q' by omega) (show (1+r7).toNat<=4 by omega)
   have h2:q'^4<=97^4:=by
    have h3:=Int.mul_le_mul q97 q97 (by omega) (by decide)
    have h4:=Int.mul_le_mul h3 h3 (Int.mul_nonneg (by omega) (by omega)) (by decide)
    have h5:q'^4=q'*q'*(q'*q'):=by rw [Int.pow_succ,Int.pow_succ,Int.pow_succ,Int.pow_succ,Int.pow_zero,Int.one_mul,Int.mul_assoc (q'*q')]
    rw [h5]
    exact Int.le_trans h4 (by decide)
   have h6:(97:Int)^4<=10^8:=by decide
   have h7:=Num.aA (show 0<q' by omega) (1+r7).toNat
   have h8:=Num.aA (show (0:Int)<10 by decide) (8*i)
   have h9:=Int.mul_le_mul cb4 (show q'^(1+r7).toNat<=10^8 by omega) (by omega) (by omega)
   rw [show 8*(i+1)=8*i+8 from rfl,Pw.pow_add]
   exact h9
 ·rintro σ' H4 ⟨U4,kv,o3,o4,rfl,e4,nd4,ok4,len4,c4,c41,pr4,cb4⟩
  k_data
  refine⟨d,gQ kv,kv.map (·.1),rfl,e4,by unfold gQ;rw [List.map_map,List.map_map];rfl,λa ns' perm srt ha=>⟨a,rfl,⟨_,aS.of ah⟩,?_⟩⟩
  have U5:=U4.lay (o:=.lst (ns'.map V.int)) ha
  have e5:upd H4 a (.lst (ns'.map V.int)) a=some (.lst (ns'.map V.int)):=ah
  have ad:d≠a:=λz=>by rw [<- z,e4] at ha;cases ha
  have e5d:upd H4 a (.lst (ns'.map V.int)) d=some (.dK (gQ kv)):=by rw [ao ad];exact e4
  generalize upd H4 a _=H5 at *
  have nl:ns'.length=kv.length:=by rw [perm.length_eq,List.length_map]
  have nm:∀ q∈ns',q∈kv.map (·.1):=λq hq=>perm.mem_iff.mp hq
  obtain⟨ql,hql⟩:∃ ql:List (Int × Int),ns'.map (λq=>(q,iI kv q))=ql:=⟨_,rfl⟩
  have qk:ql.Perm kv:=by
   rw [<- hql]
   have:=perm.map λq=>(q,iI kv q)
   rwa [mO nd4] at this
  have qlen:ql.length=kv.length:=qk.length_eq
  refine bX (xs:=ns'.map V.int) (λi zs H6=>Bb K ql H5 i zs H6) ⟨az.refl _,λ_=>.none,λj q k z=>by simp at z,rfl⟩ (by rw [List.length_map,nl];exact Nat.le_trans (show kv.length<=30 by omega) (by decide)) (λi zs H6 hi ⟨z1,ds,z2,z3⟩=>⟨aS.of (z1 _ _ e5),by rw [z3.length,Num.aV,List.length_take];omega⟩) ?_ ?_
  ·rintro i v zs H6 hx ⟨s6,ds,hds,hz⟩
   rw [List.getElem?_map] at hx
   obtain⟨q',hq',rfl⟩:=Option.map_eq_some_iff.mp hx
   have hy:ql[i]?=some (q',iI kv q'):=by rw [<- hql,List.getElem?_map,hq'];rfl
   have ym:=qk.mem_iff.mp (List.mem_of_getElem? hy)
   obtain⟨b1,b2,b3,b4⟩:=ok4 _ ym
   replace b1:Num.Pm q':=b1
   replace b2:q'<=5000:=b2
   show cH 0 _ [none,some (.ref d)] _ _
   k_data
   refine⟨⟨rfl,True.intro⟩,q',rfl,b1,by omega,λdd v H7 hp7 s7 hv7=>?_⟩
   have e7d:H7 d=some (.dK (gQ kv)):=(s6.trans s7) _ _ e5d
   refine⟨_,by rw [<- pK (nm q' (List.mem_of_getElem? hq'))];exact fL.k (k:=Sum.inl q') e7d,by show 2<=sizeLine;decide,λp8 hp8=>?_⟩
   have s8:=ak (o:=.tup [v,V.int (iI kv q')]) hp8
   have tk:ql.take (i+1)=ql.take i++[(q',iI kv q')]:=by rw [List.take_add_one,hy];rfl
   have il:i<ql.length:=(List.getElem?_eq_some_iff.mp hy).1
   have tl:(ql.take i).length=i:=by rw [List.length_take];omega
   refine⟨(s6.trans s7).trans s8,λj=>if j=i then dd else ds j,λj q k hj=>?_,?_⟩
   ·rw [tk] at hj
    rcases (by omega:j<i∨j=i∨i<j) with z | z | z
    ·rw [List.getElem?_append_left (by omega)] at hj
     show Num.fb q (if j=i then dd else ds j)
     rw [if_neg (by omega)]
     exact hds j q k hj
    ·subst z
     rw [List.getElem?_append_right (by omega),tl,Nat.sub_self] at hj
     show Num.fb q (if j=j then dd else ds j)
     rw [if_pos rfl]
     cases hj
     exact hp7
    ·rw [List.getElem?_eq_none (by simp;omega)] at hj
     cases hj
   ·rw [tk,iu (ds:=ds) (λj hj=>if_neg (by omega)),tl,if_pos rfl]
    exact aJ.append (aJ.same (s7.trans s8) _ hz) (.one (dv.tup ah ⟨_,_,rfl,dv.same s8 _ hv7,.one rfl⟩))
  ·rintro zs H6 p6 ⟨s6,ds,hds,hz⟩ hp6
   rw [List.length_map,nl,<- qlen,List.take_length] at hds hz
   have s7:=ak (o:=.lst zs) hp6
   refine⟨p6,rfl,zs,.inl ⟨aS.of ah,λl' hl'=>?_⟩⟩
   generalize upd H6 p6 _=H7 at *
   have s8:=ak (o:=.tup zs) hl'
   have h8:=Num.aA (show (0:Int)<10 by decide) (8*n)
   have h9:(10:Int)^(8*n)<=10^48:=b7 (by decide) (by omega)
   have h10:=Int.mul_le_mul w9 (show c4<=10^48 by omega) (by omega) (by decide)
   have h11:=Int.mul_pos (show 0<wh by omega) (show 0<c4 by omega)
   have S8:=(s6.trans s7).trans s8
   refine q (wh*c4) ql ds _ _ ⟨λy hy=>?_,?_,by rw [rF qk,pr4]⟩ (by omega) ⟨c4,rfl⟩ (by omega) (by omega) hds ?_ (dv.tup ah (aJ.same (s7.trans s8) _ hz))
   ·obtain⟨b1,b2,b3,b4⟩:=ok4 y (qk.mem_iff.mp hy)
    exact⟨b1,b3,by omega⟩
   ·rw [<- hql,List.pairwise_map]
    have ndn:ns'.Nodup:=perm.nodup_iff.mpr nd4
    rw [List.nodup_iff_pairwise_ne] at ndn
    refine (srt.and ndn).imp λh=>?_
    show _<_
    have:=h.1
    have:=h.2
    omega
   ·exact⟨by obtain⟨l',k',g'⟩:=U5.1;exact⟨l',k',S8 _ _ g'⟩,λx o n e=>S8 _ _ (U5.2 x o n e)⟩
end
end K
namespace K
open PySem PySem.Spec PyProof.Rows L2
structure KO (p a e:Int) (ks:List (PyData × Int × Int)):Prop where
 e1:1<=e
 e2:e<p
 ord:Num.Ord p a e.toNat
 len:ks.length<=29
 pap:∀ y∈ks,Num.fb y.2.1 y.1/\1<=y.2.2/\y.2.2<=10^6
 up:ks.Pairwise (λx y=>x.2.1<y.2.1)
 prod:(Num.eN (ks.map kp):Int)=e
theorem sO {ps:List (Int × Int)} {ds:Nat->PyData} {ts:List Int} {i:Nat} {b:PyData × Int × Int} (e:kf ps ds ts i=some b):∃ k,ps[i]?=some (b.2.1,k):=by
 unfold kf at e
 cases hp:ps[i]? with
 | none=>rw [hp] at e;cases e
 | some z =>
  cases ht:ts[i]? with
  | none=>rw [hp,ht] at e;cases e
  | some t =>
   rw [hp,ht] at e
   have e':(if 0<t then some (ds i,z.1,t) else none)=some b:=e
   by_cases c:0<t
   ·rw [if_pos c] at e'
    cases e'
    exact⟨z.2,rfl⟩
   ·rw [if_neg c] at e'
    cases e'
theorem two_k {k:Nat} (h:(2:Int)^k<=10^59):k<=199:=by
 rcases (by omega:k<=199∨200<=k) with z | z
 ·exact z
 ·have h1:=b7 (show (1:Int)<=2 by decide) z
  have h2:(10:Int)^59<2^200:=by decide
  omega
theorem zg {E p a:Int} {rows r:PyData} (p9:p<=10^59) (h:bN E p a rows r):∃ e ks,r=.tuple [.int e,.tuple (ks.map (bM p a e))]/\KO p a e ks:=by
 obtain⟨e,ps,ds,ts,rfl,hP,hl29,hds,e1,e2,oe,hT,rfl⟩:=h
 have tl:ts.length=ps.length:=hT.len
 have ez:e.toNat=Num.eN ((ps.map (·.1)).zip ts):=oe.i8 hT.ord
 have eZ:Num.eN ((aZ ps ds ts ps.length).map kp)=Num.eN ((ps.map (·.1)).zip ts):=by
  rw [gR tl hT.nn _ (Nat.le_refl _),List.take_of_length_le]
  rw [List.length_zip,List.length_map]
  omega
 refine⟨e,fP ps ds ts,rfl,e1,e2,oe,Nat.le_trans cT hl29,λy hy=>?_,?_,?_⟩
 ·obtain⟨i,k,h1,h2,h3,h4⟩:=fQ hy
  refine⟨by rw [h4];exact hds i _ _ h1,by omega,?_⟩
  have hz:((ps.map (·.1)).zip ts)[i]?=some (y.2.1,y.2.2):=by
   rw [List.getElem?_zip_eq_some]
   exact⟨by rw [List.getElem?_map,h1];rfl,h2⟩
  have two:∀ z∈(ps.map (·.1)).zip ts,2<=z.1:=λz hz=>by
   obtain⟨w',hw',e'⟩:=List.mem_map.mp (List.of_mem_zip (show (z.1,z.2)∈_ from hz)).1
   rw [<- e']
   exact (hP.ok w' hw').1.two
  have g1:=(pH two hz (j:=y.2.2.toNat) (Nat.le_refl _)).1
  have e0:Num.eN (((ps.map (·.1)).zip ts).take i)≠0:=pJ λy z=>two y (List.mem_of_mem_take z)
  have g2:y.2.1.toNat^y.2.2.toNat<=e.toNat:=Nat.le_trans (Nat.le_mul_of_pos_left _ (Nat.pos_of_ne_zero e0)) (by rw [ez];exact g1)
  have q2:2<=y.2.1:=(hP.ok _ (List.mem_of_getElem? h1)).1.two
  have g3:(2:Int)^y.2.2.toNat<=y.2.1^y.2.2.toNat:=Num.two_pow_le q2 _
  have g4:y.2.1^y.2.2.toNat=((y.2.1.toNat^y.2.2.toNat:Nat):Int):=by rw [Int.natCast_pow,show (y.2.1.toNat:Int)=y.2.1 by omega]
  have g5:y.2.2.toNat<=199:=two_k (by omega)
  omega
 ·unfold fP aZ
  rw [List.pairwise_filterMap]
  refine List.Pairwise.imp_of_mem (R:=(·<·)) (λ{i j} hi hj hij b hb b' hb'=>?_) List.pairwise_lt_range
  obtain⟨k,h1⟩:=sO hb
  obtain⟨k',h2⟩:=sO hb'
  have hr:=hP.rise
  rw [List.pairwise_iff_getElem] at hr
  obtain⟨l1,g1⟩:=List.getElem?_eq_some_iff.mp h1
  obtain⟨l2,g2⟩:=List.getElem?_eq_some_iff.mp h2
  have:=hr i j l1 l2 hij
  rw [g1,g2] at this
  exact this
 ·show (Num.eN ((aZ ps ds ts ps.length).map kp):Int)=e
  rw [eZ,<- ez]
  omega
theorem wj {p a e:Int}:∀{ks:List (PyData × Int × Int)} {t:Int},(∀ y∈ks,Num.fb y.2.1 y.1/\1<=y.2.2/\t<y.2.1)->ks.Pairwise (λx y=>x.2.1<y.2.1)->CT 3 (Num.eN (ks.map kp):Int) t (ks.map (bM p a e))
 | [],t,_,_=>rfl
 | y::ks,t,h,pw=>by
  obtain⟨h1,h2,h3⟩:=h y (List.mem_cons_self ..)
  obtain⟨p1,p2⟩:=List.pairwise_cons.mp pw
  have q2:=(ja h1).1.two
  have ih:=wj (p:=p) (a:=a) (e:=e) (ks:=ks) (t:=y.2.1) (λz hz=>⟨(h z (List.mem_cons_of_mem _ hz)).1,(h z (List.mem_cons_of_mem _ hz)).2.1,p1 z hz⟩) p2
  obtain⟨g,rows,eg⟩:=h1.head
  have e1:((Num.eN ((y::ks).map kp):Nat):Int)=y.2.1^y.2.2.toNat*(Num.eN (ks.map kp):Int):=by
   show ((y.2.1.toNat^y.2.2.toNat*Num.eN (ks.map kp):Nat):Int)=_
   rw [Int.natCast_mul,Int.natCast_pow,show (y.2.1.toNat:Int)=y.2.1 by omega]
  have pp:=Num.aA (show 0<y.2.1 by omega) y.2.2.toNat
  have i1:=iS ih
  refine⟨?_,y.2.1,g,y.2.2,rows,[.int (a^(e/y.2.1).toNat%p)],?_,rfl,q2,h2,h3,_,.inl ⟨⟨_,e1⟩,e1⟩,ih⟩
  ·rw [e1]
   have:=Int.mul_le_mul (show 1<=y.2.1^y.2.2.toNat by omega) i1 (by omega) (by omega)
   omega
  ·show PyData.tuple [y.1,.int y.2.2,.int _]=_
   rw [eg]
theorem KO.ct {p a e:Int} {ks:List (PyData × Int × Int)} (h:KO p a e ks):CT 3 e 1 (ks.map (bM p a e)):=by
 have:=wj (p:=p) (a:=a) (e:=e) (ks:=ks) (t:=1) (λy hy=>⟨(h.pap y hy).1,(h.pap y hy).2.1,by have:=(ja (h.pap y hy).1).1.two;omega⟩) h.up
 rwa [h.prod] at this
theorem si:∀{zs:List (Int × Int)} {q k:Int},(q,k)∈zs->1<=k->q.toNat∣Num.eN zs
 | z::zs,q,k,h,hk=>by
  show q.toNat∣z.1.toNat^z.2.toNat*Num.eN zs
  rcases List.mem_cons.mp h with c | c
  ·subst c
   obtain⟨j,hj⟩:∃ j,k.toNat=j+1:=⟨k.toNat-1,by omega⟩
   rw [show (q,k).2.toNat=j+1 from hj,Nat.pow_succ]
   exact Nat.dvd_trans (Nat.dvd_mul_left ..) (Nat.dvd_mul_right ..)
  ·exact Nat.dvd_trans (si c hk) (Nat.dvd_mul_left ..)
theorem KO.op {p a e:Int} {ks:List (PyData × Int × Int)} (p2:2<=p) (h:KO p a e ks):OP p a (.tuple [.int e,.tuple (ks.map (bM p a e))]):=by
 refine⟨e,_,rfl,h.ct,(cR p2).mpr h.ord.one,λrow hr=>?_,λrow hr=>?_⟩
 ·obtain⟨y,hy,rfl⟩:=List.mem_map.mp hr
  obtain⟨h1,h2,_⟩:=h.pap y hy
  obtain⟨g,rows,eg⟩:=h1.head
  have q2:=(ja h1).1.two
  refine⟨y.2.1,_,y.2.2,a^(e/y.2.1).toNat%p,by show PyData.tuple [y.1,.int y.2.2,.int _]=_;rw [eg],λz=>?_,rfl⟩
  have d:=si (zs:=ks.map kp) (q:=y.2.1) (k:=y.2.2) (List.mem_map.mpr ⟨y,hy,rfl⟩) h2
  have d':y.2.1∣e:=by
   have:=Int.natCast_dvd_natCast.mpr d
   rwa [h.prod,show (y.2.1.toNat:Int)=y.2.1 by omega] at this
  obtain⟨c,hc⟩:=d'
  have e1:=h.e1
  have c0:0<c:=by
   rcases (by omega:0<c∨c<=0) with z | z
   ·exact z
   ·have:=Int.mul_le_mul_of_nonneg_left z (show 0<=y.2.1 by omega)
    omega
  have ec:e/y.2.1=c:=by rw [hc,Int.mul_ediv_cancel_left _ (by omega)]
  rw [ec] at z
  have:=Nat.le_of_dvd (by omega) (h.ord.dv _ ((cR p2).mp z))
  have:=Int.mul_le_mul_of_nonneg_right q2 (show 0<=c by omega)
  omega
 ·obtain⟨y,hy,rfl⟩:=List.mem_map.mp hr
  exact yb (h.pap y hy).1
theorem KO.sm {p a e:Int} {ks:List (PyData × Int × Int)} (p9:p<=10^59) (p2:2<=p) (h:KO p a e ks):∀ row∈ks.map (bM p a e),gE row/\di row<=361:=λrow hr=>by
 obtain⟨y,hy,rfl⟩:=List.mem_map.mp hr
 obtain⟨h1,h2,h3⟩:=h.pap y hy
 have s1:=tM h1
 have s2:=kq h1
 have:=Int.emod_lt_of_pos (a^(e/y.2.1).toNat) (show 0<p by omega)
 simp only [bM,gE,cw,di,bh]
 exact⟨⟨s1,by omega,by omega,trivial⟩,by omega⟩
end K
namespace K
open PySem PySem.Spec PyProof.Rows L2
section
variable {P:Program} {w:World} {K:PySem.W.Frag} {mg:Str->Option Value} {base:Heap}
def qi (K:PySem.W.Frag):Sp:=λvs H Q _=>∃(p:Addr) (l n a e:Int) (f:Bool) (ks:List (PyData × Int × Int)) (v:V) (H0:Hp),vs=[.ref p,.int n,.int a,v]/\H p=some (lW l f)/\sV l f/\az H0 H/\H0 p=none/\2<=n/\n<=10^59/\KO n a e ks/\dv K H0 (.tuple [.int e,.tuple (ks.map (bM n a e))]) v/\∀ H',Us p f H H'->Q (.bl true) H'
structure Hid (T:Prop):Prop where
 un:T
theorem mE {T G:Prop} (m:Hid T->G) (t:T):G:=m ⟨t⟩
theorem ly:∀{ds:List PyData},(∀ d∈ds,d.canLay0=true)->PyData.canLayAll0 ds=true
 | [],_=>by simp [PyData.canLayAll0]
 | d::ds,h=>by
  simp only [PyData.canLayAll0,Bool.and_eq_true]
  exact⟨h d (List.mem_cons_self ..),ly λe z=>h e (List.mem_cons_of_mem _ z)⟩
theorem vF {n:Int} {d:PyData} (h:Num.fb n d):d.canLay0=true:=by
 induction h with
 | mk n g ps ds h1 h2 h3 h4 h5 h6 ih =>
  simp only [PyData.canLay0,PyData.canLayAll0,Bool.and_true,Bool.true_and]
  refine ly λr hr=>?_
  obtain⟨i,q,k,h,rfl⟩:=jq hr
  simp only [PyData.canLay0,PyData.canLayAll0,Bool.and_true]
  exact ih i q k h
theorem kM {α:Type} {xs:List α} {i:Nat} {v:α} (h:xs[i]?=some v):o7 xs (i:Int)=some v:=by
 have hl:=(List.getElem?_eq_some_iff.mp h).1
 unfold o7 vi
 rw [if_pos (by omega),if_pos (by omega),Option.bind_some,Int.toNat_natCast]
 exact h
def Be (H:Hp) (s0:List (Option V)) (σ:List (Option V)) (H':Hp):Prop:=az H H'/\∃ o,σ=s0++[o]
theorem qx {m:Nat}:∀{l:List PyData},(∀ r∈l,di r<=m)->bh l<=m*l.length
 | [],_=>Nat.zero_le _
 | x::r,hl=>by
  have h1:=qx (l:=r) λy z=>hl y (List.mem_cons_of_mem _ z)
  have h2:=hl x (List.mem_cons_self ..)
  show di x+bh r<=m*(r.length+1)
  rw [Nat.mul_succ]
  omega
theorem eK:aw ["_law_state_here","_law_n","_law_a","_law_due","_law_at","_law_paper_here","_law_many","_law_rest","_law_other"] ["_law_state_here","_law_n","_law_a","_law_due"] (ai (top 45)):=d6
theorem sW (D:au K mg "_law_let_by" (top 45)) (c__law_take:Callee P w K mg base aO 1 "_law_take" ["_law_state_here","_law_many"] jF) (c__law_power:Callee P w K mg base aO 1 "_law_power" ["_law_n","_law_a","_law_e"] dF) (c_is_order_paper:Callee P w K mg base aO 8 "is_order_paper" ["n","a","thing"] (zI K)) (n_len:mg "len"=none):Callee P w K mg base aO 9 "_law_let_by" ["_law_state_here","_law_n","_law_a","_law_due"] (qi K):=by
 refine cO D eK (λf cdv A outer s H vs Q E hr h=>?_)
 obtain⟨p,l,n,a,e,f',ks,v,H0,rfl,hp,hl,s0,f0,n2,n9,hK,hd0,q⟩:=h
 have nd:=eK.nd
 refine⟨_,(ae (bt (aC lG (b0 c_is_order_paper hr aD (aa (pv 1) (aa (pv 2) (aa (pv 3) af)))) bU (aB _)) (aj (ay bU)) aG) (ae (bt (PW.pt (lN (aC i9 (b0 c__law_power hr aD (aa (aq bG (pv 1) ag) (aa (pv 2) (aa (aL aW (pv 3) ag (λ_ _=>rfl)) af)))) ag (aB _)) (lO (aC lG (b0 c_is_order_paper hr aD (aa (aq bG (pv 1) ag) (aa (pv 2) (aa (pv 3) af)))) bU (aB _))))) (aj (ay bU)) aG) (ae (bt (aC (x9 hr.units) (aL aW (pv 3) ag (λ_ _=>rfl)) (bj af) (aB _)) (aj (ay bU)) aG) (ae (bY (i:=4) nd (b0 c__law_take hr aD (aa (pv 0) (aa (aF cq rfl n_len PySem.boot_len (aa (aL aW (pv 3) ag (λ_ _=>rfl)) af)) af)))) (ae (ji (aL aW (aL aW (pv 3) ag (λ_ _=>rfl)) (pv 4) (λ_ _=>rfl)) (eI (n:=3) rfl (aE (ax (i:=5) nd rfl (Or.inl rfl) (.inr rfl)) (aE (ax (i:=6) nd rfl (Or.inl rfl) (.inr rfl)) (aE (ax (i:=7) nd rfl (Or.inl rfl) (.inr rfl)) bJ))))) (ae (dQ PassesOwn.never rfl (b6 (fR (aa (bj (aa (bj (aa (pv 5) (aa (pv 6) (aa (aq bG (pv 7) ag) af)))) af)) (aa (bj (aa (bj (aa (pv 5) (aa (aq bG (pv 6) ag) (aa (pv 7) af)))) af)) (aa (bj af) af))))) (ax (i:=8) nd rfl (Or.inl rfl) (.inr rfl)) (aj (bt (aC lG (b0 c_is_order_paper hr aD (aa (pv 1) (aa (pv 2) (aa (bj (aa (aL aW (pv 3) ag (λ_ _=>rfl)) (aa (aq pX (aq pX (eG qh (aL aW (pv 3) ag (λ_ _=>rfl)) gk (gm (pv 4))) (pv 8)) (eG qh (aL aW (pv 3) ag (λ_ _=>rfl)) (gm (aq bG (pv 4) ag)) gk)) af))) af)))) bU (aB _)) (aj (ay bU)) aG))) (aj (ay bU)))))))),?_⟩
 show bT _ _ _ [some (.ref p),some (.int n),some (.int a),some v,none,none,none,none,none] H
 k_data
 obtain⟨rows,hrows⟩:∃ rows,ks.map (bM n a e)=rows:=⟨_,rfl⟩
 have hop:=hK.op n2
 have hct:=hK.ct
 have hsm:=hK.sm n9 n2
 have rl:rows.length<=29:=by rw [<- hrows,List.length_map];exact hK.len
 have e1:=hK.e1
 have e2:=hK.e2
 have lay:PyData.canLay0 (.tuple (ks.map (bM n a e)))=true:=by
  simp only [PyData.canLay0]
  refine ly λr hr=>?_
  obtain⟨y,hy,rfl⟩:=List.mem_map.mp hr
  simp only [bM,PyData.canLay0,PyData.canLayAll0,Bool.and_true]
  exact vF (hK.pap y hy).1
 rw [hrows] at hd0 hop hct hsm lay
 have smd:∀(ds:List PyData),(∀ r∈ds,gE r/\di r<=400)->ds.length<=60->gE (.tuple [.int e,.tuple ds])/\di (.tuple [.int e,.tuple ds])<=10^6:=λds h hl=>by
  have h1:=qx λr hr=>(h r hr).2
  have h2:=Nat.mul_le_mul_left 400 hl
  simp only [gE,cw,di,bh]
  exact⟨⟨by omega,gF λr hr=>(h r hr).1,trivial⟩,by omega⟩
 have smr:=smd rows (λr hr=>⟨(hsm r hr).1,by have:=(hsm r hr).2;omega⟩) (by omega)
 have hd1:=hd0
 obtain⟨pv,xv,rfl,hSv,y1,r1,rfl,z1,y2,r2,rfl,z2,z3⟩:=hd0
 cases z3
 cases z1
 have z20:=z2
 obtain⟨pr,xs,rfl,hSr,dd⟩:=z2
 have xl:=dd.length
 refine⟨n,a,_,_,rfl,n2,by omega,dv.same s0 _ hd1,smr.1,smr.2,λb H1 hb s1=>⟨b,rfl,?_⟩⟩
 obtain rfl:b=true:=hb.mpr hop
 rw [if_neg (by decide)]
 have S1:=s0.trans s1
 refine bF (hSv.same S1) iF ⟨n+1,a,e,rfl,by omega,by omega,by omega,gz,?_⟩
 refine' mE (λtl=>?main) ?tail
 case main =>
  refine aP (λc=>⟨n+1,a,_,_,rfl,by omega,by omega,dv.same S1 _ hd1,smr.1,smr.2,λb H2 hb2 s2=>⟨b,rfl,?_⟩⟩) (λc=>?_)
  ·obtain rfl:b=false:=by
    cases b with
    | false=>rfl
    | true =>
     obtain⟨e',rows',ee,_,h3,_⟩:=hb2.mp rfl
     cases ee
     exact absurd (by rw [h3]) c
   rw [if_neg (by decide)]
   clear hb2
   revert H2
   exact tl.un
  ·exact tl.un H1 (az.refl _)
 intro H2 s2
 have S2:=S1.trans s2
 refine bF (hSv.same S2) we ⟨by show 0<=sizeLine;decide,λa3 ha3=>?_⟩
 have s3:=ak (o:=.tup []) ha3
 have e3:upd H2 a3 (.tup []) a3=some (.tup []):=ah
 generalize upd H2 a3 _=H3 at *
 have S3:=S2.trans s3
 have hp3:=((s1.trans s2).trans s3) _ _ hp
 have us3:Us p f' H H3:=⟨⟨l,hl,hp3⟩,λx o _ ex=>((s1.trans s2).trans s3) _ _ ex⟩
 refine⟨.tuple rows,.tuple [],dv.same S3 _ z20,dv.tup e3 rfl,lay,by simp [PyData.canLay0,PyData.canLayAll0],Nat.le_trans (Nat.min_le_right ..) (by simp [PyData.depth,PyData.depthAll]),_,rfl,?_⟩
 refine aP (λc=>q _ us3) (λc=>?_)
 have rne:rows≠[]:=λz=>c (by rw [z];simp [PyData.eqv,PyData.eqvAll])
 have r0:0<xs.length:=by
  rw [xl]
  exact List.length_pos_iff.mpr rne
 refine bF (hSv.same S3) we (iM (hSr.same S3) ?_)
 refine⟨p,_,l,f',rfl,hp3,hl,by omega,by omega,λr H4 q0 q1 u4=>?_⟩
 have S4:=u4.us.same S3 f0
 have us4:=us3.trans u4.us
 obtain⟨i,rfl⟩:∃ i:Nat,r=(i:Int):=⟨r.toNat,by omega⟩
 have il:i<xs.length:=by omega
 obtain⟨x,hx⟩:∃ x,xs[i]?=some x:=⟨_,List.getElem?_eq_getElem il⟩
 obtain⟨row,hr',hvr⟩:=dd.get hx
 obtain⟨y,hy,rfl⟩:∃ y∈ks,bM n a e y=row:=by
  have:=List.mem_of_getElem? hr'
  rw [<- hrows] at this
  exact List.mem_map.mp this
 obtain⟨hpap,k1,k2⟩:=hK.pap y hy
 have psm:=tM hpap
 have psz:=kq hpap
 obtain⟨R,hR⟩:∃ R,a^(e/y.2.1).toNat%n=R:=⟨_,rfl⟩
 have R1:=Int.emod_lt_of_pos (a^(e/y.2.1).toNat) (show 0<n by omega)
 rw [hR] at R1
 have hrow:rows[i]?=some (.tuple [y.1,.int y.2.2,.int R]):=by rw [hr',<- hR];rfl
 replace hvr:dv K H0 (.tuple [y.1,.int y.2.2,.int (a^(e/y.2.1).toNat%n)]) x:=hvr
 rw [hR] at hvr
 obtain⟨pt,x1,x2,x3,rfl,hT,g1,g2,g3⟩:=xG hvr
 cases g2
 cases g3
 obtain⟨gg,rs,eg⟩:=hpap.head
 refine bF (hSv.same S4) we (bF (hSr.same S4) (kM hx) ⟨pt,_,rfl,hT.same S4,rfl,?_⟩)
 k_data
 refine⟨by show 3<=sizeLine;decide,λa5 ha5=>?_⟩
 have s5:=ak (o:=.tup [x1,V.int y.2.2,V.int (R+1)]) ha5
 have e5:upd H4 a5 (.tup [x1,V.int y.2.2,V.int (R+1)]) a5=some (.tup [x1,V.int y.2.2,V.int (R+1)]):=ah
 generalize upd H4 a5 _=H5 at *
 have T5:=s5
 refine⟨by show 1<=sizeLine;decide,λa6 ha6=>?_⟩
 have s6:=ak (o:=.tup [V.ref a5]) ha6
 have e6:upd H5 a6 (.tup [V.ref a5]) a6=some (.tup [V.ref a5]):=ah
 generalize upd H5 a6 _=H6 at *
 have T6:=T5.trans s6
 refine⟨by show 3<=sizeLine;decide,λa7 ha7=>?_⟩
 have s7:=ak (o:=.tup [x1,V.int (y.2.2+1),V.int R]) ha7
 have e7:upd H6 a7 (.tup [x1,V.int (y.2.2+1),V.int R]) a7=some (.tup [x1,V.int (y.2.2+1),V.int R]):=ah
 generalize upd H6 a7 _=H7 at *
 have T7:=T6.trans s7
 refine⟨by show 1<=sizeLine;decide,λa8 ha8=>?_⟩
 have s8:=ak (o:=.tup [V.ref a7]) ha8
 have e8:upd H7 a8 (.tup [V.ref a7]) a8=some (.tup [V.ref a7]):=ah
 generalize upd H7 a8 _=H8 at *
 have T8:=T7.trans s8
 refine⟨by show 0<=sizeLine;decide,λa9 ha9=>?_⟩
 have s9:=ak (o:=.tup []) ha9
 have e9:upd H8 a9 (.tup []) a9=some (.tup []):=ah
 generalize upd H8 a9 _=H9 at *
 have T9:=T8.trans s9
 refine⟨by show 3<=sizeLine;decide,λa10 ha10=>?_⟩
 have s10:=ak (o:=.lst [V.ref a6,V.ref a8,V.ref a9]) ha10
 have e10:upd H9 a10 (.lst [V.ref a6,V.ref a8,V.ref a9]) a10=some (.lst [V.ref a6,V.ref a8,V.ref a9]):=ah
 generalize upd H9 a10 _=H10 at *
 have T10:=T9.trans s10
 have U10:az H10 H10:=az.refl _
 have U9:=s10.trans U10
 have U8:=s9.trans U9
 have U7:=s8.trans U8
 have U6:=s7.trans U7
 have U5:=s6.trans U6
 have U4:=s5.trans U5
 have S10:=S4.trans T10
 have gp:=dv.same S10 _ g1
 have all:∀ z∈[V.ref a6,V.ref a8,V.ref a9],∃ o zs D,z=V.ref o/\bS K H10 o zs/\aJ K H10 D zs/\D.length<=1/\(∀ r∈D,gE r/\di r<=400)/\¬OP n a (.tuple [.int e,.tuple (rows.take i++D++rows.drop (i+1))]):=by
  intro z hz
  simp only [List.mem_cons,List.not_mem_nil,or_false] at hz
  rcases hz with rfl | rfl | rfl
  ·refine⟨a6,_,[.tuple [y.1,.int y.2.2,.int (R+1)]],rfl,bS.of (U6 _ _ e6),.one (dv.tup (U5 _ _ e5) ⟨_,_,rfl,gp,_,_,rfl,rfl,.one rfl⟩),Nat.le_refl 1,λr hr=>?_,?_⟩
   ·rw [List.mem_singleton.mp hr]
    simp only [gE,cw,di,bh]
    exact⟨⟨psm,by omega,by omega,trivial⟩,by omega⟩
   ·rw [eg]
    exact vp hR.symm
  ·refine⟨a8,_,[.tuple [y.1,.int (y.2.2+1),.int R]],rfl,bS.of (U8 _ _ e8),.one (dv.tup (U7 _ _ e7) ⟨_,_,rfl,gp,_,_,rfl,rfl,.one rfl⟩),Nat.le_refl 1,λr hr=>?_,?_⟩
   ·rw [List.mem_singleton.mp hr]
    simp only [gE,cw,di,bh]
    exact⟨⟨psm,by omega,by omega,trivial⟩,by omega⟩
   ·rw [eg]
    refine vo hct ?_
    rw [hrow,eg]
  ·refine⟨a9,_,[],rfl,bS.of (U9 _ _ e9),rfl,by decide,λr hr=>(List.not_mem_nil hr).elim,?_⟩
   rw [List.append_nil]
   exact xW hct hrow
 refine⟨⟨_,aS.of e10⟩,?_⟩
 refine fe (xs:=[V.ref a6,V.ref a8,V.ref a9]) (λ_=>Be H10 [some (.ref p),some (.int n),some (.int a),some (.ref pv),some (.int i),some x1,some (.int y.2.2),some (.int R)]) ⟨az.refl _,_,rfl⟩ (λi σ' H' _ h=>aS.of (h.1 _ _ e10)) ?_ ?_
 ·rintro j z σ' H11 hz ⟨s11,o,rfl⟩
  obtain⟨po,zs,D,rfl,hSo,dD,Dl,Dsm,Dno⟩:=all z (List.mem_of_getElem? hz)
  simp only [List.cons_append,List.nil_append]
  k_data
  have S11:=S10.trans s11
  refine bF (hSv.same S11) iF (bF (hSv.same S11) we ⟨pr,xs,rfl,hSr.same S11,λb1 H12 s12 t12=>?_⟩)
  rw [mG (by omega)] at t12
  refine⟨b1,po,_,_,rfl,rfl,t12,hSo.same (s11.trans s12),Nat.le_trans (show _<=100 by rw [List.length_take,dD.length];omega) (by decide),λb2 H13 s13 t13=>?_⟩
  have S13:=(S11.trans s12).trans s13
  refine bF (hSv.same S13) we ⟨pr,xs,rfl,hSr.same S13,λb3 H14 s14 t14=>?_⟩
  rw [show (i:Int)+1=((i+1:Nat):Int) by omega,mF (by omega)] at t14
  refine⟨b2,b3,_,_,rfl,rfl,t13.same s14,t14,Nat.le_trans (show _<=200 by rw [List.length_append,List.length_take,List.length_drop,dD.length];omega) (by decide),λb4 H15 s15 t15=>⟨by show 2<=sizeLine;decide,λb5 hb5=>?_⟩⟩
  have s16:=ak (o:=.tup [V.int e,V.ref b4]) hb5
  have e16:upd H15 b5 (.tup [V.int e,V.ref b4]) b5=some (.tup [V.int e,V.ref b4]):=ah
  generalize upd H15 b5 _=H16 at *
  have S16:=((S13.trans s14).trans s15).trans s16
  have T16:=((((s11.trans s12).trans s13).trans s14).trans s15).trans s16
  have dall:aJ K H16 (rows.take i++D++rows.drop (i+1)) (xs.take i++zs++xs.drop (i+1)):=aJ.append (aJ.append (aJ.same S16 _ (aJ.qz i dd).1) (aJ.same T16 _ dD)) (aJ.same S16 _ (aJ.qz (i+1) dd).2)
  have ball:=smd (rows.take i++D++rows.drop (i+1)) (λr hr=>by
   have rg:∀ r∈rows,gE r/\di r<=400:=λr hr=>⟨(hsm r hr).1,by have:=(hsm r hr).2;omega⟩
   rcases List.mem_append.mp hr with z | z
   ·rcases List.mem_append.mp z with z | z
    ·exact rg r (List.mem_of_mem_take z)
    ·exact Dsm r z
   ·exact rg r (List.mem_of_mem_drop z)) (by rw [List.length_append,List.length_append,List.length_take,List.length_drop];omega)
  have dt:dv K H16 (.tuple [.int e,.tuple (rows.take i++D++rows.drop (i+1))]) (.ref b5):=dv.tup e16 ⟨_,_,rfl,rfl,.one ⟨b4,_,rfl,t15.same s16,dall⟩⟩
  refine⟨n,a,_,_,rfl,n2,by omega,dt,ball.1,ball.2,λb H17 hb17 s17=>⟨b,rfl,?_⟩⟩
  obtain rfl:b=false:=by
   cases b with
   | false=>rfl
   | true=>exact absurd (hb17.mp rfl) Dno
  rw [if_neg (by decide)]
  exact⟨T16.trans s17,_,rfl⟩
 ·rintro σ' H11 ⟨s11,o,rfl⟩
  exact q _ ⟨by obtain⟨l',k',g'⟩:=us4.1;exact⟨l',k',(T10.trans s11) _ _ g'⟩,λx o n ex=>(T10.trans s11) _ _ (us4.2 x o n ex)⟩
def jR (H:Hp) (p:Addr):Hp:=λa=>if a=p then none else H a
section
variable {H:Hp} {p:Addr} {l:Int} {b:Bool}
theorem sU:az (jR H p) H:=λa o e=>by
 unfold jR at e
 split at e
 ·cases e
 ·exact e
theorem xX:jR H p p=none:=if_pos rfl
theorem off_ne {a:Addr} {o:HO} (n:a≠p) (e:H a=some o):jR H p a=some o:=by
 unfold jR
 rw [if_neg n,e]
theorem bS.off (hp:H p=some (lW l b)) {a:Addr} {xs:List V} (h:bS K H a xs):bS K (jR H p) a xs:=by
 refine h.imp (λz=>?_) id
 rcases z with z | ⟨o,z⟩
 ·exact .inl (off_ne (λe=>by rw [e,hp] at z;cases z) z)
 ·exact .inr ⟨o,off_ne (λe=>by rw [e,hp] at z;cases z) z⟩
theorem aS.off (hp:H p=some (lW l b)) {a:Addr} {xs:List V} (h:aS K H a xs):aS K (jR H p) a xs:=by
 refine h.imp (λz=>?_) id
 rcases z with z | ⟨o,z⟩
 ·exact .inl (off_ne (λe=>by rw [e,hp] at z;cases z) z)
 ·exact .inr ⟨o,off_ne (λe=>by rw [e,hp] at z;cases z) z⟩
mutual
theorem sh (hp:H p=some (lW l b)):∀(d:PyData) {v:V},dv K H d v->dv K (jR H p) d v
 | .none,_,h=>h
 | .bool _,_,h=>h
 | .int _,_,h=>h
 | .str _,_,h=>h
 | .list ds,_,⟨q,xs,e,h,t⟩=>⟨q,xs,e,aS.off hp h,kX hp ds t⟩
 | .tuple ds,_,⟨q,xs,e,h,t⟩=>⟨q,xs,e,bS.off hp h,kX hp ds t⟩
 | .dict _,_,h=>h.elim
theorem kX (hp:H p=some (lW l b)):∀(ds:List PyData) {xs:List V},aJ K H ds xs->aJ K (jR H p) ds xs
 | [],_,h=>h
 | d::ds,_,⟨x,r,e,h,t⟩=>⟨x,r,e,sh hp d h,kX hp ds t⟩
end
end
def kG:Sp:=λvs H Q _=>∃(s:Addr) (l:Int) (b:Bool) (H0:Hp),vs=[.ref s]/\H s=some (lW l b)/\sV l b/\az H0 H/\H0 s=none/\∀ H',az H0 H'->Q (.bl true) H'
def AU (s:Addr) (f:Bool) (H:Hp) (b:Int) (e:Nat) (σ:List (Option V)) (H':Hp):Prop:=Us s f H H'/\∃(n:Int) (wh:Nat),σ=[some (.ref s),some (.int b),some (.int e),some (.int n),some (.int wh),none,none,none,none,none]/\2<=n/\n<=10^59/\1<=wh/\wh<=400/\Num.Ord n b wh
theorem bN.al {E p a b:Int} {rows r:PyData} (h:Num.Al p a b) (o:bN E p a rows r):bN E p b rows r:=by
 obtain⟨e,ps,ds,ts,rfl,hP,hl29,hds,e1,e2,oe,hT,rfl⟩:=o
 refine⟨e,ps,ds,ts,rfl,hP,hl29,hds,e1,e2,Num.oQ h oe,hT.al h,?_⟩
 have er:bM p a e=bM p b e:=by
  funext y
  unfold bM
  rw [Num.Al.iff.mp (h.pow (e/y.2.1).toNat)]
 rw [er]
theorem fE:aw ["_law_state_here","_law_b","_law_e","_law_n","_law_whole","_law_j","_law_least","_law_papers_here","_law_a","_law_due"] ["_law_state_here"] (ai (top 46)):=d6
theorem tu {C0:Addr} (D:au K mg "_law_right" (top 46)) (c__law_take:Callee P w K mg base aO 1 "_law_take" ["_law_state_here","_law_many"] jF) (c__law_exponent:Callee P w K mg base aO 2 "_law_exponent" ["_law_state_here","_law_b"] wV) (c__law_raised:Callee P w K mg base aO 1 "_law_raised" ["_law_b","_law_e"] hW) (c__law_divisor:Callee P w K mg base aO 1 "_law_divisor" ["_law_one","_law_other"] wW) (c__law_papers:Callee P w K mg base aO 33 "_law_papers" ["_law_state_here","_law_whole"] (kF K)) (c__law_power:Callee P w K mg base aO 1 "_law_power" ["_law_n","_law_a","_law_e"] dF) (c__law_paper_due:Callee P w K mg base aO 2 "_law_paper_due" ["_law_n","_law_a","_law_least","_law_papers_here"] (wU K)) (c_order_from:Callee P w K mg base (iE P w) 13 "order_from" ["n","a","parts"] (uf K C0)) (c__law_same:Callee P w K mg base aO 94 "_law_same" ["_law_found","_law_due"] (fo K 93)) (c__law_let_by:Callee P w K mg base aO 9 "_law_let_by" ["_law_state_here","_law_n","_law_a","_law_due"] (qi K)):Callee P w K mg base aO 95 "_law_right" ["_law_state_here"] kG:=by
 refine cO D fE (λf cdv A outer s H vs Q E hr h=>?_)
 obtain⟨s',l,f',H0,rfl,hs,hl,s0,f0,q⟩:=h
 have nd:=fE.nd
 refine⟨_,(ae (bY (i:=1) nd (aq bG ag (b0 c__law_take hr aD (aa (pv 0) (aa (aL lr (fR (aa ag (aa (aq cU (aq lH ag ag) ag) af))) (b0 c__law_take hr aD (aa (pv 0) (aa ag af))) (λ_ _=>rfl)) af))))) (ae (bY (i:=2) nd (b0 c__law_exponent hr aD (aa (pv 0) (aa (pv 1) af)))) (ae (bY (i:=3) nd (aq cU (b0 c__law_raised hr aD (aa (pv 1) (aa (pv 2) af))) ag)) (ae (bY (i:=4) nd (pv 2)) (ae (gX (bt (PW.pt (jj (aC ir (pv 3) ag (aB _)) (gZ (aC cn (b0 c__law_take hr aD (aa (pv 0) (aa ag af))) ag (aB _))))) (ae (bY (i:=3) nd (aq bG (b0 c__law_raised hr aD (aa (pv 1) (aa (pv 2) af))) ag)) (aj (bY (i:=4) nd (aq bw ag (pv 2))))) aG)) (ae (bY (i:=5) nd (b0 c__law_take hr aD (aa (pv 0) (aa ag af)))) (ae (bY (i:=6) nd (aq bQ (pv 4) (b0 c__law_divisor hr aD (aa (pv 4) (aa (pv 5) af))))) (ae (bY (i:=7) nd (b0 c__law_papers hr aD (aa (pv 0) (aa (aq bw (pv 4) (aq bG ag (b0 c__law_take hr aD (aa (pv 0) (aa ag af))))) af)))) (ae (bY (i:=8) nd (b0 c__law_power hr aD (aa (pv 3) (aa (pv 1) (aa (pv 5) af))))) (ae (bY (i:=9) nd (b0 c__law_paper_due hr aD (aa (pv 3) (aa (pv 8) (aa (pv 6) (aa (pv 7) af)))))) (ae (bt (PW.pt (jj (df (aR (b0 c__law_same hr aD (aa (b0 c_order_from hr bE (aa (pv 3) (aa (pv 8) (aa (pv 7) af)))) (aa (pv 9) af))) (λ_=>rfl))) (gZ (df (aR (b0 c__law_same hr aD (aa (b0 c_order_from hr bE (aa (pv 3) (aa (aq cU (pv 8) (pv 3)) (aa (pv 7) af)))) (aa (pv 9) af))) (λ_=>rfl)))))) (aj (ay bU)) aG) (aj (ay (b0 c__law_let_by hr aD (aa (pv 0) (aa (pv 3) (aa (pv 8) (aa (pv 9) af)))))))))))))))))),?_⟩
 show bT _ _ _ [some (.ref s'),none,none,none,none,none,none,none,none,none] H
 k_data
 refine⟨by show 2<=sizeLine;decide,λp1 hp1=>?_⟩
 have n1:p1≠s':=λz=>by rw [z,hs] at hp1;cases hp1
 have u1:Us s' f' H (upd H p1 (.lst [V.int 8,V.int 999999])):=(Us.refl hs hl).lay hp1
 have e1:upd H p1 (.lst [V.int 8,V.int 999999]) p1=some (.lst [V.int 8,V.int 999999]):=ah
 generalize upd H p1 _=H1 at *
 obtain⟨l1,k1,g1⟩:=u1.ref
 refine⟨s',2,l1,f',rfl,g1,k1,by decide,by decide,λr2 H2 r20 r21 u2=>?_⟩
 have U2:=u1.trans u2.us
 obtain⟨l2,k2,g2⟩:=u2.at
 refine xN (lo:=8) (hi:=10^6) (u2.us.2 _ _ n1 e1) r20 r21 (by decide) (by decide) λm m0 m1=>?_
 refine⟨s',m,l2,f',rfl,g2,k2,by omega,by omega,λr3 H3 r30 r31 u3=>⟨r3,rfl,?_⟩⟩
 have U3:=U2.trans u3.us
 obtain⟨l3,k3,g3⟩:=u3.at
 obtain⟨b,eb⟩:∃ b,b=2+r3:=⟨_,rfl⟩
 rw [<- eb]
 refine⟨s',l3,b,f',rfl,g3,k3,by omega,by omega,λe H4 e1' e9 be u4=>?_⟩
 have U4:=U3.trans u4.us
 obtain⟨l4,k4,g4⟩:=u4.at
 refine⟨b,e,rfl,by omega,by omega,by omega,by omega,b^e,rfl,AU s' f' H b e,?_,?_⟩
 ·k_data
  have pl:Num.Ord (b^e+1) b (2*e):=tK (by omega) e1'
  have mi:Num.Ord (b^e-1) b e:=rA (by omega) e1'
  have bp:=Num.aA (show 0<b by omega) e
  have cp:((2*e:Nat):Int)=2*(e:Int):=by omega
  have go:∀ H5,Us s' f' H H5->hW [V.int b,V.int (e:Int)] H5 (λx H1=>∃ i,x=V.int i/\Bd 2/\Bd (e:Int)/\AU s' f' H b e [some (V.ref s'),some (V.int b),some (V.int (e:Int)),some (V.int (i+1)),some (V.int (2*(e:Int))),none,none,none,none,none] H1) E0:=λH5 U5 =>
   ⟨b,e,rfl,by omega,by omega,by omega,by omega,b^e,rfl,Bd.of (by omega) (by omega),Bd.of (by omega) (by omega),U5,_,2*e,by rw [cp],by omega,by omega,by omega,by omega,pl⟩
  refine aP (λc=>go _ U4) (λc=>?_)
  refine⟨s',2,l4,f',rfl,g4,k4,by decide,by decide,λr5 H5 r50 r51 u5=>⟨rfl,aP (λc2=>go _ (U4.trans u5.us)) (λc2=>?_)⟩⟩
  exact⟨U4.trans u5.us,_,e,rfl,by omega,by omega,e1',by omega,mi⟩
 rintro σ' H5 ⟨U5,n,wh,rfl,n2,n9,w1,w9,on⟩
 obtain⟨l5,k5,g5⟩:=U5.ref
 k_data
 refine⟨s',41,l5,f',rfl,g5,k5,by decide,by decide,λr6 H6 r60 r61 u6=>?_⟩
 obtain⟨j,rfl⟩:∃ j:Nat,r6=(j:Int):=⟨r6.toNat,by omega⟩
 have U6:=U5.trans u6.us
 obtain⟨l6,k6,g6⟩:=u6.at
 have g0:0<Nat.gcd wh j:=Nat.gcd_pos_of_pos_left _ (by omega)
 have gl:Nat.gcd wh j<=wh:=Nat.gcd_le_left _ (by omega)
 have gd:=Nat.gcd_dvd_left wh j
 have og:Num.Ord n (b^j) (wh/Nat.gcd wh j):=vD on
 have wg:1<=wh/Nat.gcd wh j:=Nat.div_pos gl g0
 refine⟨wh,j,rfl,((Nat.gcd wh j:Nat):Int),rfl,by omega,Bd.of (by omega) (by omega),?_⟩
 rw [<- Int.natCast_ediv]
 generalize Nat.gcd wh j=g at *
 have lw:wh/g∣wh:=Nat.div_dvd_of_dvd gd
 generalize wh/g=le at *
 refine⟨s',12,l6,f',rfl,g6,k6,by decide,by decide,λr7 H7 r70 r71 u7=>⟨r7,rfl,Bd.of (by omega) (by omega),Bd.of (by omega) (by omega),?_⟩⟩
 have U7:=U6.trans u7.us
 obtain⟨l7,k7,g7⟩:=u7.at
 have w2:(wh:Int)*1<=wh*(1+r7):=Int.mul_le_mul_of_nonneg_left (by omega) (by omega)
 have w3:(wh:Int)*(1+r7)<=400*12:=Int.mul_le_mul (by omega) (by omega) (by omega) (by decide)
 refine⟨s',l7,_,f',rfl,g7,k7,by omega,by omega,λE' ps ds v H8 hP hl29 dE E1 E9 hds u8 hv=>?_⟩
 have U8:=U7.trans u8
 obtain⟨l8,k8,g8⟩:=u8.ref
 have S8:az H0 H8:=U8.same s0 f0
 refine⟨n,b,j,rfl,by omega,by omega,by omega,?_⟩
 rw [show ((j:Int)).toNat=j from rfl]
 have oa:Num.Ord n (b^j%n) le:=Num.oQ (Num.Al.rest n _).symm og
 have a0:=Int.emod_nonneg (b^j) (show n≠0 by omega)
 have a1:=Int.emod_lt_of_pos (b^j) (show 0<n by omega)
 generalize b^j%n=a at *
 have al:Num.Al n (a^E'.toNat) 1:=by
  have h1:(wh:Int)∣E':=Int.dvd_trans ⟨_,rfl⟩ dE
  rw [show E'=(E'.toNat:Int) by omega] at h1
  obtain⟨c,hc⟩:=Nat.dvd_trans lw (Int.natCast_dvd_natCast.mp h1)
  rw [hc]
  exact Num.aM oa.one
 have av:Num.Al n a (a-n):=⟨1,by omega⟩
 have al':Num.Al n ((a-n)^E'.toNat) 1:=(av.pow _).symm.trans al
 obtain⟨r,hr'⟩:=bN.ex n2 E1 hP hl29 hds al
 refine⟨E',n,a,le,v,_,r,rfl,n2,n9,E1,E9,by omega,oa,hv,hr',λv' H9 s9 hv'=>?_⟩
 refine⟨v,n,a,E',ps,ds,rfl,dv.same s9 _ hv,n2,n9,E1,E9,hP,hl29,hds,by omega,by omega,λz=>absurd al z,λ_ r2 u H10 hr2 s10 hu=>?_⟩
 have er:=hr'.one hr2
 subst er
 refine⟨_,_,_,rfl,hu,dv.same s10 _ hv',ko hr',λH11 s11=>⟨true,aN.mpr rfl,?_⟩⟩
 rw [if_neg (by decide)]
 refine⟨a,rfl,?_⟩
 have T11:=s10.trans s11
 refine⟨v,n,a-n,E',ps,ds,rfl,dv.same (s9.trans T11) _ hv,n2,n9,E1,E9,hP,hl29,hds,by omega,by omega,λz=>absurd al' z,λ_ r2 u H12 hr2 s12 hu=>?_⟩
 have er:=hr'.one (hr2.al av.symm)
 subst er
 have T12:=T11.trans s12
 refine⟨_,_,_,rfl,hu,dv.same T12 _ hv',ko hr',λH13 s13=>⟨true,aN.mpr rfl,?_⟩⟩
 rw [if_neg (by decide)]
 obtain⟨e',ks,rfl,hk⟩:=zg n9 hr'
 have T13:=T12.trans s13
 have g13:=(s9.trans T13) _ _ g8
 refine⟨s',l8,n,a,e',f',ks,v',jR H13 s',rfl,g13,k8,sU,xX,n2,n9,hk,sh g13 _ (dv.same T13 _ hv'),λH14 u14=>?_⟩
 exact q _ (u14.same ((S8.trans s9).trans T13) f0)
end
end K
namespace K
open PySem PySem.Spec PyProof.Rows L2
section
variable {P:Program} {w:World} {K:PySem.W.Frag} {mg:Str->Option Value} {base:Heap}
theorem ud:aw ["_law_script","_law_cell"] ["_law_script"] (ai (top 47)):=d6
theorem x5 {fl:Addr} {fdl:FuncData} (F:uG K "law" "law" (top 47) fl fdl) (c__law_state:Callee P w K mg base aO 1 "_law_state" ["_law_cell"] qr) (c__law_right:Callee P w K mg base aO 95 "_law_right" ["_law_state_here"] kG):cL P w K mg base aO 96 fl fdl ["_law_script"] (wX K):=by
 refine uZ F ud (λvs H Q E h=>by obtain⟨a,b,rfl,_⟩:=h;rfl) (λcdv A outer s H vs Q E hr h=>?_)
 obtain⟨sc,ns,rfl,hS,h63,q⟩:=h
 have nd:=ud.nd
 refine⟨_,(ae (dQ PassesOwn.never rfl (b6 (aq tG (eG lS (pv 0) gk (gm ag)) (fR (aa ag af)))) (ax (i:=1) nd rfl (Or.inl rfl) (.inr rfl)) (aj (bt (df (aR (b0 c__law_right hr aD (aa (b0 c__law_state hr aD (aa (pv 1) af)) af)) (λ_=>rfl))) (aj (ay bU)) aG))) (aj (ay bU))),?_⟩
 show bT _ _ _ [some (.ref sc),none] H
 k_data
 refine⟨sc,_,rfl,hS,λpc hpc=>⟨by show 1<=sizeLine;decide,λpz hpz=>?_⟩⟩
 have s4:=ak (o:=.lst (cS (ns.map V.int) none (some 30))) hpc
 have s5:=ak (o:=.lst [V.int 0]) hpz
 have e4:upd (upd H pc (.lst (cS (ns.map V.int) none (some 30)))) pz (.lst [V.int 0]) pc=some (.lst (cS (ns.map V.int) none (some 30))):=s5 _ _ ah
 have e5:upd (upd H pc (.lst (cS (ns.map V.int) none (some 30)))) pz (.lst [V.int 0]) pz=some (.lst [V.int 0]):=ah
 have S5:=s4.trans s5
 generalize upd (upd H pc _) pz _=H5 at *
 have cl:(cS (ns.map V.int) none (some 30)).length<=63:=by
  unfold cS
  rw [List.length_take,List.length_drop,List.length_map]
  omega
 have hin:∀ x∈cS (ns.map V.int) none (some 30)++[V.int 0],∃ c,x=.int c:=by
  intro x hx
  rcases List.mem_append.mp hx with y | y
  ·exact rX y
  ·exact⟨0,List.mem_singleton.mp y⟩
 refine⟨pc,pz,_,_,rfl,rfl,e4,e5,Nat.le_trans (show _+1<=64 by omega) (by decide),λpl hpl=>⟨pl,rfl,⟨_,aS.of ah⟩,?_⟩⟩
 generalize cS (ns.map V.int) none (some 30)++[V.int 0]=L at *
 have S6:=S5.trans (ak (o:=.lst L) hpl)
 have e6:upd H5 pl (.lst L) pl=some (.lst L):=ah
 generalize upd H5 pl _=H6 at *
 refine fe (xs:=L) (λi σ' H'=>(∃ o2,σ'=[some (.ref sc),o2])/\az H6 H') ⟨⟨_,rfl⟩,az.refl _⟩ (λi σ' H' _ h=>aS.of (h.2 _ _ e6)) ?_ ?_
 ·rintro i x σ' H7 hx ⟨⟨o2,rfl⟩,s7⟩
  obtain⟨c,rfl⟩:=hin x (List.mem_of_getElem? hx)
  k_data
  refine⟨c,rfl,λp8 l8 b8 H8 s8 f8 e8 k8=>?_⟩
  refine⟨p8,l8,b8,H7,rfl,e8,k8,s8,f8,λH9 s9=>⟨true,aN.mpr rfl,?_⟩⟩
  rw [if_neg (by decide)]
  exact s7.trans s9
 ·rintro σ' H7 ⟨⟨o2,rfl⟩,s7⟩
  k_data
  exact q _
end
end K
namespace PySem.W.Fast
def tw17812910554130853736:=0
def tw3386010533402155008:=0
def tw9110054517616209120:=0
def tw9343794003638156544:=0
def tw674158841536214336:=0
def tw8541124512781054528:=0
def tw6050844689733767840:=0
def tw5701705335804972832:=0
def tw6171445397482062241:=0
def tw12868528568507530721:=0
def tw3959324180137268961:=0
def tw16816958816081075234:=0
def tw7755737518891849090:=0
def tw16500546832949575042:=0
def tw5039567984651853250:=0
def tw12175004691499760130:=0
def tw11006185070505539202:=0
def tw7060034003984652419:=0
def tw15924753820107398371:=0
def tw15151053451909619939:=0
def tw7433397501803660003:=0
def tw10368824203150783267:=0
def tw4324806521212618563:=0
def tw10679667722333470563:=0
def tw8229716387699721091:=0
def tw2445762370370467940:=0
def tw16136115174417015940:=0
def tw10686794008774035716:=0
def tw9514301266822626596:=0
def tw4184345951216260932:=0
def tw2082590490483236933:=0
def tw13796843127976716549:=0
def tw16143240815621256773:=0
def tw1599552517329218501:=0
def tw15761327560926694694:=0
def tw8228767495597038950:=0
def tw4621356038289536390:=0
def tw9705870082130134406:=0
def tw2581862491433480678:=0
def tw6644827048016112198:=0
def tw13799993996853108486:=0
def tw10352083612882125831:=0
def tw9453675452330651687:=0
def tw873559977750025415:=0
def tw1072539323302888711:=0
def tw9042195035486277991:=0
def tw13191657114540897735:=0
def tw14472871312994228007:=0
def tw726620583307926407:=0
def tw4403955865092268040:=0
def tw795527326813699336:=0
def tw11031611627127131528:=0
def tw2762390314653002568:=0
def tw6521757230880957513:=0
def tw16420986146700815465:=0
def tw11977642881583182985:=0
def tw6448823610039112009:=0
def tw1525659898388108649:=0
def tw9421868132506720681:=0
def tw4177647804415056457:=0
def tw10404598658802324169:=0
def tw2325236695093166025:=0
def tw16646383123857215498:=0
def tw6028516575216114762:=0
def tw5160741364347069642:=0
def tw3865831959448874186:=0
def tw1536686980343384330:=0
def tw7369098942378095338:=0
def tw7003794075108336394:=0
def tw10375594968284414059:=0
def tw16583591369930279147:=0
def tw4077282940281719083:=0
def tw2217489060563539851:=0
def tw279163411832121516:=0
def tw2761815512152975564:=0
def tw5148331386070357196:=0
def tw15017696895182481772:=0
def tw17986667418980913036:=0
def tw6733999532496919468:=0
def tw13802243803232131117:=0
def tw11672089214864610925:=0
def tw8835993329706297261:=0
def tw15984272341549504910:=0
def tw10582571344098612078:=0
def tw16448562795022976974:=0
def tw4615554917016552495:=0
def tw5231069261984539887:=0
def tw1590737288404028943:=0
def tw7554520997865841199:=0
def tw6211711912802553487:=0
def tw7790730548201862959:=0
def tw9059242214645727280:=0
def tw8544751644856987920:=0
def tw186887076138429744:=0
def tw4332346977704402224:=0
def tw15142716902087694832:=0
def tw425916760166009456:=0
def tw12607034828604507824:=0
def tw15403442159558788848:=0
def tw15083016490168066928:=0
def tw17820772168667331472:=0
def tw9926563354581868753:=0
def tw11804047547797698929:=0
def tw18128762822270581585:=0
def tw1207337731821195121:=0
def tw13375908796005735794:=0
def tw11957243262349871666:=0
def tw3099033108492049683:=0
def tw1945112452709588403:=0
def tw14173946018739520371:=0
def tw16410705655876441011:=0
def tw17038853639760284659:=0
def tw15247439904772801172:=0
def tw7060393249299234452:=0
def tw18129348199460472500:=0
def tw9596231179032506100:=0
def tw6131720315769018485:=0
def tw2616912160262358389:=0
def tw14260412136495792597:=0
def tw938267163956527605:=0
def tw8171551179830019637:=0
def tw4195194404696195733:=0
def tw10303222343414466325:=0
def tw16552628238912963445:=0
def tw15920511176788818933:=0
def tw10258584804060677109:=0
def tw192199878704871446:=0
def tw1278855152748373558:=0
def tw17298647839900001846:=0
def tw6286489295994346230:=0
def tw16771575920739826518:=0
def tw2707202489897498582:=0
def tw13692411361080414519:=0
def tw12644398206585395639:=0
def tw15199158123789991607:=0
def tw5372963362092437303:=0
def tw12871278542638619543:=0
def tw13636406669130579863:=0
def tw15937452207846488184:=0
def tw12933910939723807896:=0
def tw2973267884806738200:=0
def tw8024228018022506968:=0
def tw15246081270560299672:=0
def tw11425095909096465272:=0
def tw15063030039153049560:=0
def tw3457301671906953401:=0
def tw17114808244977060825:=0
def tw13660528366919935002:=0
def tw5383513866403361914:=0
def tw3185700570767471962:=0
def tw3424851565324947226:=0
def tw10953916310398889243:=0
def tw8487682856588239291:=0
def tw7024508326070415867:=0
def tw3672274757393845083:=0
def tw17537112501204794524:=0
def tw2332872095228219068:=0
def tw18372587644941816508:=0
def tw8124707393591393180:=0
def tw13605449843128344829:=0
def tw10902268303452117277:=0
def tw18165662620838414621:=0
def tw10731888144362468029:=0
def tw3026281034495961118:=0
def tw6309059147847382046:=0
def tw14316403855957789854:=0
def tw11231760572941564062:=0
def tw5526196146937001150:=0
def tw9061087813157211518:=0
def tw3298901698094189150:=0
def tw8886754749168274046:=0
def tw5029343483281018558:=0
def tw17981100171605285694:=0
def tw7043760477069574078:=0
def tw16421549760387430527:=0
def tw1944872410446138687:=0
def tw11490688284305090911:=0
def tw14882342600840814079:=0
def tw16872555937100097247:=0
def tw7571392074205333247:=0
def tw2049931303999653663:=0
def tw16420776395541996351:=0
def tw4014482019537835871:=0
def tw15629329198420115423:=0
end PySem.W.Fast
namespace K
open PySem PySem.Spec PyProof.Rows L2
theorem lj:rR "NoInverse.__init__" "divisor" "divisor" (inClass (top 3) 0):=⟨⟨rfl,rfl,rfl,by decide +kernel,rfl,by decide +kernel,by decide +kernel⟩,⟨_,_,_,_,rfl,λ_=>rfl,λ_=>rfl⟩,rfl,rfl,by decide,by decide,λ_ _ _ _ _ _ us hl=>match us,hl with | [_,_],_=>rfl⟩
end K
open PySem PySem.W PyProof.Rows L2
set_option maxHeartbeats 0 in
theorem PySem.Challenge.cw_rootprime_k31_orders_by_what_lies_beside_holds : PySem.Challenge.rw_rootprime_k31_orders_by_what_lies_beside.Holds := by
 w_on;o_law;k_head;(case hw=>w_witness2)
 k_fill
 refine L2.uB (l:=PySem.Challenge.rw_rootprime_k31_orders_by_what_lies_beside) (n:=63) (k:=96) (x := "_law_script") (CX:=L2.aO) (sp:=K.wX) rfl (by decide) rfl ⟨rfl,by decide,by decide⟩ (λw h Y=>PySem.W.kIn_of Y) ?F ?S ?C
 case F =>
  intro w mg fa h KX G hmg
  have d_whole_of:L2.au (L2.dG KX) mg "whole_of" (K.top 5):=K.d5 KX G
  have d_divisor:L2.au (L2.dG KX) mg "divisor" (K.top 7):=K.d5 KX G
  have d_inverse:L2.au (L2.dG KX) mg "inverse" (K.top 8):=K.d5 KX G
  have d_is_whole:L2.au (L2.dG KX) mg "is_whole" (K.top 10):=K.d5 KX G
  have d_is_tuple_of:L2.au (L2.dG KX) mg "is_tuple_of" (K.top 11):=K.d5 KX G
  have d_primes_in:L2.au (L2.dG KX) mg "primes_in" (K.top 12):=K.d5 KX G
  have d_parting_in:L2.au (L2.dG KX) mg "parting_in" (K.top 13):=K.d5 KX G
  have d_power:L2.au (L2.dG KX) mg "power" (K.top 15):=K.d5 KX G
  have d_is_least:L2.au (L2.dG KX) mg "is_least" (K.top 16):=K.d5 KX G
  have d_order_from:L2.au (L2.dG KX) mg "order_from" (K.top 18):=K.d5 KX G
  have d_most_times:L2.au (L2.dG KX) mg "most_times" (K.top 19):=K.d5 KX G
  have d_raised:L2.au (L2.dG KX) mg "raised" (K.top 20):=K.d5 KX G
  have d_times_in_order:L2.au (L2.dG KX) mg "times_in_order" (K.top 21):=K.d5 KX G
  have d_times_to_one:L2.au (L2.dG KX) mg "times_to_one" (K.top 22):=K.d5 KX G
  have d_is_order_paper:L2.au (L2.dG KX) mg "is_order_paper" (K.top 24):=K.d5 KX G
  have d_are_prime_papers:L2.au (L2.dG KX) mg "are_prime_papers" (K.top 25):=K.d5 KX G
  have d_is_right_above:L2.au (L2.dG KX) mg "is_right_above" (K.top 26):=K.d5 KX G
  have d_is_paper_form:L2.au (L2.dG KX) mg "is_paper_form" (K.top 27):=K.d5 KX G
  have d_come_to:L2.au (L2.dG KX) mg "come_to" (K.top 28):=K.d5 KX G
  have d_is_row_form:L2.au (L2.dG KX) mg "is_row_form" (K.top 29):=K.d5 KX G
  have d_without:L2.au (L2.dG KX) mg "without" (K.top 30):=K.d5 KX G
  have d_is_rest:L2.au (L2.dG KX) mg "is_rest" (K.top 31):=K.d5 KX G
  have d__law_state:L2.au (L2.dG KX) mg "_law_state" (K.top 33):=K.d5 KX G
  have d__law_take:L2.au (L2.dG KX) mg "_law_take" (K.top 34):=K.d5 KX G
  have d__law_power:L2.au (L2.dG KX) mg "_law_power" (K.top 35):=K.d5 KX G
  have d__law_parted:L2.au (L2.dG KX) mg "_law_parted" (K.top 36):=K.d5 KX G
  have d__law_paper:L2.au (L2.dG KX) mg "_law_paper" (K.top 37):=K.d5 KX G
  have d__law_times:L2.au (L2.dG KX) mg "_law_times" (K.top 38):=K.d5 KX G
  have d__law_same:L2.au (L2.dG KX) mg "_law_same" (K.top 39):=K.d5 KX G
  have d__law_paper_due:L2.au (L2.dG KX) mg "_law_paper_due" (K.top 40):=K.d5 KX G
  have d__law_divisor:L2.au (L2.dG KX) mg "_law_divisor" (K.top 41):=K.d5 KX G
  have d__law_raised:L2.au (L2.dG KX) mg "_law_raised" (K.top 42):=K.d5 KX G
  have d__law_exponent:L2.au (L2.dG KX) mg "_law_exponent" (K.top 43):=K.d5 KX G
  have d__law_papers:L2.au (L2.dG KX) mg "_law_papers" (K.top 44):=K.d5 KX G
  have d__law_let_by:L2.au (L2.dG KX) mg "_law_let_by" (K.top 45):=K.d5 KX G
  have d__law_right:L2.au (L2.dG KX) mg "_law_right" (K.top 46):=K.d5 KX G
  have d_law:L2.au (L2.dG KX) mg "law" (K.top 47):=K.d5 KX G
  have n_abs:mg "abs"=none:=PySem.W.mg_none_of KX G (by k_is)
  have n_int:mg "int"=none:=PySem.W.mg_none_of KX G (by k_is)
  have n_bool:mg "bool"=none:=PySem.W.mg_none_of KX G (by k_is)
  have n_list:mg "list"=none:=PySem.W.mg_none_of KX G (by k_is)
  have n_all:mg "all"=none:=PySem.W.mg_none_of KX G (by k_is)
  have n_isinstance:mg "isinstance"=none:=PySem.W.mg_none_of KX G (by k_is)
  have n_range:mg "range"=none:=PySem.W.mg_none_of KX G (by k_is)
  have n_tuple:mg "tuple"=none:=PySem.W.mg_none_of KX G (by k_is)
  have n_len:mg "len"=none:=PySem.W.mg_none_of KX G (by k_is)
  have n_min:mg "min"=none:=PySem.W.mg_none_of KX G (by k_is)
  have n_zip:mg "zip"=none:=PySem.W.mg_none_of KX G (by k_is)
  have n_dict:mg "dict"=none:=PySem.W.mg_none_of KX G (by k_is)
  have n_sorted:mg "sorted"=none:=PySem.W.mg_none_of KX G (by k_is)
  refine' L2.kU (PySem.W.mg_of (n := "PrimeError") KX G ?xa) (λa_PrimeError=>?g1)
  (case xa=>k_is)
  refine' L2.kU (L2.me KX a_PrimeError ?l ?c2 ?c3 ?e1 ?e2 ?e3 ?e4 ?e5 ?e6 ?ob ?kp) (λc_PrimeError=>?g2)
  (case l=>k_is);(case c2=>rfl);(case c3=>rfl);(case e1=>k_is);(case e2=>k_is);(case e3=>k_is);(case e4=>k_is);(case e5=>k_is);(case e6=>k_is);(case ob=>exact⟨_,_,_,_,_,_,_,_,_,_,_,_,_,_,_,_,rfl,rfl,rfl,rfl⟩);(case kp=>k_is)
  refine' L2.kU (L2.qF a_PrimeError c_PrimeError.2 c_PrimeError.1 ?i) (λx_PrimeError=>?g3)
  (case i=>k_is)
  refine' L2.kU (PySem.W.mg_of (n := "NoOrder") KX G ?xa) (λa_NoOrder=>?g4)
  (case xa=>k_is)
  refine' L2.kU (L2.me KX a_NoOrder ?l ?c2 ?c3 ?e1 ?e2 ?e3 ?e4 ?e5 ?e6 ?ob ?kp) (λc_NoOrder=>?g5)
  (case l=>k_is);(case c2=>rfl);(case c3=>rfl);(case e1=>k_is);(case e2=>k_is);(case e3=>k_is);(case e4=>k_is);(case e5=>k_is);(case e6=>k_is);(case ob=>exact⟨_,_,_,_,_,_,_,_,_,_,_,_,_,_,_,_,rfl,rfl,rfl,rfl⟩);(case kp=>k_is)
  refine' L2.kU (L2.qF a_NoOrder c_NoOrder.2 c_NoOrder.1 ?i) (λx_NoOrder=>?g6)
  (case i=>k_is)
  refine' L2.kU (PySem.W.mg_of (n := "NoInverse") KX G ?xa) (λa_NoInverse=>?g7)
  (case xa=>k_is)
  refine' L2.kU (L2.me KX a_NoInverse ?l ?c2 ?c3 ?e1 ?e2 ?e3 ?e4 ?e5 ?e6 ?ob ?kp) (λc_NoInverse=>?g8)
  (case l=>k_is);(case c2=>rfl);(case c3=>rfl);(case e1=>k_is);(case e2=>k_is);(case e3=>k_is);(case e4=>k_is);(case e5=>k_is);(case e6=>k_is);(case ob=>exact⟨_,_,_,_,_,_,_,_,_,_,_,_,_,_,_,_,rfl,rfl,rfl,rfl⟩);(case kp=>k_is)
  refine' L2.kU (L2.v7 K.lj a_NoInverse c_NoInverse.2 c_NoInverse.1 ?nf ?i ?fn ?l ?cc ?kk) (λx_NoInverse=>?g9)
  (case nf=>k_is);(case i=>k_is);(case fn=>k_is);(case l=>k_is);(case cc=>k_is);(case kk=>k_is)
  refine L2.vk hmg d_law (λ_ _ _ _ _ _ _=>rfl) λbase f fd kb F=>?_
  have inv:=λP w=>K.oJ (P:=P) (w:=w) (base:=base) d_inverse (K.oI d_divisor n_abs) (x_NoInverse _ _ _)
  have pw:=λP w=>K.tq (P:=P) (w:=w) (base:=base) d_power (inv P w) n_abs
  have st:=λP w=>K.tw (P:=P) (w:=w) (base:=base) d__law_state n_abs
  have tk:=λP w=>K.vx (P:=P) (w:=w) (base:=base) d__law_take
  have lp:=λP w=>K.q5 (P:=P) (w:=w) (base:=base) d__law_power
  have ra:=λP w=>K.rh (P:=P) (w:=w) (base:=base) d_raised (pw P w) n_range
  have pap:=λP w=>K.vm (K.i6 (P:=P) (w:=w) (base:=base) d__law_paper (K.i7 d__law_parted) (lp _ _) n_tuple 30)
  have od:=λP w=>K.jS (P:=P) (w:=w) (base:=base) d_order_from (K.tj d_parting_in) (K.sZ d_parting_in) (K.vv d_most_times) (ra P w) (K.ni d_times_in_order (ra P w) (K.tE d_times_to_one (pw P w)) n_len 6) (K.tF d_whole_of n_range) (pw P w) x_NoOrder n_min n_zip n_tuple
  have ww:=λP w=>K.AA (P:=P) (w:=w) (base:=base) d_is_whole n_isinstance n_int n_bool
  have tf:=λP w=>K.x8 (P:=P) (w:=w) (base:=base) d_is_tuple_of n_isinstance n_tuple n_len
  have pf:=λP w=>K.zt (P:=P) (w:=w) (base:=base) d_is_paper_form (ww P w) (tf P w) n_isinstance n_tuple
  have ct:=λP w=>K.zq (P:=P) (w:=w) (base:=base) d_come_to (K.zw d_is_row_form (ww P w) (tf P w) (pf P w)) (K.zz d_without)
  have il:=λP w=>K.oK (P:=P) (w:=w) (base:=base) d_is_least (pw P w) n_all
  have pi:=λP w=>K.nc (P:=P) (w:=w) (base:=base) d_primes_in
  have op:=λP w=>K.zr (P:=P) (w:=w) (base:=base) d_is_order_paper (ww P w) (tf P w) (ct P w) (pw P w) (K.vw d_is_rest (ww P w) (pw P w)) (K.x6 d_are_prime_papers (K.zu d_is_right_above (pf P w) (ct P w) (il P w) (pi P w)) n_list) n_isinstance n_tuple n_all
  exact K.x5 F (st _ _)
   (K.tu d__law_right (tk _ _) (K.xZ d__law_exponent (tk _ _)) (K.oP d__law_raised n_range) (K.x4 d__law_divisor) (K.oO d__law_papers (tk _ _) (K.i7 d__law_parted) (pap _ _) n_dict n_int n_range n_sorted n_tuple) (lp _ _) (K.xY d__law_paper_due (lp _ _) (K.rf d__law_times) n_tuple) (od _ _) (K.nh d__law_same n_isinstance n_bool n_int n_list n_tuple n_len n_zip n_all 93) (K.sW d__law_let_by (tk _ _) (lp _ _) (op _ _) n_len))
 case S=>exact λK H a ns hl hO hS=>⟨a,ns,rfl,hS,hl,λ_=>rfl⟩
 case C=>exact λ_ _ _ _ z=>z
