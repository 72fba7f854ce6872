import PyProof.Rows.All
import Wide.All
import OpenK.AllK
import Wide.FinOn
import Lean
import PyProof.EqAt
import PyProof.EqKinds
import PyProof.TupleCall
import KE.KRevSl
import PyProof.NeData
import PyProof.P3Eq
import PyProof.Rows.Range3
import PyProof.EnumMake
import PyProof.Draws
import PyProof.ZipIter
import KE.KDictList
import KE.KDictSum
import PyProof.WalkInts
import PyProof.Rows.SeqCalls
import PyProof.ReprRoads
import PyProof.CallFns
import PyProof.ReprLen
import PyProof.FitsInt
import PySem.Challenge.RW_rootprime_k54_whole_only_right_roots_are
set_option Elab.async false
local macro_rules | `(tactic| omega) => `(tactic| lia)
set_option linter.all false
set_option maxRecDepth 100000
namespace L2
open PySem PySem.Spec PyProof.Rows
abbrev Key:=Sum Int Str
def kX:Key->Value->Bool
 | .inl k,v=>Value.isInt k v
 | .inr x,v=>Value.isStrOf x v
def CS (w:World):Key->Int
 | .inl k=>hashInt k
 | .inr x=>hashStr w x
theorem bX:∀{k:Key} {v:Value},kX k v=true->(∃ i t,k=Sum.inl i/\v=Value.int i t)∨(∃ x t,k=Sum.inr x/\v=Value.str x t)
 | .inl i,v,h=>by
  obtain⟨t,e⟩:=Value.isInt_shape (k:=i) (v:=v) h
  exact .inl ⟨i,t,rfl,e⟩
 | .inr x,v,h=>by
  obtain⟨t,e⟩:=Value.isStrOf_shape (x:=x) (v:=v) h
  exact .inr ⟨x,t,rfl,e⟩
theorem sN (i:Int) (t:Tok):kX (.inl i) (.int i t)=true:=by simp [kX,Value.isInt]
theorem sO (x:Str) (t:Tok):kX (.inr x) (.str x t)=true:=by simp [kX,Value.isStrOf]
theorem zX (a b:Int):decide ((Sum.inl a:Key)=Sum.inl b)=(a==b):=by
 by_cases e:a=b
 ·subst e;simp
 ·have h:¬(Sum.inl a:Key)=Sum.inl b:=λq=>e (Sum.inl.inj q)
  rw [decide_eq_false h]
  exact (beq_eq_false_iff_ne.mpr e).symm
theorem z4 (a b:Str):decide ((Sum.inr a:Key)=Sum.inr b)=decide (a=b):=by
 by_cases e:a=b
 ·subst e;simp
 ·have h:¬(Sum.inr a:Key)=Sum.inr b:=λq=>e (Sum.inr.inj q)
  rw [decide_eq_false h,decide_eq_false e]
theorem zY (a:Int) (b:Str):decide ((Sum.inl a:Key)=Sum.inr b)=false:=decide_eq_false (λq=>nomatch q)
theorem zZ (a:Str) (b:Int):decide ((Sum.inr a:Key)=Sum.inl b)=false:=decide_eq_false (λq=>nomatch q)
def cq (prog:Program) (w:World):PySem.KeyKind prog w Key where
 is:=kX
 hash:=CS w
 inj:=λv a b ha hb=>by
  rcases bX ha with⟨i,t,rfl,rfl⟩|⟨x,t,rfl,rfl⟩
  ·rcases bX hb with⟨j,u,rfl,e⟩|⟨y,u,rfl,e⟩
   ·injection e with e1 _;rw [e1]
   ·exact nomatch e
  ·rcases bX hb with⟨j,u,rfl,e⟩|⟨y,u,rfl,e⟩
   ·exact nomatch e
   ·injection e with e1 _;rw [e1]
 byValue:=λk v h=>by
  rcases bX h with⟨i,t,rfl,rfl⟩|⟨x,t,rfl,rfl⟩<;>rfl
 pyHash:=λhv h=>by
  rcases bX hv with⟨i,t,rfl,rfl⟩|⟨x,t,rfl,rfl⟩
  ·exact wpAny_pyHash_int h
  ·exact wpAny_pyHash_str h
 eqBool:=λhu hv h=>by
  rcases bX hu with⟨i,t,rfl,rfl⟩|⟨x,t,rfl,rfl⟩
  ·rcases bX hv with⟨j,u,rfl,rfl⟩|⟨y,u,rfl,rfl⟩
   ·rw [zX] at h;exact wpAny_eqBool_int h
   ·rw [zY] at h;exact SeqAt.EqAt.int_str i t y u _ _ _ _ h
  ·rcases bX hv with⟨j,u,rfl,rfl⟩|⟨y,u,rfl,rfl⟩
   ·rw [zZ] at h;exact SeqAt.EqAt.str_int x t j u _ _ _ _ h
   ·rw [z4] at h;exact wpAny_eqBool_str h
 «strs»:=λk x t v h=>by
  rcases bX h with⟨i,u,rfl,e⟩|⟨y,u,rfl,e⟩
  ·exact nomatch e
  ·injection e with e1 _
   subst e1
   cases v<;>rfl
theorem nP (prog:Program) (w:World) (i:Int) (t:Tok):(cq prog w).is (.inl i) (.int i t)=true:=sN i t
theorem nQ (prog:Program) (w:World) (x:Str) (t:Tok):(cq prog w).is (.inr x) (.str x t)=true:=sO x t
inductive V where
 | cj | bl (b:Bool) | int (i:Int) | str (x:Str) | byt (b:Array UInt8) | flt (b:UInt64) | ref (a:Addr) | ty (n:String)
 deriving DecidableEq
def RelV:V->Value->Prop
 | .cj,u=>u=Value.none
 | .bl b,u=>u=Value.bool b
 | .int i,u=>∃ t,u=Value.int i t
 | .str x,u=>∃ t,u=Value.str x t
 | .byt b,u=>∃ t,u=Value.bytes b t
 | .flt b,u=>∃ t,u=Value.float b t
 | .ref a,u=>u=Value.ref a
 | .ty n,u=>u=Value.type n
abbrev Vals:List V->List Value->Prop:=Paired RelV
theorem Vals.length {xs:List V} {us:List Value} (r:Vals xs us):xs.length=us.length:=Paired.length r
theorem Vals.get:∀{xs:List V} {us:List Value} {i:Nat} {x:V},Vals xs us->xs[i]?=some x->∃ u,us[i]?=some u/\RelV x u
 | _,_,_,_,.nil,e=>by simp at e
 | _,_,0,_,.cons r _,e=>by simp at e;subst e;exact⟨_,rfl,r⟩
 | _,_,i+1,x,.cons _ t,e=>by
  obtain⟨u,h1,h2⟩:=Vals.get (i:=i) (x:=x) t (by simpa using e)
  exact⟨u,by simpa using h1,h2⟩
theorem Vals.set {x:V} {u:Value} (r:RelV x u):∀{xs:List V} {us:List Value} (i:Nat),Vals xs us->Vals (xs.set i x) (us.set i u)
 | _,_,_,.nil=>.nil
 | _,_,0,.cons _ t=>.cons r t
 | _,_,i+1,.cons q t=>.cons q (Vals.set r i t)
theorem Vals.append:∀{xs ys:List V} {us ws:List Value},Vals xs us->Vals ys ws->Vals (xs++ys) (us++ws)
 | _,_,_,_,.nil,s=>s
 | _,_,_,_,.cons r t,s=>.cons r (Vals.append t s)
theorem Vals.take:∀{xs:List V} {us:List Value} (n:Nat),Vals xs us->Vals (xs.take n) (us.take n)
 | _,_,0,_=>.nil
 | _,_,_+1,.nil=>.nil
 | _,_,n+1,.cons r t=>.cons r (Vals.take n t)
theorem Vals.drop:∀{xs:List V} {us:List Value} (n:Nat),Vals xs us->Vals (xs.drop n) (us.drop n)
 | _,_,0,r=>r
 | _,_,_+1,.nil=>.nil
 | _,_,n+1,.cons _ t=>Vals.drop n t
def hZ:Option V->Option Value->Prop
 | some v,some u=>RelV v u
 | none,none=>True
 | _,_=>False
def KV {κ:Type}:List (κ × V)->List (κ × Value)->Prop:=Paired fun(p:κ × V) (q:κ × Value)=>p.1=q.1/\RelV p.2 q.2
def kV:Key->V
 | .inl i=>.int i
 | .inr x=>.str x
inductive HO where
  | lst (xs:List V)
  | tup (xs:List V)
  | dK (kvs:List (Key × V)) | dT (kvs:List (List Key × V))
  | set (S:Int->Bool) (n:Nat)
  | ins (C dx:Addr) (fs:List (Str × V))
  | own (x:Addr)
  | xd (fs:List (Str × V))
  | met (f x:Addr)
  | rng (lo hi:Int)
  | frz (o:Obj) (u:HO)
  | tbl (ps:Array Value)
  | ext (φ:Heap->Prop)
abbrev Hp:=Addr->Option HO
def upd (H:Hp) (a:Addr) (o:HO):Hp:=λb=>if b=a then some o else H b
theorem ag {H:Hp} {a:Addr} {o:HO}:upd H a o a=some o:=by unfold upd;rw [if_pos rfl]
theorem aA {H:Hp} {a b:Addr} {o:HO} (h:b≠a):upd H a o b=H b:=by unfold upd;rw [if_neg h]
theorem kZ {H:Hp} {a b:Addr} {o u:HO} (h:H a=some o) (h':H b=some u) (d:o≠u):a≠b:=by
 intro e;subst e;rw [h] at h';exact d (Option.some.inj h')
theorem bH {H:Hp} {a b:Addr} {o:HO} (h:H a=some o) (h':H b=none):a≠b:=by
 intro e;subst e;rw [h] at h';cases h'
section
variable (P:Program) (w:World)
def bP (H:Hp) (h:Heap) (a:Addr):HO->Prop
 | .lst xs=>xs.length<=sizeLine/\∃(its:List Value) (n:Nat),Vals xs its/\h.get? a=some { cls:=.type "list",data:=.seq its.toArray n }
 | .tup xs=>xs.length<=sizeLine/\∃ its:List Value,Vals xs its/\IsTup h a its.toArray
 | .dK kvs=>kvs.length<=sizeLine/\(a==sysModules)=false/\∃ vs,KV kvs vs/\h.DictOf (cq P w) a vs
 | .dT kvs=>kvs.length<=sizeLine/\(a==sysModules)=false/\∃ xs:List (List Key × Addr × Value),
   Paired (fun(p:List Key × V) (q:List Key × Addr × Value)=>p.1=q.1/\H q.2.1=some (.tup (p.1.map kV))/\RelV p.2 q.2.2) kvs xs /\
   ∃ o es ep,h.get? a=some o/\o.ExactDict/\o.data=.dict es ep/\es.toList=xs.map (entryOfKey (tupleKind (cq P w)))/\(xs.map (·.1)).Nodup
 | .set S n=>h.SetOf (intKind P w) a S n
 | .ins C dx fs=>H dx=some (.own a)/\fs.length<=1000/\dx≠a/\h.get? a=some (PySem.W.instObj C dx) /\
   ∃ mA,h.Ns1 dx mA/\(∀ f,hZ (fs.lookup f) (mA f))/\PySem.Within mA (fs.map (·.1))
 | .own _=>∃ o,h.get? a=some o
 | .xd fs=>∃ mA,h.Ns1 a mA/\∀ f,hZ (fs.lookup f) (mA f)
 | .rng lo hi=>∃ t u v,h.get? a=some { cls:=.type "range",data:=.fields #[.int lo t,.int hi u,.int 1 v] }
 | .frz o u=>h.get? a=some o/\bP H h a u
 | .tbl ps=>h.get? a=some { cls:=.none,data:=.fields ps }
 | .met f x=>h.get? a=some (PySem.W.methodObj (.ref f) (.ref x))
 | .ext φ=>φ h/\(∃ o,h.get? a=some o)/\∀ h1 h2:Heap,φ h1->(∀ o,h1.get? a=some o->h2.get? a=some o)->φ h2
def fu (H:Hp) (h:Heap):Prop:=∀ a o,H a=some o->bP P w H h a o
end
section
variable {P:Program} {w:World} {H H':Hp} {h h':Heap} {a:Addr} {o:HO}
theorem bP.lt (x:bP P w H h a o):a<h.objs.size:=by
 cases o with
 | lst xs=>obtain⟨_,_,_,_,e⟩:=x;exact Heap.lt_size e
 | tup xs=>obtain⟨_,_,_,p⟩:=x;exact p.lt
 | dK kvs=>obtain⟨_,_,_,_,o,_,_,e,_⟩:=x;exact Heap.lt_size e
 | dT kvs=>obtain⟨_,_,_,_,o,_,_,e,_⟩:=x;exact Heap.lt_size e
 | set S n=>obtain⟨o,_,_,_,e,_⟩:=x;exact Heap.lt_size e
 | ins C dx fs=>obtain⟨_,_,_,e,_⟩:=x;exact Heap.lt_size e
 | own y=>obtain⟨_,e⟩:=x;exact Heap.lt_size e
 | xd fs=>obtain⟨_,⟨_,_,_,e,_⟩,_⟩:=x;exact Heap.lt_size e
 | rng lo hi=>obtain⟨_,_,_,e⟩:=x;exact Heap.lt_size e
 | frz ob u=>obtain⟨e,_⟩:=x;exact Heap.lt_size e
 | tbl ps=>exact Heap.lt_size (show h.get? a=some _ from x)
 | met f y=>exact Heap.lt_size (show h.get? a=some _ from x)
 | ext φ=>obtain⟨_,⟨_,e⟩,_⟩:=x;exact Heap.lt_size e
theorem Paired.z7 {α β:Type} {F G:α->β->Prop}:∀{l₁:List α} {l₂:List β},Paired F l₁ l₂->(∀ a b,F a b->G a b)->Paired G l₁ l₂
 | _,_,.nil,_=>.nil
 | _,_,.cons r t,f=>.cons (f _ _ r) (Paired.z7 t f)
theorem bP.ki (x:bP P w H h a o) (k:∀ b u,(b=a∨H b=some (.own a))->h.get? b=some u->h'.get? b=some u)
  (ho:∀ b,H b=some (.own a)->H' b=some (.own a)) (ht:∀ b xs,H b=some (.tup xs)->H' b=some (.tup xs)):bP P w H' h' a o:=by
 induction o with
 | lst xs=>obtain⟨z,its,n,r,e⟩:=x;exact⟨z,its,n,r,k _ _ (.inl rfl) e⟩
 | tup xs=>obtain⟨z,its,r,ob,e,c⟩:=x;exact⟨z,its,r,ob,k _ _ (.inl rfl) e,c⟩
 | dK kvs=>obtain⟨z,y,vs,r,ob,es,ep,e,c⟩:=x;exact⟨z,y,vs,r,ob,es,ep,k _ _ (.inl rfl) e,c⟩
 | dT kvs =>
  obtain⟨z,y,xs,r,ob,es,ep,e,c⟩:=x
  exact⟨z,y,xs,Paired.z7 r λp q z=>⟨z.1,ht _ _ z.2.1,z.2.2⟩,ob,es,ep,k _ _ (.inl rfl) e,c⟩
 | set S n=>obtain⟨ob,es,ep,t,e,c⟩:=x;exact⟨ob,es,ep,t,k _ _ (.inl rfl) e,c⟩
 | ins C dx fs =>
  obtain⟨d,z,ne,e,mA,⟨od,es,ep,e2,c⟩,r⟩:=x
  exact⟨ho _ d,z,ne,k _ _ (.inl rfl) e,mA,⟨od,es,ep,k _ _ (.inr d) e2,c⟩,r⟩
 | own y=>obtain⟨ob,e⟩:=x;exact⟨ob,k _ _ (.inl rfl) e⟩
 | xd fs=>obtain⟨mA,⟨od,es,ep,e,c⟩,r⟩:=x;exact⟨mA,⟨od,es,ep,k _ _ (.inl rfl) e,c⟩,r⟩
 | rng lo hi=>obtain⟨t,u,v,e⟩:=x;exact⟨t,u,v,k _ _ (.inl rfl) e⟩
 | frz ob u ih=>obtain⟨e,q⟩:=x;exact⟨k _ _ (.inl rfl) e,ih q⟩
 | tbl ps =>
  have e:h.get? a=some { cls:=.none,data:=.fields ps }:=x
  show h'.get? a=some { cls:=.none,data:=.fields ps }
  exact k a _ (.inl rfl) e
 | met f y =>
  have e:h.get? a=some (PySem.W.methodObj (.ref f) (.ref y)):=x
  show h'.get? a=some (PySem.W.methodObj (.ref f) (.ref y))
  exact k a _ (.inl rfl) e
 | ext φ=>obtain⟨p,⟨o,e⟩,st⟩:=x;exact⟨st _ _ p λo q=>k _ _ (.inl rfl) q,⟨o,k _ _ (.inl rfl) e⟩,st⟩
theorem fu.lt (x:fu P w H h) (e:H a=some o):a<h.objs.size:=(x a o e).lt
theorem fu.fresh (x:fu P w H h) (e:h.objs.size<=a):H a=none:=by
 cases q:H a with
 | none=>rfl
 | some u=>exact absurd (Nat.lt_of_lt_of_le (x.lt q) e) (Nat.lt_irrefl _)
theorem fu.kept (x:fu P w H h) (k:∀ b u,h.get? b=some u->h'.get? b=some u):fu P w H h':=λa o e =>
 (x a o e).ki (λb u _ q=>k b u q) (λ_ q=>q) λ_ _ q=>q
theorem fu.laid (x:fu P w H h) (k:∀ b u,h.get? b=some u->h'.get? b=some u) (hp:h.objs.size<=a) (new:bP P w (upd H a o) h' a o):fu P w (upd H a o) h':=λb u e=>by
 have hn:=x.fresh hp
 by_cases hb:b=a
 ·subst hb;rw [ag] at e;cases e;exact new
 ·rw [aA hb] at e
  exact (x b u e).ki (λc v _ q=>k c v q) (λc q=>by rw [aA (bH q hn)];exact q) λc xs q=>by rw [aA (bH q hn)];exact q
end
def Rd (H:Hp) (a:Addr) (u:HO):Prop:=H a=some u∨∃ o,H a=some (.frz o u)
theorem Rd.of {H:Hp} {a:Addr} {u:HO} (h:H a=some u):Rd H a u:=.inl h
theorem Rd.ok {P:Program} {w:World} {H:Hp} {h:Heap} {a:Addr} {u:HO} (r:Rd H a u) (x:fu P w H h):bP P w H h a u:=by
 rcases r with r | ⟨o,r⟩
 ·exact x a u r
 ·obtain⟨_,q⟩:=x a _ r
  exact q
def Bf:Option HO->Prop
 | some (.lst _)=>True
 | some (.dK _)=>True
 | some (.dT _)=>True
 | some (.set _ _)=>True
 | some (.ins _ _ _)=>True
 | some (.ext _)=>True
 | _=>False
section
variable {P:Program} {w:World} {H:Hp} {h h':Heap} {x e:Addr} {o':HO}
theorem fu.write (ok:fu P w H h) (mu:Bf (H x)) (he:e=x∨H e=some (.own x)) (k:∀ b u,b≠e->h.get? b=some u->h'.get? b=some u) (heo:∃ u,h'.get? e=some u)
  (new:bP P w (upd H x o') h' x o'):fu P w (upd H x o') h':=λb u q=>by
 have nown:∀ c y,H c=some (.own y)->c≠x:=λc y r z=>by subst z;rw [r] at mu;exact mu
 have ntup:∀ c xs,H c=some (.tup xs)->c≠x:=λc xs r z=>by subst z;rw [r] at mu;exact mu
 by_cases hb:b=x
 ·subst hb;rw [ag] at q;cases q;exact new
 ·rw [aA hb] at q
  by_cases hbe:b=e
  ·have q':H b=some (.own x):=by
    rcases he with z | z
    ·exact absurd (hbe.trans z) hb
    ·rw [hbe];exact z
   rw [q] at q';cases q'
   obtain⟨v,hv⟩:=heo
   exact⟨v,by rw [hbe];exact hv⟩
  ·refine (ok b u q).ki (λc v hc r=>k c v ?_ r) (λc r=>by rw [aA (nown c b r)];exact r) λc xs r=>by rw [aA (ntup c xs r)];exact r
   rcases hc with rfl | hc
   ·exact hbe
   ·rintro rfl
    rcases he with z | z
    ·exact nown c b hc z
    ·rw [hc] at z;cases z;exact hb rfl
end
structure Un (fs ex:List Addr) (H H':Hp) (h h':Heap):Prop where
 keep:∀ b o,h.get? b=some o->H b=none->b∉fs->b∉ex->h'.get? b=some o
 slot:∀ b o,h.get? b=some o->H b=none->b∈fs->b∉ex->∃ sl,h'.get? b=some { o with slots:=sl }
 free:∀ b o,h.get? b=some o->H b=none->b∉ex->H' b=none
 there:∀ b o,h.get? b=some o->b∉ex->∃ o',h'.get? b=some o'
 tups:∀ b xs,H b=some (.tup xs)->H' b=some (.tup xs)
 frzs:∀ b o u,H b=some (.frz o u)->H' b=some (.frz o u)
 tbls:∀ b ps,H b=some (.tbl ps)->∃ more,H' b=some (.tbl (ps++more))
section
variable {fs fs' ex ex':List Addr} {H H1 H2:Hp} {h h1 h2 h':Heap} {a x e:Addr} {o:HO}
theorem Un.any (u:Un fs ex H H1 h h1) {b:Addr} {ob:Obj} (q:h.get? b=some ob) (n:H b=none) (hx:b∉ex):∃ sl,h1.get? b=some { ob with slots:=sl }:=by
 by_cases hb:b∈fs
 ·exact u.slot b ob q n hb hx
 ·exact⟨ob.slots,u.keep b ob q n hb hx⟩
theorem Un.trans (a:Un fs ex H H1 h h1) (b:Un fs ex H1 H2 h1 h2):Un fs ex H H2 h h2 where
 keep:=λc ob q n hc hx=>b.keep c ob (a.keep c ob q n hc hx) (a.free c ob q n hx) hc hx
 slot:=λc ob q n hc hx=>by
  obtain⟨sl,e1⟩:=a.slot c ob q n hc hx
  obtain⟨sl',e2⟩:=b.slot c _ e1 (a.free c ob q n hx) hc hx
  exact⟨sl',e2⟩
 free:=λc ob q n hx=>by
  obtain⟨o',e1⟩:=a.there c ob q hx
  exact b.free c o' e1 (a.free c ob q n hx) hx
 there:=λc ob q hx=>by
  obtain⟨o',e1⟩:=a.there c ob q hx
  exact b.there c o' e1 hx
 tups:=λc xs q=>b.tups c xs (a.tups c xs q)
 frzs:=λc ob xs q=>b.frzs c ob xs (a.frzs c ob xs q)
 tbls:=λc ps q=>by
  obtain⟨m1,e1⟩:=a.tbls c ps q
  obtain⟨m2,e2⟩:=b.tbls c _ e1
  exact⟨m1++m2,by rw [e2,Array.append_assoc]⟩
theorem Un.kept (k:∀ b u,h.get? b=some u->h'.get? b=some u):Un fs ex H H h h' :=
 ⟨λb ob q _ _ _=>k b ob q,λb ob q _ _ _=>⟨ob.slots,k b ob q⟩,λ_ _ _ n _=>n,λb ob q _=>⟨ob,k b ob q⟩,λ_ _ q=>q,λ_ _ _ q=>q,λ_ ps q=>⟨#[],by rw [q];simp⟩⟩
theorem Un.refl:Un fs ex H H h h:=Un.kept λ_ _ q=>q
theorem Un.laid (k:∀ b u,h.get? b=some u->h'.get? b=some u) (hp:h.objs.size<=a) (hn:H a=none):Un fs ex H (upd H a o) h h' where
 keep:=λb u q _ _ _=>k b u q
 slot:=λb u q _ _ _=>⟨u.slots,k b u q⟩
 free:=λb u q n _=>by rw [aA (Nat.ne_of_lt (Nat.lt_of_lt_of_le (Heap.lt_size q) hp))];exact n
 there:=λb u q _=>⟨u,k b u q⟩
 tups:=λb xs q=>by rw [aA (bH q hn)];exact q
 frzs:=λb u xs q=>by rw [aA (bH q hn)];exact q
 tbls:=λb ps q=>⟨#[],by rw [aA (bH q hn),q];simp⟩
theorem Un.write (mu:Bf (H x)) (he:e=x∨H e=some (.own x)) (k:∀ b u,b≠e->h.get? b=some u->h'.get? b=some u) (heo:∃ u,h'.get? e=some u):Un fs ex H (upd H x o) h h':=by
 have hx:∀ b,H b=none->b≠x:=λb n z=>by subst z;rw [n] at mu;exact mu
 have hb:∀ b,H b=none->b≠e:=λb n z=>by
  subst z
  rcases he with r | r
  ·exact hx b n r
  ·rw [n] at r;cases r
 have hm:∀ b u,H b=some u->¬Bf (some u)->b≠x:=λb u q nm z=>by subst z;rw [q] at mu;exact nm mu
 refine⟨λb u q n _ _=>k b u (hb b n) q,λb u q n _ _=>⟨u.slots,k b u (hb b n) q⟩,λb u q n _=>by rw [aA (hx b n)];exact n,λb u q _=>?_,
  λb xs q=>by rw [aA (hm b _ q λz=>z)];exact q,λb u xs q=>by rw [aA (hm b _ q λz=>z)];exact q,λb ps q=>⟨#[],by rw [aA (hm b _ q λz=>z),q];simp⟩⟩
 by_cases hbe:b=e
 ·subst hbe;exact heo
 ·exact⟨u,k b u hbe q⟩
theorem Un.mono (u:Un fs ex H H1 h h1) (hs:∀ b∈fs,b∈fs') (hx:∀ b∈ex,b∈ex'):Un fs' ex' H H1 h h1 :=
 ⟨λb ob q n hb he=>u.keep b ob q n (λz=>hb (hs b z)) λz=>he (hx b z),λ_ _ q n _ he=>u.any q n λz=>he (hx _ z),λb ob q n he=>u.free b ob q n λz=>he (hx b z),λb ob q he=>u.there b ob q λz=>he (hx b z),u.tups,u.frzs,u.tbls⟩
end
def Cz (h:Heap) (H:Hp):List Addr:=(List.range h.objs.size).filter λa=>(H a).isSome
def lV (h:Heap) (H:Hp):Heap:=PySem.W.hideAll h (Cz h H)
theorem sH (h:Heap) (H:Hp):(lV h H).objs.size=h.objs.size:=PySem.W.hideAll_size _ _
theorem uP {h:Heap} {H:Hp} {b:Addr} {o:Obj} (e:h.get? b=some o) (n:H b=none):(lV h H).get? b=some o :=
 PySem.W.hideAll_get _ e λhm=>by
  have q:(H b).isSome=true:=(List.mem_filter.mp hm).2
  rw [n] at q;simp at q
theorem xy {h:Heap} {H:Hp} {b:Addr} {o:Obj} (e:(lV h H).get? b=some o):h.get? b=some o/\H b=none:=by
 have e':h.get? b=some o:=PySem.W.of_hideAll (Cz h H) e
 refine⟨e',?_⟩
 cases q:H b with
 | none=>rfl
 | some x =>
  have hm:b∈Cz h H:=List.mem_filter.mpr ⟨List.mem_range.mpr (Heap.lt_size e'),by simp [q]⟩
  have z:(lV h H).get? b=none:=PySem.W.hideAll_none (Cz h H) hm
  rw [z] at e;cases e
def wO (g h:Heap) (L:Addr):List (Addr × Obj):=(List.range h.objs.size).filterMap λa=>if a=L∨(g.get? a).isSome=true then none else (h.get? a).map λo=>(a,o)
def rest (g h:Heap) (L d:Addr):List (Addr × Obj):=(wO g h L).filter λp=>decide (p.1≠d)
structure Mod (K:PySem.W.Frag) (mg:Str->Option Value) (base:Heap):Prop where
 kin:K.In base
 glob:base.Ns mainGlobals mg
 blt:∃ mb,base.Ns builtinsNs mb/\∀ x:Str,x ≠ "__name__"->mb x=bootBuiltins x
 nolimit:base.NoLimit
structure Cx where
 prog:Program
 w:World
 K:PySem.W.Frag
 mg:Str->Option Value
 base:Heap
 A:Around
 N:List Str
 s₀:Shared
 H₀:Hp
 env:Env
 outer:List Env
 stack:List Env
 ex:List Addr
 fn:Str->Bool
 calm:Bool
 pn:List (Addr × Obj)
 xe:Value->Shared->Prop
def gw (l:List Env):List Addr:=l.filterMap (·.frame)
abbrev Cx.fs (X:Cx):List Addr:=gw X.outer
def AS (sc:Scope) (x:Str):Prop:=sc.names.lookup x=some .local∨sc.names.lookup x=some .cell∨sc.names.lookup x=some .free
def Loc (sc:Scope) (x:Str):Prop:=sc.names.lookup x=some .local∨sc.names.lookup x=some .cell
def Look (env:Env) (h:Heap) (m:Str->Option Value) (x:Str) (u:Value):Prop :=
 (env.kindOf x=some .local/\m x=some u)∨((env.kindOf x=some .cell∨env.kindOf x=some .free)/\∃ c,env.cells.lookup x=some c/\h.IsCell c (some u))
structure Cx.Ok (X:Cx):Prop where
 mod:Mod X.K X.mg X.base
 kind:X.env.scope.kind=.function
 glob:X.env.globals=mainGlobals
 blt:X.env.builtins=builtinsNs
 above:X.s₀.heap.objs.size<=X.env.locals
 inj:∀ x y c,X.env.cells.lookup x=some c->X.env.cells.lookup y=some c->x=y
 has:∀ x,(X.env.kindOf x=some .cell∨X.env.kindOf x=some .free)->∃ c,X.env.cells.lookup x=some c
 cab:∀ x c,X.fn x=true->X.env.cells.lookup x=some c->X.s₀.heap.objs.size<=c
 hd:X.calm=true->X.A.handled=none
 frames:X.A.frames=some X.stack
 stk:X.stack=X.outer∨(X.stack=X.env::X.outer/\X.env.frame=some X.env.locals)
 exf:∀ b∈X.ex,b≠X.env.locals/\∀ x c,X.env.cells.lookup x=some c->c≠b
 bs:∀ b o,X.base.get? b=some o->X.s₀.heap.get? b=some o/\X.H₀ b=none
 bsz:X.base.objs.size<=X.s₀.heap.objs.size
 noex:∀ b o,X.base.get? b=some o->b∉X.ex
 exfs:∀ b∈X.ex,b∉X.fs
 jo:X.s₀.heap.FunFrames X.base X.outer
 frf:∀ b∈X.fs,X.H₀ b=none
structure Inv (X:Cx) (pins:List (Addr × Obj)) (σ:List (Option V)) (H:Hp) (s:Shared):Prop where
 ok:X.Ok
 os:s.os=X.s₀.os
 bare:AllBare s.gens
 base:Un X.fs X.ex X.H₀ H X.s₀.heap s.heap
 loc:∃ m,s.heap.Ns X.env.locals m/\∀(i:Nat) (x:Str) (v:V),X.N[i]?=some x->σ[i]?=some (some v)->AS X.env.scope x->∃ u,RelV v u/\Look X.env s.heap m x u
 cell:∀ x c,X.env.cells.lookup x=some c->∃ v,s.heap.IsCell c v
 free:H X.env.locals=none
 freeC:∀ x c,X.env.cells.lookup x=some c->H c=none
 pin:∀ p∈X.pn++pins,s.heap.get? p.1=some p.2/\H p.1=none/\p.1≠X.env.locals/\p.1∉X.fs/\∀ v,p.2.data≠.cell v
 hok:fu X.prog X.w H s.heap
 len:σ.length=X.N.length
section
variable {X:Cx} {pins:List (Addr × Obj)} {σ:List (Option V)} {H H':Hp} {s:Shared} {h':Heap}
theorem Cx.Ok.CW (ok:X.Ok) {b:Addr} {o:Obj} (e:X.base.get? b=some o):b∉X.fs:=λhb=>by
 have:=(ok.jo.mem hb).1
 rw [e] at this;cases this
theorem Inv.bs (I:Inv X pins σ H s):∀ b o,X.base.get? b=some o->s.heap.get? b=some o/\H b=none:=λb o e =>
 ⟨I.base.keep b o (I.ok.bs b o e).1 (I.ok.bs b o e).2 (I.ok.CW e) (I.ok.noex b o e),I.base.free b o (I.ok.bs b o e).1 (I.ok.bs b o e).2 (I.ok.noex b o e)⟩
theorem Inv.bk (I:Inv X pins σ H s):∀ b o,X.base.get? b=some o->s.heap.get? b=some o:=λb o e=>(I.bs b o e).1
theorem Inv.mod (I:Inv X pins σ H s):Mod X.K X.mg X.base:=I.ok.mod
theorem Inv.iu (I:Inv X pins σ H s):X.K.In s.heap:=I.ok.mod.kin.keeps I.bk
theorem Inv.fr (I:Inv X pins σ H s):∃ m,Fr X.base X.env.locals s.heap m :=
 let ⟨m,hn,_⟩:=I.loc
 ⟨m,hn,I.bk,Nat.le_trans I.ok.bsz I.ok.above⟩
theorem Inv.lt (I:Inv X pins σ H s):X.env.locals<s.heap.objs.size:=let ⟨_,hn,_⟩:=I.loc;hn.lt
theorem Inv.sz (I:Inv X pins σ H s):X.s₀.heap.objs.size<=s.heap.objs.size:=Nat.le_trans I.ok.above (Nat.le_of_lt I.lt)
theorem Inv.xw (I:Inv X pins σ H s) {a:Addr} (h:s.heap.objs.size<=a):a∉X.fs:=λhb=>by
 obtain⟨_,o,ho,_⟩:=I.ok.jo.mem hb
 exact absurd (Nat.lt_of_lt_of_le (Heap.lt_size ho) (Nat.le_trans I.sz h)) (Nat.lt_irrefl _)
theorem Inv.zN (I:Inv X pins σ H s):∀ x c,X.env.cells.lookup x=some c->c≠X.env.locals:=λx c e z=>by
 obtain⟨v,o,ho,hd⟩:=I.cell x c e
 obtain⟨m,⟨o',es,ep,ho',hd',_⟩,_⟩:=I.loc
 rw [z,ho'] at ho;cases ho;rw [hd'] at hd;cases hd
theorem Inv.jo (I:Inv X pins σ H s):s.heap.FunFrames X.base X.outer:=by
 have all:∀(l:List Env),(∀ b∈gw l,b∈X.fs)->X.s₀.heap.FunFrames X.base l->s.heap.FunFrames X.base l:=by
  intro l
  induction l with
  | nil=>intro _ _;trivial
  | cons env r ih =>
   intro hs hl
   obtain⟨hk,⟨L,o,hf,hn,ho,hd⟩,hr⟩:=hl
   have hL:L∈X.fs:=hs L (by unfold gw;rw [List.filterMap_cons,hf];exact List.mem_cons_self)
   obtain⟨sl,e⟩:=I.base.slot L o ho (I.ok.frf L hL) hL λz=>I.ok.exfs L z hL
   exact⟨hk,⟨L,_,hf,hn,e,hd⟩,ih (λb hb=>hs b (by unfold gw;rw [List.filterMap_cons,hf];exact List.mem_cons_of_mem _ hb)) hr⟩
 exact all X.outer (λ_ hb=>hb) I.ok.jo
theorem Inv.stack (I:Inv X pins σ H s):s.heap.FunFrames X.base X.stack:=by
 rcases I.ok.stk with e | ⟨e,hf⟩
 ·rw [e];exact I.jo
 ·rw [e]
  obtain⟨m,hn,_⟩:=I.loc
  refine .cons (by rw [I.ok.kind];decide) hf hn ?_ I.jo
  exact Heap.get?_none_of_le (Nat.le_trans I.ok.bsz I.ok.above)
theorem Inv.fR (I:Inv X pins σ H s):∀ b∈gw X.stack,b∈X.env.locals::X.fs:=λb hb=>by
 rcases I.ok.stk with e | ⟨e,hf⟩
 ·rw [e] at hb;exact List.mem_cons_of_mem _ hb
 ·rw [e] at hb
  unfold gw at hb
  rw [List.filterMap_cons,hf] at hb
  exact hb
theorem Inv.iJ (I:Inv X pins σ H s):∀ b∈gw X.stack,H b=none:=λb hb=>by
 rcases List.mem_cons.mp (I.fR b hb) with e | hb
 ·rw [e];exact I.free
 ·obtain⟨_,o,ho,_⟩:=I.ok.jo.mem hb
  exact I.base.free b o ho (I.ok.frf b hb) λz=>I.ok.exfs b z hb
theorem Inv.step {g':Array GenState} {t':Nat} {d':Drawn} {ch:List Addr} (I:Inv X pins σ H s)
  (hch:∀ b∈ch,(b∈X.ex∨X.s₀.heap.objs.size<=b)/\b≠X.env.locals/\(∀ x c,X.env.cells.lookup x=some c->c≠b)/\∀ p∈X.pn++pins,p.1≠b)
  (keep:∀ b o,b≠X.env.locals->b∉X.fs->b∉ch->s.heap.get? b=some o->H b=none->h'.get? b=some o)
  (slot:∀ b o,b≠X.env.locals->b∈X.fs->b∉ch->s.heap.get? b=some o->H b=none->∃ sl,h'.get? b=some { o with slots:=sl }) (free:∀ b o,b∉ch->s.heap.get? b=some o->H b=none->H' b=none)
  (there:∀ b o,b∉ch->s.heap.get? b=some o->∃ o',h'.get? b=some o')
  (tups:∀ b xs,H b=some (.tup xs)->H' b=some (.tup xs)) (frzs:∀ b o u,H b=some (.frz o u)->H' b=some (.frz o u)) (tbls:∀ b ps,H b=some (.tbl ps)->∃ more,H' b=some (.tbl (ps++more)))
  (ns:∀ m,s.heap.Ns X.env.locals m->h'.Ns X.env.locals m) (hok:fu X.prog X.w H' h') (hg:AllBare g') :
  Inv X pins σ H' { s with heap:=h',gens:=g',drawn:=d',toks:=t' }:=by
 have neL:∀ b o,X.s₀.heap.get? b=some o->b≠X.env.locals:=λb o e=>Nat.ne_of_lt (Nat.lt_of_lt_of_le (Heap.lt_size e) I.ok.above)
 have neC:∀ b o,X.s₀.heap.get? b=some o->b∉X.ex->b∉ch:=λb o e hx hb=>by
  rcases (hch b hb).1 with z | z
  ·exact hx z
  ·exact absurd (Nat.lt_of_lt_of_le (Heap.lt_size e) z) (Nat.lt_irrefl _)
 have cellK:∀ x c,X.env.cells.lookup x=some c->∀ v,s.heap.IsCell c v->h'.IsCell c v:=λx c e v ⟨o,ho,hd⟩=>by
  have nch:c∉ch:=λz=>(hch c z).2.2.1 x c e rfl
  by_cases hc:c∈X.fs
  ·obtain⟨sl,q⟩:=slot c o (I.zN x c e) hc nch ho (I.freeC x c e)
   exact⟨_,q,hd⟩
  ·exact⟨o,keep c o (I.zN x c e) hc nch ho (I.freeC x c e),hd⟩
 refine⟨I.ok,I.os,hg,⟨λb o e n hb hx=>?_,λb o e n hb hx=>?_,λb o e n hx=>?_,λb o e hx=>?_,λb xs e=>tups b xs (I.base.tups b xs e),λb o xs e=>frzs b o xs (I.base.frzs b o xs e),λb ps e=>?_⟩,?_,λx c e=>?_,?_,λx c e=>?_,λp hp=>?_,hok,I.len⟩
 ·exact keep b o (neL b o e) hb (neC b o e hx) (I.base.keep b o e n hb hx) (I.base.free b o e n hx)
 ·obtain⟨sl,e1⟩:=I.base.slot b o e n hb hx
  obtain⟨sl',e2⟩:=slot b _ (neL b o e) hb (neC b o e hx) e1 (I.base.free b o e n hx)
  exact⟨sl',e2⟩
 ·obtain⟨o',e1⟩:=I.base.there b o e hx
  exact free b o' (neC b o e hx) e1 (I.base.free b o e n hx)
 ·obtain⟨o',e1⟩:=I.base.there b o e hx
  exact there b o' (neC b o e hx) e1
 ·obtain⟨m1,e1⟩:=I.base.tbls b ps e
  obtain⟨m2,e2⟩:=tbls b _ e1
  exact⟨m1++m2,by rw [e2,Array.append_assoc]⟩
 ·obtain⟨m,hn,hl⟩:=I.loc
  refine⟨m,ns m hn,λi x v e1 e2 e3=>?_⟩
  obtain⟨u,r,l⟩:=hl i x v e1 e2 e3
  refine⟨u,r,?_⟩
  rcases l with l | ⟨k,c,e,z⟩
  ·exact .inl l
  ·exact .inr ⟨k,c,e,cellK x c e _ z⟩
 ·obtain⟨v,z⟩:=I.cell x c e
  exact⟨v,cellK x c e v z⟩
 ·obtain⟨m,⟨o,_,_,ho,_⟩,_⟩:=I.loc
  exact free _ o (λz=>(hch _ z).2.1 rfl) ho I.free
 ·obtain⟨v,o,ho,hd⟩:=I.cell x c e
  exact free c o (λz=>(hch c z).2.2.1 x c e rfl) ho (I.freeC x c e)
 ·obtain⟨e,n,ne,nf,d⟩:=I.pin p hp
  have nch:p.1∉ch:=λz=>(hch p.1 z).2.2.2 p hp rfl
  exact⟨keep p.1 p.2 ne nf nch e n,free p.1 p.2 nch e n,ne,nf,d⟩
theorem Inv.un {t':Nat} (I:Inv X pins σ H s) (u:Un X.fs [] H H' s.heap h') (hok:fu X.prog X.w H' h'):Inv X pins σ H' { s with heap:=h',toks:=t' }:=by
 obtain⟨m,⟨o,es,ep,ho,r⟩,_⟩:=id I.loc
 obtain⟨sl,hL⟩:=u.any ho I.free (by simp)
 exact I.step (g':=s.gens) (d':=s.drawn) (ch:=[]) (λ_ z=>nomatch z) (λb o _ hb _ e n=>u.keep b o e n hb (by simp)) (λb o _ hb _ e n=>u.slot b o e n hb (by simp)) (λb o _ e n=>u.free b o e n (by simp)) (λb o _ e=>u.there b o e (by simp)) u.tups u.frzs u.tbls (λm' hm=>by
  obtain⟨o',es',ep',ho',r'⟩:=hm
  rw [ho] at ho';cases ho'
  exact⟨_,es',ep',hL,r'⟩) hok I.bare
theorem Inv.call {g':Array GenState} {t':Nat} {d':Drawn} {ch:List Addr} (I:Inv X pins σ H s) (u:Un (gw X.stack) ch H H' s.heap h') (hok:fu X.prog X.w H' h') (hg:AllBare g')
  (hch:∀ b∈ch,(b∈X.ex∨X.s₀.heap.objs.size<=b)/\b≠X.env.locals/\(∀ x c,X.env.cells.lookup x=some c->c≠b)/\∀ p∈X.pn++pins,p.1≠b) :
  Inv X pins σ H' { s with heap:=h',gens:=g',drawn:=d',toks:=t' }:=by
 obtain⟨m,⟨o,es,ep,ho,r⟩,_⟩:=id I.loc
 obtain⟨sl,hL⟩:=u.any ho I.free λz=>(hch _ z).2.1 rfl
 exact I.step (ch:=ch) hch (λb o hL hb hc e n=>u.keep b o e n (λz=>(List.mem_cons.mp (I.fR b z)).elim hL hb) hc) (λb o _ _ hc e n=>u.any e n hc) (λb o hc e n=>u.free b o e n hc) (λb o hc e=>u.there b o e hc) u.tups u.frzs u.tbls (λm' hm=>by
  obtain⟨o',es',ep',ho',r'⟩:=hm
  rw [ho] at ho';cases ho'
  exact⟨_,es',ep',hL,r'⟩) hok hg
theorem Inv.turned {t':Nat} {it:Addr} (I:Inv X pins σ H s) (k:∀ b o,b≠it->s.heap.get? b=some o->h'.get? b=some o) (hn:H it=none) (hL:it≠X.env.locals)
  (h1:it∈X.ex∨X.s₀.heap.objs.size<=it) (h2:∀ x c,X.env.cells.lookup x=some c->c≠it) (h3:∀ p∈X.pn++pins,p.1≠it):Inv X pins σ H { s with heap:=h',toks:=t' }:=by
 have nit:∀ b u,H b=some u->b≠it:=λb u e z=>by rw [z,hn] at e;cases e
 refine I.step (g':=s.gens) (d':=s.drawn) (ch:=[it]) (λb hb=>?_) (λb o _ _ hc e _=>k b o (λz=>hc (by simp [z])) e) (λb o _ _ hc e _=>⟨o.slots,k b o (λz=>hc (by simp [z])) e⟩) (λ_ _ _ _ n=>n)
  (λb o hc e=>⟨o,k b o (λz=>hc (by simp [z])) e⟩) (λ_ _ e=>e) (λ_ _ _ e=>e) (λb ps e=>⟨#[],by rw [e];simp⟩) (λm hm=>?_) (λb u e=>?_) I.bare
 ·have e:b=it:=by simpa using hb
  subst e
  exact⟨h1,hL,h2,h3⟩
 ·obtain⟨o,es,ep,ho,r⟩:=hm
  exact⟨o,es,ep,k _ o (Ne.symm hL) ho,r⟩
 ·refine (I.hok b u e).ki (λc v hc q=>k c v ?_ q) (λ_ q=>q) λ_ _ q=>q
  rcases hc with z | z
  ·rw [z];exact nit b u e
  ·exact nit c _ z
theorem Inv.tok (I:Inv X pins σ H s) (t:Nat):Inv X pins σ H { s with toks:=t }:=I.un (h':=s.heap) (t':=t) Un.refl I.hok
theorem Inv.kept {t':Nat} (I:Inv X pins σ H s) (k:∀ b u,s.heap.get? b=some u->h'.get? b=some u):Inv X pins σ H { s with heap:=h',toks:=t' }:=I.un (Un.kept k) (I.hok.kept k)
theorem Inv.laid {a:Addr} {o:HO} {t':Nat} (I:Inv X pins σ H s) (k:∀ b u,s.heap.get? b=some u->h'.get? b=some u) (hp:s.heap.objs.size<=a) (new:bP X.prog X.w (upd H a o) h' a o) :
  Inv X pins σ (upd H a o) { s with heap:=h',toks:=t' }:=I.un (Un.laid k hp (I.hok.fresh hp)) (I.hok.laid k hp new)
theorem Inv.write {x e:Addr} {o:HO} {t':Nat} (I:Inv X pins σ H s) (mu:Bf (H x)) (he:e=x∨H e=some (.own x)) (k:∀ b u,b≠e->s.heap.get? b=some u->h'.get? b=some u) (heo:∃ u,h'.get? e=some u)
  (new:bP X.prog X.w (upd H x o) h' x o):Inv X pins σ (upd H x o) { s with heap:=h',toks:=t' }:=I.un (Un.write mu he k heo) (I.hok.write mu he k heo new)
theorem Inv.weak {σ':List (Option V)} (I:Inv X pins σ H s) (hl:σ'.length=σ.length) (w:∀(i:Nat) v,σ'[i]?=some (some v)->σ[i]?=some (some v)):Inv X pins σ' H s :=
 ⟨I.ok,I.os,I.bare,I.base,let ⟨m,hn,hl'⟩:=I.loc;⟨m,hn,λi x v e1 e2 e3=>hl' i x v e1 (w i v e2) e3⟩,I.cell,I.free,I.freeC,I.pin,I.hok,hl.trans I.len⟩
theorem Inv.gh {pins':List (Addr × Obj)} (I:Inv X pins σ H s) (h:∀ p∈pins',s.heap.get? p.1=some p.2/\H p.1=none/\p.1≠X.env.locals/\p.1∉X.fs/\∀ v,p.2.data≠.cell v):Inv X pins' σ H s :=
 ⟨I.ok,I.os,I.bare,I.base,I.loc,I.cell,I.free,I.freeC,λp hp=>(List.mem_append.mp hp).elim (λz=>I.pin p (List.mem_append_left _ z)) (h p),I.hok,I.len⟩
theorem nW {N:List Str} (hN:N.Nodup) {i j:Nat} {x:Str} (a:N[i]?=some x) (b:N[j]?=some x):i=j:=by
 obtain⟨h1,e1⟩:=List.getElem?_eq_some_iff.mp a
 obtain⟨h2,e2⟩:=List.getElem?_eq_some_iff.mp b
 exact (List.getElem_inj hN).mp (e1.trans e2.symm)
theorem ua {M:Model} {A:Around} {E:Value->Shared->Prop} {i:Nat} {x:Str} {v:V} {u:Value} {Q:Unit->Shared->Prop} (I:Inv X pins σ H s) (hN:X.N.Nodup) (hi:X.N[i]?=some x) (hx:Loc X.env.scope x) (r:RelV v u)
  (h:∀ s',Inv X pins (σ.set i (some v)) H s'->(∃ a,Heap.SameBut a s.heap s'.heap/\(a=X.env.locals∨X.env.cells.lookup x=some a))->Q () s') (hf:X.fn x=true∨X.env.scope.names.lookup x=some .local:=by first | exact .inl rfl | exact .inr rfl | assumption):wpAny M A (storeName X.env x u) Q E s:=by
 obtain⟨m,hn,hl⟩:=id I.loc
 have hcls:(X.env.scope.kind==.class || (X.env.scope.kind==.module && X.env.locals != X.env.globals))=false:=by rw [I.ok.kind];rfl
 have hiσ:i<σ.length:=by rw [I.len];exact (List.getElem?_eq_some_iff.mp hi).1
 have zN:=I.zN
 have tracked:∀{a:Addr} {h':Heap},(∃ o,s.heap.get? a=some o/\H a=none)->Heap.SameBut a s.heap h'->fu X.prog X.w H h':=λ{a h'} ha hs b ob e=>by
  obtain⟨_,_,hfree⟩:=ha
  refine (I.hok b ob e).ki (λc w' hc q=>(hs.2 c ?_).trans q) (λ_ q=>q) λ_ _ q=>q
  rintro rfl
  rcases hc with rfl | hc
  ·rw [hfree] at e;cases e
  ·rw [hfree] at hc;cases hc
 rcases hx with hk | hk
 ·refine wpAny_storeName_local hk hn (λh' hn' hs=>?_) hcls
  obtain⟨oL,_,_,hoL,_⟩:=id hn
  refine h _ ⟨I.ok,I.os,I.bare,⟨λb o e n hb hx=>?_,λb o e n hb hx=>?_,I.base.free,λb o e hx=>?_,I.base.tups,I.base.frzs,I.base.tbls⟩,⟨_,hn',λj y v' e1 e2 e3=>?_⟩,λy c e=>?_,I.free,I.freeC,λp hp=>?_,tracked ⟨oL,hoL,I.free⟩ hs,by simpa using I.len⟩ ⟨_,hs,.inl rfl⟩
  ·exact (hs.2 b (Nat.ne_of_lt (Nat.lt_of_lt_of_le (Heap.lt_size e) I.ok.above))).trans (I.base.keep b o e n hb hx)
  ·obtain⟨sl,e1⟩:=I.base.slot b o e n hb hx
   exact⟨sl,(hs.2 b (Nat.ne_of_lt (Nat.lt_of_lt_of_le (Heap.lt_size e) I.ok.above))).trans e1⟩
  ·obtain⟨o',e1⟩:=I.base.there b o e hx
   exact⟨o',(hs.2 b (Nat.ne_of_lt (Nat.lt_of_lt_of_le (Heap.lt_size e) I.ok.above))).trans e1⟩
  ·by_cases hj:j=i
   ·subst hj
    rw [hi] at e1;cases e1
    rw [List.getElem?_set_self hiσ] at e2
    cases e2
    exact⟨u,r,.inl ⟨hk,by simp⟩⟩
   ·rw [List.getElem?_set_ne (Ne.symm hj)] at e2
    obtain⟨u',r',q⟩:=hl j y v' e1 e2 e3
    refine⟨u',r',?_⟩
    rcases q with⟨k,e⟩|⟨k,c,e,z⟩
    ·refine .inl ⟨k,?_⟩
     have:y≠x:=λe=>hj (nW hN e1 (e▸hi))
     simp [this,e]
    ·exact .inr ⟨k,c,e,z.sameBut hs (zN y c e)⟩
  ·obtain⟨w',z⟩:=I.cell y c e
   exact⟨w',z.sameBut hs (zN y c e)⟩
  ·obtain⟨e,n,ne,nf,d⟩:=I.pin p hp
   exact⟨(hs.2 p.1 ne).trans e,n,ne,nf,d⟩
 ·have hfn:X.fn x=true:=by
   rcases hf with z | z
   ·exact z
   ·rw [z] at hk;cases hk
  obtain⟨c,hc⟩:=I.ok.has x (.inl hk)
  obtain⟨w',z⟩:=I.cell x c hc
  refine wpAny_storeName_cell I.ok.kind hk hc z (λh' hc' hs=>?_)
  obtain⟨oc,hoc,hocd⟩:=id z
  refine h { s with heap:=h' } ⟨I.ok,I.os,I.bare,⟨λb o e n hb hx=>?_,λb o e n hb hx=>?_,I.base.free,λb o e hx=>?_,I.base.tups,I.base.frzs,I.base.tbls⟩,⟨m,hn.sameBut hs (Ne.symm (zN x c hc)),λj y v' e1 e2 e3=>?_⟩,λy c' e=>?_,I.free,I.freeC,λp hp=>?_,tracked ⟨oc,hoc,I.freeC x c hc⟩ hs,by simpa using I.len⟩ ⟨c,hs,.inr hc⟩
  ·exact (hs.2 b (Nat.ne_of_lt (Nat.lt_of_lt_of_le (Heap.lt_size e) (I.ok.cab x c hfn hc)))).trans (I.base.keep b o e n hb hx)
  ·obtain⟨sl,e1⟩:=I.base.slot b o e n hb hx
   exact⟨sl,(hs.2 b (Nat.ne_of_lt (Nat.lt_of_lt_of_le (Heap.lt_size e) (I.ok.cab x c hfn hc)))).trans e1⟩
  ·obtain⟨o',e1⟩:=I.base.there b o e hx
   exact⟨o',(hs.2 b (Nat.ne_of_lt (Nat.lt_of_lt_of_le (Heap.lt_size e) (I.ok.cab x c hfn hc)))).trans e1⟩
  ·by_cases hj:j=i
   ·subst hj
    rw [hi] at e1;cases e1
    rw [List.getElem?_set_self hiσ] at e2
    cases e2
    exact⟨u,r,.inr ⟨.inl hk,c,hc,hc'⟩⟩
   ·rw [List.getElem?_set_ne (Ne.symm hj)] at e2
    obtain⟨u',r',q⟩:=hl j y v' e1 e2 e3
    refine⟨u',r',?_⟩
    rcases q with q | ⟨k,c',e,z'⟩
    ·exact .inl q
    ·refine .inr ⟨k,c',e,z'.sameBut hs ?_⟩
     rintro rfl
     exact hj (nW hN e1 (I.ok.inj _ _ _ e hc▸hi))
  ·by_cases hcc:c'=c
   ·subst hcc;exact⟨_,hc'⟩
   ·obtain⟨w2,z2⟩:=I.cell y c' e
    exact⟨w2,z2.sameBut hs hcc⟩
  ·obtain⟨e,n,ne,nf,d⟩:=I.pin p hp
   refine⟨(hs.2 p.1 ?_).trans e,n,ne,nf,d⟩
   intro q
   rw [q,hoc] at e
   have q':oc=p.2:=Option.some.inj e
   exact d w' (by rw [<- q'];exact hocd)
theorem dt {M:Model} {A:Around} {E:Value->Shared->Prop} {i:Nat} {x:Str} {v:V} {u:Value} {Q:Unit->Shared->Prop} (I:Inv X pins σ H s) (hN:X.N.Nodup) (hi:X.N[i]?=some x) (hx:Loc X.env.scope x) (r:RelV v u)
  (h:∀ s',Inv X pins (σ.set i (some v)) H s'->Q () s') (hf:X.fn x=true∨X.env.scope.names.lookup x=some .local:=by first | exact .inl rfl | exact .inr rfl | assumption):wpAny M A (storeName X.env x u) Q E s :=
 ua I hN hi hx r (λs' I' _=>h s' I') hf
theorem Inv.Bk {s':Shared} {ch:List Addr} (I:Inv X pins σ H s) (ho:s'.os=s.os) (u:Un (gw X.stack) ch H H' s.heap s'.heap) (hok:fu X.prog X.w H' s'.heap) (hg:AllBare s'.gens)
  (hch:∀ b∈ch,(b∈X.ex∨X.s₀.heap.objs.size<=b)/\b≠X.env.locals/\(∀ x c,X.env.cells.lookup x=some c->c≠b)/\∀ p∈X.pn++pins,p.1≠b):Inv X pins σ H' s':=by
 obtain⟨h',g',d',t',o'⟩:=s'
 have e:o'=s.os:=ho
 subst e
 exact I.call (g':=g') (t':=t') (d':=d') u hok hg hch
end
abbrev XK:=Value->Option Addr->Hp->Prop
abbrev St:=List (Option V)
abbrev VK:=V->Hp->Prop
abbrev TE:=St->Hp->VK->Prop
abbrev TT:=St->Hp->(Bool->Hp->Prop)->Prop
abbrev TA:=St->Hp->(List V->Hp->Prop)->Prop
structure Ends where
 nx:St->Hp->Prop
 rt:VK
 bk:St->Hp->Prop:=λ_ _=>False
 ct:St->Hp->Prop:=λ_ _=>False
abbrev TS:=Ends->St->Hp->Prop
def EP (X:Cx) (pins:List (Addr × Obj)) (σ:St) (Q:VK) (u:Value) (s':Shared):Prop:=∃ v H',Inv X pins σ H' s'/\RelV v u/\Q v H'
def TP (X:Cx) (pins:List (Addr × Obj)) (σ:St) (Q:Bool->Hp->Prop) (b:Bool) (s':Shared):Prop:=∃ H',Inv X pins σ H' s'/\Q b H'
def AP (X:Cx) (pins:List (Addr × Obj)) (σ:St) (Q:List V->Hp->Prop) (us:List Value) (s':Shared):Prop:=∃ vs H',Inv X pins σ H' s'/\Vals vs us/\Q vs H'
def SP (X:Cx) (pins:List (Addr × Obj)) (D:Ends) (f:Flow) (s':Shared):Prop :=
 match f with
 | .next=>∃ σ' H',Inv X pins σ' H' s'/\D.nx σ' H'
 | .brk=>∃ σ' H',Inv X pins σ' H' s'/\D.bk σ' H'
 | .cont=>∃ σ' H',Inv X pins σ' H' s'/\D.ct σ' H'
 | .ret u=>∃ v σ' H',Inv X pins σ' H' s'/\RelV v u/\D.rt v H'
def PE (X:Cx) (e:Expr) (t:TE):Prop :=
 ∀(pins:List (Addr × Obj)) (s:Shared) (σ:St) (H:Hp) (Q:VK),Inv X pins σ H s->t σ H Q->wpAny (model X.prog X.w) X.A (eval e X.env) (EP X pins σ Q) X.xe s
def PT (X:Cx) (e:Expr) (t:TT):Prop :=
 ∀(pins:List (Addr × Obj)) (s:Shared) (σ:St) (H:Hp) (Q:Bool->Hp->Prop),Inv X pins σ H s->t σ H Q->wpAny (model X.prog X.w) X.A (isTrue e X.env (eval e X.env)) (TP X pins σ Q) X.xe s
def PW (X:Cx) (e:Expr) (t:TT):Prop :=
 ∀(whole:Sem Value) (pins:List (Addr × Obj)) (s:Shared) (σ:St) (H:Hp) (Q:Bool->Hp->Prop),Inv X pins σ H s->t σ H Q->wpAny (model X.prog X.w) X.A (isTrue e X.env whole) (TP X pins σ Q) X.xe s
theorem PW.pt {X:Cx} {e:Expr} {t:TT} (h:PW X e t):PT X e t:=h _
def PA (X:Cx) (es:List Expr) (t:TA):Prop :=
 ∀(pos:Pos) (pins:List (Addr × Obj)) (s:Shared) (σ:St) (H:Hp) (Q:List V->Hp->Prop),Inv X pins σ H s->t σ H Q->wpAny (model X.prog X.w) X.A (spliced (backTo pos (starEach es X.env))) (AP X pins σ Q) X.xe s
def PS (X:Cx) (st:Stmt) (t:TS):Prop :=
 ∀(pins:List (Addr × Obj)) (s:Shared) (σ:St) (H:Hp) (D:Ends),Inv X pins σ H s->t D σ H->wpAny (model X.prog X.w) X.A (exec st X.env) (SP X pins D) X.xe s
def jv (X:Cx) (st:List Stmt) (t:TS):Prop :=
 ∀(pins:List (Addr × Obj)) (s:Shared) (σ:St) (H:Hp) (D:Ends),Inv X pins σ H s->t D σ H->wpAny (model X.prog X.w) X.A (execs st X.env) (SP X pins D) X.xe s
theorem bK {α:Type} {t:Sem α} {Q Q':α->Shared->Prop} {M:Model} {A:Around} {E:Value->Shared->Prop} {s:Shared} (h:wpAny M A t Q E s) (hQ:∀ a s,Q a s->Q' a s):wpAny M A t Q' E s:=wpAny_mono h hQ λ_ _ x=>x
section
variable {X:Cx}
def uc (i:Nat):TE:=λσ H Q=>∃ v,σ[i]?=some (some v)/\Q v H
def tC (v:V):TE:=λ_ H Q=>Q v H
theorem qe {i:Nat} {x:Str} {pos:Pos} (hN:X.N[i]?=some x) (hv:AS X.env.scope x) (hd:(x==("__debug__":Str))=false:=by decide) (hcd:(x==("__classdict__":Str))=false:=by decide):PE X (.Name x pos) (uc i):=by
 intro pins s σ H Q I h
 obtain⟨v,e,h⟩:=h
 obtain⟨m,hn,hl⟩:=I.loc
 obtain⟨u,r,l⟩:=hl i x v hN e hv
 have fin:EP X pins σ Q u s:=⟨v,H,I,r,h⟩
 rcases l with⟨hk,hm⟩|⟨hk,c,hc,hcell⟩
 ·exact wpAny_Name (wpAny_loadName_local I.ok.kind hk hn hm fin) hd
 ·rcases hk with hk | hk
  ·exact wpAny_Name (wpAny_loadName_cell I.ok.kind hk hc hcell fin) hd
  ·exact wpAny_Name (wpAny_loadName_free I.ok.kind hk hc hcell fin hcd) hd
theorem ah {i j pos}:PE X (.Constant (.int i) j pos) (tC (.int i)):=λ_ _ _ H _ I h=>wpAny_Constant_int ⟨.int i,H,I.tok _,⟨_,rfl⟩,h⟩
theorem cD {b j pos}:PE X (.Constant (.bool b) j pos) (tC (.bl b)):=λ_ _ _ H _ I h=>Constant_bool ⟨.bl b,H,I,rfl,h⟩
theorem gX {j pos}:PE X (.Constant .none j pos) (tC .cj):=λ_ _ _ H _ I h=>Constant_none ⟨.cj,H,I,rfl,h⟩
theorem br {x j pos}:PE X (.Constant (.str x) j pos) (tC (.str x)):=λ_ _ _ H _ I h=>Calls.Constant_str ⟨.str x,H,I.tok _,⟨_,rfl⟩,h⟩
def Gl (X:Cx) (x:Str):Prop:=X.env.kindOf x=some .globalImplicit
theorem jy {E:Value->Shared->Prop} {pins:List (Addr × Obj)} {s:Shared} {σ:St} {H:Hp} {x:Str} {u:Value} {pos:Pos} {Q:Value->Shared->Prop} (I:Inv X pins σ H s) (hg:Gl X x) (hm:X.mg x=some u) (h:Q u s)
  (hd:(x==("__debug__":Str))=false:=by decide):wpAny (model X.prog X.w) X.A (eval (.Name x pos) X.env) Q E s :=
 Calls.Name_function_global I.ok.kind hg (Calls.loadGlobal_global (by rw [I.ok.glob];exact I.mod.glob.keeps I.bk) hm h) hd
theorem gU {E:Value->Shared->Prop} {pins:List (Addr × Obj)} {s:Shared} {σ:St} {H:Hp} {x:Str} {u:Value} {pos:Pos} {Q:Value->Shared->Prop} (I:Inv X pins σ H s) (hg:Gl X x) (hm:X.mg x=none) (hv:bootBuiltins x=some u) (h:Q u s)
  (hn:x ≠ "__name__":=by decide) (hd:(x==("__debug__":Str))=false:=by decide):wpAny (model X.prog X.w) X.A (eval (.Name x pos) X.env) Q E s:=by
 obtain⟨mb,h1,h2⟩:=I.mod.blt
 exact Calls.Name_function_global I.ok.kind hg (Calls.loadGlobal_builtin (by rw [I.ok.glob];exact I.mod.glob.keeps I.bk) hm (by rw [I.ok.blt];exact h1.keeps I.bk) ((h2 x hn).trans hv) h) hd
theorem mj {x:Str} {v:V} {u:Value} {pos:Pos} (hg:Gl X x) (hm:X.mg x=some u) (r:RelV v u) (hd:(x==("__debug__":Str))=false:=by decide):PE X (.Name x pos) (tC v) :=
 λ_ _ _ H _ I h=>jy I hg hm ⟨v,H,I,r,h⟩ hd
theorem bB {x:Str} {v:V} {u:Value} {pos:Pos} (hg:Gl X x) (hm:X.mg x=none) (hv:bootBuiltins x=some u) (r:RelV v u) (hn:x ≠ "__name__":=by decide) (hd:(x==("__debug__":Str))=false:=by decide):PE X (.Name x pos) (tC v) :=
 λ_ _ _ H _ I h=>gU I hg hm hv ⟨v,H,I,r,h⟩ hn hd
variable {a b:Expr} {ta tb:TE} {pos:Pos}
def tB (t:TE):TT:=λσ H Q=>t σ H λx H1=>∃ c,x=.bl c/\Q c H1
variable {tA tB':TT} {rest:List Expr}
def BU (t u:TT):TT:=λσ H Q=>t σ H λc H1=>if c=true then u σ H1 Q else Q false H1
def Dt (t u:TT):TT:=λσ H Q=>t σ H λc H1=>if c=true then Q true H1 else u σ H1 Q
def Cd (t:TT):TT:=λσ H Q=>t σ H λc H1=>Q (!c) H1
theorem d9 (ha:PT X a tA):PW X (.BoolOp .And [a] pos) tA:=by
 intro wh pins s σ H Q I h
 refine isTrue_and (bK (ha pins s σ H Q I h) λc s1 e=>?_)
 cases c with
 | true=>exact isTrue_and_nil e
 | false=>exact e
theorem ff (ha:PT X a tA):PW X (.BoolOp .Or [a] pos) tA:=by
 intro wh pins s σ H Q I h
 refine isTrue_or (bK (ha pins s σ H Q I h) λc s1 e=>?_)
 cases c with
 | false=>exact isTrue_or_nil e
 | true=>exact e
theorem dN (ha:PT X a tA) (hb:PW X (.BoolOp .And (b::rest) pos) tB'):PW X (.BoolOp .And (a::b::rest) pos) (BU tA tB'):=by
 intro wh pins s σ H Q I h
 refine isTrue_and (bK (ha pins s σ H _ I h) λc s1 ⟨H1,I1,q1⟩=>?_)
 cases c with
 | true=>exact hb wh pins s1 σ H1 Q I1 q1
 | false=>exact⟨H1,I1,q1⟩
theorem eS (ha:PT X a tA) (hb:PW X (.BoolOp .Or (b::rest) pos) tB'):PW X (.BoolOp .Or (a::b::rest) pos) (Dt tA tB'):=by
 intro wh pins s σ H Q I h
 refine isTrue_or (bK (ha pins s σ H _ I h) λc s1 ⟨H1,I1,q1⟩=>?_)
 cases c with
 | true=>exact⟨H1,I1,q1⟩
 | false=>exact hb wh pins s1 σ H1 Q I1 q1
theorem cI (ha:PT X a tA):PT X (.UnaryOp .Not a pos) (Cd tA):=by
 intro pins s σ H Q I h
 exact isTrue_not (ha pins s σ H (λc H1=>Q (!c) H1) I h)
def y9 (ta tb:TE):TE:=λσ H Q=>ta σ H λx H1=>∃ c,x=.bl c/\if c=true then tb σ H1 Q else Q (.bl false) H1
def C9 (ta tb:TE):TE:=λσ H Q=>ta σ H λx H1=>∃ c,x=.bl c/\if c=true then Q (.bl true) H1 else tb σ H1 Q
def zq (ta:TE):TE:=λσ H Q=>ta σ H λx H1=>∃ c,x=.bl c/\Q (.bl (!c)) H1
theorem cR {op} {t:TE} (h:PE X a t):PE X (.BoolOp op [a] pos) t:=λpins s σ H Q I hw=>BoolOp_one (h pins s σ H Q I hw)
theorem bS (ha:PE X a ta) (hb:PE X (.BoolOp .And (b::rest) pos) tb):PE X (.BoolOp .And (a::b::rest) pos) (y9 ta tb):=by
 intro pins s σ H Q I h
 refine BoolOp_and (bK (ha pins s σ H _ I h) λv s1 ⟨x,H1,I1,r1,q1⟩=>?_)
 obtain⟨c,rfl,q1⟩:=q1
 cases r1
 refine wpAny_truthy_bool ?_
 cases c with
 | true=>exact hb pins s1 σ H1 Q I1 q1
 | false=>exact⟨.bl false,H1,I1,rfl,q1⟩
theorem vF (ha:PE X a ta):PE X (.UnaryOp .Not a pos) (zq ta):=by
 intro pins s σ H Q I h
 refine UnaryOp_ (bK (ha pins s σ H _ I h) λv s1 ⟨x,H1,I1,r1,q1⟩=>?_)
 obtain⟨c,rfl,q1⟩:=q1
 cases r1
 exact not_of (wpAny_truthy_bool ⟨.bl (!c),H1,I1,rfl,q1⟩)
def Ds (t:TT) (ta tb:TE):TE:=λσ H Q=>t σ H λc H1=>if c=true then ta σ H1 Q else tb σ H1 Q
theorem dX {c:Expr} (hc:PT X c tA) (ha:PE X a ta) (hb:PE X b tb):PE X (.IfExp c a b pos) (Ds tA ta tb):=by
 intro pins s σ H Q I h
 refine wpAny_IfExp (bK (hc pins s σ H _ I h) λd s1 ⟨H1,I1,q1⟩=>?_)
 cases d with
 | true=>exact ha pins s1 σ H1 Q I1 q1
 | false=>exact hb pins s1 σ H1 Q I1 q1
end
def aS (K:PySem.W.Frag) (H:Hp) (a:Addr) (xs:List V):Prop :=
 Rd H a (.lst xs) ∨
  ∃(o:Obj) (its:Array Value) (n:Nat),K.lookup a=some o/\o.cls=.type "list"/\o.dict=none/\o.data=.seq its n/\its.size<=sizeLine/\Vals xs its.toList
def aL (K:PySem.W.Frag) (H:Hp) (a:Addr) (xs:List V):Prop :=
 Rd H a (.tup xs) ∨
  ∃(o:Obj) (its:Array Value) (n:Nat),K.lookup a=some o/\o.cls=.type "tuple"/\o.data=.seq its n/\its.size<=sizeLine/\Vals xs its.toList
def CN:Value->Option V
 | .none=>some .cj
 | .bool b=>some (.bl b)
 | .int i _=>some (.int i)
 | .str x _=>some (.str x)
 | .bytes b _=>some (.byt b)
 | .float b _=>some (.flt b)
 | .ref a=>some (.ref a)
 | .type n=>some (.ty n)
 | _=>none
theorem RelV.abs {x:V} {u:Value} (r:RelV x u):CN u=some x:=by
 cases x with
 | cj=>cases r;rfl
 | bl _=>cases r;rfl
 | int _=>obtain⟨t,rfl⟩:=r;rfl
 | str _=>obtain⟨t,rfl⟩:=r;rfl
 | byt _=>obtain⟨t,rfl⟩:=r;rfl
 | flt _=>obtain⟨t,rfl⟩:=r;rfl
 | ref _=>cases r;rfl
 | ty _=>cases r;rfl
theorem RelV.inj {x y:V} {u:Value} (r:RelV x u) (q:RelV y u):x=y:=Option.some.inj (r.abs.symm.trans q.abs)
theorem Vals.inj:∀{xs ys:List V} {us:List Value},Vals xs us->Vals ys us->xs=ys
 | _,_,_,.nil,.nil=>rfl
 | _,_,_,.cons r t,.cons r' t'=>by rw [r.inj r',Vals.inj t t']
section
variable {X:Cx} {pins:List (Addr × Obj)} {σ:St} {H:Hp} {s:Shared} {a:Addr} {xs ys:List V}
theorem aS.of {K:PySem.W.Frag} (h:H a=some (.lst xs)):aS K H a xs:=.inl (.inl h)
theorem aL.of {K:PySem.W.Frag} (h:H a=some (.tup xs)):aL K H a xs:=.inl (.inl h)
theorem Inv.list (I:Inv X pins σ H s) (h:aS X.K H a xs):∃ its:List Value,Vals xs its/\PlainL s.heap a its.toArray/\xs.length<=sizeLine:=by
 rcases h with h | ⟨o,its,n,hk,hc,hd,hs,hz,r⟩
 ·obtain⟨z,its,n,r,e⟩:=h.ok I.hok
  exact⟨its,r,⟨_,n,e,rfl,rfl,rfl⟩,z⟩
 ·refine⟨its.toList,r,⟨o,n,I.iu a o hk,hc,hd,by simpa using hs⟩,?_⟩
  have e:=r.length
  simp only [Array.length_toList] at e
  omega
theorem Inv.tuple (I:Inv X pins σ H s) (h:aL X.K H a xs):∃ its:List Value,Vals xs its/\IsTup s.heap a its.toArray/\xs.length<=sizeLine:=by
 rcases h with h | ⟨o,its,n,hk,hc,hs,hz,r⟩
 ·obtain⟨z,its,r,p⟩:=h.ok I.hok
  exact⟨its,r,p,z⟩
 ·refine⟨its.toList,r,⟨o,I.iu a o hk,hc,n,by simpa using hs⟩,?_⟩
  have e:=r.length
  simp only [Array.length_toList] at e
  omega
theorem Inv.nN (I:Inv X pins σ H s) (h:aS X.K H a xs) (h':aS X.K H a ys):xs=ys:=by
 obtain⟨its,r,⟨o,n,e,_,_,d⟩,_⟩:=I.list h
 obtain⟨its',r',⟨o',n',e',_,_,d'⟩,_⟩:=I.list h'
 rw [e] at e';cases e'
 rw [d] at d'
 injection d' with d1 _
 have:its=its':=by simpa using congrArg Array.toList d1
 subst this
 exact r.inj r'
theorem Inv.lD (I:Inv X pins σ H s) (h:aL X.K H a xs) (h':aL X.K H a ys):xs=ys:=by
 obtain⟨its,r,⟨o,e,_,n,d⟩,_⟩:=I.tuple h
 obtain⟨its',r',⟨o',e',_,n',d'⟩,_⟩:=I.tuple h'
 rw [e] at e';cases e'
 rw [d] at d'
 injection d' with d1 _
 have:its=its':=by simpa using congrArg Array.toList d1
 subst this
 exact r.inj r'
end
abbrev Cx.ju (X:Cx) (E:Value->Shared->Prop):Cx:={ X with xe:=E }
abbrev Cx.oR (X:Cx):Cx:=X.ju λ_ _=>False
theorem Cx.Ok.ju {X:Cx} (ok:X.Ok) (E:Value->Shared->Prop):(X.ju E).Ok :=
 ⟨ok.mod,ok.kind,ok.glob,ok.blt,ok.above,ok.inj,ok.has,ok.cab,ok.hd,ok.frames,ok.stk,ok.exf,ok.bs,ok.bsz,ok.noex,ok.exfs,ok.jo,ok.frf⟩
theorem Cx.Ok.eJ {X:Cx} {E:Value->Shared->Prop} (ok:(X.ju E).Ok):X.Ok :=
 ⟨ok.mod,ok.kind,ok.glob,ok.blt,ok.above,ok.inj,ok.has,ok.cab,ok.hd,ok.frames,ok.stk,ok.exf,ok.bs,ok.bsz,ok.noex,ok.exfs,ok.jo,ok.frf⟩
section
variable {X:Cx} {pins:List (Addr × Obj)} {σ:St} {H:Hp} {s:Shared} {E:Value->Shared->Prop}
theorem Inv.ju (I:Inv X pins σ H s) (E:Value->Shared->Prop):Inv (X.ju E) pins σ H s:=⟨I.ok.ju E,I.os,I.bare,I.base,I.loc,I.cell,I.free,I.freeC,I.pin,I.hok,I.len⟩
theorem Inv.eJ (I:Inv (X.ju E) pins σ H s):Inv X pins σ H s:=⟨I.ok.eJ,I.os,I.bare,I.base,I.loc,I.cell,I.free,I.freeC,I.pin,I.hok,I.len⟩
theorem SP.eJ {D:Ends} {f:Flow} {s':Shared} (h:SP (X.ju E) pins D f s'):SP X pins D f s':=by
 cases f with
 | next=>obtain⟨σ',H',I,q⟩:=h;exact⟨σ',H',I.eJ,q⟩
 | brk=>obtain⟨σ',H',I,q⟩:=h;exact⟨σ',H',I.eJ,q⟩
 | cont=>obtain⟨σ',H',I,q⟩:=h;exact⟨σ',H',I.eJ,q⟩
 | ret u=>obtain⟨v,σ',H',I,r,q⟩:=h;exact⟨v,σ',H',I.eJ,r,q⟩
theorem PE.oR {e:Expr} {t:TE} (h:PE X.oR e t):PE X e t:=λpins s σ H Q I hw =>
 wpAny_mono (h pins s σ H Q (I.ju _) hw) (λ_ _ ⟨v,H',I',r,q⟩=>⟨v,H',I'.eJ,r,q⟩) λ_ _ z=>False.elim z
theorem PT.oR {e:Expr} {t:TT} (h:PT X.oR e t):PT X e t:=λpins s σ H Q I hw =>
 wpAny_mono (h pins s σ H Q (I.ju _) hw) (λ_ _ ⟨H',I',q⟩=>⟨H',I'.eJ,q⟩) λ_ _ z=>False.elim z
theorem jv.oR {st:List Stmt} {t:TS} (h:jv X.oR st t):jv X st t:=λpins s σ H D I hw =>
 wpAny_mono (h pins s σ H D (I.ju _) hw) (λ_ _ q=>q.eJ) λ_ _ z=>False.elim z
end
section
variable {X:Cx} {st:Stmt} {rest:List Stmt} {t u:TS} {e:Expr} {te:TE} {pos:Pos}
def zp:TS:=λD σ H=>D.nx σ H
def bZ (t u:TS):TS:=λD σ H=>t { D with nx:=u D } σ H
theorem aF:jv X [] zp:=λ_ _ σ H _ I h=>wpAny_execs_nil ⟨σ,H,I,h⟩
theorem aj (h1:PS X st t) (h2:jv X rest u):jv X (st::rest) (bZ t u):=by
 intro pins s σ H D I h
 refine wpAny_execs_cons (bK (h1 pins s σ H { D with nx:=u D } I h) λf s1 q=>?_)
 cases f with
 | next =>
  obtain⟨σ',H',I',q⟩:=q
  exact h2 pins s1 σ' H' D I' q
 | ret v=>exact q
 | brk=>exact q
 | cont=>exact q
theorem ao (h1:PS X st t):jv X [st] t:=by
 intro pins s σ H D I h
 refine wpAny_execs_cons (bK (h1 pins s σ H D I h) λf s1 q=>?_)
 cases f with
 | next=>exact wpAny_execs_nil q
 | ret v=>exact q
 | brk=>exact q
 | cont=>exact q
theorem Inv.quiet {pins:List (Addr × Obj)} {σ:St} {H:Hp} {s:Shared} (I:Inv X pins σ H s):interactive X.env=false:=by simp [interactive,I.ok.kind]
def zo (te:TE):TS:=λD σ H=>te σ H λ_ H1=>D.nx σ H1
theorem jE (he:PE X e te) (hs:swapsWith e none pos.line X.env=pure false:=by rfl):PS X (.Expr e pos) (zo te):=by
 intro pins s σ H D I h
 exact wpAny_Expr_any (bK (he pins s σ H _ I h) λv s1 ⟨x,H1,I1,r1,q1⟩=>⟨σ,H1,I1,q1⟩) I.quiet hs
def iK (te:TE):TS:=λD σ H=>te σ H D.rt
theorem ay (he:PE X e te):PS X (.Return (some e) pos) (iK te):=by
 intro pins s σ H D I h
 exact wpAny_Return_some (bK (he pins s σ H _ I h) λv s1 ⟨x,H1,I1,r1,q1⟩=>⟨x,σ,H1,I1,r1,q1⟩)
def Cg:TS:=λD _ H=>D.rt .cj H
def BZ (c:TT) (t u:TS):TS:=λD σ H=>c σ H λb H1=>if b=true then t D σ H1 else u D σ H1
theorem aQ {c:Expr} {a b:List Stmt} {tc:TT} (hc:PT X c tc) (ha:jv X a t) (hb:jv X b u):PS X (.If c a b pos) (BZ tc t u):=by
 intro pins s σ H D I h
 refine wpAny_If (bK (hc pins s σ H _ I h) λd s1 ⟨H1,I1,q1⟩=>?_)
 cases d with
 | true=>exact ha pins s1 σ H1 D I1 q1
 | false=>exact hb pins s1 σ H1 D I1 q1
end
abbrev TG:=V->St->Hp->(St->Hp->Prop)->Prop
abbrev yA:=List V->St->Hp->(St->Hp->Prop)->Prop
def PG (X:Cx) (target:Expr) (t:TG):Prop :=
 ∀(pins:List (Addr × Obj)) (s:Shared) (σ:St) (H:Hp) (v:V) (u:Value) (Q:St->Hp->Prop),Inv X pins σ H s->RelV v u->t v σ H Q ->
  wpAny (model X.prog X.w) X.A (assign target X.env u) (λ_ s'=>∃ σ' H',Inv X pins σ' H' s'/\Q σ' H') X.xe s
def Bh (X:Cx) (ts:List Expr) (t:yA):Prop :=
 ∀(pins:List (Addr × Obj)) (s:Shared) (σ:St) (H:Hp) (vs:List V) (us:List Value) (Q:St->Hp->Prop),Inv X pins σ H s->Vals vs us->t vs σ H Q ->
  wpAny (model X.prog X.w) X.A (assignInOrder ((assignEach ts X.env).map (·.2)) us) (λ_ s'=>∃ σ' H',Inv X pins σ' H' s'/\Q σ' H') X.xe s
abbrev zH:=V->V->V->Hp->(Hp->Prop)->Prop
def Bi (X:Cx) (t:zH):Prop :=
 ∀(pins:List (Addr × Obj)) (s:Shared) (σ:St) (H:Hp) (o i v:V) (ov iv u:Value) (Q:Hp->Prop),Inv X pins σ H s->RelV o ov->RelV i iv->RelV v u->t o i v H Q ->
  wpAny (model X.prog X.w) X.A (setItem ov iv u) (λ_ s'=>∃ H',Inv X pins σ H' s'/\Q H') X.xe s
abbrev CJ:=V->V->Hp->VK->Prop
def Dh (X:Cx) (op:Operator) (t:CJ):Prop :=
 ∀(pins:List (Addr × Obj)) (s:Shared) (σ:St) (H:Hp) (x y:V) (v u:Value) (Q:VK),Inv X pins σ H s->RelV x v->RelV y u->t x y H Q ->
  wpAny (model X.prog X.w) X.A (inplaceOp op v u) (EP X pins σ Q) X.xe s
section
variable {X:Cx} {pos:Pos}
def eQ (i:Nat):TG:=λv σ H Q=>Q (σ.set i (some v)) H
theorem aI {i:Nat} {x:Str} (hN:X.N.Nodup) (hi:X.N[i]?=some x) (hx:Loc X.env.scope x) (hf:X.fn x=true∨X.env.scope.names.lookup x=some .local:=by first | exact .inl rfl | exact .inr rfl | assumption):PG X (.Name x pos) (eQ i):=by
 intro pins s σ H v u Q I r h
 exact wpAny_assign_Name (dt I hN hi hx r (λs' I'=>⟨_,H,I',h⟩) hf)
def zT:yA:=λvs σ H Q=>vs=[]/\Q σ H
def qK (t:TG) (u:yA):yA:=λvs σ H Q=>∃ v r,vs=v::r/\t v σ H λσ' H'=>u r σ' H' Q
theorem cU:Bh X [] zT:=by
 intro pins s σ H vs us Q I r h
 obtain⟨e,h⟩:=h
 subst e
 cases r
 exact assignInOrder_nil ⟨σ,H,I,h⟩
theorem aM {e:Expr} {es:List Expr} {t:TG} {u:yA} (h1:PG X e t) (h2:Bh X es u)
  (hs:(assignEach (e::es) X.env).map (·.2)=assign e X.env::(assignEach es X.env).map (·.2):=by rfl):Bh X (e::es) (qK t u):=by
 intro pins s σ H vs us Q I r h
 obtain⟨v,vr,e1,h⟩:=h
 subst e1
 cases r with
 | cons r rr =>
  rw [hs]
  refine assignInOrder_cons (bK (h1 pins s σ H _ _ _ I r h) λ_ s1 ⟨σ1,H1,I1,q1⟩=>?_)
  exact h2 pins s1 σ1 H1 _ _ Q I1 rr q1
def sy (K:PySem.W.Frag) (n:Nat) (t:yA):TG:=λv σ H Q=>∃ a xs,v=.ref a/\aL K H a xs/\xs.length=n/\t xs σ H Q
theorem eF {es:List Expr} {k:Nat} {t:yA} {n:Nat} (hc:X.calm=true) (h:Bh X es t)
  (hn:(assignEach es X.env).length=n:=by rfl) (hst:(assignEach es X.env).findIdx? (·.1)=none:=by rfl):PG X (.Tuple es k pos) (sy X.K n t):=by
 intro pins s σ H v u Q I r hw
 obtain⟨a,xs,e1,hq,hl,hw⟩:=hw
 subst e1
 cases r
 obtain⟨its,rv,ht,hz⟩:=I.tuple hq
 refine assign_Tuple_tuple (I.ok.hd hc) ht (by simp [hn,<- hl,rv.length]) hst λh' hx=>?_
 have I1:Inv X pins σ H { s with heap:=h' }:=I.kept (t':=s.toks) λb o e=>hx b o (Nat.ne_of_lt (Heap.lt_size e)) e
 exact h pins _ σ H xs _ Q I1 (by simpa using rv) hw
def Br (to ti:TE) (t:zH):TG:=λv σ H Q=>to σ H λo H1=>ti σ H1 λi H2=>t o i v H2 λH3=>Q σ H3
theorem An {o i:Expr} {to ti:TE} {t:zH} (ho:PE X o to) (hi:PE X i ti) (hs:Bi X t)
  (ha:∀ v,assign (.Subscript o i pos) X.env v=(do
   let ov <- holding [v] (eval o X.env)
   let iv <- holding [v,ov] (eval i X.env)
   standAt pos
   holding [v,ov,iv] (setItem ov iv v)
   release [v,ov,iv] []):=by intro _;rfl):PG X (.Subscript o i pos) (Br to ti t):=by
 intro pins s σ H v u Q I r h
 rw [ha]
 refine wpAny_bind (wpAny_holding (bK (ho pins s σ H _ I h) λov s1 ⟨x,H1,I1,r1,q1⟩=>?_))
 refine wpAny_bind (wpAny_holding (bK (hi pins s1 σ H1 _ I1 q1) λiv s2 ⟨y,H2,I2,r2,q2⟩=>?_))
 refine wpAny_bind (wpAny_standAt (wpAny_bind (wpAny_holding (bK (hs pins s2 σ H2 x y v ov iv u _ I2 r1 r2 r q2) λ_ s3 ⟨H3,I3,q3⟩=>?_))))
 exact wpAny_release ⟨σ,H3,I3,q3⟩
def ub (te:TE) (g:TG):TS:=λD σ H=>te σ H λx H1=>g x σ H1 D.nx
theorem eG {tg e:Expr} {te:TE} {g:TG} (he:PE X e te) (hg:PG X tg g) (hs:swapsWithSole [tg] e pos.line X.env=pure false:=by rfl) (hw:swappedStores [tg] e X.env=pure none:=by rfl)
  (h1:(assignEach [tg] X.env).map (·.2)=[assign tg X.env]:=by rfl):PS X (.Assign [tg] e pos) (ub te g):=by
 intro pins s σ H D I h
 refine wpAny_Assign_stores (bK (he pins s σ H _ I h) λv s1 ⟨x,H1,I1,r1,q1⟩=>?_) hs hw
 rw [h1]
 exact bK (hg pins s1 σ H1 x v _ I1 r1 q1) λ_ s2 q=>q
theorem bF {i:Nat} {x:Str} {e:Expr} {te:TE} {pos':Pos} (hN:X.N.Nodup) (hi:X.N[i]?=some x) (hx:Loc X.env.scope x) (he:PE X e te) (hs:swapsWith e (some (.Name x pos')) pos.line X.env=pure false:=by rfl) (hf:X.fn x=true∨X.env.scope.names.lookup x=some .local:=by first | exact .inl rfl | exact .inr rfl | assumption) :
  PS X (.Assign [.Name x pos'] e pos) (ub te (eQ i)):=by
 intro pins s σ H D I h
 refine wpAny_Assign_Name (bK (he pins s σ H _ I h) λv s1 ⟨y,H1,I1,r1,q1⟩=>?_) hs
 exact dt I1 hN hi hx r1 (λs2 I2=>⟨_,H1,I2,q1⟩) hf
def Cf (i j:Nat) (ta:TA):TS:=λD σ H=>ta σ H λvs H1=>∃ v w,vs=[v,w]/\D.nx ((σ.set i (some v)).set j (some w)) H1
theorem iZ {i j:Nat} {x y:Str} {a b:Expr} {ta:TA} {px py pt:Pos} {kt k2 pt2} (hc:X.calm=true) (hN:X.N.Nodup) (hi:X.N[i]?=some x) (hj:X.N[j]?=some y) (hij:i≠j)
  (hx:X.env.scope.names.lookup x=some .local) (hy:X.env.scope.names.lookup y=some .local) (ha:PA X [a,b] ta)
  (hw:swappedStores [.Tuple [.Name x px,.Name y py] kt pt] (.Tuple [a,b] k2 pt2) X.env=pure (some [x,y]))
  (hs:swapsWithSole [.Tuple [.Name x px,.Name y py] kt pt] (.Tuple [a,b] k2 pt2) pos.line X.env=pure false:=by rfl) :
  PS X (.Assign [.Tuple [.Name x px,.Name y py] kt pt] (.Tuple [a,b] k2 pt2) pos) (Cf i j ta):=by
 intro pins s σ H D I h
 rw [exec_Assign_arm]
 refine wpAny_bind (wpAny_standAt ?_)
 rw [hs]
 refine wpAny_bind (wpAny_pure ?_)
 rw [if_neg (by decide)]
 refine wpAny_bind (Tuple_ (bK (ha _ pins s σ H _ I h) λus s1 ⟨vs,H1,I1,r1,q1⟩=>?_))
 obtain⟨v,w,e1,q1⟩:=q1
 subst e1
 obtain⟨u1,u2,rfl,rv,rw'⟩:∃ u1 u2,us=[u1,u2]/\RelV v u1/\RelV w u2:=by
  cases r1 with
  | cons p q =>
   cases q with
   | cons p' q' =>
    cases q'
    exact⟨_,_,rfl,p,p'⟩
 refine wpAny_newObj_type ?_ (by show 2<=sizeLine;decide)
 have I2:Inv X pins σ H1 { s1 with heap:=s1.heap.push { cls:=.type "tuple",data:=.seq [u1,u2].toArray } }:=I1.kept (t':=s1.toks) λb o e=>Heap.get?_push_of_some _ e
 rw [hw]
 refine wpAny_bind (wpAny_pure ?_)
 show wpAny (model X.prog X.w) X.A (do rule "assign.swapped-stores";let items <- unpackItems (.ref s1.heap.objs.size) 2 none;assignInOrder [λv=>bindName X.env y v,λv=>bindName X.env x v] items.reverse;pure Flow.next) _ _ _
 refine wpAny_bind (wpAny_rule (wpAny_bind (unpackItems_tuple (items:=#[u1,u2]) (I.ok.hd hc) (IsTup.new s1.heap _) λh' hx'=>?_)))
 have I3:=I2.kept (h':=h') (t':=s1.toks) λb o e=>hx' b o (Nat.ne_of_lt (Heap.lt_size e)) e
 show wpAny _ _ (assignInOrder [λv=>bindName X.env y v,λv=>bindName X.env x v] [u2,u1] >>= λ_=>pure Flow.next) _ _ _
 refine wpAny_bind (assignInOrder_cons (wpAny_bindName (dt I3 hN hj (.inl hy) rw' (λs2 I4=>?_) (.inr hy))))
 refine assignInOrder_cons (wpAny_bindName (dt I4 hN hi (.inl hx) rv (λs3 I5=>assignInOrder_nil (wpAny_pure ?_)) (.inr hx)))
 rw [List.set_comm _ _ (Ne.symm hij)] at I5
 exact⟨_,H1,I5,q1⟩
def BV (i:Nat) (te:TE) (ti:CJ):TS:=λD σ H=>∃ x,σ[i]?=some (some x)/\te σ H λy H1=>ti x y H1 λz H2=>D.nx (σ.set i (some z)) H2
theorem fH {i:Nat} {x:Str} {e:Expr} {te:TE} {op:Operator} {ti:CJ} {pos':Pos} (hN:X.N.Nodup) (hi:X.N[i]?=some x) (hx:Loc X.env.scope x) (he:PE X e te) (ho:Dh X op ti) (hf:X.fn x=true∨X.env.scope.names.lookup x=some .local:=by first | exact .inl rfl | exact .inr rfl | assumption) :
  PS X (.AugAssign (.Name x pos') op e pos) (BV i te ti):=by
 intro pins s σ H D I h
 obtain⟨v,e1,h⟩:=h
 obtain⟨m,hn,hl⟩:=I.loc
 have vis:AS X.env.scope x:=by rcases hx with k | k;exact .inl k;exact .inr (.inl k)
 obtain⟨u,r,l⟩:=hl i x v hi e1 vis
 refine wpAny_AugAssign_Name ?_
 have go:wpAny (model X.prog X.w) X.A (eval e X.env) (λw s₂=>wpAny (model X.prog X.w) X.A (inplaceOp op u w) (λr s₃=>wpAny (model X.prog X.w) X.A (storeName X.env x r) (λ_=>SP X pins D .next) X.xe s₃) X.xe s₂) X.xe s:=by
  refine bK (he pins s σ H _ I h) λw s1 ⟨y,H1,I1,r1,q1⟩=>?_
  refine bK (ho pins s1 σ H1 v y u w _ I1 r r1 q1) λz s2 ⟨zv,H2,I2,r2,q2⟩=>?_
  exact dt I2 hN hi hx r2 (λs3 I3=>⟨_,H2,I3,q2⟩) hf
 rcases l with⟨hk,hm⟩|⟨hk,c,hc,hcell⟩
 ·exact wpAny_loadName_local I.ok.kind hk hn hm go
 ·rcases hk with hk | hk
  ·exact wpAny_loadName_cell I.ok.kind hk hc hcell go
  ·rcases hx with k | k
   ·have:X.env.scope.names.lookup x=some .free:=hk
    rw [k] at this;cases this
   ·have:X.env.scope.names.lookup x=some .free:=hk
    rw [k] at this;cases this
end
section
variable {X:Cx} {pos:Pos}
def wg (c:TT) (tb:TS):TS:=λD σ H=>∃ W:Nat->St->Hp->Prop,(∃ m,W m σ H)/\∀ m σ H,W m σ H ->
 c σ H λb H1=>if b=true then ∃ N:St->Hp->Prop,(∀ σ' H',N σ' H'->∃ m',m'<m/\W m' σ' H')/\tb { D with nx:=N,ct:=N,bk:=D.nx } σ H1 else D.nx σ H1
theorem bY {c:Expr} {body:List Stmt} {tc:TT} {tb:TS} (hp:PassesOwn (model X.prog X.w) X.A X.env X.xe) (hc:PT X c tc) (hb:jv X body tb):PS X (.While c body [] pos) (wg tc tb):=by
 intro pins s σ H D I h
 obtain⟨W,⟨m0,w0⟩,turn⟩:=h
 refine wpAny_While (codeAny_whileLoop (λn s'=>∃ σ' H',Inv X pins σ' H' s'/\W n σ' H') ?_ m0 ⟨σ,H,I,w0⟩)
 rintro n s1 ⟨σ1,H1,I1,w1⟩
 refine wpAny_passesOwn hp (bK (hc pins s1 σ1 H1 _ I1 (turn n σ1 H1 w1)) λb s2 ⟨H2,I2,q2⟩=>?_)
 cases b with
 | true =>
  obtain⟨N,hN,q2⟩:=q2
  rw [if_pos rfl]
  refine wpAny_passesOwn hp (bK (hb pins s2 σ1 H2 _ I2 q2) λf s3 q3=>?_)
  cases f with
  | next =>
   obtain⟨σ3,H3,I3,n3⟩:=q3
   obtain⟨m',hm,w3⟩:=hN σ3 H3 n3
   exact⟨m',hm,σ3,H3,I3,w3⟩
  | cont =>
   obtain⟨σ3,H3,I3,n3⟩:=q3
   obtain⟨m',hm,w3⟩:=hN σ3 H3 n3
   exact⟨m',hm,σ3,H3,I3,w3⟩
  | brk=>exact q3
  | ret v=>exact q3
 | false =>
  rw [if_neg Bool.false_ne_true]
  exact wpAny_execs_nil ⟨σ1,H2,I2,q2⟩
end
structure It where
 go:Nat->Hp->Prop
 yld:Nat->Hp->V->Hp->Prop
 stop:Nat->Hp->Prop
def ko (X:Cx) (pins:List (Addr × Obj)) (H:Hp) (b:Addr):Prop :=
 H b=none/\b≠X.env.locals/\b∉X.fs/\(b∈X.ex∨X.s₀.heap.objs.size<=b)/\(∀ x c,X.env.cells.lookup x=some c->c≠b)/\∀ p∈X.pn++pins,p.1≠b
theorem Inv.pH {X:Cx} {pins:List (Addr × Obj)} {σ:St} {H H':Hp} {s:Shared} {b:Addr} (I:Inv X pins σ H s) (hb:s.heap.objs.size<=b) (hn:H' b=none):ko X pins H' b:=by
 refine⟨hn,Nat.ne_of_gt (Nat.lt_of_lt_of_le I.lt hb),I.xw hb,.inr (Nat.le_trans I.sz hb),λx c e z=>?_,λp hp z=>?_⟩
 ·obtain⟨v,q⟩:=I.cell x c e
  exact absurd (Nat.lt_of_lt_of_le q.lt (by rw [z];exact hb)) (Nat.lt_irrefl _)
 ·exact absurd (Nat.lt_of_lt_of_le (Heap.lt_size (I.pin p hp).1) (by rw [z];exact hb)) (Nat.lt_irrefl _)
structure Turn (P:Program) (w:World) (K:PySem.W.Frag) (tg:Expr) (J:It) (fp:List Addr) (it:Addr) (tn:Nat->Heap->Prop):Prop where
 mem:it∈fp
 obj:∀ i h,tn i h->∀ b∈fp,∃ o,h.get? b=some o/\∀ v,o.data≠.cell v
 keep:∀ i h h',tn i h->(∀ b∈fp,∀ o,h.get? b=some o->h'.get? b=some o)->tn i h'
 item:∀(X:Cx),X.prog=P->X.w=w->X.K=K->X.calm=true->∀(i:Nat) (pins:List (Addr × Obj)) (s:Shared) (σ:St) (H:Hp) (E:Value->Shared->Prop),Inv X pins σ H s->(∀ b∈fp,ko X pins H b)->tn i s.heap->J.go i H ->
  wpAny (model P w) X.A (pyNext (.ref it)) (λr s1=>∃ u,r=some u /\
   wpAny (model P w) X.A (letOwnedTupleGo tg (.ref it) u) (λ_ s2=>∃ x H',Inv X pins σ H' s2/\RelV x u/\J.yld i H x H'/\tn (i+1) s2.heap/\∀ b∈fp,H' b=none) E s1) E s
 done:∀(X:Cx),X.prog=P->X.w=w->X.K=K->X.calm=true->∀(i:Nat) (pins:List (Addr × Obj)) (s:Shared) (σ:St) (H:Hp) (E:Value->Shared->Prop),Inv X pins σ H s->(∀ b∈fp,ko X pins H b)->tn i s.heap->J.stop i H ->
  wpAny (model P w) X.A (pyNext (.ref it)) (λr s1=>r=none/\Inv X pins σ H s1) E s
 self:∀(A:Around) (i:Nat) (s:Shared) (Q:Value->Shared->Prop) (E:Value->Shared->Prop),tn i s.heap->Q (.ref it) s->wpAny (model P w) A (pyIter (.ref it)) Q E s
abbrev TI:=St->Hp->(It->Hp->Prop)->Prop
def Cs (X:Cx) (pins:List (Addr × Obj)) (σ:St) (tg:Expr) (R:It->Hp->Prop) (itv:Value) (s2:Shared):Prop :=
 ∃(it:Addr) (fp:List Addr) (tn:Nat->Heap->Prop) (J:It) (H':Hp),itv=.ref it/\Inv X pins σ H' s2/\Turn X.prog X.w X.K tg J fp it tn/\tn 0 s2.heap/\(∀ b∈fp,ko X pins H' b)/\R J H'
def PI (X:Cx) (tg iter:Expr) (wi:TI):Prop :=
 ∀(pins:List (Addr × Obj)) (s:Shared) (σ:St) (H:Hp) (R:It->Hp->Prop),Inv X pins σ H s->wi σ H R ->
  wpAny (model X.prog X.w) X.A (eval iter X.env) (λv s1=>wpAny (model X.prog X.w) X.A (pyIter v) (Cs X pins σ tg R) X.xe s1) X.xe s
theorem uO {M:Model} {A:Around} {E:Value->Shared->Prop} {s:Shared} {tg:Expr} {it:Addr} {u:Value} {o:Obj} {n:String} {vs:Array Value} {Q:Unit->Shared->Prop} (ho:s.heap.get? it=some o) (hc:o.cls=.type n) (hd:o.data=.fields vs)
    (hn:["enumerate","zip","dict_itemiterator","dict_reverseitemiterator","odict_iterator","itertools.zip_longest","itertools.pairwise"].contains n=false) (hQ:Q () s):wpAny M A (letOwnedTupleGo tg (.ref it) u) Q E s:=by
  unfold letOwnedTupleGo
  cases tg<;>first
    | exact wpAny_pure hQ
    | (cases u<;>first
        | exact wpAny_pure hQ
        | (refine wpAny_bind (wpAny_load ho ?_)
           rw [hc,hd]
           show wpAny M A (if (["enumerate","zip","dict_itemiterator","dict_reverseitemiterator","odict_iterator","itertools.zip_longest","itertools.pairwise"].contains n && vs[0]?==some (rawInt _))=true then _ else _) Q E s
           rw [if_neg (by intro h;rw [hn,Bool.false_and] at h;cases h)]
           exact wpAny_pure hQ))
def wH (K:PySem.W.Frag) (a:Addr):It :=
 ⟨λi H=>∃ xs x,aS K H a xs/\xs[i]?=some x,λi H x H'=>H'=H/\∀ xs,aS K H a xs->xs[i]?=some x,λi H=>∃ xs,aS K H a xs/\xs.length<=i⟩
def zC (K:PySem.W.Frag) (a:Addr):It :=
 ⟨λi H=>∃ xs x,aL K H a xs/\xs[i]?=some x,λi H x H'=>H'=H/\∀ xs,aL K H a xs->xs[i]?=some x,λi H=>∃ xs,aL K H a xs/\xs.length<=i⟩
def wI (lo:Int) (n:Nat):It:=⟨λi _=>i<n,λi H x H'=>H'=H/\x=.int (lo+i),λi _=>n<=i⟩
theorem ud {P:Program} {w:World} {K:PySem.W.Frag} {tg:Expr} (a it:Addr):Turn P w K tg (wH K a) [it] it (λi h=>h.IsListIter it a i) where
 mem:=by simp
 obj:=λi h st b hb=>by
  have e:b=it:=by simpa using hb
  subst e
  obtain⟨o,e,c,d⟩:=st
  exact⟨o,e,λv z=>by rw [d] at z;cases z⟩
 keep:=λi h h' st k=>st.at λo e=>k it (by simp) o e
 item:=by
  intro X hP hw hK hc i pins s σ H E I hf st hg
  subst hP hw hK
  obtain⟨xs,x,hq,hx⟩:=hg
  obtain⟨its,rv,p,hz⟩:=I.list hq
  obtain⟨u,hu,ru⟩:=rv.get hx
  obtain⟨f0,f1,f2,f3,f4,f5⟩:=hf it (by simp)
  refine wpAny_pyNext_list_item st p.isList (x:=u) (by simpa using hu) λh' st' sb=>?_
  have I1:Inv X pins σ H { s with heap:=h' }:=I.turned (t':=s.toks) (λb o hb e=>(sb.2 b hb).trans e) f0 f1 f3 f4 f5
  obtain⟨o,e,c,d⟩:=id st'
  exact⟨u,rfl,uO (s:={ s with heap:=h' }) e c d (by decide) ⟨x,H,I1,ru,⟨rfl,λys hy=>by rw [I.nN hy hq];exact hx⟩,st',λb hb=>(hf b hb).1⟩⟩
 done:=by
  intro X hP hw hK hc i pins s σ H E I hf st hg
  subst hP hw hK
  obtain⟨xs,hq,hx⟩:=hg
  obtain⟨its,rv,p,hz⟩:=I.list hq
  obtain⟨f0,f1,f2,f3,f4,f5⟩:=hf it (by simp)
  have hl:=rv.length
  exact wpAny_pyNext_list_end (I.ok.hd hc) st p.isList (by simp;omega) λh' eb=>⟨rfl,I.turned (t':=s.toks) (λb o hb e=>eb b o hb e) f0 f1 f3 f4 f5⟩
 self:=λ_ _ _ _ _ st h=>wpAny_pyIter_listiter st h
theorem qw {P:Program} {w:World} {K:PySem.W.Frag} {tg:Expr} (a it:Addr):Turn P w K tg (zC K a) [it] it (λi h=>h.IsTupleIter it a i) where
 mem:=by simp
 obj:=λi h st b hb=>by
  have e:b=it:=by simpa using hb
  subst e
  obtain⟨o,e,c,d⟩:=st
  exact⟨o,e,λv z=>by rw [d] at z;cases z⟩
 keep:=λi h h' st k=>st.at λo e=>k it (by simp) o e
 item:=by
  intro X hP hw hK hc i pins s σ H E I hf st hg
  subst hP hw hK
  obtain⟨xs,x,hq,hx⟩:=hg
  obtain⟨its,rv,p,hz⟩:=I.tuple hq
  obtain⟨u,hu,ru⟩:=rv.get hx
  obtain⟨f0,f1,f2,f3,f4,f5⟩:=hf it (by simp)
  refine wpAny_pyNext_tuple_item st (show s.heap.IsTuple a its.toArray from p) (x:=u) (by simpa using hu) λh' st' sb=>?_
  have I1:Inv X pins σ H { s with heap:=h' }:=I.turned (t':=s.toks) (λb o hb e=>(sb.2 b hb).trans e) f0 f1 f3 f4 f5
  obtain⟨o,e,c,d⟩:=id st'
  exact⟨u,rfl,uO (s:={ s with heap:=h' }) e c d (by decide) ⟨x,H,I1,ru,⟨rfl,λys hy=>by rw [I.lD hy hq];exact hx⟩,st',λb hb=>(hf b hb).1⟩⟩
 done:=by
  intro X hP hw hK hc i pins s σ H E I hf st hg
  subst hP hw hK
  obtain⟨xs,hq,hx⟩:=hg
  obtain⟨its,rv,p,hz⟩:=I.tuple hq
  obtain⟨f0,f1,f2,f3,f4,f5⟩:=hf it (by simp)
  have hl:=rv.length
  exact wpAny_pyNext_tuple_end (I.ok.hd hc) st (show s.heap.IsTuple a its.toArray from p) (by simp;omega) λh' eb=>⟨rfl,I.turned (t':=s.toks) (λb o hb e=>eb b o hb e) f0 f1 f3 f4 f5⟩
 self:=λ_ _ _ _ _ st h=>wpAny_pyIter_tupleiter st h
theorem qv {P:Program} {w:World} {K:PySem.W.Frag} {tg:Expr} (it:Addr) (lo:Int) (n:Nat):Turn P w K tg (wI lo n) [it] it (λi h=>IsRangeIter h it (lo+(i:Nat)*1) ((n:Int)-(i:Nat)) 1) where
 mem:=by simp
 obj:=λi h st b hb=>by
  have e:b=it:=by simpa using hb
  subst e
  exact⟨_,st,λv z=>by
   have z':Data.fields _=Data.cell v:=z
   cases z'⟩
 keep:=λi h h' st k=>k it (by simp) _ st
 item:=by
  intro X hP hw hK hc i pins s σ H E I hf st hg
  subst hP hw hK
  obtain⟨f0,f1,f2,f3,f4,f5⟩:=hf it (by simp)
  have W:=Walks.range (prog:=X.prog) (w:=X.w) (I.ok.hd hc) it lo 1 n
  refine W.item i s _ _ hg st λv h' tk hv st' kk=>?_
  obtain⟨t,rfl⟩:=hv
  have I1:Inv X pins σ H { s with heap:=h',toks:=tk }:=I.turned (λb o hb e=>kk b o (by simpa using hb) e) f0 f1 f3 f4 f5
  refine⟨_,rfl,uO (s:={ s with heap:=h',toks:=tk }) (n := "range_iterator") st' rfl rfl (by decide) ⟨.int (lo+i),H,I1,⟨t,?_⟩,⟨rfl,rfl⟩,st',λb hb=>(hf b hb).1⟩⟩
  rw [Int.mul_one]
 done:=by
  intro X hP hw hK hc i pins s σ H E I hf st hg
  subst hP hw hK
  obtain⟨f0,f1,f2,f3,f4,f5⟩:=hf it (by simp)
  exact wpAny_pyNext_range_end (I.ok.hd hc) st (by have:n<=i:=hg;omega) λh' eb=>⟨rfl,I.turned (t':=s.toks) (λb o hb e=>eb b o hb e) f0 f1 f3 f4 f5⟩
 self:=λ_ _ _ _ _ st h=>wpAny_pyIter_rangeiter st h
section
variable {X:Cx} {tg:Expr}
def uR (K:PySem.W.Frag) (tl:TE):TI:=λσ H R=>tl σ H λx H1=>∃ a,x=.ref a/\(∃ xs,aS K H1 a xs)/\R (wH K a) H1
def Bu (K:PySem.W.Frag) (tl:TE):TI:=λσ H R=>tl σ H λx H1=>∃ a,x=.ref a/\(∃ xs,aL K H1 a xs)/\R (zC K a) H1
theorem dF {l:Expr} {tl:TE} (hl:PE X l tl):PI X tg l (uR X.K tl):=by
 intro pins s σ H R I h
 refine bK (hl pins s σ H _ I h) λv s1 ⟨x,H1,I1,r1,q1⟩=>?_
 obtain⟨a,e,⟨xs,hq⟩,q⟩:=q1
 subst e
 cases r1
 obtain⟨its,rv,p,hz⟩:=I1.list hq
 refine wpAny_pyIter_list p.isList ?_
 refine⟨s1.heap.objs.size,[s1.heap.objs.size],_,_,H1,rfl,I1.kept (t':=s1.toks) λb o e=>Heap.get?_push_of_some _ e,ud a _,⟨_,Heap.get?_push_size _ rfl,rfl,rfl⟩,λb hb=>?_,q⟩
 have e:b=s1.heap.objs.size:=by simpa using hb
 subst e
 exact I1.pH (Nat.le_refl _) (I1.hok.fresh (Nat.le_refl _))
theorem qf {l:Expr} {tl:TE} (hl:PE X l tl):PI X tg l (Bu X.K tl):=by
 intro pins s σ H R I h
 refine bK (hl pins s σ H _ I h) λv s1 ⟨x,H1,I1,r1,q1⟩=>?_
 obtain⟨a,e,⟨xs,hq⟩,q⟩:=q1
 subst e
 cases r1
 obtain⟨its,rv,p,hz⟩:=I1.tuple hq
 refine wpAny_pyIter_tuple (show s1.heap.IsTuple a its.toArray from p) ?_
 refine⟨s1.heap.objs.size,[s1.heap.objs.size],_,_,H1,rfl,I1.kept (t':=s1.toks) λb o e=>Heap.get?_push_of_some _ e,qw a _,⟨_,Heap.get?_push_size _ rfl,rfl,rfl⟩,λb hb=>?_,q⟩
 have e:b=s1.heap.objs.size:=by simpa using hb
 subst e
 exact I1.pH (Nat.le_refl _) (I1.hok.fresh (Nat.le_refl _))
theorem oq {pins:List (Addr × Obj)} {σ:St} {H:Hp} {s:Shared} {R:It->Hp->Prop} {E:Value->Shared->Prop} {lo hi:Int} {t u v:Tok} {tk:Nat} (I:Inv X pins σ H s) (h1:-(2^62)<=lo) (h2:lo<2^62) (h3:-(2^62)<=hi) (h4:hi<2^62)
  (q:R (wI lo (hi-lo).toNat) H):wpAny (model X.prog X.w) X.A (pyIter (.ref s.heap.objs.size)) (Cs X pins σ tg R) E { s with heap:=s.heap.push { cls:=.type "range",data:=.fields #[.int lo t,.int hi u,.int 1 v] },toks:=tk }:=by
 refine wpAny_pyIter_range (IsRange.new ..) (small_one h1 h2 h3 h4) ?_
 have I1:Inv X pins σ H { s with heap:=s.heap.push { cls:=.type "range",data:=.fields #[.int lo t,.int hi u,.int 1 v] },toks:=tk }:=I.kept λb o e=>Heap.get?_push_of_some _ e
 refine⟨(s.heap.push { cls:=.type "range",data:=.fields #[.int lo t,.int hi u,.int 1 v] }).objs.size,[(s.heap.push { cls:=.type "range",data:=.fields #[.int lo t,.int hi u,.int 1 v] }).objs.size],_,_,H,rfl,
  I1.kept (t':=tk) λb o e=>Heap.get?_push_of_some _ e,qv _ lo (hi-lo).toNat,?_,λb hb=>?_,q⟩
 ·have e1:lo+((0:Nat):Int)*1=lo:=by simp
  have e2:(((hi-lo).toNat:Nat):Int)-((0:Nat):Int)=Builtin.Range.rangeSize lo hi 1:=by rw [rangeSize_one];split<;>omega
  show IsRangeIter _ _ (lo+((0:Nat):Int)*1) ((((hi-lo).toNat:Nat):Int)-((0:Nat):Int)) 1
  rw [e1,e2]
  exact Heap.get?_push_size _ rfl
 ·have e:b=(s.heap.push { cls:=.type "range",data:=.fields #[.int lo t,.int hi u,.int 1 v] }).objs.size:=by simpa using hb
  subst e
  exact I1.pH (Nat.le_refl _) (I1.hok.fresh (Nat.le_refl _))
def yM (ta:TA):TI:=λσ H R=>ta σ H λvs H1=>∃ j:Int,vs=[.int j] /\ -(2^62)<=j/\j<2^62/\R (wI 0 j.toNat) H1
def yN (ta:TA):TI:=λσ H R=>ta σ H λvs H1=>∃ i j:Int,vs=[.int i,.int j]/\(-(2^62)<=i/\i<2^62 /\ -(2^62)<=j/\j<2^62)/\R (wI i (j-i).toNat) H1
theorem gf {a:Expr} {ta:TA} {p pos:Pos} (hg:Gl X "range") (hm:X.mg "range"=none) (ha:PA X [a] ta) (hs:starEach [a] X.env=[(false,eval a X.env)]:=by rfl):PI X tg (.Call (.Name "range" p) [a] [] pos) (yM ta):=by
 intro pins s σ H R I h
 refine Call_ (gU I hg hm boot_range (PyProof.Rows.callWith_type1 (bK (ha pos pins s σ H _ I h) λus s1 ⟨vs,H1,I1,r1,q1⟩=>?_) hs rfl))
 obtain⟨j,e,q1,q2,q⟩:=q1
 subst e
 cases r1 with
 | cons r rr =>
  cases rr
  obtain⟨t,rfl⟩:=r
  exact call_range_1 (oq I1 (by omega) (by omega) q1 q2 (by simpa using q))
theorem tQ {a b:Expr} {ta:TA} {p pos:Pos} (hg:Gl X "range") (hm:X.mg "range"=none) (ha:PA X [a,b] ta) (hs:starEach [a,b] X.env=[(false,eval a X.env),(false,eval b X.env)]:=by rfl) (hs2:starEach [b] X.env=[(false,eval b X.env)]:=by rfl) :
  PI X tg (.Call (.Name "range" p) [a,b] [] pos) (yN ta):=by
 intro pins s σ H R I h
 refine Call_ (gU I hg hm boot_range (PyProof.Rows.callWith_type1 (bK (ha pos pins s σ H _ I h) λus s1 ⟨vs,H1,I1,r1,q1⟩=>?_) (by rw [hs,hs2]) (by rw [hs2];rfl)))
 obtain⟨i,j,e,⟨q1,q2,q3,q4⟩,q⟩:=q1
 subst e
 cases r1 with
 | cons r rr =>
  cases rr with
  | cons r' rr =>
   cases rr
   obtain⟨t,rfl⟩:=r
   obtain⟨t',rfl⟩:=r'
   exact call_range_2 (oq I1 q1 q2 q3 q4 q)
def BY (wi:TI) (g:TG) (tb:TS):TS:=λD σ H=>wi σ H λJ H1=>∃ W:Nat->Nat->St->Hp->Prop,(∃ m,W 0 m σ H1)/\∀ i m σ H,W i m σ H ->
 (J.stop i H/\D.nx σ H)∨(J.go i H/\∃ N:St->Hp->Prop,(∀ σ' H',N σ' H'->∃ m',m'<m/\W (i+1) m' σ' H')/\∀ x H',J.yld i H x H'->g x σ H' λσ2 H2=>tb { D with nx:=N,ct:=N,bk:=D.nx } σ2 H2)
def fG (fp:List Addr) (h:Heap):List (Addr × Obj):=fp.filterMap λb=>(h.get? b).map λo=>(b,o)
theorem dA {fp:List Addr} {h:Heap} {b:Addr} {o:Obj} (hb:b∈fp) (e:h.get? b=some o):(b,o)∈fG fp h:=List.mem_filterMap.mpr ⟨b,hb,by rw [e];rfl⟩
theorem iW {fp:List Addr} {h:Heap} {p:Addr × Obj} (hp:p∈fG fp h):p.1∈fp/\h.get? p.1=some p.2:=by
 obtain⟨b,hb,e⟩:=List.mem_filterMap.mp hp
 cases q:h.get? b with
 | none=>rw [q] at e;cases e
 | some o =>
  rw [q] at e
  have e':(b,o)=p:=Option.some.inj e
  subst e'
  exact⟨hb,q⟩
theorem Inv.pinned {pins:List (Addr × Obj)} {σ:St} {H:Hp} {s:Shared} {fp:List Addr} (I:Inv X pins σ H s) (hf:∀ b∈fp,ko X pins H b) (ho:∀ b∈fp,∃ o,s.heap.get? b=some o/\∀ v,o.data≠.cell v):Inv X (pins++fG fp s.heap) σ H s :=
 I.gh λp hp=>(List.mem_append.mp hp).elim (λz=>I.pin p (List.mem_append_right _ z)) λz=>by
  obtain⟨hb,e⟩:=iW z
  obtain⟨f0,f1,f2,_⟩:=hf p.1 hb
  obtain⟨o,e',d⟩:=ho p.1 hb
  rw [e] at e';cases e'
  exact⟨e,f0,f1,f2,d⟩
theorem Inv.fU {pins pl:List (Addr × Obj)} {σ:St} {H:Hp} {s:Shared} (I:Inv X (pins++pl) σ H s):Inv X pins σ H s:=I.gh λp hp=>I.pin p (List.mem_append_right _ (List.mem_append_left _ hp))
theorem mw {iter:Expr} {body:List Stmt} {wi:TI} {g:TG} {tb:TS} {pos:Pos} (hp:PassesOwn (model X.prog X.w) X.A X.env X.xe) (hc:X.calm=true) (hi:PI X tg iter wi) (hg:PG X tg g) (hb:jv X body tb)
  (hs:∀ x,foldedSetIterable iter X.env x=pure x:=by intro _;rfl):PS X (.For tg iter body [] pos) (BY wi g tb):=by
 intro pins s σ H D I h
 refine wpAny_For (bK (hi pins s σ H _ I h) λv s1 h1=>bK h1 λitv s2 h2=>?_) hs
 obtain⟨it,fp,tn,J,H2,e,I2,T,st2,f2,W,⟨m0,w0⟩,turn⟩:=h2
 subst e
 -- what stays true of the iterator's objects through the loop
 have stat:∀{H':Hp},(∀ b∈fp,H' b=none)->∀ b∈fp,ko X pins H' b:=λhn b hb=>⟨hn b hb,(f2 b hb).2⟩
 refine codeAny_forLoop_any (λn s'=>∃ i σ' H',Inv X pins σ' H' s'/\tn i s'.heap/\(∀ b∈fp,H' b=none)/\W i n σ' H') ?_ m0 ⟨0,σ,H2,I2,st2,λb hb=>(f2 b hb).1,w0⟩
 rintro n s3 ⟨i,σ3,H3,I3,st3,fr3,w3⟩
 rcases turn i n σ3 H3 w3 with⟨stop,qn⟩|⟨go,N,hN,step⟩
 ·refine wpAny_passesOwn hp (bK (T.done X rfl rfl rfl hc i pins s3 σ3 H3 X.xe I3 (stat fr3) st3 stop) λr s4 ⟨hr,I4⟩=>?_)
  subst hr
  exact wpAny_execs_nil ⟨σ3,H3,I4,qn⟩
 ·refine wpAny_passesOwn hp (bK (T.item X rfl rfl rfl hc i pins s3 σ3 H3 X.xe I3 (stat fr3) st3 go) λr s4 ⟨u,hr,h4⟩=>?_)
  subst hr
  refine wpAny_passesOwn hp (bK h4 λ_ s5 ⟨x,H5,I5,r5,y5,st5,fr5⟩=>?_)
  have I5':=I5.pinned (stat fr5) (T.obj _ _ st5)
  refine wpAny_passesOwn hp (bK (hg _ s5 σ3 H5 x u _ I5' r5 (step x H5 y5)) λ_ s6 ⟨σ6,H6,I6,q6⟩=>?_)
  refine wpAny_passesOwn hp (bK (hb _ s6 σ6 H6 _ I6 q6) λf s7 q7=>?_)
  have again:∀{σ7:St} {H7:Hp},Inv X (pins++fG fp s5.heap) σ7 H7 s7->N σ7 H7->∃ m,m<n/\∃ i σ' H',Inv X pins σ' H' s7/\tn i s7.heap/\(∀ b∈fp,H' b=none)/\W i m σ' H':=λ{σ7 H7} I7 n7=>by
   obtain⟨m',hm,w7⟩:=hN σ7 H7 n7
   refine⟨m',hm,i+1,σ7,H7,I7.fU,T.keep _ _ _ st5 λb hb o e=>(I7.pin (b,o) (List.mem_append_right _ (List.mem_append_right _ (dA hb e)))).1,λb hb=>?_,w7⟩
   obtain⟨o,e,d⟩:=T.obj _ _ st5 b hb
   exact (I7.pin (b,o) (List.mem_append_right _ (List.mem_append_right _ (dA hb e)))).2.1
  cases f with
  | next=>obtain⟨σ7,H7,I7,n7⟩:=q7;exact again I7 n7
  | cont=>obtain⟨σ7,H7,I7,n7⟩:=q7;exact again I7 n7
  | brk=>obtain⟨σ7,H7,I7,q7⟩:=q7;exact⟨σ7,H7,I7.fU,q7⟩
  | ret v=>obtain⟨x7,σ7,H7,I7,r7,q7⟩:=q7;exact⟨x7,σ7,H7,I7.fU,r7,q7⟩
end
theorem uM {K:PySem.W.Frag} {a:Addr} {xs:List V} {g:TG} {tb:TS} {D:Ends} {σ:St} {H:Hp} (Pv:Nat->St->Hp->Prop) (h0:Pv 0 σ H) (hl:∀ i σ H,i<=xs.length->Pv i σ H->aS K H a xs)
  (hs:∀ i x σ H,xs[i]?=some x->Pv i σ H->g x σ H λσ2 H2=>tb { D with nx:=Pv (i+1),ct:=Pv (i+1),bk:=D.nx } σ2 H2) (hd:∀ σ H,Pv xs.length σ H->D.nx σ H) :
  ∃ W:Nat->Nat->St->Hp->Prop,(∃ m,W 0 m σ H)/\∀ i m σ H,W i m σ H ->
   ((wH K a).stop i H/\D.nx σ H)∨((wH K a).go i H/\∃ N:St->Hp->Prop,(∀ σ' H',N σ' H'->∃ m',m'<m/\W (i+1) m' σ' H')/\∀ x H',(wH K a).yld i H x H'->g x σ H' λσ2 H2=>tb { D with nx:=N,ct:=N,bk:=D.nx } σ2 H2):=by
 refine⟨λi m σ H=>m=xs.length-i/\i<=xs.length/\Pv i σ H,⟨xs.length,by simp,Nat.zero_le _,h0⟩,?_⟩
 rintro i m σ H ⟨rfl,hi,p⟩
 have q:=hl i σ H hi p
 by_cases hlt:i<xs.length
 ·refine .inr ⟨⟨xs,xs[i],q,by simp [hlt]⟩,Pv (i+1),λσ' H' p'=>⟨xs.length-(i+1),by omega,rfl,hlt,p'⟩,λx H' y=>?_⟩
  obtain⟨e,y⟩:=y
  subst e
  exact hs i x σ _ (y xs q) p
 ·have e:i=xs.length:=by omega
  subst e
  exact .inl ⟨⟨xs,q,Nat.le_refl _⟩,hd σ H p⟩
theorem xb {K:PySem.W.Frag} {a:Addr} {xs:List V} {g:TG} {tb:TS} {D:Ends} {σ:St} {H:Hp} (Pv:Nat->St->Hp->Prop) (h0:Pv 0 σ H) (hl:∀ i σ H,i<=xs.length->Pv i σ H->aL K H a xs)
  (hs:∀ i x σ H,xs[i]?=some x->Pv i σ H->g x σ H λσ2 H2=>tb { D with nx:=Pv (i+1),ct:=Pv (i+1),bk:=D.nx } σ2 H2) (hd:∀ σ H,Pv xs.length σ H->D.nx σ H) :
  ∃ W:Nat->Nat->St->Hp->Prop,(∃ m,W 0 m σ H)/\∀ i m σ H,W i m σ H ->
   ((zC K a).stop i H/\D.nx σ H)∨((zC K a).go i H/\∃ N:St->Hp->Prop,(∀ σ' H',N σ' H'->∃ m',m'<m/\W (i+1) m' σ' H')/\∀ x H',(zC K a).yld i H x H'->g x σ H' λσ2 H2=>tb { D with nx:=N,ct:=N,bk:=D.nx } σ2 H2):=by
 refine⟨λi m σ H=>m=xs.length-i/\i<=xs.length/\Pv i σ H,⟨xs.length,by simp,Nat.zero_le _,h0⟩,?_⟩
 rintro i m σ H ⟨rfl,hi,p⟩
 have q:=hl i σ H hi p
 by_cases hlt:i<xs.length
 ·refine .inr ⟨⟨xs,xs[i],q,by simp [hlt]⟩,Pv (i+1),λσ' H' p'=>⟨xs.length-(i+1),by omega,rfl,hlt,p'⟩,λx H' y=>?_⟩
  obtain⟨e,y⟩:=y
  subst e
  exact hs i x σ _ (y xs q) p
 ·have e:i=xs.length:=by omega
  subst e
  exact .inl ⟨⟨xs,q,Nat.le_refl _⟩,hd σ H p⟩
theorem sx {lo:Int} {n:Nat} {g:TG} {tb:TS} {D:Ends} {σ:St} {H:Hp} (Pv:Nat->St->Hp->Prop) (h0:Pv 0 σ H)
  (hs:∀ i σ H,i<n->Pv i σ H->g (.int (lo+i)) σ H λσ2 H2=>tb { D with nx:=Pv (i+1),ct:=Pv (i+1),bk:=D.nx } σ2 H2) (hd:∀ σ H,Pv n σ H->D.nx σ H) :
  ∃ W:Nat->Nat->St->Hp->Prop,(∃ m,W 0 m σ H)/\∀ i m σ H,W i m σ H ->
   ((wI lo n).stop i H/\D.nx σ H)∨((wI lo n).go i H/\∃ N:St->Hp->Prop,(∀ σ' H',N σ' H'->∃ m',m'<m/\W (i+1) m' σ' H')/\∀ x H',(wI lo n).yld i H x H'->g x σ H' λσ2 H2=>tb { D with nx:=N,ct:=N,bk:=D.nx } σ2 H2):=by
 refine⟨λi m σ H=>m=n-i/\i<=n/\Pv i σ H,⟨n,by simp,Nat.zero_le _,h0⟩,?_⟩
 rintro i m σ H ⟨rfl,hi,p⟩
 by_cases hlt:i<n
 ·refine .inr ⟨hlt,Pv (i+1),λσ' H' p'=>⟨n-(i+1),by omega,rfl,hlt,p'⟩,λx H' y=>?_⟩
  obtain⟨e,y⟩:=y
  subst e y
  exact hs i σ _ hlt p
 ·have e:i=n:=by omega
  subst e
  exact .inl ⟨Nat.le_refl _,hd σ H p⟩
abbrev R2:=V->V->Hp->VK->Prop
def gu (X:Cx) (f:Value->Value->Sem Value) (r:R2):Prop :=
 ∀(pins:List (Addr × Obj)) (s:Shared) (σ:St) (H:Hp) (x y:V) (v u:Value) (Q:VK),Inv X pins σ H s->RelV x v->RelV y u->r x y H Q ->
  wpAny (model X.prog X.w) X.A (f v u) (EP X pins σ Q) X.xe s
def CM (X:Cx) (f:Value->Sem Value) (r:V->Hp->VK->Prop):Prop :=
 ∀(pins:List (Addr × Obj)) (s:Shared) (σ:St) (H:Hp) (x:V) (v:Value) (Q:VK),Inv X pins σ H s->RelV x v->r x H Q ->
  wpAny (model X.prog X.w) X.A (f v) (EP X pins σ Q) X.xe s
def dW (X:Cx) (f:Value) (r:List V->Hp->VK->Prop):Prop :=
 ∀(pins:List (Addr × Obj)) (s:Shared) (σ:St) (H:Hp) (xs:List V) (us:List Value) (Q:VK),Inv X pins σ H s->Vals xs us->r xs H Q ->
  wpAny (model X.prog X.w) X.A (call f us) (EP X pins σ Q) X.xe s
def CK (X:Cx) (r:V->Hp->(Bool->Hp->Prop)->Prop):Prop :=
 ∀(pins:List (Addr × Obj)) (s:Shared) (σ:St) (H:Hp) (x:V) (v:Value) (Q:Bool->Hp->Prop),Inv X pins σ H s->RelV x v->r x H Q ->
  wpAny (model X.prog X.w) X.A (truthy v) (TP X pins σ Q) X.xe s
def Ce (r:R2) (ta tb:TE):TE:=λσ H Q=>ta σ H λx H1=>tb σ H1 λy H2=>r x y H2 Q
def Dv (r:V->Hp->VK->Prop) (ta:TE):TE:=λσ H Q=>ta σ H λx H1=>r x H1 Q
def rI (C:Int->Int->Prop) (g:Int->Int->V):R2:=λx y H Q=>∃ i j,x=.int i/\y=.int j/\C i j/\Q (g i j) H
def ui (g:Int->Int->V):R2:=λx y H Q=>∃ i j,x=.int i/\y=.int j/\Q (g i j) H
def rU (g:Int->V):V->Hp->VK->Prop:=λx H Q=>∃ i,x=.int i/\Q (g i) H
section
variable {X:Cx} {a b c:Expr} {ta tb tc:TE} {pos:Pos}
theorem zL (ha:PE X a ta) (hb:PE X b tb) {pins:List (Addr × Obj)} {s:Shared} {σ:St} {H:Hp} {R:V->V->Hp->Prop} (I:Inv X pins σ H s)
  (h:ta σ H λx H1=>tb σ H1 λy H2=>R x y H2) {Q:Value->Shared->Prop} {f:Value->Value->Sem Value}
  (hf:∀ v u s2 x y H2,Inv X pins σ H2 s2->RelV x v->RelV y u->R x y H2->wpAny (model X.prog X.w) X.A (f v u) Q X.xe s2) :
  wpAny (model X.prog X.w) X.A (eval a X.env) (λv s₁=>wpAny (model X.prog X.w) X.A (eval b X.env) (λu s₂=>wpAny (model X.prog X.w) X.A (f v u) Q X.xe s₂) X.xe s₁) X.xe s:=by
 refine bK (ha pins s σ H _ I h) λv s1 ⟨x,H1,I1,r1,q1⟩=>?_
 refine bK (hb pins s1 σ H1 _ I1 q1) λu s2 ⟨y,H2,I2,r2,q2⟩=>?_
 exact hf v u s2 x y H2 I2 r1 r2 q2
theorem av {op:Operator} {r:R2} (ho:gu X (binaryOp op) r) (ha:PE X a ta) (hb:PE X b tb):PE X (.BinOp a op b pos) (Ce r ta tb):=by
 intro pins s σ H Q I h
 exact wpAny_BinOp (zL ha hb I h λv u s2 x y H2 I2 rx ry q=>ho pins s2 σ H2 x y v u Q I2 rx ry q)
theorem fo {op:UnaryOp} {r:V->Hp->VK->Prop} (ho:CM X (unaryOp op) r) (ha:PE X a ta):PE X (.UnaryOp op a pos) (Dv r ta):=by
 intro pins s σ H Q I h
 exact UnaryOp_ (bK (ha pins s σ H _ I h) λv s1 ⟨x,H1,I1,r1,q1⟩=>ho pins s1 σ H1 x v Q I1 r1 q1)
theorem AU {f:Value->Value->Sem Value} {C:Int->Int->Prop} {g:Int->Int->Int}
  (rule:∀(i j:Int) (t u:Tok) (s:Shared) (Q:Value->Shared->Prop) (E:Value->Shared->Prop),C i j->Q (.int (g i j) s.toks) { s with toks:=s.toks+1 }->wpAny (model X.prog X.w) X.A (f (.int i t) (.int j u)) Q E s) :
  gu X f (rI C λi j=>.int (g i j)):=by
 intro pins s σ H x y v u Q I rx ry h
 obtain⟨i,j,rfl,rfl,hc,q⟩:=h
 obtain⟨t,rfl⟩:=rx
 obtain⟨t',rfl⟩:=ry
 exact rule i j t t' s _ _ hc ⟨.int (g i j),H,I.tok _,⟨_,rfl⟩,q⟩
theorem xN {f:Value->Value->Sem Value} {g:Int->Int->Int}
  (rule:∀(i j:Int) (t u:Tok) (s:Shared) (Q:Value->Shared->Prop) (E:Value->Shared->Prop),Q (.int (g i j) s.toks) { s with toks:=s.toks+1 }->wpAny (model X.prog X.w) X.A (f (.int i t) (.int j u)) Q E s) :
  gu X f (ui λi j=>.int (g i j)):=by
 intro pins s σ H x y v u Q I rx ry h
 obtain⟨i,j,rfl,rfl,q⟩:=h
 obtain⟨t,rfl⟩:=rx
 obtain⟨t',rfl⟩:=ry
 exact rule i j t t' s _ _ ⟨.int (g i j),H,I.tok _,⟨_,rfl⟩,q⟩
theorem xM {f:Value->Value->Sem Value} {g:Int->Int->Bool}
  (rule:∀(i j:Int) (t u:Tok) (s:Shared) (Q:Value->Shared->Prop) (E:Value->Shared->Prop),Q (.bool (g i j)) s->wpAny (model X.prog X.w) X.A (f (.int i t) (.int j u)) Q E s) :
  gu X f (ui λi j=>.bl (g i j)):=by
 intro pins s σ H x y v u Q I rx ry h
 obtain⟨i,j,rfl,rfl,q⟩:=h
 obtain⟨t,rfl⟩:=rx
 obtain⟨t',rfl⟩:=ry
 exact rule i j t t' s _ _ ⟨.bl (g i j),H,I,rfl,q⟩
def AZ (i j:Int):Prop:=0<=j/\j<=1000000/\i.natAbs<2^64
def AY (i j:Int):Prop:=(-(2^64)<i/\i<2^64)∨(-(2^64)<j/\j<2^64)
theorem AY.ok {i j:Int} (h:AY i j):IntMulOk i j:=by
 rcases h with⟨h1,h2⟩|⟨h1,h2⟩
 ·exact .of_left (intBits_le_64 h1 h2)
 ·exact .of_right (intBits_le_64 h1 h2)
theorem bf:gu X (binaryOp .Add) (ui λi j=>.int (i+j)):=xN λ_ _ _ _ _ _ _ q=>add_int q
theorem bR:gu X (binaryOp .Sub) (ui λi j=>.int (i-j)):=xN λ_ _ _ _ _ _ _ q=>sub_int q
theorem aO:gu X (binaryOp .Mod) (rI (λ_ j=>0<j) λi j=>.int (i%j)):=AU λi j _ _ _ _ _ hc q=>by
 have h1:(0:Int)<j:=hc
 exact mod_int' (by omega) (by rw [Int.fmod_eq_emod_of_nonneg i (by omega)];exact q)
theorem mf:gu X (binaryOp .Pow) (rI AZ λi j=>.int (i^j.toNat)):=AU λ_ _ _ _ _ _ _ hc q=>pow_int_small hc.1 hc.2.1 hc.2.2 q
theorem lX:gu X (inplaceOp .Add) (ui λi j=>.int (i+j)):=xN λ_ _ _ _ _ _ _ q=>iadd_int q
theorem xj:gu X (inplaceOp .Sub) (ui λi j=>.int (i-j)):=xN λ_ _ _ _ _ _ _ q=>isub_int q
theorem DP {f:Value->Sem Value} {g:Int->Int}
  (rule:∀(i:Int) (t:Tok) (s:Shared) (Q:Value->Shared->Prop) (E:Value->Shared->Prop),Q (.int (g i) s.toks) { s with toks:=s.toks+1 }->wpAny (model X.prog X.w) X.A (f (.int i t)) Q E s) :
  CM X f (rU λi=>.int (g i)):=by
 intro pins s σ H x v Q I rx h
 obtain⟨i,rfl,q⟩:=h
 obtain⟨t,rfl⟩:=rx
 exact rule i t s _ _ ⟨.int (g i),H,I.tok _,⟨_,rfl⟩,q⟩
theorem dP:CM X (unaryOp .USub) (rU λi=>.int (-i)):=DP λ_ _ _ _ _ q=>neg_int q
end
def kB:V->V->Bool
 | .cj,.cj=>true | .cj,.int _=>true | .int _,.cj=>true | .cj,.bl _=>true | .bl _,.cj=>true | .cj,.str _=>true | .str _,.cj=>true
 | .int _,.int _=>true | .bl _,.bl _=>true | .str _,.str _=>true | .byt _,.byt _=>true
 | .int _,.str _=>true | .str _,.int _=>true | .bl _,.str _=>true | .str _,.bl _=>true
 | _,_=>false
def Dl:R2:=λx y H Q=>kB x y=true/\Q (.bl (decide (x=y))) H
def Dm:R2:=λx y H Q=>kB x y=true/\Q (.bl (!decide (x=y))) H
theorem qF {i j:Int}:decide (V.int i=V.int j)=(i==j):=by
 rw [Bool.eq_iff_iff]
 simp
theorem uA {i j:Bool}:decide (V.bl i=V.bl j)=(i==j):=by
 rw [Bool.eq_iff_iff]
 simp
theorem qG {i j:Str}:decide (V.str i=V.str j)=(i==j):=by
 rw [Bool.eq_iff_iff]
 simp
theorem qE {i j:Array UInt8}:decide (V.byt i=V.byt j)=(i.toList==j.toList):=by
 rw [Bool.eq_iff_iff]
 cases i
 cases j
 simp
section
variable {X:Cx} {a b c:Expr} {ta tb tc:TE} {pos:Pos}
theorem bj {pins:List (Addr × Obj)} {σ:St} {H:Hp} {s:Shared} {Q:VK} {k k':Bool} (I:Inv X pins σ H s) (q:Q (.bl k) H) (e:k=k'):EP X pins σ Q (.bool k') s:=by
 subst e
 exact⟨.bl k,H,I,rfl,q⟩
theorem bp:gu X (compareOp .Eq) Dl:=by
 intro pins s σ H x y v u Q I rx ry h
 obtain⟨hs,q⟩:=h
 cases x with
 | cj =>
  cases rx
  cases y with
  | cj=>cases ry;exact PySem.EqNone.eq_none_none (bj I q (by simp))
  | bl j=>cases ry;exact PySem.EqNone.eq_none_bool (bj I q (by simp))
  | int j=>obtain⟨t',rfl⟩:=ry;exact PySem.EqNone.eq_none_int (bj I q (by simp))
  | str j=>obtain⟨t',rfl⟩:=ry;exact PySem.EqNone.eq_none_str (bj I q (by simp))
  | _=>exact absurd (show false=true from hs) Bool.false_ne_true
 | bl i =>
  cases rx
  cases y with
  | cj=>cases ry;exact PySem.EqNone.eq_bool_none (bj I q (by simp))
  | bl j=>cases ry;exact eq_bool (bj I q uA)
  | str j=>obtain⟨t',rfl⟩:=ry;exact PySem.EqMixed.eq_bool_str (bj I q (by simp))
  | _=>exact absurd (show false=true from hs) Bool.false_ne_true
 | int i =>
  obtain⟨t,rfl⟩:=rx
  cases y with
  | cj=>cases ry;exact PySem.EqNone.eq_int_none (bj I q (by simp))
  | int j=>obtain⟨t',rfl⟩:=ry;exact eq_int (bj I q qF)
  | str j=>obtain⟨t',rfl⟩:=ry;exact PySem.EqMixed.eq_int_str (bj I q (by simp))
  | _=>exact absurd (show false=true from hs) Bool.false_ne_true
 | str i =>
  obtain⟨t,rfl⟩:=rx
  cases y with
  | cj=>cases ry;exact PySem.EqNone.eq_str_none (bj I q (by simp))
  | bl j=>cases ry;exact PySem.EqMixed.eq_str_bool (bj I q (by simp))
  | int j=>obtain⟨t',rfl⟩:=ry;exact PySem.EqMixed.eq_str_int (bj I q (by simp))
  | str j=>obtain⟨t',rfl⟩:=ry;exact eq_str (bj I q qG)
  | _=>exact absurd (show false=true from hs) Bool.false_ne_true
 | byt i =>
  obtain⟨t,rfl⟩:=rx
  cases y with
  | byt j=>obtain⟨t',rfl⟩:=ry;exact PySem.W.eq_bytes (bj I q qE)
  | _=>exact absurd (show false=true from hs) Bool.false_ne_true
 | _=>cases y<;>exact absurd (show false=true from hs) Bool.false_ne_true
theorem iy:gu X (compareOp .NotEq) Dm:=by
 intro pins s σ H x y v u Q I rx ry h
 obtain⟨hs,q⟩:=h
 cases x with
 | cj =>
  cases rx
  cases y with
  | cj=>cases ry;exact PySem.EqNone.ne_none_none (bj I q (by simp))
  | bl j=>cases ry;exact PySem.EqNone.ne_none_bool (bj I q (by simp))
  | int j=>obtain⟨t',rfl⟩:=ry;exact PySem.EqNone.ne_none_int (bj I q (by simp))
  | str j=>obtain⟨t',rfl⟩:=ry;exact PySem.EqNone.ne_none_str (bj I q (by simp))
  | _=>exact absurd (show false=true from hs) Bool.false_ne_true
 | bl i =>
  cases rx
  cases y with
  | cj=>cases ry;exact PySem.EqNone.ne_bool_none (bj I q (by simp))
  | bl j=>cases ry;exact ne_bool (bj I q (congrArg not uA))
  | str j=>obtain⟨t',rfl⟩:=ry;exact PySem.EqMixed.ne_bool_str (bj I q (by simp))
  | _=>exact absurd (show false=true from hs) Bool.false_ne_true
 | int i =>
  obtain⟨t,rfl⟩:=rx
  cases y with
  | cj=>cases ry;exact PySem.EqNone.ne_int_none (bj I q (by simp))
  | int j=>obtain⟨t',rfl⟩:=ry;exact ne_int (bj I q (congrArg not qF))
  | str j=>obtain⟨t',rfl⟩:=ry;exact PySem.EqMixed.ne_int_str (bj I q (by simp))
  | _=>exact absurd (show false=true from hs) Bool.false_ne_true
 | str i =>
  obtain⟨t,rfl⟩:=rx
  cases y with
  | cj=>cases ry;exact PySem.EqNone.ne_str_none (bj I q (by simp))
  | bl j=>cases ry;exact PySem.EqMixed.ne_str_bool (bj I q (by simp))
  | int j=>obtain⟨t',rfl⟩:=ry;exact PySem.EqMixed.ne_str_int (bj I q (by simp))
  | str j=>obtain⟨t',rfl⟩:=ry;exact ne_str (bj I q (congrArg not qG))
  | _=>exact absurd (show false=true from hs) Bool.false_ne_true
 | byt i =>
  obtain⟨t,rfl⟩:=rx
  cases y with
  | byt j=>obtain⟨t',rfl⟩:=ry;exact PySem.W.ne_bytes (bj I q (congrArg not qE))
  | _=>exact absurd (show false=true from hs) Bool.false_ne_true
 | _=>cases y<;>exact absurd (show false=true from hs) Bool.false_ne_true
theorem dQ:gu X (compareOp .Lt) (ui λi j=>.bl (decide (i<j))):=xM λ_ _ _ _ _ _ _ q=>lt_int q
theorem nZ:gu X (compareOp .LtE) (ui λi j=>.bl (decide (i<=j))):=xM λ_ _ _ _ _ _ _ q=>le_int q
theorem c8:gu X (compareOp .Gt) (ui λi j=>.bl (decide (j<i))):=xM λ_ _ _ _ _ _ _ q=>gt_int q
theorem yX:gu X (compareOp .GtE) (ui λi j=>.bl (decide (j<=i))):=xM λ_ _ _ _ _ _ _ q=>ge_int q
theorem qX:gu X (compareOp .IsNot) (λx y H Q=>y=.cj/\Q (.bl (!decide (x=.cj))) H):=by
 intro pins s σ H x y v u Q I rx ry h
 obtain⟨rfl,q⟩:=h
 cases ry
 refine isnot_none_gen (bj I q ?_)
 cases x<;>first
  | (cases rx;rfl)
  | (obtain⟨t,rfl⟩:=rx;rfl)
theorem ax (b:Expr) {op:CmpOp} (h:op≠.In:=by decide) (h2:op≠.NotIn:=by decide):behindInMarks op b=false:=by
 have e1:(op==CmpOp.In)=false:=by cases op<;>first | rfl | exact absurd rfl h
 have e2:(op==CmpOp.NotIn)=false:=by cases op<;>first | rfl | exact absurd rfl h2
 cases b<;>simp [behindInMarks,e1,e2]
theorem bI {op:CmpOp} {r:R2} (ho:gu X (compareOp op) r) (ha:PE X a ta) (hb:PE X b tb) (hm:behindInMarks op b=false):PE X (.Compare a [op] [b] pos) (Ce r ta tb):=by
 intro pins s σ H Q I h
 exact wpAny_Compare1 (zL ha hb I h λv u s2 x y H2 I2 rx ry q=>ho pins s2 σ H2 x y v u Q I2 rx ry q) hm
def zy (t:TE):TT:=λσ H Q=>t σ H λx H'=>∃ k,x=.bl k/\Q k H'
theorem aw {op:CmpOp} {r:R2} (ho:gu X (compareOp op) r) (ha:PE X a ta) (hb:PE X b tb) (hm:behindInMarks op b=false):PT X (.Compare a [op] [b] pos) (zy (Ce r ta tb)):=by
 intro pins s σ H Q I h
 refine wpAny_isTrue_Compare1 (bK (ha pins s σ H _ I h) λv s1 ⟨x,H1,I1,r1,q1⟩=>bK (hb pins s1 σ H1 _ I1 q1) λu s2 ⟨y,H2,I2,r2,q2⟩ =>
  bK (ho pins s2 σ H2 x y v u _ I2 r1 r2 q2) λc s3 ⟨z,H3,I3,r3,k,e,q3⟩=>?_) hm
 subst e
 cases r3
 exact wpAny_truthy_bool ⟨H3,I3,q3⟩
def qt (r r':R2) (ta tb tc:TE):TE:=λσ H Q=>ta σ H λx H1=>tb σ H1 λy H2=>r x y H2 λz H3=>∃ k,z=.bl k /\
 (if k=true then tc σ H3 λw' H4=>r' y w' H4 Q else Q (.bl false) H3)
theorem oh {op op':CmpOp} {r r':R2} (ho:gu X (compareOp op) r) (ho':gu X (compareOp op') r') (ha:PE X a ta) (hb:PE X b tb) (hc:PE X c tc)
  (hm:lastMarks [op,op'] [b,c]=false:=by with_unfolding_all rfl):PE X (.Compare a [op,op'] [b,c] pos) (qt r r' ta tb tc):=by
 intro pins s σ H Q I h
 refine Compare_chain (bK (ha pins s σ H _ I h) λv s1 ⟨x,H1,I1,r1,q1⟩=>chain_link (bK (hb pins s1 σ H1 _ I1 q1) λu s2 ⟨y,H2,I2,r2,q2⟩ =>
  bK (ho pins s2 σ H2 x y v u _ I2 r1 r2 q2) λd s3 ⟨z,H3,I3,r3,k,e,q3⟩=>?_)) hm
 subst e
 cases r3
 refine wpAny_truthy_bool ?_
 cases k with
 | false=>exact ite_ff ⟨.bl false,H3,I3,rfl,q3⟩
 | true=>exact ite_tt (chain_last (bK (hc pins s3 σ H3 _ I3 q3) λw' s4 ⟨z',H4,I4,r4,q4⟩=>ho' pins s4 σ H4 y z' u w' Q I4 r2 r4 q4))
def wM (K:PySem.W.Frag) (x:V) (H:Hp) (k:Bool):Prop :=
 match x with
 | .cj=>k=false
 | .bl b=>k=b
 | .int i=>k=(i != 0)
 | .str y=>y.length<=sizeLine/\k=((y.length:Int) != 0)
 | .byt y=>y.size<=sizeLine/\k=((y.size:Int) != 0)
 | .ref p=>(∃ xs,aS K H p xs/\k=!xs.isEmpty)∨(∃ xs,aL K H p xs/\k=!xs.isEmpty)∨∃ kvs,H p=some (.dK kvs)/\k=!kvs.isEmpty
 | _=>False
theorem pL {κ:Type} {kvs:List (κ × V)} {vs:List (κ × Value)} (r:KV kvs vs):(!vs.isEmpty)=!kvs.isEmpty:=by
 cases r<;>rfl
theorem jP {xs:List V} {its:List Value} (r:Vals xs its):(!its.toArray.isEmpty)=!xs.isEmpty:=by
 cases r<;>simp
theorem jQ:(sizeLine:Nat)<2^63:=by rw [sizeLine_eq];decide
theorem AK:CK X (λx H Q=>∃ k,wM X.K x H k/\Q k H):=by
 intro pins s σ H x v Q I rx h
 obtain⟨k,e,q⟩:=h
 have hl:=jQ
 have hs:sizeLine=16777216:=sizeLine_eq
 cases x with
 | cj =>
  cases rx
  have e':k=false:=e
  subst e'
  exact truthy_none ⟨H,I,q⟩
 | bl b =>
  cases rx
  have e':k=b:=e
  subst e'
  exact wpAny_truthy_bool ⟨H,I,q⟩
 | int i =>
  obtain⟨t,rfl⟩:=rx
  have e':k=(i != 0):=e
  subst e'
  exact PySem.P.truthy_int ⟨H,I,q⟩
 | str y =>
  obtain⟨t,rfl⟩:=rx
  obtain⟨hy,e'⟩:y.length<=sizeLine/\k=((y.length:Int) != 0):=e
  subst e'
  exact PySem.P.truthy_str (by omega) ⟨H,I.tok _,q⟩
 | byt y =>
  obtain⟨t,rfl⟩:=rx
  obtain⟨hy,e'⟩:y.size<=sizeLine/\k=((y.size:Int) != 0):=e
  subst e'
  exact PySem.W.truthy_bytes (by omega) ⟨H,I.tok _,q⟩
 | ref p =>
  cases rx
  have e':(∃ xs,aS X.K H p xs/\k=!xs.isEmpty)∨(∃ xs,aL X.K H p xs/\k=!xs.isEmpty)∨∃ kvs,H p=some (.dK kvs)/\k=!kvs.isEmpty:=e
  rcases e' with⟨xs,hx,e'⟩|⟨xs,hx,e'⟩|⟨kvs,hx,e'⟩
  ·subst e'
   obtain⟨its,r,pl,hz⟩:=I.list hx
   have hlen:=r.length
   exact wpAny_truthy_list pl.isList (by simp only [List.size_toArray];omega) ⟨H,I.tok _,by rw [jP r];exact q⟩
  ·subst e'
   obtain⟨its,r,pl,hz⟩:=I.tuple hx
   have hlen:=r.length
   exact truthy_tuple pl (by simp only [List.size_toArray];omega) ⟨H,I.tok _,by rw [jP r];exact q⟩
  ·subst e'
   obtain⟨hz,hS,vs,r,m⟩:kvs.length<=sizeLine/\(p==sysModules)=false/\∃ vs,KV kvs vs/\s.heap.DictOf (cq X.prog X.w) p vs:=I.hok p _ hx
   have hlen:kvs.length=vs.length:=Paired.length r
   exact wpAny_truthy_dict hS m (by omega) ⟨H,I.tok _,by rw [pL r];exact q⟩
 | _=>exact (show False from e).elim
theorem aR (ha:PE X a ta) (he:∀ whole,isTrue a X.env whole=(do let v <- whole;standAt a.pos;holding [v] (truthy v))) :
  PT X a (λσ H Q=>ta σ H λx H'=>∃ k,wM X.K x H' k/\Q k H'):=by
 intro pins s σ H Q I h
 exact isTrue_plain (bK (ha pins s σ H _ I h) λv s1 ⟨x,H1,I1,r1,q1⟩=>AK pins s1 σ H1 x v Q I1 r1 q1) (he _)
theorem vals1 {x:V} {us:List Value} (r:Vals [x] us):∃ u,us=[u]/\RelV x u:=by
 cases r with
 | cons r1 r2=>cases r2;exact⟨_,rfl,r1⟩
theorem vals2 {x y:V} {us:List Value} (r:Vals [x,y] us):∃ u w',us=[u,w']/\RelV x u/\RelV y w':=by
 cases r with
 | cons r1 r2 =>
  cases r2 with
  | cons r3 r4=>cases r4;exact⟨_,_,rfl,r1,r3⟩
theorem jK:dW X (.builtin "abs") (λxs H Q=>∃ i,xs=[.int i]/\Q (.int (if i<0 then -i else i)) H):=by
 intro pins s σ H xs us Q I r h
 obtain⟨i,rfl,q⟩:=h
 obtain⟨u,rfl,t,rfl⟩:=vals1 r
 exact call_abs_int λu tk=>⟨.int (if i<0 then -i else i),H,I.tok _,⟨_,rfl⟩,q⟩
theorem rZ (hc:X.calm=true):dW X (.builtin "max") (λxs H Q=>∃ i j,xs=[.int i,.int j]/\Q (.int (if j > i then j else i)) H):=by
 intro pins s σ H xs us Q I r h
 obtain⟨i,j,rfl,q⟩:=h
 obtain⟨u,w',rfl,⟨t,rfl⟩,⟨t',rfl⟩⟩:=vals2 r
 refine max_two_ints (I.ok.hd hc) λh' tk k=>⟨_,H,I.kept k,?_,q⟩
 by_cases hj:j > i
 ·rw [if_pos hj,if_pos hj];exact⟨_,rfl⟩
 ·rw [if_neg hj,if_neg hj];exact⟨_,rfl⟩
theorem kN:dW X (.type "int") (λxs H Q=>(∃ i,xs=[.int i]/\Q (.int i) H)∨∃ k,xs=[.bl k]/\Q (.int (if k then 1 else 0)) H):=by
 intro pins s σ H xs us Q I r h
 rcases h with⟨i,rfl,q⟩|⟨k,rfl,q⟩
 ·obtain⟨u,rfl,t,rfl⟩:=vals1 r
  exact call_int_int ⟨.int i,H,I,⟨_,rfl⟩,q⟩
 ·obtain⟨u,rfl,r1⟩:=vals1 r
  cases r1
  exact call_int_bool ⟨.int (if k then 1 else 0),H,I.tok _,⟨_,rfl⟩,q⟩
end
structure zF (h:Heap) (x dx C:Addr) (mA:Str->Option Value):Prop where
 obj:h.get? x=some (PySem.W.instObj C dx)
 ns:h.Ns1 dx mA
 ne:dx≠x
theorem sP {h:Heap} {dx:Addr} {mA:Str->Option Value} (n:h.Ns1 dx mA):∃ od,h.get? dx=some od/\∀ name,PySem.W.lookIn name od=some (mA name):=by
 obtain⟨o,es,ep,ho,hd,hk,_,hm⟩:=n
 refine⟨o,ho,λname=>?_⟩
 have e:=hm name
 unfold nsFind findBy at e
 rw [<- Array.find?_toList] at e
 unfold PySem.W.lookIn
 rw [hd]
 dsimp only
 split
 ·rename_i y q
  rw [q] at e
  exact congrArg some e
 ·rename_i q
  rw [q] at e
  have a:es.toList.any (·.refKey)=false:=by
   rw [List.any_eq_false]
   intro y hy
   obtain⟨z,t,hkey⟩:=hk y (Array.mem_toList_iff.mp hy)
   simp [DictEntry.refKey,hkey]
  have a':¬es.toList.any (·.refKey)=true:=by rw [a];exact Bool.false_ne_true
  rw [if_neg a']
  exact congrArg some e
theorem zF.look {h:Heap} {x dx C:Addr} {mA:Str->Option Value} (I:zF h x dx C mA):∃ od,PySem.W.InstAt h x (PySem.W.instObj C dx) C (some od)/\∀ name,PySem.W.lookIn name od=some (mA name) :=
 let ⟨od,ho,hl⟩:=sP I.ns
 ⟨od,⟨I.obj,rfl,rfl,ho⟩,hl⟩
section
variable {prog:Program} {w:World} {A:Around} {E:Value->Shared->Prop} {s:Shared} {K:PySem.W.Frag} {x dx C f:Addr} {mA:Str->Option Value} {name:Str} {v:Value}
end
def Ap (f:Str) (v:V):List (Str × V)->List (Str × V)
 | []=>[(f,v)]
 | (g,x)::r=>if g=f then (g,v)::r else (g,x)::Ap f v r
theorem hZ.some_of {v:V} {o:Option Value} (r:hZ (some v) o):∃ u,o=some u/\RelV v u:=by
 cases o with
 | none=>exact (show False from r).elim
 | some u=>exact⟨u,rfl,r⟩
section
variable {P:Program} {w:World} {H H':Hp} {h h':Heap} {a C dx:Addr} {fs fs':List (Str × V)}
theorem xi (hok:fu P w H h) (e:H a=some (.ins C dx fs)):∃ mA,zF h a dx C mA/\(∀ f,hZ (fs.lookup f) (mA f))/\PySem.Within mA (fs.map (·.1))/\fs.length<=1000/\H dx=some (.own a):=by
 obtain⟨d,z,ne,ob,mA,n,r,q⟩:=(show bP P w H h a (.ins C dx fs) from hok a _ e)
 exact⟨mA,⟨ob,n,ne⟩,r,q,z,d⟩
end
structure AO (K:PySem.W.Frag) (C:Addr):Prop where
 pg:PySem.W.plainGet K C Str.empty=true
 hd:PySem.W.hasDictIn K C=true
 po:PySem.W.plainOver K C=true
 sa:PySem.W.findIn K (.ref C) "__setattr__"=some (some (.builtin "object.__setattr__"))
theorem AO.get {K:PySem.W.Frag} {C:Addr} (c:AO K C) (f:Str):PySem.W.plainGet K C f=true:=c.pg
def oV (K:PySem.W.Frag) (C:Addr) (f:Str):Prop:=PySem.W.findIn K (.ref C) f=some none
structure Meth (K:PySem.W.Frag) (C:Addr) (m:Str) (f:Addr):Prop where
 at_:PySem.W.findIn K (.ref C) m=some (some (.ref f))
 fn:PySem.W.isFn K (.ref f)=true
 kp:PySem.W.keepIn K (.ref f)=true
section
variable {X:Cx} {pins:List (Addr × Obj)} {σ:St} {H:Hp} {s:Shared} {a C dx:Addr} {fs:List (Str × V)} {f:Str} {v:V} {A:Around} {E:Value->Shared->Prop}
end
def C8 (K:PySem.W.Frag) (ta:TE) (f:Str):TE:=λσ H Q=>ta σ H λx H1=>∃ a C dx fs v,x=.ref a/\H1 a=some (.ins C dx fs)/\AO K C/\oV K C f/\fs.lookup f=some v/\Q v H1
def C5 (K:PySem.W.Frag) (ta tv:TE) (f:Str):TS:=λD σ H=>tv σ H λy H1=>ta σ H1 λx H2=>∃ a C dx fs,x=.ref a/\H2 a=some (.ins C dx fs)/\AO K C/\oV K C f/\fs.length<1000 /\
 D.nx σ (upd H2 a (.ins C dx (Ap f y fs)))
def yf (K:PySem.W.Frag) (ta tv:TE) (rd:V->V->Hp->VK->Prop) (f:Str):TS:=λD σ H=>ta σ H λx H1=>∃ a C dx fs v,x=.ref a/\H1 a=some (.ins C dx fs)/\AO K C/\oV K C f/\fs.lookup f=some v /\
 tv σ H1 λy H2=>rd v y H2 λz H3=>∃ dx' fs',H3 a=some (.ins C dx' fs')/\fs'.length<1000/\D.nx σ (upd H3 a (.ins C dx' (Ap f z fs')))
section
variable {X:Cx} {o e value:Expr} {f:Str} {pos pos' tpos:Pos} {ta tv:TE}
end
section
variable {X:Cx} {pins:List (Addr × Obj)} {σ:St} {H:Hp} {s:Shared} {A:Around} {E:Value->Shared->Prop} {Q:Value->Shared->Prop} {c:Value} {b:Bool}
inductive gv (K:PySem.W.Frag) (H:Hp):V->Value->Prop where
 | cj:gv K H .cj (.type "NoneType")
 | bl (x:Bool):gv K H (.bl x) (.type "bool")
 | int (i:Int):gv K H (.int i) (.type "int")
 | str (x:Str):gv K H (.str x) (.type "str")
 | flt (x:UInt64):gv K H (.flt x) (.type "float")
 | lst {a:Addr} {xs:List V} (e:H a=some (.lst xs)):gv K H (.ref a) (.type "list")
 | frz {a:Addr} {o:Obj} {xs:List V} (e:H a=some (.frz o (.lst xs))):gv K H (.ref a) (.type "list")
 | tup {a:Addr} {xs:List V} (e:H a=some (.tup xs)):gv K H (.ref a) (.type "tuple")
 | dK {a:Addr} {kvs:List (Key × V)} (e:H a=some (.dK kvs)):gv K H (.ref a) (.type "dict")
 | dT {a:Addr} {kvs:List (List Key × V)} (e:H a=some (.dT kvs)):gv K H (.ref a) (.type "dict")
 | ins {a C dx:Addr} {fs:List (Str × V)} (e:H a=some (.ins C dx fs)) (cl:AO K C) (ha:PySem.W.findIn K (.ref C) "__class__"=some (some (.builtin "object.__class__")))
   (hn:PySem.W.specialIn K (.builtin "object.__class__") "__get__"=some (some (.builtin "getset_descriptor.__get__"))) (htk:PySem.W.takesIn K (.builtin "object.__class__")=some true)
   (hm:PySem.W.mroIn K C (.type "object")=some true):gv K H (.ref a) (.ref C)
theorem fY {x:V} {u t:Value} (I:Inv X pins σ H s) (rx:RelV x u) (ty:gv X.K H x t) (e:PySem.W.kitOne X.K t c=some b) (h:∀ tk,Q (.bool b) { s with toks:=tk }) :
  wpAny (model X.prog X.w) A (call (.builtin "isinstance") [u,c]) Q E s:=by
 cases ty with
 | cj=>cases (show u=Value.none from rx);exact PySem.W.kia_one PySem.W.kitx_none I.iu True.intro e (λz=>nomatch z) h
 | bl y=>cases (show u=Value.bool y from rx);exact PySem.W.kia_one PySem.W.kitx_bool I.iu True.intro e (λz=>nomatch z) h
 | int i=>obtain⟨t,q⟩:=(show ∃ t,u=Value.int i t from rx);cases q;exact PySem.W.kia_one PySem.W.kitx_int I.iu True.intro e (λz=>nomatch z) h
 | str y=>obtain⟨t,q⟩:=(show ∃ t,u=Value.str y t from rx);cases q;exact PySem.W.kia_one PySem.W.kitx_str I.iu True.intro e (λz=>nomatch z) h
 | flt y=>obtain⟨t,q⟩:=(show ∃ t,u=Value.float y t from rx);cases q;exact PySem.W.kia_one PySem.W.kitx_float I.iu True.intro e (λz=>nomatch z) h
 | @lst a xs ea =>
  cases (show u=Value.ref a from rx)
  obtain⟨_,_,n,_,h1⟩:=(show bP X.prog X.w H s.heap a (.lst xs) from I.hok a _ ea)
  exact PySem.W.kia_one PySem.W.kitx_list I.iu ⟨_,h1,rfl⟩ e (λz=>nomatch z) h
 | @frz a ob xs ea =>
  cases (show u=Value.ref a from rx)
  obtain⟨_,_,_,n,_,h1⟩:=(show bP X.prog X.w H s.heap a (.frz ob (.lst xs)) from I.hok a _ ea)
  exact PySem.W.kia_one PySem.W.kitx_list I.iu ⟨_,h1,rfl⟩ e (λz=>nomatch z) h
 | @tup a xs ea =>
  cases (show u=Value.ref a from rx)
  obtain⟨_,_,_,p⟩:=(show bP X.prog X.w H s.heap a (.tup xs) from I.hok a _ ea)
  obtain⟨o,h1,h2,_⟩:=p
  exact PySem.W.kia_one PySem.W.kitx_tuple I.iu ⟨o,h1,h2⟩ e (λz=>nomatch z) h
 | @dK a kvs ea =>
  cases (show u=Value.ref a from rx)
  obtain⟨_,_,vs,_,p⟩:=(show bP X.prog X.w H s.heap a (.dK kvs) from I.hok a _ ea)
  obtain⟨o,es,ep,h1,h2,_⟩:=p
  exact PySem.W.kia_one PySem.W.kitx_dict I.iu ⟨o,h1,h2.1⟩ e (λz=>nomatch z) h
 | @dT a kvs ea =>
  cases (show u=Value.ref a from rx)
  obtain⟨_,_,xs,_,o,es,ep,h1,h2,_⟩:=(show bP X.prog X.w H s.heap a (.dT kvs) from I.hok a _ ea)
  exact PySem.W.kia_one PySem.W.kitx_dict I.iu ⟨o,h1,h2.1⟩ e (λz=>nomatch z) h
 | @ins a C dx fs ea cl ha hn htk hm =>
  cases (show u=Value.ref a from rx)
  obtain⟨mA,O,_⟩:=xi I.hok ea
  obtain⟨od,J,_⟩:=O.look
  exact PySem.W.kia_one (PySem.W.kitx_own (cl.get _) cl.hd ha hn htk hm) I.iu J e (λz=>nomatch z) h
end
structure c6 (k:Nat) (A:Around):Prop where
 hd:A.handled=none
 dp:A.depth+3*k+5<recursionLimit
 un:A.units+16*k+200<cLine
 gs:A.guards=some []
theorem c6.mono {j k:Nat} {A:Around} (r:c6 k A) (h:j<=k):c6 j A:=⟨r.hd,by have:=r.dp;omega,by have:=r.un;omega,r.gs⟩
theorem c6.deeper {k:Nat} {A:Around} (r:c6 (k+1) A) (env:Env):c6 k (A.deeper env) :=
 ⟨r.hd,by have:=r.dp;show A.depth+1+3*k+5<_;omega,by have:=r.un;show A.units+3+16*k+200<_;omega,r.gs⟩
theorem pP {A:Around} {C:Addr} {us:List Value} {kw:List (Str × Value)}:(A.under (.builtin "type.__call__" ⟨.ref C::us,kw⟩)).depth=A.depth+1:=by
 first | rfl | simp [Around.under,Code.weight,Code.isCreation,Code.isGuard,Code.isCaller,Code.frames,Code.isFrame,guardIds]
theorem pQ {A:Around} {C:Addr} {us:List Value} {kw:List (Str × Value)}:(A.under (.builtin "type.__call__" ⟨.ref C::us,kw⟩)).units=A.units+1:=by
 first | rfl | simp [Around.under,Code.cUnits,Code.frames,Code.isFrame]
theorem nO {A:Around} {C:Addr} {us:List Value} {kw:List (Str × Value)}:(A.under (.builtin "type.__call__" ⟨.ref C::us,kw⟩)).guards=A.guards:=by
 first | rfl | simp [Around.under,Code.weight,Code.isCreation,Code.isGuard,Code.isCaller,Code.frames,Code.isFrame,guardIds]
theorem c6.make {k:Nat} {A:Around} (r:c6 (k+1) A) (C:Addr) (us:List Value) (kw:List (Str × Value)):c6 k (A.under (.builtin "type.__call__" ⟨.ref C::us,kw⟩)) :=
 ⟨r.hd,by have:=r.dp;rw [pP];omega,by have:=r.un;rw [pQ];omega,by rw [nO];exact r.gs⟩
theorem c6.depth {k:Nat} {A:Around} (r:c6 k A):A.depth<recursionLimit:=by have:=r.dp;omega
theorem c6.units {k:Nat} {A:Around} (r:c6 k A):A.units+64<cLine:=by have:=r.un;omega
def AG:TA:=λ_ H Q=>Q [] H
def rO (ta:TE) (tr:TA):TA:=λσ H Q=>ta σ H λx H1=>tr σ H1 λxs H2=>Q (x::xs) H2
section
variable {X:Cx} {e:Expr} {es:List Expr} {te:TE} {t:TA} {pos:Pos}
theorem af:PA X [] AG:=λ_ _ _ _ H Q I h=>Calls.spliced_nil ⟨[],H,I,.nil,h⟩
theorem aa (ha:PE X e te) (hr:PA X es t) (hs:starEach (e::es) X.env=(false,eval e X.env)::starEach es X.env:=by rfl):PA X (e::es) (rO te t):=by
 intro pos pins s σ H Q I h
 rw [hs]
 show wpAny _ _ (spliced ((false,eval e X.env)::backTo pos (starEach es X.env))) _ _ s
 refine Calls.spliced_cons (bK (ha pins s σ H _ I h) λu s1 ⟨x,H1,I1,r1,q1⟩=>?_)
 exact bK (hr pos pins s1 σ H1 _ I1 q1) λus s2 ⟨xs,H2,I2,r2,q2⟩=>⟨x::xs,H2,I2,.cons r1 r2,q2⟩
def Ck (t:TA):TE:=λσ H Q=>t σ H λxs H1=>xs.length<=sizeLine/\∀ p,H1 p=none->Q (.ref p) (upd H1 p (.tup xs))
def B1 (t:TA):TE:=λσ H Q=>t σ H λxs H1=>xs.length<=sizeLine/\∀ p,H1 p=none->Q (.ref p) (upd H1 p (.lst xs))
theorem aD {x1} (h:PA X es t):PE X (.Tuple es x1 pos) (Ck t):=by
 intro pins s σ H Q I hq
 refine wpAny_Tuple_spliced (bK (h pos pins s σ H _ I hq) λus s1 ⟨xs,H1,I1,r,z,q⟩=>⟨by rw [<- r.length];exact z,?_⟩)
 have hf:H1 s1.heap.objs.size=none:=I1.hok.fresh (Nat.le_refl _)
 refine⟨.ref s1.heap.objs.size,upd H1 s1.heap.objs.size (.tup xs),I1.laid (t':=s1.toks) (λb u e=>Heap.get?_push_of_some _ e) (Nat.le_refl _) ?_,rfl,q _ hf⟩
 exact⟨z,us,r,⟨_,Heap.get?_push_size _ rfl,rfl,_,rfl⟩⟩
theorem aW (h:PA X es t):PE X (.List es pos) (B1 t):=by
 intro pins s σ H Q I hq
 refine wpAny_List_spliced (bK (h pos pins s σ H _ I hq) λus s1 ⟨xs,H1,I1,r,z,q⟩=>⟨by rw [<- r.length];exact z,?_⟩)
 have hf:H1 s1.heap.objs.size=none:=I1.hok.fresh (Nat.le_refl _)
 refine⟨.ref s1.heap.objs.size,upd H1 s1.heap.objs.size (.lst xs),I1.laid (t':=s1.toks) (λb u e=>Heap.get?_push_of_some _ e) (Nat.le_refl _) ?_,rfl,q _ hf⟩
 exact⟨z,us,0,r,Heap.get?_push_size _ rfl⟩
end
abbrev Sp:=List V->Hp->VK->XK->Prop
abbrev jI:=List Env->Hp->Shared->XK->Value->Shared->Prop
structure oS (P:Program) (w:World) (K:PySem.W.Frag) (mg:Str->Option Value) (base:Heap) (A:Around) (outer:List Env) (s:Shared) (H:Hp):Prop where
 frames:A.frames=some outer
 mod:Mod K mg base
 bs:∀ b o,base.get? b=some o->s.heap.get? b=some o/\H b=none
 bsz:base.objs.size<=s.heap.objs.size
 jo:s.heap.FunFrames base outer
 frf:∀ b∈gw outer,H b=none
 hok:fu P w H s.heap
 bare:AllBare s.gens
def CE (outer:List Env) (P:Program) (w:World) (H:Hp) (s:Shared) (Q:VK) (u:Value) (s':Shared):Prop :=
 ∃ v H',s'.os=s.os/\AllBare s'.gens/\Un (gw outer) [] H H' s.heap s'.heap/\fu P w H' s'.heap/\RelV v u/\Q v H'
def CR (CX:jI) (outer:List Env) (P:Program) (w:World) (H:Hp) (s:Shared) (Q:VK) (E:XK) (r:Result) (s':Shared):Prop :=
 match r with
 | .ok (.ret u)=>CE outer P w H s Q u s'
 | .ok _=>False
 | .error e=>CX outer H s E e s'
structure dJ (P:Program) (w:World) (K:PySem.W.Frag) (mg:Str->Option Value) (base:Heap) (CX:jI) (k:Nat) (f:Addr) (fd:FuncData) (ps:List Str) (sp:Sp):Prop where
 len:∀ vs H Q E,sp vs H Q E->vs.length=ps.length
 run:∀(A:Around) (outer:List Env) (s:Shared) (H:Hp) (args:Args) (us:List Value) (vs:List V) (Q:VK) (E:XK),c6 k A->oS P w K mg base A outer s H->BindsTo s fd args (ps.zip us)->Vals vs us->sp vs H Q E ->
  codeAny (model P w) A (.call (.ref f) args) (CR CX outer P w H s Q E) s
theorem dJ.mono {P:Program} {w:World} {K:PySem.W.Frag} {mg:Str->Option Value} {base:Heap} {CX:jI} {j k:Nat} {f:Addr} {fd:FuncData} {ps:List Str} {sp:Sp} (F:dJ P w K mg base CX j f fd ps sp) (h:j<=k) :
  dJ P w K mg base CX k f fd ps sp:=⟨F.len,λA outer s H args us vs Q E hr=>F.run A outer s H args us vs Q E (hr.mono h)⟩
theorem dJ.imp {P:Program} {w:World} {K:PySem.W.Frag} {mg:Str->Option Value} {base:Heap} {CX:jI} {k:Nat} {f:Addr} {fd:FuncData} {ps:List Str} {sp sp':Sp} (F:dJ P w K mg base CX k f fd ps sp)
  (h:∀ vs H Q E,sp' vs H Q E->sp vs H Q E):dJ P w K mg base CX k f fd ps sp' :=
 ⟨λvs H Q E q=>F.len vs H Q E (h _ _ _ _ q),λA outer s H args us vs Q E hr he hb hv hs=>F.run A outer s H args us vs Q E hr he hb hv (h _ _ _ _ hs)⟩
theorem oS.make {P:Program} {w:World} {K:PySem.W.Frag} {mg:Str->Option Value} {base:Heap} {A:Around} {outer:List Env} {s:Shared} {H:Hp} (e:oS P w K mg base A outer s H) (C:Addr) (us:List Value) (kw:List (Str × Value)) :
  oS P w K mg base (A.under (.builtin "type.__call__" ⟨.ref C::us,kw⟩)) outer s H:=⟨by first | exact e.frames | (simpa [Around.under,Code.envs,Code.isFrame,pushEnvs] using e.frames),e.mod,e.bs,e.bsz,e.jo,e.frf,e.hok,e.bare⟩
section
variable {X:Cx} {pins:List (Addr × Obj)} {σ:St} {H:Hp} {s s':Shared}
theorem Inv.Bp (I:Inv X pins σ H s):oS X.prog X.w X.K X.mg X.base X.A X.stack s H :=
 ⟨I.ok.frames,I.ok.mod,I.bs,Nat.le_trans I.ok.bsz I.sz,I.stack,I.iJ,I.hok,I.bare⟩
theorem Inv.after {Q:VK} {u:Value} (I:Inv X pins σ H s) (h:CE X.stack X.prog X.w H s Q u s'):EP X pins σ Q u s':=by
 obtain⟨v,H',os,bare,un,hok,r,q⟩:=h
 obtain⟨hh,g,d,t,os'⟩:=s'
 obtain rfl:os'=s.os:=os
 exact⟨v,H',I.call (h':=hh) (g':=g) (d':=d) (t':=t) (ch:=[]) un hok bare (λb z=>absurd z (by simp)),r,q⟩
end
def oH (sp:Sp) (bD:List V) (E:XK) (t:TA):TE:=λσ H Q=>t σ H λvs H1=>sp (vs++bD) H1 Q E
def Cb (C:Addr) (m:Str) (sp:Sp) (bD:List V) (E:XK) (ta:TE) (t:TA):TE:=λσ H Q=>ta σ H λx H1=>∃ a dx fs,x=.ref a/\H1 a=some (.ins C dx fs)/\fs.lookup m=none /\
 t σ H1 λvs H2=>sp (x::(vs++bD)) H2 Q E
def Ca (C:Addr) (sp:Sp) (bD:List V) (E:XK) (t:TA):TE:=λσ H Q=>t σ H λvs H1=>∀ x dx,H1 x=none->H1 dx=none->dx≠x ->
 sp (.ref x::(vs++bD)) (upd (upd H1 dx (.own x)) x (.ins C dx [])) (λv H2=>v=.cj/\Q (.ref x) H2) E
def Binds (K:PySem.W.Frag) (fd:FuncData) (ps:List Str) (ds:List Value):Prop :=
 ∀(s:Shared) (us:List Value),K.In s.heap->(us++ds).length=ps.length->BindsTo s fd ⟨us,[]⟩ (ps.zip (us++ds))
theorem Binds.all {K:PySem.W.Frag} {fd:FuncData} {ps:List Str} (h:∀ us:List Value,us.length=ps.length->bindArgs fd ⟨us,[]⟩=pure (ps.zip us)):Binds K fd ps []:=λs us _ hl=>by
 rw [List.append_nil] at hl ⊢
 exact .of_eq (h us hl)
def Passes (CX:jI) (X:Cx) (E:XK):Prop:=∀(pins:List (Addr × Obj)) (σ:St) (H:Hp) (s:Shared) (e:Value) (s':Shared),Inv X pins σ H s->CX X.stack H s E e s'->X.xe e s'
section
variable {X:Cx} {CX:jI} {k:Nat} {f C:Addr} {fd:FuncData} {ps:List Str} {sp:Sp} {bD:List V} {ds:List Value} {E:XK} {x m:Str} {p pos apos:Pos} {e o:Expr} {es:List Expr} {ta:TE} {t:TA}
theorem Av {pins:List (Addr × Obj)} {σ:St} {H:Hp} {s:Shared} {Q:VK} {us:List Value} {vs:List V} (F:dJ X.prog X.w X.K X.mg X.base CX k f fd ps sp) (hr:c6 k X.A) (hb:Binds X.K fd ps ds) (hd:Vals bD ds) (hx:Passes CX X E)
  (I:Inv X pins σ H s) (r:Vals vs us) (h:sp (vs++bD) H Q E):wpAny (model X.prog X.w) X.A (call (.ref f) us) (EP X pins σ Q) X.xe s:=by
 have r2:Vals (vs++bD) (us++ds):=r.append hd
 have hl:(us++ds).length=ps.length:=by rw [<- r2.length];exact F.len _ _ _ _ h
 refine wpAny_call (codeAny_mono (F.run X.A X.stack s H ⟨us,[]⟩ (us++ds) (vs++bD) Q E hr I.Bp (hb s us I.iu hl) r2 h) λr s' hq=>?_)
 cases r with
 | error e=>exact hx pins σ H s e s' I hq
 | ok fl =>
  cases fl with
  | ret u=>exact I.after hq
  | next=>exact False.elim hq
  | brk=>exact False.elim hq
  | cont=>exact False.elim hq
theorem xS (F:dJ X.prog X.w X.K X.mg X.base CX k f fd ps sp) (hr:c6 k X.A) (hg:Gl X x) (hm:X.mg x=some (.ref f)) (hk:PySem.W.keepIn X.K (.ref f)=true) (hb:Binds X.K fd ps ds) (hd:Vals bD ds) (hx:Passes CX X E)
  (ha:PA X (e::es) t) (hdb:(x==("__debug__":Str))=false:=by decide) (he:starEach (e::es) X.env=(false,eval e X.env)::starEach es X.env:=by rfl) (hpl:(backTo pos (starEach es X.env)).any (·.1)=false:=by rfl) :
  PE X (.Call (.Name x p) (e::es) [] pos) (oH sp bD E t):=by
 intro pins s σ H Q I h
 refine wpAny_Call_Name_kw (jy I hg hm ?_ hdb)
 refine PySem.W.callWith_K (h₀:=X.base) I.ok.mod.kin hk (bK (ha pos pins s σ H _ I h) λus s1 ⟨vs,H1,I1,r,q⟩=>⟨I1.iu,?_⟩) he hpl
 exact Av F hr hb hd hx I1 r q
end
section
variable {X:Cx} {CX:jI} {k:Nat} {f C:Addr} {fd:FuncData} {ps ks:List Str} {sp:Sp} {E:XK} {x m:Str} {p pos apos kpos:Pos} {e o:Expr} {es:List Expr} {kws:List Keyword} {te ta:TE} {t tk:TA} {nm:Option Str}
variable {g:List Value->List Value->List Value} {gV:List V->List V->List V}
end
structure aE (N P:List Str) (sc:Scope):Prop where
 kind:sc.kind=.function
 co:sc.isCoroutine=false
 gen:sc.isGenerator=false
 nd:N.Nodup
 pre:N.take P.length=P
 par:∀ x∈P,sc.names.lookup x=some .local∨sc.names.lookup x=some .cell
 nofree:∀ y∈sc.names,y.2≠.free
theorem kL {kindOf:Str->Option NameKind} {x:Str}:∀{binds:List (Str × Value)} {m:Str->Option Value},(∀ v,(x,v)∉binds)->bindL kindOf binds m x=m x
 | [],_,_=>rfl
 | (n,v)::r,m,h=>by
  unfold bindL
  rw [kL λw hw=>h w (List.mem_cons_of_mem _ hw)]
  split
  ·have:x≠n:=by rintro rfl;exact h v List.mem_cons_self
   simp [this]
  ·rfl
theorem kJ {kindOf:Str->Option NameKind} {x:Str}:∀{binds:List (Str × Value)} {m:Str->Option Value},(∀ v,(x,v)∉binds)->bindC kindOf binds m x=m x
 | [],_,_=>rfl
 | (n,v)::r,m,h=>by
  unfold bindC
  rw [kJ λw hw=>h w (List.mem_cons_of_mem _ hw)]
  split
  ·rfl
  ·have:x≠n:=by rintro rfl;exact h v List.mem_cons_self
   simp [this]
theorem kK {kindOf:Str->Option NameKind} {x:Str} {v:Value}:∀{P:List Str} {vs:List Value} {i:Nat} {m:Str->Option Value},P.Nodup->P[i]?=some x->vs[i]?=some v->kindOf x=some .local ->
  bindL kindOf (P.zip vs) m x=some v
 | [],_,_,_,_,h,_,_=>by simp at h
 | _::_,[],_,_,_,_,h,_=>by simp at h
 | p::P,w::vs,0,m,nd,h1,h2,hk=>by
  simp at h1 h2;subst h1;subst h2
  show bindL kindOf ((p,w)::P.zip vs) m p=_
  unfold bindL
  rw [kL λv hv=>(List.nodup_cons.mp nd).1 (List.of_mem_zip hv).1,if_pos hk]
  simp
 | p::P,w::vs,i+1,m,nd,h1,h2,hk=>by
  show bindL kindOf ((p,w)::P.zip vs) m x=_
  unfold bindL
  exact kK (i:=i) (List.nodup_cons.mp nd).2 (by simpa using h1) (by simpa using h2) hk
theorem kI {kindOf:Str->Option NameKind} {x:Str} {v:Value}:∀{P:List Str} {vs:List Value} {i:Nat} {m:Str->Option Value},P.Nodup->P[i]?=some x->vs[i]?=some v->kindOf x≠some .local ->
  bindC kindOf (P.zip vs) m x=some v
 | [],_,_,_,_,h,_,_=>by simp at h
 | _::_,[],_,_,_,_,h,_=>by simp at h
 | p::P,w::vs,0,m,nd,h1,h2,hk=>by
  simp at h1 h2;subst h1;subst h2
  show bindC kindOf ((p,w)::P.zip vs) m p=_
  unfold bindC
  rw [kJ λv hv=>(List.nodup_cons.mp nd).1 (List.of_mem_zip hv).1,if_neg hk]
  simp
 | p::P,w::vs,i+1,m,nd,h1,h2,hk=>by
  show bindC kindOf ((p,w)::P.zip vs) m x=_
  unfold bindC
  exact kI (i:=i) (List.nodup_cons.mp nd).2 (by simpa using h1) (by simpa using h2) hk
def start (N:List Str) (vs:List V):St:=vs.map some++List.replicate (N.length-vs.length) none
def fc (CX:jI) (P:Program) (w:World) (K:PySem.W.Frag) (mg:Str->Option Value) (base:Heap) (N:List Str) (qual:Str) (scope:Scope) (f:Addr) (cd:Value) (A:Around) (outer:List Env) (s:Shared) (H:Hp) (E:XK):Cx where
 prog:=P
 w:=w
 K:=K
 mg:=mg
 base:=base
 A:=A.deeper (envOfC qual scope s.heap.objs.size f cd)
 N:=N
 s₀:=s
 H₀:=H
 env:=envOfC qual scope s.heap.objs.size f cd
 outer:=outer
 stack:=envOfC qual scope s.heap.objs.size f cd::outer
 ex:=[]
 calm:=true
 fn:=λ_=>true
 pn:=[]
 xe:=λe s'=>wpAny (model P w) (A.deeper (envOfC qual scope s.heap.objs.size f cd)) (leaving (envOfC qual scope s.heap.objs.size f cd) e) (λ_ s''=>CX outer H s E e s'') (λe' s''=>CX outer H s E e' s'') s'
theorem m9 {sc:Scope} {n:Nat} {x:Str} (h:sc.names.lookup x=some .cell):∃ c,(cellsFrom n sc.names []).lookup x=some c:=by
 have q:=PySem.W.cellsFrom_some sc.names n [] (.inl h)
 exact Option.isSome_iff_exists.mp q
theorem sL {CX:jI} {P:Program} {w:World} {K:PySem.W.Frag} {mg:Str->Option Value} {base:Heap} {N ps:List Str} {qual:Str} {scope:Scope} {f:Addr} {cd:Value} {A:Around} {outer:List Env} {s s1:Shared} {H:Hp} {E:XK} {us:List Value} {vs:List V}
  (S:aE N ps scope) (hd:A.handled=none) (e0:oS P w K mg base A outer s H) (hl:vs.length=ps.length) (r:Vals vs us)
  (x:InCallC s s.heap.objs.size (bindL (envOfC qual scope s.heap.objs.size f cd).kindOf (ps.zip us) λ_=>none) (cellsFrom (s.heap.objs.size+1) scope.names []) (bindC (envOfC qual scope s.heap.objs.size f cd).kindOf (ps.zip us) λ_=>none) s1) :
  Inv (fc CX P w K mg base N qual scope f cd A outer s H E) [] (start N vs) H s1:=by
 have hpl:ps.length<=N.length:=by have:=congrArg List.length S.pre;rw [List.length_take] at this;omega
 obtain⟨h1,tk,rfl,hk⟩:=x.done
 have noA:∀ b:Addr,b∉(fc CX P w K mg base N qual scope f cd A outer s H E).ex:=λb z=>absurd (show b∈([]:List Addr) from z) (by simp)
 refine⟨⟨e0.mod,S.kind,rfl,rfl,Nat.le_refl _,λy z c h1 h2=>?_,λy hy=>?_,λy c _ h=>?_,λ_=>hd,Around.frames_deeper e0.frames,.inr ⟨rfl,rfl⟩,λb z=>absurd z (noA b),e0.bs,e0.bsz,λb _ _=>noA b,λb z=>absurd z (noA b),e0.jo,e0.frf⟩,
  rfl,e0.bare,Un.kept hk,⟨_,x.toInCall.ns,λi y v h1 h2 h3=>?_⟩,λy c h=>⟨_,x.cell y c h⟩,e0.hok.fresh (Nat.le_refl _),λy c h=>?_,λp hp=>absurd (show p∈([]:List (Addr × Obj)) from hp) (by simp),e0.hok.kept hk,?_⟩
 ·exact name_of_addr x.apart (PySem.mem_of_lookup h1) (PySem.mem_of_lookup h2)
 ·have hy:scope.names.lookup y=some .cell∨scope.names.lookup y=some .free:=hy
  rcases hy with hy | hy
  ·exact m9 hy
  ·exact absurd rfl (S.nofree _ (PySem.mem_of_lookup hy))
 ·exact Nat.le_of_lt (x.above y c (PySem.mem_of_lookup h))
 ·have hi:i<vs.length:=by
   unfold start at h2
   by_cases hi:i<vs.length
   ·exact hi
   ·rw [List.getElem?_append_right (by simpa using hi)] at h2
    rw [List.getElem?_replicate] at h2
    split at h2<;>cases h2
  have ha:vs[i]?=some v:=by
   unfold start at h2
   rw [List.getElem?_append_left (by simpa using hi),List.getElem?_map] at h2
   cases e:vs[i]? with
   | none=>rw [e] at h2;cases h2
   | some a=>rw [e] at h2;cases h2;rfl
  obtain⟨u,hu,rv⟩:=r.get ha
  have hp:ps[i]?=some y:=by
   rw [<- S.pre,List.getElem?_take_of_lt (by omega)];exact h1
  have ndP:ps.Nodup:=by rw [<- S.pre];exact S.nd.sublist (List.take_sublist _ _)
  refine⟨u,rv,?_⟩
  rcases S.par y (List.mem_of_getElem? hp) with k | k
  ·exact .inl ⟨k,kK ndP hp hu k⟩
  ·obtain⟨c,e⟩:=m9 (n:=s.heap.objs.size+1) k
   refine .inr ⟨.inl k,c,e,?_⟩
   have q:=x.cell y c e
   rw [kI ndP hp hu (by show scope.names.lookup y≠_;rw [k];decide)] at q
   exact q
 ·exact e0.hok.fresh (Nat.le_of_lt (x.above y c (PySem.mem_of_lookup h)))
 ·unfold start
  show _=N.length
  rw [List.length_append,List.length_map,List.length_replicate]
  omega
theorem yJ {CX:jI} {P:Program} {w:World} {K:PySem.W.Frag} {mg:Str->Option Value} {base:Heap} {k:Nat} {f:Addr} {name qual:Str} {params:Arguments} {body:List Stmt} {scope:Scope} {dV kV doc pm cdv ct oc:Value} {an od:Option Addr}
  {osl:Array (Option Value)} {N ps:List Str} {sp:Sp} (lk:K.lookup f=some ⟨oc,od,.func (PySem.W.fnOf name qual params body scope dV kV doc pm an cdv ct),osl⟩) (hcd:PySem.W.codeIn K cdv qual=true) (S:aE N ps scope)
  (len:∀ vs H Q E,sp vs H Q E->vs.length=ps.length)
  (hbody:∀(A:Around) (outer:List Env) (s:Shared) (H:Hp) (vs:List V) (Q:VK) (E:XK),c6 k (A.deeper (envOfC qual scope s.heap.objs.size f cdv))->sp vs H Q E ->
   ∃ t,jv (fc CX P w K mg base N qual scope f cdv A outer s H E) body t/\t { nx:=λ_ H'=>Q .cj H',rt:=Q } (start N vs) H) :
  dJ P w K mg base CX (k+1) f (PySem.W.fnOf name qual params body scope dV kV doc pm an cdv ct) ps sp:=by
 refine⟨len,λA outer s H args us vs Q E hr e0 hb r hsp=>?_⟩
 have hl:=len _ _ _ _ hsp
 have KX:K.In s.heap:=e0.mod.kin.keeps λb o e=>(e0.bs b o e).1
 have lim:s.heap.NoLimit:=e0.mod.nolimit.keeps λb o e=>(e0.bs b o e).1
 have hkind:∀ y∈ps.zip us,scope.names.lookup y.1=some .local∨(scope.names.lookup y.1=some .cell/\((cellsFrom (s.heap.objs.size+1) scope.names []).lookup y.1).isSome=true):=fun⟨n,v⟩ hy=>by
  rcases S.par n (List.of_mem_zip hy).1 with q | q
  ·exact .inl q
  ·exact .inr ⟨q,PySem.W.cellsFrom_some _ _ _ (.inl q)⟩
 refine codeAny_call_function hr.depth (KX _ _ lk) rfl S.co S.gen rfl (PySem.W.codeRec_of KX hcd) (hb _ _ _ _ ?_)
 refine wpAny_newFunctionEnv_cells S.kind hkind λenv he s1 x=>?_
 subst he
 refine⟨lim.keeps x.toInCall.keep,codeAny_func ?_⟩
 obtain⟨t,ht,hq⟩:=hbody A outer s H vs Q E (hr.deeper _) hsp
 have I:Inv (fc CX P w K mg base N qual scope f cdv A outer s H E) [] (start N vs) H s1:=sL S hr.hd e0 hl r x
 refine wpAny_mono (ht [] s1 (start N vs) H _ I hq) (λfl s' hs=>?_) λe s' hs=>hs
 have fin:∀{σ':St} {H':Hp} {v:V} {u:Value},Inv (fc CX P w K mg base N qual scope f cdv A outer s H E) [] σ' H' s'->RelV v u->Q v H'->CE outer P w H s Q u s' :=
  λ{σ' H' v u} J rv q=>⟨v,H',J.os,J.bare,J.base,J.hok,rv,q⟩
 cases fl with
 | ret u =>
  obtain⟨v,σ',H',J,rv,q⟩:=hs
  exact fin J rv q
 | next =>
  obtain⟨σ',H',J,q⟩:=hs
  exact fin (v:=V.cj) (u:=Value.none) J rfl q
 | brk =>
  obtain⟨_,_,_,q⟩:=hs
  exact False.elim q
 | cont =>
  obtain⟨_,_,_,q⟩:=hs
  exact False.elim q
section
variable {X:Cx} {x:Str} {p pos:Pos} {e:Expr} {es:List Expr} {t:TA} {id T:String} {r:List V->Hp->VK->Prop}
def C6 (r:List V->Hp->VK->Prop) (t:TA):TE:=λσ H Q=>t σ H λvs H1=>r vs H1 Q
theorem aB (hc:dW X (.builtin id) r) (hg:Gl X x) (hm:X.mg x=none) (hv:bootBuiltins x=some (.builtin id)) (ha:PA X (e::es) t) (hn:x ≠ "__name__":=by decide) (hdb:(x==("__debug__":Str))=false:=by decide)
  (he:starEach (e::es) X.env=(false,eval e X.env)::starEach es X.env:=by rfl) (hpl:(backTo pos (starEach es X.env)).any (·.1)=false:=by rfl):PE X (.Call (.Name x p) (e::es) [] pos) (C6 r t):=by
 intro pins s σ H Q I h
 refine wpAny_Call_Name_kw (gU I hg hm hv ?_ hn hdb)
 exact PyProof.Rows.callWith_builtin1 (bK (ha pos pins s σ H _ I h) λus s1 ⟨vs,H1,I1,r1,q1⟩=>hc pins s1 σ H1 vs us Q I1 r1 q1) he hpl
theorem c9 (hc:dW X (.type T) r) (hg:Gl X x) (hm:X.mg x=none) (hv:bootBuiltins x=some (.type T)) (ha:PA X (e::es) t) (hn:x ≠ "__name__":=by decide) (hdb:(x==("__debug__":Str))=false:=by decide)
  (he:starEach (e::es) X.env=(false,eval e X.env)::starEach es X.env:=by rfl) (hpl:(backTo pos (starEach es X.env)).any (·.1)=false:=by rfl):PE X (.Call (.Name x p) (e::es) [] pos) (C6 r t):=by
 intro pins s σ H Q I h
 refine wpAny_Call_Name_kw (gU I hg hm hv ?_ hn hdb)
 exact PyProof.Rows.callWith_type1 (bK (ha pos pins s σ H _ I h) λus s1 ⟨vs,H1,I1,r1,q1⟩=>hc pins s1 σ H1 vs us Q I1 r1 q1) he hpl
end
end L2
namespace HT
open PySem PyProof.Rows
section
open PySem.SeqAt
open PySem.AutoSeq1 (wpAny_loadPart')
open PySem.MeetsSeq PySem.MeetsSeq2 PySem.MeetsSeq3
end
section
variable {prog:Program} {w:World} {A:Around} {E:Value->Shared->Prop} {s:Shared}
theorem wU {t b:Addr} {vs ws:List Value} {Q:Value->Shared->Prop} (ht:IsTup s.heap t vs.toArray) (hb:IsTup s.heap b ws.toArray) (hv:vs≠[])
  (h1:ws=[]->Q (.ref t) s) (h2:ws≠[]->Q (.ref s.heap.objs.size) { s with heap:=s.heap.push { cls:=.type "tuple",data:=.seq (vs++ws).toArray } })
  (hsz:vs.length+ws.length<=sizeLine):wpAny (model prog w) A (binaryOp .Add (.ref t) (.ref b)) Q E s:=by
 obtain⟨⟨cls,dd,data,sl⟩,ho,hc,n,hd⟩:=id ht
 obtain⟨⟨cls2,dd2,data2,sl2⟩,ho2,hc2,n2,hd2⟩:=id hb
 simp only at hc hd hc2 hd2
 subst hc hd hc2 hd2
 have e:vs.toArray++ws.toArray=(vs++ws).toArray:=by simp
 by_cases hw:ws=[]
 ·exact concat_meets ⟨_,ho,rfl⟩ ⟨_,ho2,rfl⟩ noFill_tuple_add seq_tuple_add PySem.F.slot_tuple_add PySem.F.entry_tuple_add (PySem.F.args_tuple_add_2 _ _)
   (tuple_addW1 t b vs.toArray ws.toArray n n2 dd dd2 sl sl2 (by simpa using hv) (by simp [hw])) ⟨ho,ho2,h1 hw⟩
 ·refine concat_meets ⟨_,ho,rfl⟩ ⟨_,ho2,rfl⟩ noFill_tuple_add seq_tuple_add PySem.F.slot_tuple_add PySem.F.entry_tuple_add (PySem.F.args_tuple_add_2 _ _)
   (tuple_addW2 t b vs.toArray ws.toArray n n2 dd dd2 sl sl2 (by simpa using hv) (by simpa using hw) (by rw [List.size_toArray,List.size_toArray];exact hsz)) ⟨ho,ho2,?_⟩
  rw [e]
  exact h2 hw
def c5 (n d:Nat):Option Int->Nat
 | none=>d
 | some v=>if v<0 then (v+(n:Int)).toNat else min v.toNat n
theorem Aw (n d:Nat) (hd:d<=n) (o:Option Int):c5 n d o<=n:=by
 cases o with
 | none=>exact hd
 | some v =>
  show (if v<0 then (v+(n:Int)).toNat else min v.toNat n)<=n
  by_cases hv:v<0
  ·rw [if_pos hv];omega
  ·rw [if_neg hv];exact Nat.min_le_right _ _
theorem qA (v:Int) (n d:Nat):(if v<0 then max (v+(n:Int)) 0 else min v (n:Int))=((c5 n d (some v):Nat):Int):=by
 show (if v<0 then max (v+(n:Int)) 0 else min v (n:Int))=(((if v<0 then (v+(n:Int)).toNat else min v.toNat n):Nat):Int)
 by_cases hv:v<0
 ·simp only [if_pos hv];omega
 ·simp only [if_neg hv];omega
theorem oY (lo hi:Option Int) (n:Nat):Builtin.Slice.sliceAdjust lo hi 1 (n:Int)=(((c5 n 0 lo:Nat):Int),((c5 n n hi:Nat):Int)):=by
 have h1:¬((1:Int)<0):=by omega
 unfold Builtin.Slice.sliceAdjust
 simp only [h1,if_false]
 refine Prod.ext ?_ ?_
 ·cases lo with
  | none=>rfl
  | some v=>exact qA v n 0
 ·cases hi with
  | none=>rfl
  | some v=>exact qA v n n
theorem qg (i j:Nat):Builtin.Slice.slicePlaces (i:Int) (j:Int) 1=j-i:=by
 unfold Builtin.Slice.slicePlaces
 have h1:(1:Int) > 0:=by omega
 simp only [h1,if_true,Int.ediv_one]
 split<;>omega
theorem gZ {v:Value} {o:Option Int} {Q:Option Int->Shared->Prop} (p:IsPart v o) (h:Q o s):wpAny (model prog w) A (Builtin.Slice.slicePartIndex v) Q E s:=by
 cases p with
 | none=>exact slicePart_none h
 | int i t=>exact slicePart_int h
theorem eY {sl:Addr} {vl vu:Value} {lo hi:Option Int} {n:Nat} {Q:Int × Int × Nat->Shared->Prop} (hs:s.heap.IsSliceOf sl vl vu .none) (pl:IsPart vl lo) (pu:IsPart vu hi)
  (h:Q (((c5 n 0 lo:Nat):Int),1,c5 n n hi-c5 n 0 lo) s):wpAny (model prog w) A (Builtin.Slice.sliceApplied (.ref sl) (pure (n:Int))) Q E s:=by
 obtain⟨os,hos,hcs,hds⟩:=id hs
 unfold Builtin.Slice.sliceApplied Builtin.Slice.sliceFields
 refine wpAny_bind (wpAny_bind (wpAny_field hos hds (x:=vl) rfl (wpAny_bind (wpAny_field hos hds (x:=vu) rfl (wpAny_bind (wpAny_field hos hds (x:=.none) rfl (wpAny_pure ?_)))))))
 refine wpAny_bind (slicePart_none ?_)
 show wpAny _ _ (if ((1:Int)==0)=true then _ else _) _ _ s
 rw [if_neg (by decide)]
 refine wpAny_bind (gZ pl (wpAny_bind (gZ pu (wpAny_bind (wpAny_pure ?_)))))
 show wpAny _ _ (match Builtin.Slice.sliceAdjust lo hi 1 (n:Int) with | (lo,hi)=>pure (lo,(1:Int),Builtin.Slice.slicePlaces lo hi 1)) _ _ s
 rw [oY lo hi n]
 show wpAny _ _ (pure (((c5 n 0 lo:Nat):Int),(1:Int),Builtin.Slice.slicePlaces ((c5 n 0 lo:Nat):Int) ((c5 n n hi:Nat):Int) 1)) _ _ s
 rw [qg]
 exact wpAny_pure h
theorem vJ (xs:Array Value) (i k:Nat):((List.range k).filterMap fun(m:Nat)=>xs[((i:Int)+(m:Int)*1).toNat]?).toArray=((xs.toList.drop i).take k).toArray:=by
 have e:(fun(m:Nat)=>xs[((i:Int)+(m:Int)*1).toNat]?)=λm=>xs[i+m]?:=by
  funext m
  have:((i:Int)+(m:Int)*1).toNat=i+m:=by omega
  rw [this]
 rw [e]
 have:=pick_run xs i k
 rw [List.filterMap_map] at this
 have e2:((λx=>xs[x]?)∘λx=>i+x)=λm=>xs[i+m]?:=rfl
 rw [e2] at this
 rw [this]
theorem ip {t sl:Addr} {items:Array Value} {vl vu:Value} {lo hi:Option Int} {Q:Value->Shared->Prop} (ht:IsTup s.heap t items) (hs:s.heap.IsSliceOf sl vl vu .none) (pl:IsPart vl lo) (pu:IsPart vu hi)
  (hw:¬(c5 items.size 0 lo=0/\c5 items.size items.size hi=items.size))
  (h:Q (.ref s.heap.objs.size) { s with heap:=s.heap.push { cls:=.type "tuple",data:=.seq ((items.toList.drop (c5 items.size 0 lo)).take (c5 items.size items.size hi-c5 items.size 0 lo)).toArray } })
  (hsz:items.size<=sizeLine):wpAny (model prog w) A (getItem (.ref t) (.ref sl)) Q E s:=by
 have htake:sizeOk (.seq ((items.toList.drop (c5 items.size 0 lo)).take (c5 items.size items.size hi-c5 items.size 0 lo)).toArray):=by
  show ((items.toList.drop (c5 items.size 0 lo)).take (c5 items.size items.size hi-c5 items.size 0 lo)).toArray.size<=sizeLine
  rw [List.size_toArray,List.length_take,List.length_drop,Array.length_toList]
  omega
 have hj:c5 items.size items.size hi<=items.size:=Aw _ _ (Nat.le_refl _) hi
 obtain⟨os,hos,hcs,hds⟩:=id hs
 have hTs:s.TypeIs (.ref sl) "slice":=⟨os,hos,hcs⟩
 unfold getItem
 try with_reducible refine wpAny_holding ?_
 first | refine wpAny_bind (wpAny_pure ?_) | skip
 refine wpAny_bind (wpAny_sequenceKey ht.typeIs (by decide) ?_)
 refine wpAny_bind (wpAny_callSpecial?_slot (name:=Str.ofString "__getitem__") ht.typeIs PyProof.Rows.slot_tuple_getitem
  (wpAny_call_entry PyProof.Rows.slot_tuple_getitem ht.typeIs entry_tuple_getitem ?_ (args_tuple_getitem _ _)))
 show wpAny _ _ (Builtin.Tuple.tupleItemsOf (.ref t) >>= _) _ _ s
 refine wpAny_bind (tupleItemsOf_ ht ?_)
 refine wpAny_bind (wpAny_typeOf hTs ?_)
 rw [if_pos (by decide)]
 refine wpAny_bind (eY hs pl pu ?_)
 have hno:¬((((c5 items.size 0 lo:Nat):Int)==0 && (1:Int)==1 && (c5 items.size items.size hi-c5 items.size 0 lo)==items.size)=true):=by
  intro q
  rw [Bool.and_eq_true,Bool.and_eq_true] at q
  have q1:((c5 items.size 0 lo:Nat):Int)=0:=eq_of_beq q.1.1
  have q2:c5 items.size items.size hi-c5 items.size 0 lo=items.size:=eq_of_beq q.2
  exact hw ⟨by omega,by omega⟩
 show wpAny _ _ (if (((c5 items.size 0 lo:Nat):Int)==0 && (1:Int)==1 && (c5 items.size items.size hi-c5 items.size 0 lo)==items.size)=true then _ else _) _ _ s
 rw [if_neg hno,vJ]
 first
  | exact wpAny_bind (m:=Builtin.Tuple.tupleExact _) (wpAny_newObj_type (wpAny_pure ⟨_,rfl,wpAny_pure h⟩) htake)
  | exact wpAny_bind (m:=Builtin.Tuple.tupleExact _) (wpAny_newObj_type (wpAny_bind (wpAny_pure (wpAny_pure ⟨_,rfl,wpAny_pure h⟩))) htake)
  | exact wpAny_bind (wpAny_bind (m:=Builtin.Tuple.tupleExact _) (wpAny_newObj_type (wpAny_pure (wpAny_pure ⟨_,rfl,wpAny_pure h⟩)) htake))
  | exact wpAny_bind (wpAny_bind (m:=Builtin.Tuple.tupleExact _) (wpAny_newObj_type (wpAny_pure ⟨_,rfl,wpAny_pure h⟩) htake))
end
end HT
namespace L2
open PySem PySem.Spec PyProof.Rows
abbrev TO:=St->Hp->(Option Int->Hp->Prop)->Prop
def PO (X:Cx) (e:Option Expr) (t:TO):Prop :=
 ∀(pins:List (Addr × Obj)) (s:Shared) (σ:St) (H:Hp) (Q:Option Int->Hp->Prop),Inv X pins σ H s->t σ H Q ->
  wpAny (model X.prog X.w) X.A (evalPart e X.env) (λu s'=>∃ o H',Inv X pins σ H' s'/\IsPart u o/\Q o H') X.xe s
def rP:TO:=λ_ H Q=>Q none H
def zu (t:TE):TO:=λσ H Q=>t σ H λx H1=>∃ i,x=.int i/\Q (some i) H1
theorem intsAre_of {ns:List Int}:∀{us:List Value},Vals (ns.map V.int) us->IntsAre us ns:=by
 induction ns with
 | nil=>intro us r;rw [List.map_nil] at r;cases r;exact .nil
 | cons n ns ih =>
  intro us r
  rw [List.map_cons] at r
  cases r with
  | cons r1 r2 =>
   obtain⟨t,e⟩:=r1
   subst e
   exact .cons n t (ih r2)
section
variable {X:Cx} {e:Expr} {te:TE} {lo hi:Option Expr} {tl th:TO} {pos p2:Pos}
theorem bz:PO X none rP:=by
 intro pins s σ H Q I h
 rw [evalPart_none]
 exact wpAny_pure ⟨none,H,I,.none,h⟩
theorem bh (h:PE X e te):PO X (some e) (zu te):=by
 intro pins s σ H Q I hw
 rw [evalPart_some]
 refine bK (h pins s σ H _ I hw) λu s1 ⟨x,H1,I1,r1,q1⟩=>?_
 obtain⟨i,rfl,q⟩:=q1
 obtain⟨t,rfl⟩:=r1
 exact⟨some i,H1,I1,.int i t,q⟩
def Cu (X:Cx) (r:V->Option Int->Option Int->Hp->VK->Prop):Prop :=
 ∀(pins:List (Addr × Obj)) (s:Shared) (σ:St) (H:Hp) (x:V) (v vl vu:Value) (lo hi:Option Int) (sl:Addr) (Q:VK),Inv X pins σ H s->RelV x v->s.heap.IsSliceOf sl vl vu .none->IsPart vl lo->IsPart vu hi->r x lo hi H Q ->
  ∃ T id,typeLookup (.type T) "__getitem__"=pure (some (.builtin id))/\s.TypeIs v T/\wpAny (model X.prog X.w) X.A (getItem v (.ref sl)) (EP X pins σ Q) X.xe s
def Du (r:V->Option Int->Option Int->Hp->VK->Prop) (te:TE) (tl th:TO):TE:=λσ H Q=>te σ H λx H1=>tl σ H1 λl H2=>th σ H2 λu H3=>r x l u H3 Q
theorem aY {r:V->Option Int->Option Int->Hp->VK->Prop} (hr:Cu X r) (he:PE X e te) (hl:PO X lo tl) (hu:PO X hi th):PE X (.Subscript e (.Slice lo hi none p2) pos) (Du r te tl th):=by
 intro pins s σ H Q I h
 refine Subscript_ (bK (he pins s σ H _ I h) λv s1 ⟨x,H1,I1,r1,q1⟩=>?_)
 refine wpAny_Slice (bK (hl pins s1 σ H1 _ I1 q1) λvl s2 ⟨l,H2,I2,pl,q2⟩=>bK (hu pins s2 σ H2 _ I2 q2) λvu s3 ⟨u,H3,I3,pu,q3⟩=>?_)
 rw [evalPart_none]
 refine wpAny_pure ?_
 have I4:Inv X pins σ H3 { s3 with heap:=s3.heap.push { cls:=.type "slice",data:=.fields #[vl,vu,.none] } }:=I3.kept (t':=s3.toks) λb ob q=>Heap.get?_push_of_some _ q
 obtain⟨T,id,hT,ht,hg⟩:=hr pins { s3 with heap:=s3.heap.push { cls:=.type "slice",data:=.fields #[vl,vu,.none] } } σ H3 x v vl vu l u s3.heap.objs.size Q I4 r1 (Heap.IsSliceOf.new ..) pl pu q3
 show wpAny (model X.prog X.w) X.A (subscriptTail e (.Slice lo hi none p2) v (.ref s3.heap.objs.size)) (EP X pins σ Q) X.xe { s3 with heap:=s3.heap.push { cls:=.type "slice",data:=.fields #[vl,vu,.none] } }
 exact tail_any (ops:=[.ref s3.heap.objs.size,v]) ht hT hg (by with_unfolding_all rfl)
def bE (xs:List V) (lo hi:Option Int):List V:=(xs.drop (HT.c5 xs.length 0 lo)).take (HT.c5 xs.length xs.length hi-HT.c5 xs.length 0 lo)
theorem bV (xs:List V) (lo hi:Option Int):(bE xs lo hi).length<=xs.length:=by
 unfold bE
 rw [List.length_take,List.length_drop]
 omega
def C4 (K:PySem.W.Frag):V->Option Int->Option Int->Hp->VK->Prop:=λx lo hi H Q=>∃ a xs,x=.ref a/\aL K H a xs /\
 ¬(HT.c5 xs.length 0 lo=0/\HT.c5 xs.length xs.length hi=xs.length)/\∀ p,H p=none->Q (.ref p) (upd H p (.tup (bE xs lo hi)))
theorem qi:Cu X (C4 X.K):=by
 intro pins s σ H x v vl vu lo hi sl Q I rx hs pl pu h
 obtain⟨a,xs,rfl,hx,hw,q⟩:=h
 cases rx
 obtain⟨its,r,ht,hz⟩:=I.tuple hx
 have hlen:its.toArray.size=xs.length:=by rw [List.size_toArray];exact r.length.symm
 refine⟨"tuple",_,PyProof.Rows.slot_tuple_getitem.lookup,ht.typeIs,?_⟩
 refine HT.ip ht hs pl pu (by rw [hlen];exact hw) ?_ (by rw [hlen];exact hz)
 rw [hlen]
 refine⟨.ref s.heap.objs.size,_,I.laid (t':=s.toks) (o:=.tup (bE xs lo hi)) (λb ob q=>Heap.get?_push_of_some _ q) (Nat.le_refl _) ?_,rfl,q _ (I.hok.fresh (Nat.le_refl _))⟩
 exact⟨Nat.le_trans (bV xs lo hi) hz,_,(r.drop (HT.c5 xs.length 0 lo)).take (HT.c5 xs.length xs.length hi-HT.c5 xs.length 0 lo),IsTup.new _ _⟩
def BJ (K:PySem.W.Frag):R2:=λx y H Q=>∃ a b xs ys,x=.ref a/\y=.ref b/\aL K H a xs/\aL K H b ys/\xs≠[]/\xs.length+ys.length<=sizeLine /\
 (ys=[]->Q (.ref a) H)/\(ys≠[]->∀ p,H p=none->Q (.ref p) (upd H p (.tup (xs++ys))))
theorem Vals.jz {xs:List V} {us:List Value} (r:Vals xs us):us=[]↔xs=[]:=by
 cases r with
 | nil=>simp
 | cons _ _=>simp
theorem xO:gu X (binaryOp .Add) (BJ X.K):=by
 intro pins s σ H x y v u Q I rx ry h
 obtain⟨a,b,xs,ys,rfl,rfl,ha,hb,hx,hz,q1,q2⟩:=h
 cases rx
 cases ry
 obtain⟨its,r1,p1,_⟩:=I.tuple ha
 obtain⟨its2,r2,p2,_⟩:=I.tuple hb
 refine HT.wU p1 p2 (λz=>hx (r1.jz.mp z)) (λz=>⟨.ref a,H,I,rfl,q1 (r2.jz.mp z)⟩) (λz=>?_) (by rw [<- r1.length,<- r2.length];exact hz)
 refine⟨.ref s.heap.objs.size,_,I.laid (t':=s.toks) (o:=.tup (xs++ys)) (λb ob q=>Heap.get?_push_of_some _ q) (Nat.le_refl _) ?_,rfl,q2 (λw=>z (r2.jz.mpr w)) _ (I.hok.fresh (Nat.le_refl _))⟩
 exact⟨by rw [List.length_append];exact hz,_,r1.append r2,IsTup.new _ _⟩
end
def qP (n:Nat) (i:Int):Option Nat:=if 0<=i then (if i<n then some i.toNat else none) else if -(n:Int)<=i then some (i+n).toNat else none
def oP {α:Type} (xs:List α) (i:Int):Option α:=(qP xs.length i).bind λj=>xs[j]?
theorem qQ {n:Nat} {i:Int} {j:Nat} (h:qP n i=some j):seqIndex? i n=some j/\j<n /\ -(n:Int)<=i/\i<n:=by
 unfold qP at h
 by_cases h0:0<=i
 ·rw [if_pos h0] at h
  by_cases h1:i<n
  ·rw [if_pos h1] at h
   have e:i.toNat=j:=Option.some.inj h
   exact⟨by rw [seqIndex_of h0 h1,e],by omega,by omega,h1⟩
  ·rw [if_neg h1] at h;cases h
 ·rw [if_neg h0] at h
  by_cases h1:-(n:Int)<=i
  ·rw [if_pos h1] at h
   have e:(i+n).toNat=j:=Option.some.inj h
   exact⟨by rw [seqIndex_neg (by omega) h1,e],by omega,h1,by omega⟩
  ·rw [if_neg h1] at h;cases h
theorem qy {α:Type} {xs:List α} {i:Int} {v:α} (h:oP xs i=some v):∃ j,seqIndex? i xs.length=some j/\xs[j]?=some v/\j<xs.length /\ -(xs.length:Int)<=i/\i<xs.length:=by
 unfold oP at h
 cases e:qP xs.length i with
 | none=>rw [e] at h;cases h
 | some j =>
  rw [e] at h
  obtain⟨h1,h2,h3,h4⟩:=qQ e
  exact⟨j,h1,h,h2,h3,h4⟩
theorem ic {α:Type} {xs:List α} {j:Nat} {v:α} (h:xs[j]?=some v):oP xs (j:Int)=some v:=by
 have hj:j<xs.length:=(List.getElem?_eq_some_iff.mp h).1
 have e:qP xs.length (j:Int)=some j:=by
  unfold qP
  rw [if_pos (by omega),if_pos (by omega)];simp
 unfold oP;rw [e];exact h
theorem uo {α:Type} (xs:List α) (v:α):oP (xs++[v]) (-1)=some v:=by
 have hl:(xs++[v]).length=xs.length+1:=by simp
 have e:qP (xs++[v]).length (-1)=some xs.length:=by
  unfold qP
  rw [hl,if_neg (by decide),if_pos (by omega)]
  congr 1
  omega
 unfold oP
 rw [e]
 show (xs++[v])[xs.length]?=some v
 simp
def wL (b:Expr):Prop:=∀ o i,subscripted b false o i=operate [o,i] (getItem o i)
def Cq (X:Cx) (r:R2):Prop :=
 ∀(value slice:Expr) (pins:List (Addr × Obj)) (s:Shared) (σ:St) (H:Hp) (x y:V) (v u:Value) (Q:VK),Inv X pins σ H s->RelV x v->RelV y u->r x y H Q ->
  subscripted slice false v u=operate [v,u] (getItem v u)->wpAny (model X.prog X.w) X.A (subscriptTail value slice v u) (EP X pins σ Q) X.xe s
def CI (X:Cx) (id:String) (r:V->List V->Hp->VK->Prop):Prop :=
 ∀(pins:List (Addr × Obj)) (s:Shared) (σ:St) (H:Hp) (x:V) (xs:List V) (v:Value) (us:List Value) (Q:VK),Inv X pins σ H s->RelV x v->Vals xs us->r x xs H Q ->
  wpAny (model X.prog X.w) X.A (call (.builtin id) (v::us)) (EP X pins σ Q) X.xe s
section
variable {X:Cx} {a b:Expr} {ta tb:TE} {pos:Pos}
theorem aP {r:R2} (hr:Cq X r) (ha:PE X a ta) (hb:PE X b tb) (hs:wL b):PE X (.Subscript a b pos) (Ce r ta tb):=by
 intro pins s σ H Q I h
 exact Subscript_ (zL ha hb I h λv u s2 x y H2 I2 rx ry q=>hr a b pins s2 σ H2 x y v u Q I2 rx ry q (hs _ _))
def x5 (K:PySem.W.Frag):R2:=λx y H Q=>∃ p xs i v,x=.ref p/\y=.int i/\aS K H p xs/\oP xs i=some v/\Q v H
def x6 (K:PySem.W.Frag):R2:=λx y H Q=>∃ p xs i v,x=.ref p/\y=.int i/\aL K H p xs/\oP xs i=some v/\Q v H
theorem bA:Cq X (x5 X.K):=by
 intro value slice pins s σ H x y v u Q I rx ry h hs
 obtain⟨p,xs,i,z,rfl,rfl,hq,he,q⟩:=h
 cases rx
 obtain⟨t,rfl⟩:=ry
 obtain⟨its,r,pl,hz⟩:=I.list hq
 obtain⟨j,h1,h2,h3,h4,h5⟩:=qy he
 obtain⟨w,ew,rw'⟩:=r.get h2
 have hl:=r.length
 have hn:=jQ
 have fin:EP X pins σ Q w s:=⟨z,H,I,rw',q⟩
 by_cases h0:0<=i
 ·have hj:i.toNat=j:=by
   rw [seqIndex_of h0 h5] at h1
   exact Option.some.inj h1
  exact item_listR pl.isList h0 (by omega) (by rw [hj];simpa using ew) fin hs
 ·have hj:(i+(its.toArray.size:Int)).toNat=j:=by
   rw [seqIndex_neg (by omega) h4] at h1
   rw [List.size_toArray,<- hl]
   exact Option.some.inj h1
  exact subscriptTail_builtinR (x:=w) pl.isList.typeIs slot_list_getitem.lookup
   (wpAny_getItem_list_neg (Q:=λr s'=>r=w/\EP X pins σ Q r s') pl.isList (by omega) (by rw [List.size_toArray]<;>omega) (by omega) (by rw [hj];simpa using ew) ⟨rfl,fin⟩) hs
theorem aZ:Cq X (x6 X.K):=by
 intro value slice pins s σ H x y v u Q I rx ry h hs
 obtain⟨p,xs,i,z,rfl,rfl,hq,he,q⟩:=h
 cases rx
 obtain⟨t,rfl⟩:=ry
 obtain⟨its,r,pl,hz⟩:=I.tuple hq
 obtain⟨j,h1,h2,h3,h4,h5⟩:=qy he
 obtain⟨w,ew,rw'⟩:=r.get h2
 have hl:=r.length
 have hn:=jQ
 have fin:EP X pins σ Q w s:=⟨z,H,I,rw',q⟩
 exact subscriptTail_builtinR (x:=w) pl.typeIs slot_tuple_getitem.lookup
  (getItem_tuple (j:=j) (Q:=λr s'=>r=w/\EP X pins σ Q r s') pl (by omega) (by omega) (by rw [List.size_toArray,<- hl];exact h1) (by simpa using ew) ⟨rfl,fin⟩) hs
theorem pR (its:List Value) (n j:Nat) (u:Value):Obj.mapSeq (·.setIfInBounds j u) { cls:=.type "list",data:=.seq its.toArray n }={ cls:=.type "list",data:=.seq (its.set j u).toArray n }:=by
 simp [Obj.mapSeq]
theorem Inv.lst {pins:List (Addr × Obj)} {σ:St} {H:Hp} {s:Shared} {p:Addr} {xs:List V} (I:Inv X pins σ H s) (h:H p=some (.lst xs)) :
  ∃(its:List Value) (n:Nat),Vals xs its/\s.heap.get? p=some { cls:=.type "list",data:=.seq its.toArray n }/\xs.length<=sizeLine:=by
 obtain⟨z,its,n,r,e⟩:=I.hok p _ h
 exact⟨its,n,r,e,z⟩
theorem Inv.z6 {pins:List (Addr × Obj)} {σ:St} {H:Hp} {s:Shared} {p:Addr} {xs ys:List V} {its its':List Value} {n n':Nat} {f:Obj->Obj} (I:Inv X pins σ H s) (h:H p=some (.lst xs))
  (ho:s.heap.get? p=some { cls:=.type "list",data:=.seq its.toArray n }) (hf:f { cls:=.type "list",data:=.seq its.toArray n }={ cls:=.type "list",data:=.seq its'.toArray n' }) (r:Vals ys its') (hz:ys.length<=sizeLine) (t:Nat) :
  Inv X pins σ (upd H p (.lst ys)) { s with heap:=s.heap.update p f,toks:=t }:=by
 have e:(s.heap.update p f).get? p=some { cls:=.type "list",data:=.seq its'.toArray n' }:=by
  rw [Heap.get?_update_self f ho (by rw [hf]<;>rfl),hf]
 refine I.write (x:=p) (e:=p) (by rw [h];trivial) (.inl rfl) (λb u hb q=>(Heap.get?_update_other _ _ (Ne.symm hb)).trans q) ⟨_,e⟩ ?_
 exact⟨hz,its',n',r,e⟩
def BL:V->V->V->Hp->(Hp->Prop)->Prop:=λo i v H Q=>∃ p xs k j,o=.ref p/\i=.int k/\H p=some (.lst xs)/\qP xs.length k=some j/\Q (upd H p (.lst (xs.set j v)))
theorem set_list:Bi X BL:=by
 intro pins s σ H o i v ov iv u Q I ro ri rv h
 obtain⟨p,xs,k,j,rfl,rfl,hp,hj,q⟩:=h
 cases ro
 obtain⟨t,rfl⟩:=ri
 obtain⟨its,n,r,ho,hz⟩:=I.lst hp
 obtain⟨h1,h2,h3,h4⟩:=qQ hj
 have hl:=r.length
 have hn:=jQ
 have I':Inv X pins σ (upd H p (.lst (xs.set j v))) { s with heap:=s.heap.update p (Obj.mapSeq (·.setIfInBounds j u)) } :=
  I.z6 hp ho (pR its n j u) (r.set rv j) (by rw [List.length_set];exact hz) s.toks
 by_cases h0:0<=k
 ·have hk:k.toNat=j:=by
   rw [seqIndex_of h0 h4] at h1
   exact Option.some.inj h1
  exact PySem.W.ki_setAt ho h0 (by omega) (by rw [List.size_toArray,<- hl];exact h4) (by rw [hk];exact⟨_,I',q⟩)
 ·have hk:(k+(its.toArray.size:Int)).toNat=j:=by
   rw [seqIndex_neg (by omega) h3] at h1
   rw [List.size_toArray,<- hl]
   exact Option.some.inj h1
  exact PySem.W.ki_setBack ho (by omega) (by rw [List.size_toArray,<- hl];exact h3) (by omega) (by rw [hk];exact⟨_,I',q⟩)
theorem mD (lo hi:Option Int) (n:Nat):(sliceBounds lo hi none n).1=((HT.c5 n 0 lo:Nat):Int)/\(sliceBounds lo hi none n).2.1=((HT.c5 n n hi:Nat):Int)/\(sliceBounds lo hi none n).2.2=1:=by
 refine⟨?_,?_,rfl⟩
 ·cases lo with
  | none=>simp [sliceBounds,HT.c5]
  | some i =>
   simp only [sliceBounds,HT.c5,Option.getD_none,show (1:Int) > 0 by decide,if_true]
   by_cases h:i<0
   ·simp only [h,if_true]<;>omega
   ·simp only [h,if_false]<;>omega
 ·cases hi with
  | none=>simp [sliceBounds,HT.c5]
  | some i =>
   simp only [sliceBounds,HT.c5,Option.getD_none,show (1:Int) > 0 by decide,if_true]
   by_cases h:i<0
   ·simp only [h,if_true]<;>omega
   ·simp only [h,if_false]<;>omega
theorem kC (its:List Value) (lo hi:Option Int):slicePick its.toArray lo hi none=((its.drop (HT.c5 its.length 0 lo)).take (HT.c5 its.length its.length hi-HT.c5 its.length 0 lo)).toArray:=by
 obtain⟨h1,h2,h3⟩:=mD lo hi its.toArray.size
 unfold slicePick
 rw [h1,h2,h3]
 simp only [sliceRange_one,pick_run,List.size_toArray]<;>rfl
def As (K:PySem.W.Frag):V->Option Int->Option Int->Hp->VK->Prop:=λx lo hi H Q=>∃ a xs,x=.ref a/\aS K H a xs/\∀ p,H p=none->Q (.ref p) (upd H p (.lst (bE xs lo hi)))
theorem eC:Cu X (As X.K):=by
 intro pins s σ H x v vl vu lo hi sl Q I rx hs pl pu h
 obtain⟨a,xs,rfl,hx,q⟩:=h
 cases rx
 obtain⟨its,r,ht,hz⟩:=I.list hx
 have hlen:=r.length
 refine⟨"list",_,slot_list_getitem.lookup,ht.isList.typeIs,?_⟩
 refine wpAny_getItem_list_slice ht.isList hs pl pu .none (by simp) ?_ (by rw [List.size_toArray]<;>omega)
 rw [kC,<- hlen]
 refine⟨.ref s.heap.objs.size,_,I.laid (t':=s.toks) (o:=.lst (bE xs lo hi)) (λb ob q=>Heap.get?_push_of_some _ q) (Nat.le_refl _) ?_,rfl,q _ (I.hok.fresh (Nat.le_refl _))⟩
 exact⟨Nat.le_trans (bV xs lo hi) hz,_,0,(r.drop (HT.c5 xs.length 0 lo)).take (HT.c5 xs.length xs.length hi-HT.c5 xs.length 0 lo),Heap.get?_push_size _ rfl⟩
def gE:V->Bool
 | .cj=>true
 | .bl _=>true
 | .int _=>true
 | .str _=>true
 | _=>false
def wC:V->V->Bool
 | .cj,.cj=>true
 | .bl a,.bl b=>a==b
 | .bl a,.int b=>(if a then 1 else 0)==b
 | .int a,.bl b=>a==(if b then 1 else 0)
 | .int a,.int b=>a==b
 | .str a,.str b=>a==b
 | _,_=>false
theorem zS {A:Around} {s:Shared} {y x:V} {u v:Value} (ry:RelV y u) (rx:RelV x v) (fy:gE y=true) (fx:gE x=true):SeqAt.EqAt A s u v (wC y x):=by
 cases y with
 | cj =>
  cases ry
  cases x with
  | cj=>cases rx;exact SeqAt.EqAt.same _
  | bl b=>cases rx;exact SeqAt.EqAt.none_bool b
  | int b=>obtain⟨t,rfl⟩:=rx;exact SeqAt.EqAt.none_int b t
  | str b=>obtain⟨t,rfl⟩:=rx;exact SeqAt.EqAt.none_str b t
  | _=>exact absurd (show false=true from fx) Bool.false_ne_true
 | bl a =>
  cases ry
  cases x with
  | cj=>cases rx;exact SeqAt.EqAt.bool_none a
  | bl b=>cases rx;exact SeqAt.EqAt.bool_bool a b
  | int b=>obtain⟨t,rfl⟩:=rx;exact SeqAt.EqAt.bool_int a b t
  | str b=>obtain⟨t,rfl⟩:=rx;exact SeqAt.EqAt.bool_str a b t
  | _=>exact absurd (show false=true from fx) Bool.false_ne_true
 | int a =>
  obtain⟨t',rfl⟩:=ry
  cases x with
  | cj=>cases rx;exact SeqAt.EqAt.int_none a t'
  | bl b=>cases rx;exact SeqAt.EqAt.int_bool a t' b
  | int b=>obtain⟨t,rfl⟩:=rx;exact SeqAt.EqAt.int_int a t' b t
  | str b=>obtain⟨t,rfl⟩:=rx;exact SeqAt.EqAt.int_str a t' b t
  | _=>exact absurd (show false=true from fx) Bool.false_ne_true
 | str a =>
  obtain⟨t',rfl⟩:=ry
  cases x with
  | cj=>cases rx;exact SeqAt.EqAt.str_none a t'
  | bl b=>cases rx;exact SeqAt.EqAt.str_bool a t' b
  | int b=>obtain⟨t,rfl⟩:=rx;exact SeqAt.EqAt.str_int a t' b t
  | str b=>obtain⟨t,rfl⟩:=rx;exact SeqAt.EqAt.str_str a t' b t
  | _=>exact absurd (show false=true from fx) Bool.false_ne_true
 | _=>exact absurd (show false=true from fy) Bool.false_ne_true
def wY (x:V) (u:Value):Bool:=match u with
 | .none=>wC .cj x
 | .bool b=>wC (.bl b) x
 | .int i _=>wC (.int i) x
 | .str z _=>wC (.str z) x
 | _=>false
theorem uJ {x y:V} {u:Value} (r:RelV y u) (f:gE y=true):wY x u=wC y x:=by
 cases y with
 | cj=>cases r;rfl
 | bl b=>cases r;rfl
 | int i=>obtain⟨t,rfl⟩:=r;rfl
 | str z=>obtain⟨t,rfl⟩:=r;rfl
 | _=>exact absurd (show false=true from f) Bool.false_ne_true
theorem lH {x:V}:∀{xs:List V} {us:List Value},Vals xs us->xs.all gE=true->us.any (wY x)=xs.any λy=>wC y x
 | _,_,.nil,_=>rfl
 | y::xs,u::us,.cons r t,f=>by
  rw [List.all_cons,Bool.and_eq_true] at f
  rw [List.any_cons,List.any_cons,uJ r f.1,lH t f.2]
theorem jS {A:Around} {s:Shared} {x:V} {v:Value} (rx:RelV x v) (fx:gE x=true):∀{xs:List V} {us:List Value},Vals xs us->xs.all gE=true->∀ u∈us,SeqAt.EqAt A s u v (wY x u)
 | _,_,.nil,_=>λu hu=>by cases hu
 | y::xs,u::us,.cons r t,f=>λu' hu=>by
  rw [List.all_cons,Bool.and_eq_true] at f
  rcases List.mem_cons.mp hu with rfl | hu
  ·rw [uJ r f.1];exact zS r rx f.1 fx
  ·exact jS rx fx t f.2 u' hu
def CQ (x:V) (xs:List V):Bool:=xs.any λy=>wC y x
def DL (K:PySem.W.Frag) (neg:Bool):R2:=λx y H Q=>∃ p xs,y=.ref p/\(aS K H p xs∨aL K H p xs)/\gE x=true/\xs.all gE=true/\Q (.bl (if neg then !CQ x xs else CQ x xs)) H
theorem tK:gu X (compareOp .In) (DL X.K false):=by
 intro pins s σ H x y v u Q I rx ry h
 obtain⟨p,xs,rfl,hq,fx,fs,q⟩:=h
 cases ry
 rcases hq with hq | hq
 ·obtain⟨its,r,pl,hz⟩:=I.list hq
  refine SeqAt.in_listAt (wY x) pl.isList (λw hw=>jS rx fx r fs w (by simpa using hw)) ⟨.bl _,H,I,rfl,?_⟩
  rw [show its.toArray.any (wY x)=its.any (wY x) by simp,lH r fs]
  exact q
 ·obtain⟨its,r,pl,hz⟩:=I.tuple hq
  refine SeqAt.in_tupleAt (wY x) pl (λw hw=>jS rx fx r fs w (by simpa using hw)) ⟨.bl _,H,I,rfl,?_⟩
  rw [show its.toArray.any (wY x)=its.any (wY x) by simp,lH r fs]
  exact q
theorem lI:dW X (.builtin "len") (λxs H Q=>∃ p ys,xs=[.ref p]/\(aS X.K H p ys∨aL X.K H p ys)/\Q (.int ys.length) H):=by
 intro pins s σ H xs us Q I r h
 obtain⟨p,ys,rfl,hq,q⟩:=h
 obtain⟨u,rfl,rx⟩:=vals1 r
 cases rx
 have hn:=jQ
 rcases hq with hq | hq
 ·obtain⟨its,r',pl,hz⟩:=I.list hq
  have hlen:=r'.length
  exact Calls.call_len_list pl.isList (by simp only [List.size_toArray]<;>omega) ⟨.int ys.length,H,I.tok _,⟨s.toks+1,by rw [List.size_toArray,hlen]⟩,q⟩
 ·obtain⟨its,r',pl,hz⟩:=I.tuple hq
  have hlen:=r'.length
  exact len_tuple pl (by simp only [List.size_toArray]<;>omega) ⟨.int ys.length,H,I.tok _,⟨s.toks+1,by rw [List.size_toArray,hlen]⟩,q⟩
theorem dU:dW X (.type "list") (λxs H Q=>∃ p ys,xs=[.ref p]/\(aS X.K H p ys∨aL X.K H p ys)/\∀ l,H l=none->Q (.ref l) (upd H l (.lst ys))):=by
 intro pins s σ H xs us Q I r h
 obtain⟨p,ys,rfl,hq,q⟩:=h
 obtain⟨u,rfl,rx⟩:=vals1 r
 cases rx
 have fin:∀(its:List Value),Vals ys its->ys.length<=sizeLine->∀(h':Heap) (c':Nat),(∀ b o',s.heap.get? b=some o'->h'.get? b=some o') ->
   h'.get? s.heap.objs.size=some { cls:=.type "list",dict:=none,data:=.seq its.toArray c',slots:=#[] }->EP X pins σ Q (.ref s.heap.objs.size) { s with heap:=h' }:=λits r' hz h' c' kp e =>
  ⟨.ref s.heap.objs.size,_,I.laid (t':=s.toks) kp (Nat.le_refl _) (show bP X.prog X.w _ h' _ (.lst ys) from ⟨hz,its,c',r',e⟩),rfl,q _ (I.hok.fresh (Nat.le_refl _))⟩
 rcases hq with hq | hq
 ·obtain⟨its,r',pl,hz⟩:=I.list hq
  have hlen:=r'.length
  obtain⟨o,ho,hc,n,hd⟩:=pl.isList
  exact call_list_seq p (.inl rfl) ho hc hd (λh' c' kp e=>fin its r' hz h' c' kp e) (by simp only [List.size_toArray]<;>omega)
 ·obtain⟨its,r',pl,hz⟩:=I.tuple hq
  have hlen:=r'.length
  obtain⟨o,ho,hc,n,hd⟩:=pl
  exact call_list_seq p (.inr rfl) ho hc hd (λh' c' kp e=>fin its r' hz h' c' kp e) (by simp only [List.size_toArray]<;>omega)
theorem gB:dW X (.type "tuple") (λxs H Q=>∃ p ys,xs=[.ref p]/\((aS X.K H p ys/\∀ l,H l=none->Q (.ref l) (upd H l (.tup ys)))∨(aL X.K H p ys/\Q (.ref p) H))):=by
 intro pins s σ H xs us Q I r h
 obtain⟨p,ys,rfl,h⟩:=h
 obtain⟨u,rfl,rx⟩:=vals1 r
 cases rx
 rcases h with⟨hq,q⟩|⟨hq,q⟩
 ·obtain⟨its,r',pl,hz⟩:=I.list hq
  have hlen:=r'.length
  refine call_tuple_list pl.isList (λh' kp=>?_) (by simp only [List.size_toArray]<;>omega)
  have I1:Inv X pins σ H { s with heap:=h' }:=I.kept (t':=s.toks) kp
  have I2:Inv X pins σ (upd H h'.objs.size (.tup ys)) { s with heap:=h'.push { cls:=.type "tuple",data:=.seq its.toArray } } :=
   I1.laid (t':=s.toks) (λb o e=>Heap.get?_push_of_some _ e) (Nat.le_refl _) (show bP X.prog X.w _ _ _ (.tup ys) from ⟨hz,its,r',IsTup.new _ _⟩)
  exact⟨.ref h'.objs.size,_,I2,rfl,q _ (I1.hok.fresh (Nat.le_refl _))⟩
 ·obtain⟨its,r',pl,hz⟩:=I.tuple hq
  exact call_tuple_same pl ⟨.ref p,H,I,rfl,q⟩
def De (K:PySem.W.Frag) (T:String) (x:V) (H:Hp):Prop:=match x with
 | .str _=>T = "str"
 | .int _=>T = "int"
 | .ref p=>(T = "list"/\∃ xs,aS K H p xs)∨(T = "tuple"/\∃ o,K.lookup p=some o/\o.cls=.type "tuple"/\o.dict=none) ∨
   (T = "dict"/\((∃ kvs,H p=some (.dK kvs))∨∃ kvs,H p=some (.dT kvs)))∨(T = "set"/\∃ S n,H p=some (.set S n))
 | _=>False
theorem wt {pins:List (Addr × Obj)} {σ:St} {H:Hp} {s:Shared} {T:String} {x:V} {v:Value} (I:Inv X pins σ H s) (r:RelV x v) (ty:De X.K T x H) :
  s.TypeIs v T/\∀ a,v=.ref a->∃ ob,s.heap.get? a=some ob/\ob.dict=none:=by
 cases x with
 | str z =>
  obtain⟨t,rfl⟩:=r
  cases (show T = "str" from ty)
  exact⟨typeIs_str s z t,λ_ e=>nomatch e⟩
 | int i =>
  obtain⟨t,rfl⟩:=r
  cases (show T = "int" from ty)
  exact⟨typeIs_int s i t,λ_ e=>nomatch e⟩
 | ref p =>
  cases r
  rcases ty with⟨rfl,xs,hq⟩|⟨rfl,o,hk,hc,hd⟩|⟨rfl,hk⟩|⟨rfl,S,n,hk⟩
  ·obtain⟨its,_,pl,_⟩:=I.list hq
   refine⟨pl.isList.typeIs,λa e=>?_⟩
   cases e
   obtain⟨o,n,e,c,hd,_⟩:=pl
   exact⟨o,e,hd⟩
  ·refine⟨⟨o,I.iu p o hk,hc⟩,λa e=>?_⟩
   cases e
   exact⟨o,I.iu _ o hk,hd⟩
  ·have z:∃ o,s.heap.get? p=some o/\o.ExactDict:=by
    rcases hk with⟨kvs,hk⟩|⟨kvs,hk⟩
    ·obtain⟨_,_,_,_,o,_,_,e,ex,_⟩:=I.hok p _ hk
     exact⟨o,e,ex⟩
    ·obtain⟨_,_,_,_,o,_,_,e,ex,_⟩:=I.hok p _ hk
     exact⟨o,e,ex⟩
   obtain⟨o,e,ex⟩:=z
   refine⟨⟨o,e,ex.1⟩,λa e2=>?_⟩
   cases e2
   exact⟨o,e,ex.2.1⟩
  ·obtain⟨o,_,_,_,e,ex,_⟩:=I.hok p _ hk
   refine⟨⟨o,e,ex.1⟩,λa e2=>?_⟩
   cases e2
   exact⟨o,e,ex.2.1⟩
 | _=>exact False.elim ty
def BW (K:PySem.W.Frag) (T:String) (r:V->List V->Hp->VK->Prop) (to:TE):TE:=λσ H Q=>to σ H λx H1=>De K T x H1/\r x [] H1 Q
def Dr (K:PySem.W.Frag) (T:String) (r:V->List V->Hp->VK->Prop) (to:TE) (t:TA):TE:=λσ H Q=>to σ H λx H1=>De K T x H1/\t σ H1 λxs H2=>r x xs H2 Q
variable {o e:Expr} {es:List Expr} {to:TE} {t:TA} {name:Str} {apos cpos:Pos} {T id:String} {r:V->List V->Hp->VK->Prop}
theorem Ak (pa:PlainAttrs T) (slot:Slot T name id) (hty:typeOf (.builtin id)=pure (.type "method_descriptor")) (hm:CI X id r) (ho:PE X o to)
  (hbase:attributeBase o name X.env (eval o X.env)=eval o X.env:=by rfl) (hline:(apos.endLine==cpos.line)=true:=by rfl):PE X (.Call (.Attribute o name apos) [] [] cpos) (BW X.K T r to):=by
 intro pins s σ H Q I h
 refine wpAny_Call_method0_late hbase hline (bK (ho pins s σ H _ I h) λv s1 ⟨x,H1,I1,r1,ty,q1⟩=>?_)
 obtain⟨h1,h2⟩:=wt I1 r1 ty
 exact⟨T,id,pa,slot,hty,h1,h2,Calls.callWith_builtin rfl (PySem.evalArgs_none (hm pins s1 σ H1 x [] v [] Q I1 r1 .nil q1))⟩
theorem qY (pa:PlainAttrs T) (slot:Slot T name id) (hty:typeOf (.builtin id)=pure (.type "method_descriptor")) (hm:CI X id r) (ho:PE X o to) (ha:PA X (e::es) t)
  (hbase:attributeBase o name X.env (eval o X.env)=eval o X.env:=by rfl)
  (hfew:((backTo cpos (starEach (e::es) X.env)).all (λx=>!x.1) && (backToKw cpos (keywordEach [] X.env)).all (λx=>x.1.isSome)
   && decide ((e::es).length+([]:List Keyword).length+(if ([]:List Keyword).isEmpty then 0 else 1)<30))=true:=by rfl)
  (hline:(apos.endLine==cpos.line)=true:=by rfl) (hs:starEach (e::es) X.env=(false,eval e X.env)::starEach es X.env:=by rfl) (hplain:(backTo cpos (starEach es X.env)).any (·.1)=false:=by rfl) :
  PE X (.Call (.Attribute o name apos) (e::es) [] cpos) (Dr X.K T r to t):=by
 intro pins s σ H Q I h
 refine wpAny_Call_method_late hbase hfew hline rfl (bK (ho pins s σ H _ I h) λv s1 ⟨x,H1,I1,r1,ty,q1⟩=>?_)
 obtain⟨h1,h2⟩:=wt I1 r1 ty
 refine⟨T,id,pa,slot,hty,h1,h2,?_⟩
 have hA:=ha cpos pins s1 σ H1 _ I1 q1
 rw [hs] at hA ⊢
 refine Calls.callWith_builtin (by show (false || (backTo cpos (starEach es X.env)).any (·.1))=false;rw [hplain]<;>rfl) (Calls.evalArgs_plain ?_)
 exact bK hA λus s2 ⟨vs,H2,I2,r2,q2⟩=>hm pins s2 σ H2 x vs v us Q I2 r1 r2 q2
/- xs.append(e),list.index on a module's tuple .. are CI facts of 06m -/
end
def CH (X:Cx) (id:String) (r:V->List V->Hp->VK->Prop):Prop :=
 ∀(pins:List (Addr × Obj)) (s:Shared) (σ:St) (H:Hp) (x:V) (xs:List V) (v:Value) (us:List Value) (Q:VK),Inv X pins σ H s->RelV x v->Vals xs us->r x xs H Q ->
  wpAny (model X.prog X.w) X.A (call (.builtin id) (v::us)) (EP X pins σ Q) X.xe s
theorem Vals.one:∀{x:V} {us:List Value},Vals [x] us->∃ u,us=[u]/\RelV x u
 | _,_,.cons r .nil=>⟨_,rfl,r⟩
theorem Vals.two:∀{x y:V} {us:List Value},Vals [x,y] us->∃ u v,us=[u,v]/\RelV x u/\RelV y v
 | _,_,_,.cons r (.cons q .nil)=>⟨_,_,rfl,r,q⟩
theorem Vals.zero:∀{us:List Value},Vals [] us->us=[]
 | _,.nil=>rfl
theorem Vals.dropLast {xs:List V} {us:List Value} (h:Vals xs us):Vals xs.dropLast us.dropLast:=by
 induction h with
 | nil=>exact .nil
 | cons r t ih =>
  cases t with
  | nil=>exact .nil
  | cons q t'=>exact .cons r ih
theorem pG {α:Type} (l:List α):l.eraseIdx (l.length-1)=l.dropLast:=by
 induction l with
 | nil=>rfl
 | cons a r ih =>
  cases r with
  | nil=>rfl
  | cons b r =>
   have e:(a::b::r).length-1=((b::r).length-1)+1:=by
    have h1:(a::b::r).length=r.length+2:=rfl
    have h2:(b::r).length=r.length+1:=rfl
    omega
   rw [e,List.eraseIdx_cons_succ,ih]
   all_goals rfl
section
variable {X:Cx} {pins:List (Addr × Obj)} {σ:St} {H:Hp} {s:Shared} {l b:Addr} {xs ys zs:List V}
theorem Inv.z5 {its its':List Value} {n:Nat} {f:Array Value->Array Value} {t':Nat} (I:Inv X pins σ H s) (hH:H l=some (.lst xs))
  (e:s.heap.get? l=some { cls:=.type "list",data:=.seq its.toArray n }) (hf:f its.toArray=its'.toArray) (hv:Vals ys its') (hz:ys.length<=sizeLine) :
  Inv X pins σ (upd H l (.lst ys)) { s with heap:=s.heap.update l (Obj.mapSeq f),toks:=t' }:=by
 have q:=PySem.IsL.update e f
 rw [hf] at q
 refine I.write (x:=l) (e:=l) (by rw [hH];exact trivial) (.inl rfl) (λb' u hb hu=>(Heap.get?_update_other s.heap (Obj.mapSeq f) (Ne.symm hb)).trans hu) ⟨_,q⟩ ?_
 exact⟨hz,its',_,hv,q⟩
theorem Inv.CV {its:List Value} {t':Nat} (I:Inv X pins σ H s) (hv:Vals ys its) (hz:ys.length<=sizeLine) :
  Inv X pins σ (upd H s.heap.objs.size (.lst ys)) { s with heap:=s.heap.push { cls:=.type "list",data:=.seq its.toArray },toks:=t' } :=
 I.laid (λ_ _ q=>Heap.get?_push_of_some _ q) (Nat.le_refl _) ⟨hz,its,0,hv,Heap.get?_push_size _ rfl⟩
theorem Inv.fresh (I:Inv X pins σ H s):H s.heap.objs.size=none:=I.hok.fresh (Nat.le_refl _)
theorem Inv.sR (I:Inv X pins σ H s) (hH:H l=some (.lst xs)):xs.length<=sizeLine/\∃(its:List Value) (n:Nat),Vals xs its/\xs.length=its.length/\s.heap.get? l=some { cls:=.type "list",data:=.seq its.toArray n }:=by
 obtain⟨z,its,n,r,e⟩:=I.hok l _ hH
 exact⟨z,its,n,r,r.length,e⟩
theorem u6 {n:Nat} (h:n<=sizeLine):Builtin.List.listTooLong n=false:=by
 unfold Builtin.List.listTooLong
 exact decide_eq_false (by omega)
end
section
variable {X:Cx}
def xY:V->List V->Hp->VK->Prop:=λx vs H Q=>∃ l xs y,x=.ref l/\vs=[y]/\H l=some (.lst xs)/\xs.length<sizeLine/\Q .cj (upd H l (.lst (xs++[y])))
theorem iV:CH X "list.append" xY:=by
 intro pins s σ H x vs v us Q I rx rv h
 obtain⟨l,xs,y,rfl,rfl,hH,hz,q⟩:=h
 cases rx
 obtain⟨u,rfl,ru⟩:=rv.one
 obtain⟨z,its,n,r,hl,e⟩:=I.sR hH
 refine call_meets F.slot_list_append ⟨_,e,rfl⟩ F.entry_list_append (F.args_list_append_2 _ _) (PySem.list_append l its.toArray n u (by rw [List.size_toArray];omega)) ⟨e,?_⟩
 refine⟨.cj,_,I.z5 (its':=its++[u]) hH e (by simp) (r.append (.cons ru .nil)) ?_,rfl,q⟩
 rw [List.length_append,List.length_singleton]
 omega
def x4:V->List V->Hp->VK->Prop:=λx vs H Q=>∃ l b xs zs,x=.ref l/\vs=[.ref b]/\H l=some (.lst xs)/\H b=some (.lst zs)/\xs.length+zs.length<=sizeLine/\Q .cj (upd H l (.lst (xs++zs)))
theorem sS:CH X "list.extend" x4:=by
 intro pins s σ H x vs v us Q I rx rv h
 obtain⟨l,b,xs,zs,rfl,rfl,hH,hB,hz,q⟩:=h
 cases rx
 obtain⟨u,rfl,ru⟩:=rv.one
 cases ru
 obtain⟨z,its,n,r,hl,e⟩:=I.sR hH
 obtain⟨z2,its2,n2,r2,hl2,e2⟩:=I.sR hB
 have hsz:its.toArray.size+its2.toArray.size<=sizeLine:=by rw [List.size_toArray,List.size_toArray];omega
 have hlong:¬(!its.toArray.isEmpty && Builtin.List.listTooLong (its.toArray.size+its2.toArray.size))=true:=by
  rw [u6 hsz,Bool.and_false]
  exact Bool.false_ne_true
 refine call_meets F.slot_list_extend ⟨_,e,rfl⟩ F.entry_list_extend (F.args_list_extend_2 _ _)
  (AutoSeq1.list_extend_list_list_0 l its.toArray n b its2.toArray n2 hlong (by rw [List.size_toArray];omega) (by omega)) ⟨e,e2,?_⟩
 refine⟨.cj,_,I.z5 (its':=its++its2) hH e (by simp) (r.append r2) ?_,rfl,q⟩
 rw [List.length_append]
 omega
def C3:V->List V->Hp->VK->Prop:=λx vs H Q=>∃ l xs y,x=.ref l/\vs=[]/\H l=some (.lst xs)/\xs[xs.length-1]?=some y/\Q y (upd H l (.lst xs.dropLast))
theorem z8:CH X "list.pop" C3:=by
 intro pins s σ H x vs v us Q I rx rv h
 obtain⟨l,xs,y,rfl,rfl,hH,hy,q⟩:=h
 cases rx
 have hus:=rv.zero
 subst hus
 obtain⟨z,its,n,r,hl,e⟩:=I.sR hH
 obtain⟨u,hu,ru⟩:=r.get hy
 have hy':its.toArray[its.toArray.size-1]?=some u:=by
  show its.toArray[its.length-1]?=some u
  rw [<- Array.getElem?_toList,<- hl]
  exact hu
 refine call_meets F.slot_list_pop ⟨_,e,rfl⟩ F.entry_list_pop (F.args_list_pop_1 _) (MeetsSeq.list_pop_last l its.toArray n u hy' (by rw [List.size_toArray];omega)) ⟨e,?_⟩
 refine⟨y,_,I.z5 (its':=its.dropLast) hH e ?_ r.dropLast ?_,ru,q⟩
 ·show its.toArray.eraseIdxIfInBounds (its.toArray.size-1)=its.dropLast.toArray
  rw [List.size_toArray,List.eraseIdxIfInBounds_toArray,pG]
 ·rw [List.length_dropLast]
  omega
def Ar:R2:=λx y H Q=>∃ l b xs zs,x=.ref l/\y=.ref b/\H l=some (.lst xs)/\H b=some (.lst zs)/\xs.length+zs.length<=sizeLine/\∀ p,H p=none->Q (.ref p) (upd H p (.lst (xs++zs)))
theorem dB:gu X (binaryOp .Add) Ar:=by
 intro pins s σ H x y v u Q I rx ry h
 obtain⟨l,b,xs,zs,rfl,rfl,hH,hB,hz,q⟩:=h
 cases rx
 cases ry
 obtain⟨z,its,n,r,hl,e⟩:=I.sR hH
 obtain⟨z2,its2,n2,r2,hl2,e2⟩:=I.sR hB
 refine PySem.P.add_list e e2 ?_ (by rw [List.size_toArray,List.size_toArray];omega)
 have ea:its.toArray++its2.toArray=(its++its2).toArray:=by simp
 rw [ea]
 exact⟨.ref _,_,I.CV (t':=s.toks) (r.append r2) (by rw [List.length_append];omega),rfl,q _ I.fresh⟩
end
section
variable {prog:Program} {w:World} {A:Around} {E:Value->Shared->Prop} {s:Shared}
end
section
variable {X:Cx}
end
end L2
namespace Att
open PySem PySem.W PySem.Calls PyProof.Rows
theorem jq {P:Params} {h:Heap}:∀(ns:List Int) (vs:List Value),WellAll P h vs (ns.map WData.int)->IntsAre vs ns:=by
 intro ns
 induction ns with
 | nil =>
  intro vs w
  rw [List.map_nil] at w
  cases w
  exact .nil
 | cons n ns ih =>
  intro vs w
  rw [List.map_cons] at w
  cases w with
  | cons a b =>
   cases a
   exact .cons _ _ (ih _ b)
theorem tZ {l:OpenLaw} {n:Nat} (hn:l.most=some n) {P:Params} {h:Heap} {args:List WData} {vals:List Value}
  (hpre:l.row.toRowW.claim.pre args=true) (hwl:WellAll P h vals args) :
  ∃ a vs ns,vals=[Value.ref a]/\args=[WData.list (ns.map WData.int)]/\h.get? a=some { cls:=.type "list",data:=.seq vs.toArray }/\IntsAre vs ns/\ns.length<=n:=by
 have hsh:WShape.hasAll [] args [.list .int]=true:=(pre_splitW hpre).1
 have hc:l.pre.holds [] { args:=args }=true:=(pre_splitW hpre).2
 obtain⟨d,r,rfl,h1,h2⟩:=hasAllW_cons hsh
 obtain rfl:=hasAllW_nil h2
 obtain⟨xs,rfl,h3⟩:=hasW_list h1
 obtain⟨ns,rfl⟩:=items_int h3
 have hlen:ns.length<=n:=by
  unfold OpenLaw.pre at hc
  have h4:(WTm.not (.lt (.lit (.int (n:Int))) (.len (.arg 0)))).holds [] { args:=[.list (ns.map .int)] }=true:=by
   have h4:=(holds_andW hc).1
   rw [hn] at h4
   exact h4
  have h5:=condW_of h4 (w_not (w_lt w_lit (w_len_list (w_arg rfl))))
  rw [List.length_map] at h5
  refine Nat.le_of_not_lt λq=>?_
  have q':(n:Int)<((ns.length:Nat):Int):=by omega
  first
   | (rw [decide_eq_true q'] at h5;exact absurd h5 (by decide))
   | (simp at h5;omega)
 cases hwl with
 | cons w1 w2 =>
  cases w2
  cases w1 with
  | list ho hall=>exact⟨_,_,ns,rfl,rfl,ho,jq ns _ hall,hlen⟩
theorem tV (l:OpenLaw) (args:List WData):l.row.toRowW.claim.post args (.bool true) args=true :=
 postW_of (r:=l.row.toRowW) (X:=(true==true))
  (show WShape.has [] (.bool true) .bool=true by first | rfl | decide | simp [WShape.has,WShape.arms,WShape.armsAll])
  (show (WTm.eq .res (.lit (.bool true))).value [] { args:=args,res:=some (.bool true),after:=args }=some (.bool (true==true)) from w_eq_bool (w_res rfl) w_lit) rfl
theorem mV {l:OpenLaw} {n:Nat} {q:Program} {loose:List Str} {XP:(Str->Option Value)->Heap->Prop} {YP:World->Heap->Prop} {d:DefRec}
  (hn:l.most=some n) (hdf:d.params.defaults=[])
  (call:∀(w:World) (s₀ s₁:Shared) (mg mb:Str->Option Value) (fa:Addr) (o:Obj) (pm cd doc:Value) (a:Addr) (vs:List Value) (ns:List Int),
   Ground q loose [] XP w s₀ mg mb s₁.heap->YP w s₁.heap ->
   s₁.heap.get? fa=some o->o.data=.func (docDef d.name d.params d.body d.scope pm cd doc)->s₁.heap.CodeRec cd d.name->mg d.name=some (.ref fa) ->
   s₁.heap.get? a=some { cls:=.type "list",data:=.seq vs.toArray }->IntsAre vs ns->ns.length<=n->s₁.gens=#[] ->
   codeAny (model l.prog w) callerA (.call (.ref fa) ⟨[.ref a],[]⟩) (λr s'=>r=.ok (.ret (.bool true))/\OldK s₁.heap s'.heap/\s'.os=s₁.os/\AllBare s'.gens) s₁) :
  WalkO q loose XP YP l.row.toRowW d [] (λf vs=>PySem.call f vs):=by
 intro w s₀ s₁ mg mb G Y fa o pm cd doc dV kV ho hd hcd hD hmg hg args vals as hpre hlay hrd hwl hlo
 obtain rfl:dV=.none:=Dflts.none hD hdf
 obtain rfl:kV=.none:=Dflts.noKw hD
 obtain⟨a,vs,ns,rfl,rfl,hobj,hints,hlen⟩:=tZ hn hpre hwl
 refine enter_call (codeAny_mono (call w s₀ s₁ mg mb fa o pm cd doc a vs ns G Y ho (fd_plain hd) hcd hmg hobj hints hlen hg) λr s' hq=>?_)
 obtain⟨rfl,h2,h3,h4⟩:=hq
 exact⟨.inl ⟨.bool true,.bool true,[],rfl,λ_=>rfl,.bool true,tV l _,λ_=>⟨List.Pairwise.nil,λ_ hm=>(nomatch hm)⟩⟩,h2,h3,h4⟩
section
variable {prog:Program} {w:World} {A:Around} {E:Value->Shared->Prop} {s:Shared} {K:Frag}
end
end Att
namespace L2
open PySem PySem.Spec PyProof.Rows
theorem lE:∀{vs:List Value} {ns:List Int},IntsAre vs ns->Vals (ns.map V.int) vs
 | _,_,.nil=>.nil
 | _,_,.cons n t h=>.cons ⟨t,rfl⟩ (lE h)
def wJ (H:Hp):Prop:=∀ b,H b=none∨∃ o xs,H b=some (.frz o (.lst xs))
theorem uU {P:Program} {w:World} {K:PySem.W.Frag} {mg mb:Str->Option Value} {CX:jI} {k:Nat} {fa a:Addr} {fd:FuncData} {x:Str} {sp:Sp} {s₁:Shared} {vs:List Value} {ns:List Int}
  (KX:K.In s₁.heap) (hns:s₁.heap.Ns mainGlobals mg) (hb:s₁.heap.Ns builtinsNs mb) (hbb:∀ x:Str,x ≠ "__name__"->mb x=bootBuiltins x) (hlim:s₁.heap.NoLimit) (hg:s₁.gens=#[])
  (ha:s₁.heap.get? a=some { cls:=.type "list",data:=.seq vs.toArray }) (hi:IntsAre vs ns) (hl:ns.length<=sizeLine) (hr:c6 k callerA)
  (F:∀ base:Heap,K.In base->base.Ns mainGlobals mg->dJ P w K mg base CX k fa fd [x] sp) (hbind:∀(s:Shared) (u:Value),BindsTo s fd ⟨[u],[]⟩ [(x,u)])
  (hsp:∀ H:Hp,wJ H->aS K H a (ns.map V.int)->sp [.ref a] H (λv _=>v=.bl true) λ_ _ _=>False)
  (hCX:∀ H e s',CX [] H s₁ (λ_ _ _=>False) e s'->False) :
  codeAny (model P w) callerA (.call (.ref fa) ⟨[.ref a],[]⟩) (λr s'=>r=.ok (.ret (.bool true))/\OldK s₁.heap s'.heap/\s'.os=s₁.os/\AllBare s'.gens) s₁:=by
 have rv:=lE hi
 have lenV:=hi.length
 -- from an abstract heap in which nothing but the script may be tracked
 have core:∀ H:Hp,wJ H->aS K H a (ns.map V.int)->fu P w H s₁.heap->(∀ b,H b≠none->b=a)->(H a≠none->K.lookup a=none) ->
   codeAny (model P w) callerA (.call (.ref fa) ⟨[.ref a],[]⟩) (λr s'=>r=.ok (.ret (.bool true))/\OldK s₁.heap s'.heap/\s'.os=s₁.os/\AllBare s'.gens) s₁:=by
  intro H hO hS hok hA hK
  have base_of:∀{b:Addr} {o:Obj},s₁.heap.get? b=some o->H b=none->(lV s₁.heap H).get? b=some o:=λe n=>uP e n
  have noA:∀{b:Addr} {o:Obj} {es:Array DictEntry} {ep:Nat},s₁.heap.get? b=some o->o.data=.dict es ep->H b=none:=λ{b o es ep} e d=>by
   cases q:H b with
   | none=>rfl
   | some u =>
    have e':b=a:=hA b (by rw [q];simp)
    subst e'
    rw [ha] at e;cases e
    have d':Data.seq vs.toArray _=Data.dict es ep:=d
    cases d'
  have nsK:∀{b:Addr} {m:Str->Option Value},s₁.heap.Ns b m->(lV s₁.heap H).Ns b m:=λ{b m} ⟨o,es,ep,e,d,r⟩=>⟨o,es,ep,base_of e (noA e d),d,r⟩
  have hKb:K.In (lV s₁.heap H):=λb o e=>base_of (KX b o e) (by
   cases q:H b with
   | none=>rfl
   | some u =>
    have e':b=a:=hA b (by rw [q];simp)
    subst e'
    rw [hK (by rw [q];simp)] at e;cases e)
  have hM:Mod K mg (lV s₁.heap H):=⟨hKb,nsK hns,⟨mb,nsK hb,hbb⟩,let ⟨mc,h1,h2⟩:=hlim;⟨mc,nsK h1,h2⟩⟩
  have e0:oS P w K mg (lV s₁.heap H) callerA [] s₁ H:=⟨rfl,hM,λb o e=>xy e,Nat.le_of_eq (sH _ _),trivial,λb hb=>absurd (show b∈([]:List Addr) from hb) (by simp),hok,.of_eq hg⟩
  refine codeAny_mono ((F _ hKb (nsK hns)).run callerA [] s₁ H ⟨[.ref a],[]⟩ [.ref a] [.ref a] _ _ hr e0 (hbind s₁ (.ref a)) (.cons rfl .nil) (hsp H hO hS)) λr s' h=>?_
  cases r with
  | error e=>exact (hCX H e s' h).elim
  | ok fl =>
   cases fl with
   | next=>exact False.elim h
   | brk=>exact False.elim h
   | cont=>exact False.elim h
   | ret u =>
    obtain⟨v,H',os,bare,un,hok',r',q⟩:=h
    have q':v=.bl true:=q
    subst q'
    obtain rfl:u=Value.bool true:=r'
    refine⟨rfl,OldK.of_keep λb o e=>?_,os,bare⟩
    cases q:H b with
    | none=>exact un.keep b o e q (by intro z;exact absurd (show b∈([]:List Addr) from z) (by simp)) (by simp)
    | some u =>
     rcases hO b with z | ⟨ob,xs,z⟩
     ·rw [q] at z;cases z
     ·have z2:=un.frzs b ob _ z
      obtain⟨e1,_⟩:=hok b _ z
      obtain⟨e2,_⟩:=hok' b _ z2
      rw [e] at e1;cases e1
      exact e2
 cases hk:K.lookup a with
 | some o =>
  -- the script is one of the module's own objects
  have e:=KX a o hk
  rw [ha] at e
  cases e
  refine core (λ_=>none) (λ_=>.inl rfl) (.inr ⟨_,vs.toArray,_,hk,rfl,rfl,rfl,by rw [List.size_toArray,lenV];exact hl,by simpa using rv⟩) (λb u z=>by have z':(none:Option HO)=some u:=z;cases z') (λb z=>absurd rfl z) λz=>absurd rfl z
 | none =>
  refine core (λb=>if b=a then some (.frz { cls:=.type "list",data:=.seq vs.toArray } (.lst (ns.map V.int))) else none) (λb=>?_) (.inl (.inr ⟨{ cls:=.type "list",data:=.seq vs.toArray },if_pos rfl⟩)) (λb u z=>?_) (λb z=>?_) λ_=>hk
  ·by_cases hb:b=a
   ·exact .inr ⟨_,_,if_pos hb⟩
   ·exact .inl (if_neg hb)
  ·by_cases hb:b=a
   ·have z':=(if_pos hb).symm.trans z
    cases z'
    subst hb
    exact⟨ha,by rw [List.length_map];exact hl,vs,_,rv,ha⟩
   ·have z':=(if_neg hb).symm.trans z
    cases z'
  ·by_cases hb:b=a
   ·exact hb
   ·exact absurd (if_neg hb) z
abbrev dz {K:PySem.W.Frag} {h:Heap} (_:K.In h):PySem.W.Frag:=K
theorem rS {l:PySem.W.OpenLaw} {n k:Nat} {q:Program} {loose:List Str} {XP:(Str->Option Value)->Heap->Prop} {YP:World->Heap->Prop} {d:DefRec} {K:Params->PySem.W.Frag} {CX:World->jI} {sp:World->Sp} {x:Str}
  (hn:l.most=some n) (hn2:n<=sizeLine) (hdf:d.params.defaults=[]) (hr:c6 k callerA)
  (hY:∀(w:World) (h:Heap),YP w h->(K w.params).In h)
  (F:∀(w:World) (mg:Str->Option Value) (fa:Addr) (h:Heap),(K w.params).In h->h.Ns mainGlobals mg->mg d.name=some (.ref fa) ->
   ∃ fd:FuncData,(∀(s:Shared) (u:Value),BindsTo s fd ⟨[u],[]⟩ [(x,u)]) /\
    ∀ base:Heap,(K w.params).In base->base.Ns mainGlobals mg->dJ l.prog w (K w.params) mg base (CX w) k fa fd [x] (sp w))
  (hsp:∀(w:World) (H:Hp) (a:Addr) (ns:List Int),ns.length<=n->wJ H->aS (K w.params) H a (ns.map V.int)->sp w [.ref a] H (λv _=>v=.bl true) λ_ _ _=>False)
  (hCX:∀(w:World) (H:Hp) (s:Shared) (e:Value) (s':Shared),CX w [] H s (λ_ _ _=>False) e s'->False) :
  PySem.W.WalkO q loose XP YP l.row.toRowW d [] (λf vs=>PySem.call f vs):=by
 refine Att.mV hn hdf λw s₀ s₁ mg mb fa o pm cd doc a vs ns G Y ho hd hcd hmg hobj hints hlen hg=>?_
 have KX:=hY w _ Y
 obtain⟨fd,hb,hF⟩:=F w mg fa _ KX G.T.g hmg
 exact uU KX G.T.g G.T.b G.T.builtins G.T.nolimit hg hobj hints (Nat.le_trans hlen hn2) hr hF hb (λH hO hS=>hsp w H a ns hlen hO hS) λH e s'=>hCX w H s₁ e s'
theorem wu {l:PySem.W.OpenLaw} {n k:Nat} {q:Program} {loose:List Str} {XP:(Str->Option Value)->Heap->Prop} {YP:World->Heap->Prop} {d:DefRec} {K:Params->PySem.W.Frag} {CX:jI} {sp:PySem.W.Frag->Sp} {x:Str}
  (hn:l.most=some n) (hn2:n<=sizeLine) (hdf:d.params.defaults=[]) (hr:c6 k callerA)
  (hY:∀(w:World) (h:Heap),YP w h->(K w.params).In h)
  (F:∀(w:World) (mg:Str->Option Value) (fa:Addr) (h:Heap),(K w.params).In h->h.Ns mainGlobals mg->mg d.name=some (.ref fa) ->
   ∃ fd:FuncData,(∀(s:Shared) (u:Value),BindsTo s fd ⟨[u],[]⟩ [(x,u)]) /\
    ∀ base:Heap,(K w.params).In base->base.Ns mainGlobals mg->dJ l.prog w (K w.params) mg base CX k fa fd [x] (sp (K w.params)))
  (hsp:∀(K:PySem.W.Frag) (H:Hp) (a:Addr) (ns:List Int),ns.length<=n->wJ H->aS K H a (ns.map V.int)->sp K [.ref a] H (λv _=>v=.bl true) λ_ _ _=>False)
  (hCX:∀(H:Hp) (s:Shared) (e:Value) (s':Shared),CX [] H s (λ_ _ _=>False) e s'->False) :
  PySem.W.WalkO q loose XP YP l.row.toRowW d [] (λf vs=>PySem.call f vs) :=
 rS (K:=K) (CX:=λ_=>CX) (sp:=λw=>sp (K w.params)) hn hn2 hdf hr hY F (λw H a ns h1 h2 h3=>hsp (K w.params) H a ns h1 h2 h3) λ_ H s e s'=>hCX H s e s'
end L2
/- THE LAST THEOREM (shape;LID,My.* are yours):
   My.Adr: a structure of the addresses that your layer names (classes,functions);My.Txt K t: a structure (Prop) of the equations over K;
   My.txt_mk:{K} {implicit addresses ..} (e1:nsIn K mainGlobals "law"=some (some (.ref f))) (e2:K.lookup f=some ⟨oc,od,.func (fnOf "law" "law" params body scope dV kV doc pm an cdv ct),sl⟩) (e3:codeIn K cdv "law"=true) ..:∃ t,My.Txt K t
set_option maxRecDepth 100000 in
set_option maxHeartbeats 0 in
theorem PySem.Challenge.cw_LID_holds : PySem.Challenge.rw_LID.Holds := by
 w_on;o_law;k_head;(case hw=>w_witness2)
 k_fill
 refine L2.rS (l:=PySem.Challenge.rw_LID) (n:=63) (k:=40) (x := "script") (CX:=λw=>..) (sp:=λ_=>My.sp_law) rfl (by decide) rfl ⟨rfl,by decide,by decide⟩ (λw h Y=>PySem.W.kIn_of Y) ?F ?S ?C
 case F =>
  intro w mg fa h KX G hmg
  have T:∃ t,My.Txt (L2.dz KX) t:=by
   dsimp only [L2.dz]                          -- K must stand as «<heap const> w.params» for k_is
   refine' My.txt_mk ?e1 ?e2 ?e3 ..
   (case e1=>PySem.W.k_is)                    -- in the order: a name -> its address -> its object -> its parts
   (case e2=>PySem.W.k_is)
   ..
  obtain⟨t,T⟩:=T
  have e0:=hmg.symm.trans (PySem.W.mg_of KX G T.law)
  cases e0                                       -- fa is the law's own address
  exact⟨_,λs u=>.of_eq rfl,λbase kb nb=>My.law_fn T kb nb⟩     -- if «.of_eq rfl» comes too early: refine' ⟨_,?b,λbase kb nb=>My.law_fn T kb nb⟩;exact λs u=>.of_eq rfl
 case S=>exact λw H a ns hl hO hS=>..
 case C=>exact ..
(the tactic k_is has no namespace: write k_is) -/
namespace L2
open PySem PySem.Spec PyProof.Rows
def inClass (s:Stmt) (j:Nat):Stmt:=match s with
 | .ClassDef _ _ _ body _ _ _ _ _ _ _=>body.getD j (.Pass ⟨0,0,0,0⟩)
 | _=>.Pass ⟨0,0,0,0⟩
def cK (s:Stmt):Arguments:=match s with
 | .FunctionDef _ a _ _ _ _ _ _ _ _=>a
 | _=>{ posonlyargs:=[],args:=[],vararg:=none,kwonlyargs:=[],kw_defaults:=[],kwarg:=none,defaults:=[] }
def bG (s:Stmt):List Stmt:=match s with
 | .FunctionDef _ _ b _ _ _ _ _ _ _=>b
 | _=>[]
def au (s:Stmt):Scope:=match s with
 | .FunctionDef _ _ _ _ _ _ sc _ _ _=>sc
 | _=>{ kind:=.function,names:=[],isGenerator:=false,isCoroutine:=false }
abbrev aT:jI:=λ_ _ _ _ _ _=>False
abbrev E0:XK:=λ_ _ _=>False
theorem az {X:Cx}:Passes aT X E0:=λ_ _ _ _ _ _ _ h=>h.elim
structure wB (K:PySem.W.Frag) (x qual:Str) (st:Stmt) (f:Addr) (fd:FuncData):Prop where
 ex:∃(oc:Value) (od:Option Addr) (kV doc pm:Value) (an:Option Addr) (cdv ct:Value) (osl:Array (Option Value)),
  fd=PySem.W.fnOf x qual (cK st) (bG st) (au st) .none kV doc pm an cdv ct/\K.lookup f=some ⟨oc,od,.func fd,osl⟩/\PySem.W.codeIn K cdv qual=true
 kp:PySem.W.keepIn K (.ref f)=true
section
variable {P:Program} {w:World} {K:PySem.W.Frag} {mg:Str->Option Value} {base:Heap}
theorem wB.ok {x qual:Str} {st:Stmt} {f:Addr} {fd:FuncData} {N ps:List Str} {k:Nat} {sp:Sp} (F:wB K x qual st f fd) (S:aE N ps (au st)) (len:∀ vs H Q E,sp vs H Q E->vs.length=ps.length)
  (hbody:∀(cdv:Value) (A:Around) (outer:List Env) (s:Shared) (H:Hp) (vs:List V) (Q:VK) (E:XK),c6 k (A.deeper (envOfC qual (au st) s.heap.objs.size f cdv))->sp vs H Q E ->
   ∃ t,jv (fc aT P w K mg base N qual (au st) f cdv A outer s H E).oR (bG st) t/\t { nx:=λ_ H'=>Q .cj H',rt:=Q } (start N vs) H):dJ P w K mg base aT (k+1) f fd ps sp:=by
 obtain⟨oc,od,kV,doc,pm,an,cdv,ct,osl,rfl,lk,hcd⟩:=F.ex
 refine yJ lk hcd S len λA outer s H vs Q E hr hsp=>?_
 obtain⟨t,h,q⟩:=hbody cdv A outer s H vs Q E hr hsp
 exact⟨t,h.oR,q⟩
theorem wB.binds {x qual:Str} {st:Stmt} {f:Addr} {fd:FuncData} {ps:List Str} (F:wB K x qual st f fd)
  (h:∀(kV doc pm:Value) (an:Option Addr) (cdv ct:Value) (us:List Value),us.length=ps.length->bindArgs (PySem.W.fnOf x qual (cK st) (bG st) (au st) .none kV doc pm an cdv ct) ⟨us,[]⟩=pure (ps.zip us)):Binds K fd ps []:=by
 obtain⟨oc,od,kV,doc,pm,an,cdv,ct,osl,rfl,lk,hcd⟩:=F.ex
 exact .all (h kV doc pm an cdv ct)
theorem uN {x qual:Str} {st:Stmt} {f:Addr} {oc:Value} {od an:Option Addr} {osl:Array (Option Value)} {kV doc pm cdv ct:Value} (l:K.lookup f=some ⟨oc,od,.func (PySem.W.fnOf x qual (cK st) (bG st) (au st) .none kV doc pm an cdv ct),osl⟩)
  (c:PySem.W.codeIn K cdv qual=true) (k:PySem.W.keepIn K (.ref f)=true):wB K x qual st f (PySem.W.fnOf x qual (cK st) (bG st) (au st) .none kV doc pm an cdv ct):=⟨⟨oc,od,kV,doc,pm,an,cdv,ct,osl,rfl,l,c⟩,k⟩
end
theorem i6 {A:Around} {k:Nat} (hr:c6 k A):A.units+1<cLine:=Nat.lt_of_le_of_lt (Nat.add_le_add_left (by decide:1<=64) _) hr.units
section
variable {X:Cx}
theorem pv (i:Nat) {x:Str} {pos:Pos} (hN:X.N[i]?=some x:=by rfl) (hv:AS X.env.scope x:=by first | exact Or.inl rfl | exact Or.inr (Or.inl rfl) | exact Or.inr (Or.inr rfl)) (hd:(x==("__debug__":Str))=false:=by decide)
  (hcd:(x==("__classdict__":Str))=false:=by decide):PE X (.Name x pos) (uc i):=qe hN hv hd hcd
end
theorem aJ {c A B:Prop} [Decidable c] (h1:c->A) (h2:¬c->B):if c then A else B:=by
 by_cases h:c
 ·rw [if_pos h]
  exact h1 h
 ·rw [if_neg h]
  exact h2 h
def aG (H H':Hp):Prop:=∀ b o,H b=some o->H' b=some o
theorem aG.refl (H:Hp):aG H H:=λ_ _ h=>h
theorem aG.trans {H H1 H2:Hp} (a:aG H H1) (b:aG H1 H2):aG H H2:=λc o h=>b c o (a c o h)
theorem aG.free {H H':Hp} (e:aG H H') {l:Addr} (h:H' l=Option.none):H l=Option.none:=by
 cases q:H l with
 | none=>rfl
 | some o =>
  rw [e l o q] at h
  cases h
end L2
set_option maxHeartbeats 1000000
namespace L2
open PySem PySem.Spec PyProof.Rows
theorem ik {Ex:Value->Shared->Prop} {prog:Program} {w:World} {A:Around} {R:Result->Shared->Prop} {s:Shared} {elt target:Expr} {gens:List Comprehension} {scope:Scope} {pos ps:Pos} {ifs:List Expr} {d:Nat} {B:Sem Unit} {it acc:Value} {env:Env} (I:Nat->Shared->Prop)
  (ht:compTurn (.ListComp elt gens scope pos) d it acc env=(do
   standAt ps
   match <- pyNext it with
   | none=>pure (.done .next)
   | some v =>
    letOwnedTupleGo target it v
    assign target env v
    let mut ok:=true
    for c in ifs do
     if ok then ok <- isTrue c env (eval c env)
    if ok then B
    again (.compLoop (.ListComp elt gens scope pos) d it acc env)))
  (turn:∀ n s,I n s->wpAny (model prog w) A (pyNext it) (λr s₁=>match r with
   | none=>R (.ok .next) s₁
   | some v=>wpAny (model prog w) A (letOwnedTupleGo target it v) (λ_ s₁'=>wpAny (model prog w) A (assign target env v) (λ_ s₂ =>
     wpAny (model prog w) A (forIn ifs true λc r=>if r=true then do let ok <- isTrue c env (eval c env);pure (ForInStep.yield ok) else pure (ForInStep.yield r)) (λok s₃ =>
      if ok=true then wpAny (model prog w) A B (λ_ s₅=>∃ m,m<n/\I m s₅) Ex s₃
      else ∃ m,m<n/\I m s₃) Ex s₂) Ex s₁') Ex s₁) Ex s)
  (n:Nat) (h:I n s) (hE:∀ e s',Ex e s'->notedBy (model prog w) A env (λe s''=>R (.error e) s'') e s') :
  codeAny (model prog w) A (.compLoop (.ListComp elt gens scope pos) d it acc env) R s:=by
 refine codeAny_loop rfl I (λn s hI=>?_) n h
 show wpAny _ A ((compTurn (.ListComp elt gens scope pos) d it acc env).onRaise (λx=>do noteFrame x env;theTreesLotGoes x)) _ _ s
 refine wpAny_noted ?_
 rw [ht]
 refine wpAny_bind (wpAny_standAt (wpAny_bind (wpAny_mono (turn n s hI) (λr s₁ h₁=>?_) λ_ _ h'=>hE _ _ h')))
 cases r with
 | none=>exact wpAny_pure h₁
 | some v =>
  refine wpAny_bind (wpAny_mono h₁ (λ_ s₁' h₁'=>?_) λ_ _ h'=>hE _ _ h')
  refine wpAny_bind (wpAny_mono h₁' (λ_ s₂ h₂=>wpAny_bind (wpAny_mono h₂ (λok s₃ h₃=>?_) λ_ _ h'=>hE _ _ h')) λ_ _ h'=>hE _ _ h')
  cases ok with
  | false=>exact wpAny_pure ⟨rfl,h₃⟩
  | true=>exact wpAny_bind (wpAny_mono h₃ (λ_ s₅ h₅=>wpAny_pure ⟨rfl,h₅⟩) λ_ _ h'=>hE _ _ h')
def mY (elt:Expr) (acc:Value) (env:Env):Sem Unit:=do let _ <- call (.builtin "list.append") [acc,<- eval elt env]
theorem wo (elt target iter:Expr) (ifs:List Expr) (scope:Scope) (pos:Pos) (it acc:Value) (env:Env) :
  compTurn (.ListComp elt [⟨target,iter,ifs,0⟩] scope pos) 0 it acc env=(do
   standAt iter.pos
   match <- pyNext it with
   | none=>pure (.done .next)
   | some v =>
    letOwnedTupleGo target it v
    assign target env v
    let mut ok:=true
    for c in ifs do
     if ok then ok <- isTrue c env (eval c env)
    if ok then mY elt acc env
    again (.compLoop (.ListComp elt [⟨target,iter,ifs,0⟩] scope pos) 0 it acc env)):=by rfl
theorem yv (elt t1 i1 t2 i2:Expr) (f1 f2:List Expr) (scope:Scope) (pos:Pos) (it acc:Value) (env:Env) :
  compTurn (.ListComp elt [⟨t1,i1,f1,0⟩,⟨t2,i2,f2,0⟩] scope pos) 1 it acc env=(do
   standAt i2.pos
   match <- pyNext it with
   | none=>pure (.done .next)
   | some v =>
    letOwnedTupleGo t2 it v
    assign t2 env v
    let mut ok:=true
    for c in f2 do
     if ok then ok <- isTrue c env (eval c env)
    if ok then mY elt acc env
    again (.compLoop (.ListComp elt [⟨t1,i1,f1,0⟩,⟨t2,i2,f2,0⟩] scope pos) 1 it acc env)):=by rfl
theorem wq (elt t1 i1 t2 i2:Expr) (f1 f2:List Expr) (scope:Scope) (pos:Pos) (it acc:Value) (env:Env) :
  compTurn (.ListComp elt [⟨t1,i1,f1,0⟩,⟨t2,i2,f2,0⟩] scope pos) 0 it acc env=(do
   standAt i1.pos
   match <- pyNext it with
   | none=>pure (.done .next)
   | some v =>
    letOwnedTupleGo t1 it v
    assign t1 env v
    let mut ok:=true
    for c in f1 do
     if ok then ok <- isTrue c env (eval c env)
    if ok then
     let x <- eval i2 env
     standAt i2.pos
     let x <- foldedSetIterable i2 env x
     let _ <- runOwn (.compStart (.ListComp elt [⟨t1,i1,f1,0⟩,⟨t2,i2,f2,0⟩] scope pos) 1 (<- holding [x] (pyIter x)) acc env) env
    again (.compLoop (.ListComp elt [⟨t1,i1,f1,0⟩,⟨t2,i2,f2,0⟩] scope pos) 0 it acc env)):=by rfl
theorem lM {Ex:Value->Shared->Prop} {prog:Program} {w:World} {A:Around} {R:Result->Shared->Prop} {s:Shared} {elt t1 i1 t2 i2:Expr} {f1 f2:List Expr} {scope:Scope} {pos:Pos} {it acc:Value} {env:Env} (I:Nat->Shared->Prop) (hs:∀ x,foldedSetIterable i2 env x=pure x)
  (turn:∀ n s,I n s->wpAny (model prog w) A (pyNext it) (λr s₁=>match r with
   | none=>R (.ok .next) s₁
   | some v=>wpAny (model prog w) A (letOwnedTupleGo t1 it v) (λ_ s₁'=>wpAny (model prog w) A (assign t1 env v) (λ_ s₂ =>
     wpAny (model prog w) A (forIn f1 true λc r=>if r=true then do let ok <- isTrue c env (eval c env);pure (ForInStep.yield ok) else pure (ForInStep.yield r)) (λok s₃ =>
      if ok=true then wpAny (model prog w) A (eval i2 env) (λx s₄=>wpAny (model prog w) A (pyIter x) (λit2 s₅ =>
       codeAny (model prog w) A (.compStart (.ListComp elt [⟨t1,i1,f1,0⟩,⟨t2,i2,f2,0⟩] scope pos) 1 it2 acc env) (λr s₆=>match r with | .ok _=>∃ m,m<n/\I m s₆ | .error _=>False) s₅) Ex s₄) Ex s₃
      else ∃ m,m<n/\I m s₃) Ex s₂) Ex s₁') Ex s₁) Ex s)
  (n:Nat) (h:I n s) (hE:∀ e s',Ex e s'->notedBy (model prog w) A env (λe s''=>R (.error e) s'') e s'):codeAny (model prog w) A (.compLoop (.ListComp elt [⟨t1,i1,f1,0⟩,⟨t2,i2,f2,0⟩] scope pos) 0 it acc env) R s:=by
 refine codeAny_loop rfl I (λn s hI=>?_) n h
 show wpAny _ A ((compTurn (.ListComp elt [⟨t1,i1,f1,0⟩,⟨t2,i2,f2,0⟩] scope pos) 0 it acc env).onRaise (λx=>do noteFrame x env;theTreesLotGoes x)) _ _ s
 refine wpAny_noted ?_
 rw [wq]
 refine wpAny_bind (wpAny_standAt (wpAny_bind (wpAny_mono (turn n s hI) (λr s₁ h₁=>?_) λ_ _ h'=>hE _ _ h')))
 cases r with
 | none=>exact wpAny_pure h₁
 | some v =>
  refine wpAny_bind (wpAny_mono h₁ (λ_ s₁' h₁'=>?_) λ_ _ h'=>hE _ _ h')
  refine wpAny_bind (wpAny_mono h₁' (λ_ s₂ h₂=>wpAny_bind (wpAny_mono h₂ (λok s₃ h₃=>?_) λ_ _ h'=>hE _ _ h')) λ_ _ h'=>hE _ _ h')
  cases ok with
  | false=>exact wpAny_pure ⟨rfl,h₃⟩
  | true =>
   refine wpAny_bind (wpAny_mono h₃ (λx s₄ h₄=>?_) λ_ _ h'=>hE _ _ h')
   refine wpAny_bind (wpAny_standAt (wpAny_bind (wpAny_of_eq (hs x) (wpAny_bind (wpAny_holding (wpAny_mono h₄ (λit2 s₅ h₅=>?_) λ_ _ h'=>hE _ _ h'))))))
   refine wpAny_bind (wpAny_runOwn (codeAny_mono h₅ λr s₆ h₆=>?_))
   cases r with
   | ok f=>exact wpAny_pure ⟨rfl,h₆⟩
   | error e=>exact h₆.elim
theorem wc {prog:Program} {w:World} {A:Around} {R:Result->Shared->Prop} {s:Shared} {elt t1 i1 t2 i2:Expr} {f1 f2:List Expr} {scope:Scope} {pos:Pos} {it acc:Value} {env:Env}
  (h0:codeAny (model prog w) A (.compLoop (.ListComp elt [⟨t1,i1,f1,0⟩,⟨t2,i2,f2,0⟩] scope pos) 1 it acc env) R s)
  (h:wpAny (model prog w) A (pyIter it) (λit' s'=>codeAny (model prog w) A (.compLoop (.ListComp elt [⟨t1,i1,f1,0⟩,⟨t2,i2,f2,0⟩] scope pos) 1 it' acc env) R s')
   (notedBy (model prog w) A env λx s'=>R (.error x) s') s) :
  codeAny (model prog w) A (.compStart (.ListComp elt [⟨t1,i1,f1,0⟩,⟨t2,i2,f2,0⟩] scope pos) 1 it acc env) R s:=by
 refine codeAny_of_tree ?_
 show wpAny _ _ ((compStart (.ListComp elt [⟨t1,i1,f1,0⟩,⟨t2,i2,f2,0⟩] scope pos) 1 it acc env).onRaise (λx=>do noteFrame x env;standAt theWindowsPlace)) _ _ s
 refine wpAny_notedAt ?_
 unfold compStart
 show wpAny _ _ (ask >>= _) _ _ s
 refine wpAny_bind (wpAny_askSetting (wpAny_ite ?_))
 split
 ·first
   | exact wpAny_bind (wpAny_pure (wpAny_pure (And.intro rfl h0)))
   | exact wpAny_pure (And.intro rfl h0)
 ·first
   | exact wpAny_bind (wpAny_rule (wpAny_bind (wpAny_standAt (wpAny_bind (wpAny_mono h (λit' s' h'=>wpAny_pure (And.intro rfl h')) λ_ _ x=>x)))))
   | (refine wpAny_bind (wpAny_rule ?_);show wpAny _ _ (standAt i2.pos >>= _) _ _ s;exact wpAny_bind (wpAny_standAt (wpAny_bind (wpAny_mono h (λit' s' h'=>wpAny_pure (And.intro rfl h')) λ_ _ x=>x))))
def cJ (X:Cx) (Ex:Value->Shared->Prop) (N':List Str) (scope:Scope) (cl:List (Str × Addr)) (C:Addr) (s₂:Shared) (H₂:Hp) (fp:List Addr):Cx :=
 { X with N:=N',s₀:=s₂,H₀:=H₂,env:=compEnvC scope (cellsFrom (C+1) scope.names cl) C X.env,outer:=X.stack,stack:=X.stack,ex:=fp,fn:=λx=>scope.names.lookup x==some .cell,pn:=[],xe:=Ex }
abbrev de (X:Cx):=cJ X λ_ _=>False
def AllIn (env:Env):List (Str × Addr)->Prop
 | []=>True
 | p::r=>env.cells.lookup p.1=some p.2/\AllIn env r
theorem AllIn.get {env:Env}:∀{l:List (Str × Addr)},AllIn env l->∀ y c,l.lookup y=some c->env.cells.lookup y=some c
 | [],_,_,_,h=>by simp at h
 | (z,d)::r,a,y,c,h=>by
  rw [List.lookup_cons] at h
  cases e:y==z with
  | true =>
   rw [e] at h
   have q:y=z:=by simpa using e
   subst q
   cases h
   exact a.1
  | false =>
   rw [e] at h
   exact AllIn.get a.2 y c h
def cG (js:List (Option Nat)) (σ:St):St:=js.map λo=>match o with | none=>none | some j=>(σ[j]?).join
structure ft (X:Cx) (N':List Str) (js:List (Option Nat)) (scope:Scope) (cl:List (Str × Addr)):Prop where
 clos:closureFor scope X.env=pure cl
 kind:scope.kind=.function
 nocell:∀ y∈scope.names,y.2=.cell->scope.names.lookup y.1=some .cell/\∀ p∈js.zip N',p.1.isSome=true->p.2≠y.1
 names:∀ y∈scope.names,y.2=.local->scope.names.lookup y.1=some .local
 sub:AllIn X.env cl
 has:∀ y∈scope.names,y.2=.free->(cl.lookup y.1).isSome=true
 jlen:js.length=N'.length
 jok:∀(i j:Nat) x,js[i]?=some (some j)->N'[i]?=some x->X.N[j]?=some x/\(cl.lookup x).isSome=true/\AS X.env.scope x/\X.env.kindOf x≠some .local/\((relabel scope X.env).names.lookup x=some .cell∨(relabel scope X.env).names.lookup x=some .free)
theorem i8 {scope:Scope} {env:Env} {x:Str} {k:NameKind} (h:(relabel scope env).names.lookup x=some k) (hk:k=.cell∨k=.free):∃ y∈scope.names,y.1=x/\(y.2=.free∨y.2=.cell):=by
 have hm:=PySem.mem_of_lookup h
 obtain⟨⟨n,q⟩,hm',e⟩:=List.mem_map.mp hm
 dsimp only at e
 split at e
 ·rename_i hc
  have e1:n=x:=congrArg Prod.fst e
  refine⟨(n,q),hm',e1,.inl ?_⟩
  have:(q==NameKind.free)=true:=by
   simp only [Bool.and_eq_true] at hc
   exact hc.1.1
  simpa using this
 ·have e1:n=x:=congrArg Prod.fst e
  have e2:q=k:=congrArg Prod.snd e
  refine⟨(n,q),hm',e1,?_⟩
  rcases hk with hk | hk
  ·exact .inr (e2.trans hk)
  ·exact .inl (e2.trans hk)
theorem ig {x:Str} {c:Addr}:∀(ns:List (Str × NameKind)) (n:Nat) (acc:List (Str × Addr)),(cellsFrom n ns acc).lookup x=some c->acc.lookup x=some c∨n<=c
 | [],_,_,h=>.inl h
 | (y,k)::r,n,acc,h=>by
  unfold cellsFrom at h
  split at h
  ·rcases ig r _ _ h with z | z
   ·rw [List.lookup_cons] at z
    split at z
    ·cases z;exact .inr (Nat.le_refl _)
    ·exact .inl z
   ·exact .inr (Nat.le_of_succ_le z)
  ·exact ig r _ _ h
theorem ph {x:Str} {c:Addr}:∀(ns:List (Str × NameKind)) (n:Nat) (acc:List (Str × Addr)),ns.lookup x=some .cell->(cellsFrom n ns acc).lookup x=some c->n<=c
 | [],_,_,h,_=>by cases h
 | (y,k)::r,n,acc,h,e=>by
  rw [List.lookup_cons] at h
  unfold cellsFrom at e
  split at h
  ·rename_i hy
   cases h
   rcases ig r _ _ e with z | z
   ·rw [List.lookup_cons,hy] at z
    cases z;exact Nat.le_refl _
   ·exact Nat.le_of_succ_le z
  ·split at e
   ·exact Nat.le_of_succ_le (ph r _ _ h e)
   ·exact ph r _ _ h e
theorem lK {x:Str}:∀(ns:List (Str × NameKind)) (n:Nat) (acc:List (Str × Addr)),(∀ y∈ns,y.2=.cell->x≠y.1)->(cellsFrom n ns acc).lookup x=acc.lookup x
 | [],_,_,_=>rfl
 | (y,k)::r,n,acc,h=>by
  unfold cellsFrom
  split
  ·rename_i hk
   rw [lK r _ _ λz hz=>h z (List.mem_cons_of_mem _ hz),List.lookup_cons]
   have:(x==y)=false:=by simpa using h (y,k) List.mem_cons_self (by simpa using hk)
   rw [this]
  ·exact lK r _ _ λz hz=>h z (List.mem_cons_of_mem _ hz)
theorem o7:∀(ns:List (Str × NameKind)) (n:Nat) (acc:List (Str × Addr)),(∀ x c,acc.lookup x=some c->c<n)->(∀ x y c,acc.lookup x=some c->acc.lookup y=some c->x=y) ->
  ∀ x y c,(cellsFrom n ns acc).lookup x=some c->(cellsFrom n ns acc).lookup y=some c->x=y
 | [],_,_,_,h=>h
 | (z,k)::r,n,acc,hl,hi=>by
  unfold cellsFrom
  split
  ·refine o7 r _ _ (λx c e=>?_) λx y c e1 e2=>?_
   ·rw [List.lookup_cons] at e
    split at e
    ·cases e;exact Nat.lt_succ_self _
    ·exact Nat.lt_succ_of_lt (hl x c e)
   ·rw [List.lookup_cons] at e1 e2
    split at e1<;>split at e2
    ·rename_i a _ b
     rw [eq_of_beq a,eq_of_beq b]
    ·cases e1;exact absurd (hl y _ e2) (Nat.lt_irrefl _)
    ·cases e2;exact absurd (hl x _ e1) (Nat.lt_irrefl _)
    ·exact hi x y c e1 e2
  ·exact o7 r _ _ hl hi
theorem lJ:∀(ns:List (Str × NameKind)) (h:Heap) (acc:List (Str × Addr)),(∀ x c,acc.lookup x=some c->∃ v,h.IsCell c v)->∀ x c,(cellsFrom h.objs.size ns acc).lookup x=some c->∃ v,(pushCells h ns).IsCell c v
 | [],_,_,h=>h
 | (z,k)::r,h,acc,hl=>by
  unfold cellsFrom pushCells
  split
  ·have:=lJ r (h.push { cls:=.type "cell",data:=.cell none }) ((z,h.objs.size)::acc) λx c e=>by
    rw [List.lookup_cons] at e
    split at e
    ·cases e;exact⟨none,_,Heap.get?_push_size _ rfl,rfl⟩
    ·obtain⟨v,q⟩:=hl x c e
     exact⟨v,q.keeps λb o e=>Heap.get?_push_of_some _ e⟩
   rwa [Heap.size_push] at this
  ·exact lJ r h acc hl
theorem kE {M:Model} {A:Around} {E:Value->Shared->Prop} {s:Shared} {scope:Scope} {g:Addr} {cl:List (Str × Addr)} {qual:Str} {env:Env} {Q:Env->Shared->Prop}
  (h:Q (newEnv scope s.heap.objs.size g (cellsFrom (s.heap.objs.size+1) scope.names cl) qual none .none (some env) builtinsNs) { s with heap:=pushCells (s.heap.push { cls:=.type "dict",data:=.dict #[] }) scope.names }) :
  wpAny M A (newFunctionEnv scope g cl [] qual none .none (some env)) Q E s:=by
 simp only [newFunctionEnv,Option.isSome_some,if_true]
 refine wpAny_bind (wpAny_alloc ?_)
 refine wpAny_bind (wpAny_layCells _ (λname kind cells=>by cases hkc:kind==NameKind.cell<;>simp [hkc]) _ _ _ _ ?_)
 rw [show ({ s with heap:=s.heap.push { cls:=.type "dict",data:=.dict #[] } }:Shared).heap.objs.size=s.heap.objs.size+1 from Heap.size_push ..]
 exact wpAny_bind (wpAny_pure (wpAny_pure h))
def lobj (ys:List Value):Obj:={ cls:=.type "list",data:=.seq ys.toArray ys.length }
def ku (X:Cx) (ifs:List Expr) (t:TT):Prop :=
 ∀(pins:List (Addr × Obj)) (s:Shared) (σ:St) (H:Hp) (Q:Bool->Hp->Prop),Inv X pins σ H s->t σ H Q ->
  wpAny (model X.prog X.w) X.A (forIn ifs true λc r=>if r=true then do let ok <- isTrue c X.env (eval c X.env);pure (ForInStep.yield ok) else pure (ForInStep.yield r)) (TP X pins σ Q) X.xe s
def wd:TT:=λ_ H Q=>Q true H
theorem cE {X:Cx}:ku X [] wd:=λpins s σ H Q I h=>wpAny_tests_nil ⟨H,I,h⟩
theorem iA {X:Cx} {c:Expr} {t:TT} (h:PT X c t):ku X [c] t:=λpins s σ H Q I q=>wpAny_tests_one (h pins s σ H Q I q)
def bL:List (Option V)->List (Option V)->Prop
 | [],[]=>True
 | none::r,_::r'=>bL r r'
 | some v::r,some u::r'=>u=v/\bL r r'
 | _,_=>False
theorem bL.len:∀{a b:List (Option V)},bL a b->a.length=b.length
 | [],[],_=>rfl
 | none::r,_::r',h=>by simp [bL.len (a:=r) (b:=r') h]
 | some v::r,some u::r',h=>by simp [bL.len (a:=r) (b:=r') h.2]
 | some v::r,none::r',h=>h.elim
 | some v::r,[],h=>h.elim
 | none::r,[],h=>h.elim
 | [],_::_,h=>h.elim
theorem bL.get:∀{a b:List (Option V)},bL a b->∀(i:Nat) v,a[i]?=some (some v)->b[i]?=some (some v)
 | [],[],_,i,v,h=>by simp at h
 | none::r,_::r',h,0,v,e=>by simp at e
 | none::r,_::r',h,i+1,v,e=>by
  have:=bL.get (a:=r) (b:=r') h i v (by simpa using e)
  simpa using this
 | some v::r,some u::r',h,0,v',e=>by
  have q:v=v':=by simpa using e
  have:=h.1
  simp [this,q]
 | some v::r,some u::r',h,i+1,v',e=>by
  have:=bL.get (a:=r) (b:=r') h.2 i v' (by simpa using e)
  simpa using this
 | some v::r,none::r',h,_,_,_=>h.elim
 | some v::r,[],h,_,_,_=>h.elim
 | none::r,[],h,_,_,_=>h.elim
 | [],_::_,h,_,_,_=>h.elim
def Cy (js:List (Option Nat)) (wi:TI) (g:TG) (tt:TT) (te:TE):TE:=λσ H Q=>wi σ H λJ H1=>∃ W:Nat->Nat->List V->Hp->Prop,(∃ m,W 0 m [] H1)/\∀ i m ys H,W i m ys H ->
 (J.stop i H/\ys.length<=sizeLine/\∀ p,H p=none->Q (.ref p) (upd H p (.lst ys))) ∨
 (J.go i H/\ys.length<sizeLine/\∃ N:List V->Hp->Prop,(∀ ys' H',N ys' H'->∃ m',m'<m/\W (i+1) m' ys' H') /\
  ∀ x H',J.yld i H x H'->g x (cG js σ) H' λσ2 H2=>bL (cG js σ) σ2/\tt σ2 H2 λb H3=>if b=true then te σ2 H3 λv H4=>N (ys++[v]) H4 else N ys H3)
structure kr (X:Cx) (C:Addr) (s₂:Shared) (H₂:Hp) (fp:List Addr):Prop where
 inv:∃ pins σ,Inv X pins σ H₂ s₂
 new:∀ b∈fp,X.s₀.heap.objs.size<=b∨b∈X.ex
 nof:∀ b∈gw X.stack,b∉fp
 le:s₂.heap.objs.size<=C
def zE (X:Cx) (elt target:Expr) (gens:List Comprehension) (ifs:List Expr) (scope:Scope) (pos:Pos) (Bd:(Value->Shared->Prop)->Value->Env->(Shared->Prop)->Shared->Prop):Prop :=
 ∀(Ex:Value->Shared->Prop) (R:Result->Shared->Prop) (s:Shared) (it acc:Value) (env:Env) (I:Nat->Shared->Prop),
  (∀ n s,I n s->wpAny (model X.prog X.w) X.A (pyNext it) (λr s₁=>match r with
   | none=>R (.ok .next) s₁
   | some v=>wpAny (model X.prog X.w) X.A (letOwnedTupleGo target it v) (λ_ s₁'=>wpAny (model X.prog X.w) X.A (assign target env v) (λ_ s₂ =>
     wpAny (model X.prog X.w) X.A (forIn ifs true λc r=>if r=true then do let ok <- isTrue c env (eval c env);pure (ForInStep.yield ok) else pure (ForInStep.yield r)) (λok s₃ =>
      if ok=true then Bd Ex acc env (λs₅=>∃ m,m<n/\I m s₅) s₃ else ∃ m,m<n/\I m s₃) Ex s₂) Ex s₁') Ex s₁) Ex s) ->
  ∀ n,I n s->(∀ e s',Ex e s'->notedBy (model X.prog X.w) X.A env (λe s''=>R (.error e) s'') e s')->codeAny (model X.prog X.w) X.A (.compLoop (.ListComp elt gens scope pos) 0 it acc env) R s
structure kF (Y:Cx) (D:Addr) (P:List (Addr × Obj)):Prop where
 ne:∀ p∈P,p.1≠D
 new:Y.s₀.heap.objs.size<=D
 cell:∀ x c,Y.env.cells.lookup x=some c->c≠D
theorem uV {X:Cx} {Ex:Addr->Shared->Hp->List Addr->Value->Shared->Prop} {elt target iter:Expr} {rest:List Comprehension} {ifs:List Expr} {scope:Scope} {pos:Pos} {N':List Str} {js:List (Option Nat)} {cl:List (Str × Addr)} {g:TG} {tt:TT} {Cc:List V->Prop} {tb:List V->St->Hp->(List V->Hp->Prop)->Prop} {Bd:(Value->Shared->Prop)->Value->Env->(Shared->Prop)->Shared->Prop} (hcalm:X.calm=true) (hloop:zE X elt target (⟨target,iter,ifs,0⟩::rest) ifs scope pos Bd)
  (K:ft X N' js scope cl)
  (hg:∀ C s₂ H₂ fp,kr X C s₂ H₂ fp->PG (cJ X (Ex C s₂ H₂ fp) N' scope cl C s₂ H₂ fp) target g) (ht:∀ C s₂ H₂ fp,kr X C s₂ H₂ fp->ku (cJ X (Ex C s₂ H₂ fp) N' scope cl C s₂ H₂ fp) ifs tt) (hB:∀ C s₂ H₂ fp,kr X C s₂ H₂ fp->∀(D:Addr) ys vys P σ H s N Ps,Inv (cJ X (Ex C s₂ H₂ fp) N' scope cl C s₂ H₂ fp) ([(D,lobj ys)]++P) σ H s->Vals vys ys->kF (cJ X (Ex C s₂ H₂ fp) N' scope cl C s₂ H₂ fp) D P->Cc vys->tb vys σ H N ->
   (∀ ys' vys' H' s',Inv (cJ X (Ex C s₂ H₂ fp) N' scope cl C s₂ H₂ fp) ([(D,lobj ys')]++P) σ H' s'->Vals vys' ys'->N vys' H'->Ps s')->Bd (Ex C s₂ H₂ fp) (.ref D) (cJ X (Ex C s₂ H₂ fp) N' scope cl C s₂ H₂ fp).env Ps s)
  (herr:∀ C s₂ H₂ fp use Q' acc e s',Ex C s₂ H₂ fp e s'->notedBy (model X.prog X.w) X.A (compEnvC scope (cellsFrom (C+1) scope.names cl) C X.env) (λe s''=>compPost (model X.prog X.w) X.A X.xe use Q' acc C (.error e) s'') e s')
  {pins:List (Addr × Obj)} {σ:St} {Q:VK} {use:Option (Value->Sem Unit)} {Q':Value->Shared->Prop} {itv:Value} {s2:Shared}
  (h2:Cs X pins σ target (λJ H1=>∃ W:Nat->Nat->List V->Hp->Prop,(∃ m,W 0 m [] H1)/\∀ i m ys H,W i m ys H ->
 (J.stop i H/\ys.length<=sizeLine/\∀ p,H p=none->Q (.ref p) (upd H p (.lst ys))) ∨
 (J.go i H/\Cc ys/\∃ N:List V->Hp->Prop,(∀ ys' H',N ys' H'->∃ m',m'<m/\W (i+1) m' ys' H') /\
  ∀ x H',J.yld i H x H'->g x (cG js σ) H' λσ2 H2=>bL (cG js σ) σ2/\tt σ2 H2 λb H3=>if b=true then tb ys σ2 H3 N else N ys H3)) itv s2)
  (hok:∀ C D vys H4 s5,(∃ m,s5.heap.Ns C m)->s2.heap.objs.size<=D->D<=C->D≠C->H4 D=none->H4 C=none->(∀ h',Heap.SameBut C s5.heap h'->Inv X pins σ (upd H4 D (.lst vys)) { s5 with heap:=h' })->Q (.ref D) (upd H4 D (.lst vys))->compPost (model X.prog X.w) X.A X.xe use Q' (.ref D) C (.ok .next) s5) :
  wpAny (model X.prog X.w) X.A (newList []) (λacc s₃=>wpAny (model X.prog X.w) X.A (newFunctionEnv scope X.env.globals cl [] X.env.qual none .none (some X.env)) (λcenv s₄ =>
   codeAny (model X.prog X.w) X.A (.compStart (.ListComp elt (⟨target,iter,ifs,0⟩::rest) scope pos) 0 itv acc { cenv with scope:=relabel scope X.env }) (compPost (model X.prog X.w) X.A X.xe use Q' acc cenv.locals) s₄) X.xe s₃) X.xe s2:=by
 obtain⟨it,fp,tn,J,H2,e,I2,T,st2,f2,W,⟨m0,w0⟩,turn⟩:=h2
 subst e
 refine wpAny_newObj_type (kE ?_)
 dsimp only
 generalize hP2:s2.heap.push { cls:=.type "list",dict:=none,data:=.seq ([]:List Value).toArray }=P2
 generalize hh₁:pushCells (P2.push { cls:=.type "dict",data:=.dict #[] }) scope.names=h₁
 have hns₁:h₁.Ns P2.objs.size λ_=>none:=hh₁▸(Heap.Ns.new P2 (.type "dict")).keeps (pushCells_keeps _ _)
 have upP:∀ b o,P2.get? b=some o->h₁.get? b=some o:=λb o e=>hh₁▸pushCells_keeps _ _ b o (Heap.get?_push_of_some _ e)
 have hcel:∀ x c,(cellsFrom (P2.objs.size+1) scope.names cl).lookup x=some c->∃ v,h₁.IsCell c v:=by
  have:=lJ scope.names (P2.push { cls:=.type "dict",data:=.dict #[] }) cl λx c e=>by
   obtain⟨v,q⟩:=I2.cell x c (K.sub.get x c e)
   exact⟨v,q.keeps λb o e=>Heap.get?_push_of_some _ (hP2▸Heap.get?_push_of_some _ e)⟩
  rw [Heap.size_push,hh₁] at this
  exact this
 have hC:P2.objs.size=s2.heap.objs.size+1:=by rw [<- hP2,Heap.size_push]
 have hDC:s2.heap.objs.size≠P2.objs.size:=by rw [hC];exact Nat.ne_of_lt (Nat.lt_succ_self _)
 have below:∀ b,b<s2.heap.objs.size->b≠P2.objs.size/\b≠s2.heap.objs.size:=λb hb=>⟨by rw [hC];exact Nat.ne_of_lt (Nat.lt_succ_of_lt hb),Nat.ne_of_lt hb⟩
 have old:∀ b o,s2.heap.get? b=some o->h₁.get? b=some o:=λb o e=>upP b o (hP2▸Heap.get?_push_of_some _ e)
 have hacc:h₁.get? s2.heap.objs.size=some (lobj []):=upP _ _ (hP2▸Heap.get?_push_size _ rfl)
 generalize hCe:P2.objs.size=C at *
 generalize hDe:s2.heap.objs.size=D at *
 let Y:Cx:=cJ X (Ex C s2 H2 fp) N' scope cl C s2 H2 fp
 have clLt:∀ y c,cl.lookup y=some c->c<D:=λy c e=>by
  obtain⟨v,q⟩:=I2.cell y c (K.sub.get y c e)
  rw [<- hDe]
  exact q.lt
 have cellsX:∀ y c,Y.env.cells.lookup y=some c->cl.lookup y=some c∨C+1<=c:=λy c e=>ig _ _ _ e
 have cellNe:∀ y c,Y.env.cells.lookup y=some c->c≠D:=λy c e=>by
  rcases cellsX y c e with z | z
  ·exact Nat.ne_of_lt (clLt y c z)
  ·exact Nat.ne_of_gt (by omega)
 have freshH:∀ a,D<=a->H2 a=none:=λa ha=>I2.hok.fresh (by rw [hDe];exact ha)
 have hDleC:D<=C:=by rw [hC];exact Nat.le_succ _
 have lc:kr X C s2 H2 fp:=⟨⟨pins,σ,I2⟩,λb hb=>((f2 b hb).2.2.2.1).symm,λb hf hb=>by
   rcases List.mem_cons.mp (I2.fR b hf) with z | z
   ·exact (f2 b hb).2.1 z
   ·exact (f2 b hb).2.2.1 z,by rw [hDe];exact hDleC⟩
 have hbelowfp:∀ b∈fp,b<D:=λb hb=>by
  obtain⟨o,e,_⟩:=T.obj _ _ st2 b hb
  rw [<- hDe]
  exact Heap.lt_size e
 have okY:Y.Ok:=by
  refine⟨I2.ok.mod,K.kind,I2.ok.glob,I2.ok.blt,?_,o7 _ _ _ (λx c e=>Nat.lt_succ_of_lt (Nat.lt_of_lt_of_le (clLt x c e) hDleC)) (λx y c e1 e2=>I2.ok.inj x y c (K.sub.get x c e1) (K.sub.get y c e2)),λx hx=>?_,λx c hf hc=>?_,I2.ok.hd,I2.ok.frames,.inl rfl,λb hb=>?_,I2.bs,Nat.le_trans I2.ok.bsz I2.sz,λb o e hb=>?_,λb hb hf=>?_,I2.stack,I2.iJ⟩
  ·show s2.heap.objs.size<=C
   rw [hDe];exact hDleC
  ·have hx':(relabel scope X.env).names.lookup x=some .cell∨(relabel scope X.env).names.lookup x=some .free:=hx
   have:∃ y∈scope.names,y.1=x/\(y.2=.free∨y.2=.cell):=by
    rcases hx' with q | q
    ·exact i8 q (.inl rfl)
    ·exact i8 q (.inr rfl)
   obtain⟨y,hm,e1,e2⟩:=this
   refine Option.isSome_iff_exists.mp (PySem.W.cellsFrom_some _ _ _ ?_)
   rcases e2 with e2 | e2
   ·have q:=K.has y hm e2
    rw [e1] at q
    exact .inr q
   ·exact .inl (e1▸(K.nocell y hm e2).1)
  ·have hf':scope.names.lookup x=some .cell:=by simpa using (show (scope.names.lookup x==some .cell)=true from hf)
   have:=ph _ _ _ hf' hc
   show s2.heap.objs.size<=c
   rw [hDe];exact Nat.le_trans hDleC (Nat.le_of_succ_le this)
  ·refine⟨Nat.ne_of_lt (Nat.lt_of_lt_of_le (hbelowfp b hb) hDleC),λx c e=>?_⟩
   rcases cellsX x c e with z | z
   ·exact (f2 b hb).2.2.2.2.1 x c (K.sub.get x c z)
   ·exact Nat.ne_of_gt (Nat.lt_of_lt_of_le (Nat.lt_of_lt_of_le (hbelowfp b hb) hDleC) (Nat.le_of_succ_le z))
  ·rcases (f2 b hb).2.2.2.1 with z | z
   ·exact I2.ok.noex b o e z
   ·exact absurd (Nat.lt_of_lt_of_le (Heap.lt_size e) (Nat.le_trans I2.ok.bsz z)) (Nat.lt_irrefl _)
  ·rcases List.mem_cons.mp (I2.fR b hf) with z | z
   ·exact (f2 b hb).2.1 z
   ·exact (f2 b hb).2.2.1 z
 -- the block's names
 have locY:∀{s':Shared} {H':Hp} {σ':St},True:=λ{_ _ _}=>trivial
 have invY0:Inv Y [(D,lobj [])] (cG js σ) H2 { s2 with heap:=h₁ }:=by
  refine⟨okY,rfl,I2.bare,Un.kept old,⟨_,hns₁,λi x v e1 e2 vis=>?_⟩,hcel,freshH C hDleC,λy c e=>?_,λp hp=>?_,I2.hok.kept old,?_⟩
  ·-- a name of the block that has a value stands outside in a cell
   have e2':(cG js σ)[i]?=some (some v):=e2
   unfold cG at e2'
   rw [List.getElem?_map] at e2'
   cases ej:js[i]? with
   | none=>rw [ej] at e2';cases e2'
   | some o =>
    rw [ej] at e2'
    cases o with
    | none=>cases e2'
    | some j =>
     obtain⟨n1,n2,n3,n4,n5⟩:=K.jok i j x ej e1
     have e3:(σ[j]?).join=some v:=by simpa using e2'
     have e4:σ[j]?=some (some v):=by
      cases q:σ[j]? with
      | none=>rw [q] at e3;cases e3
      | some z=>rw [q] at e3;simpa using e3
     obtain⟨m,hn,hl⟩:=I2.loc
     obtain⟨u,r,l⟩:=hl j x v n1 e4 n3
     refine⟨u,r,.inr ⟨n5,?_⟩⟩
     rcases l with⟨k,_⟩|⟨k,c,ec,z⟩
     ·exact absurd k n4
     ·obtain⟨c',ec'⟩:=Option.isSome_iff_exists.mp n2
      have ee:=K.sub.get x c' ec'
      rw [ec] at ee
      cases ee
      refine⟨c,(lK _ _ _ λy hy hk=>(K.nocell y hy hk).2 (some j,x) ?_ rfl).trans ec',?_⟩
      ·exact List.mem_of_getElem? (i:=i) (by rw [List.getElem?_zip_eq_some];exact⟨ej,e1⟩)
      obtain⟨o,ho,hd⟩:=z
      exact⟨o,old c o ho,hd⟩
  ·rcases cellsX y c e with z | z
   ·exact I2.freeC y c (K.sub.get y c z)
   ·exact freshH c (by omega)
  ·have hp':p∈[(D,lobj [])]:=hp
   have e:p=(D,lobj []):=by simpa using hp'
   subst e
   refine⟨hacc,freshH D (Nat.le_refl _),hDC,λz=>?_,λv z=>by cases z⟩
   rcases List.mem_cons.mp (I2.fR D z) with q | q
   ·exact absurd (q▸I2.lt) (by rw [hDe];exact Nat.lt_irrefl _)
   ·exact I2.xw (by rw [hDe];exact Nat.le_refl _) q
  ·show (cG js σ).length=N'.length
   unfold cG
   rw [List.length_map]
   exact K.jlen
 have hDfs:D∉Y.fs:=λz=>by
  rcases List.mem_cons.mp (I2.fR D z) with q | q
  ·exact absurd (q▸I2.lt) (by rw [hDe];exact Nat.lt_irrefl _)
  ·exact I2.xw (by rw [hDe];exact Nat.le_refl _) q
 have stat:∀{H':Hp} {ys:List Value},(∀ b∈fp,H' b=none)->∀ b∈fp,ko Y [(D,lobj ys)] H' b:=λ{H' ys} hn b hb=>by
  refine⟨hn b hb,Nat.ne_of_lt (Nat.lt_of_lt_of_le (hbelowfp b hb) hDleC),okY.exfs b hb,.inl hb,okY.exf b hb |>.2,λp hp=>?_⟩
  have hp':p∈[(D,lobj ys)]:=hp
  have e:p=(D,lobj ys):=by simpa using hp'
  subst e
  exact Nat.ne_of_gt (hbelowfp b hb)
 have loop:∀ s3:Shared,s3={ s2 with heap:=h₁ } ->
   codeAny (model X.prog X.w) X.A (.compLoop (.ListComp elt (⟨target,iter,ifs,0⟩::rest) scope pos) 0 (.ref it) (.ref D) (compEnvC scope (cellsFrom (C+1) scope.names cl) C X.env)) (compPost (model X.prog X.w) X.A X.xe use Q' (.ref D) C) s3:=by
  rintro s3 rfl
  refine hloop _ _ _ _ _ _ (λn s'=>∃ i ys vys H',Inv Y [(D,lobj ys)] (cG js σ) H' s'/\tn i s'.heap/\(∀ b∈fp,H' b=none)/\Vals vys ys/\W i n vys H') ?_ m0
   ⟨0,[],[],H2,invY0,T.keep _ _ _ st2 λb _ o e=>old b o e,λb hb=>(f2 b hb).1,.nil,w0⟩ λe s' z=>herr C s2 H2 fp use Q' (.ref D) e s' z
  rintro n s4 ⟨i,ys,vys,H4,I4,st4,fr4,rv,w4⟩
  rcases turn i n vys H4 w4 with⟨stop,hz,qn⟩|⟨go,hz,Nn,hN,step⟩
  ·refine bK (T.done Y rfl rfl rfl hcalm i _ s4 _ H4 (Ex C s2 H2 fp) I4 (stat fr4) st4 stop) λr s5 ⟨hr,I5⟩=>?_
   subst hr
   obtain⟨m5,hn5,_⟩:=I5.loc
   obtain⟨pD,nD,_,_,_⟩:=I5.pin (D,lobj ys) (by show _∈[(D,lobj ys)];simp)
   have nC:H4 C=none:=I5.free
   refine hok C D vys H4 s5 ⟨m5,hn5⟩ (Nat.le_refl _) hDleC hDC nD nC (λh' hsb=>?_) (qn D nD)
   have pD':h'.get? D=some (lobj ys):=hsb.extBut _ _ hDC pD
   refine I2.Bk (s':={ s5 with heap:=h' }) (ch:=fp) I5.os ?_ ?_ I5.bare (λb hb=>?_)
   ·-- kept
    have u:=I5.base
    have neC:∀ b o,s2.heap.get? b=some o->b≠C/\b≠D:=λb o e=>by
     have:=Heap.lt_size e
     rw [hDe] at this
     exact⟨Nat.ne_of_lt (Nat.lt_of_lt_of_le this hDleC),Nat.ne_of_lt this⟩
    refine⟨λb o e nn hb hx=>hsb.extBut b o (neC b o e).1 (u.keep b o e nn hb hx),λb o e nn hb hx=>?_,λb o e nn hx=>?_,λb o e hx=>?_,λb xs e=>?_,λb o xs e=>?_,λb ps e=>?_⟩
    ·obtain⟨sl,q⟩:=u.slot b o e nn hb hx
     exact⟨sl,hsb.extBut b _ (neC b o e).1 q⟩
    ·rw [aA (neC b o e).2]
     exact u.free b o e nn hx
    ·obtain⟨o',q⟩:=u.there b o e hx
     exact⟨o',hsb.extBut b _ (neC b o e).1 q⟩
    ·rw [aA (bH (u.tups b xs e) nD)]
     exact u.tups b xs e
    ·rw [aA (bH (u.frzs b o xs e) nD)]
     exact u.frzs b o xs e
    ·obtain⟨more,q⟩:=u.tbls b ps e
     exact⟨more,by rw [aA (bH q nD)];exact q⟩
   ·intro b o e
    by_cases hb:b=D
    ·subst hb
     rw [ag] at e
     cases e
     exact⟨hz,ys,_,rv,pD'⟩
    ·rw [aA hb] at e
     refine (I5.hok b o e).ki (λc w' hc q=>hsb.extBut c w' ?_ q) (λc q=>by rw [aA (bH q nD)];exact q) λc xs q=>by rw [aA (bH q nD)];exact q
     rintro rfl
     rcases hc with rfl | hc
     ·rw [nC] at e;cases e
     ·rw [nC] at hc;cases hc
   ·exact⟨(f2 b hb).2.2.2.1,(f2 b hb).2.1,(f2 b hb).2.2.2.2.1,(f2 b hb).2.2.2.2.2⟩
  ·refine bK (T.item Y rfl rfl rfl hcalm i _ s4 _ H4 (Ex C s2 H2 fp) I4 (stat fr4) st4 go) λr s5 ⟨u,hr,h5⟩=>?_
   subst hr
   refine bK h5 λ_ s6 ⟨x,H6,I6,r6,y6,st6,fr6⟩=>?_
   have I6':=I6.pinned (stat fr6) (T.obj _ _ st6)
   refine bK (hg C s2 H2 fp lc _ s6 _ H6 x u _ I6' r6 (step x H6 y6)) λ_ s7 ⟨σ7,H7,I7,k7,q7⟩=>?_
   refine bK (ht C s2 H2 fp lc _ s7 σ7 H7 _ I7 q7) λb s8 ⟨H8,I8,q8⟩=>?_
   -- behind the tests and the element: the state goes back to what the next turn wants
   have again:∀{ys':List Value} {s9:Shared} {H9:Hp},Inv Y ([(D,lobj ys')]++fG fp s6.heap) σ7 H9 s9->Inv Y [(D,lobj ys')] (cG js σ) H9 s9/\tn (i+1) s9.heap/\∀ b∈fp,H9 b=none:=λ{ys' s9 H9} I9=>by
    refine⟨(I9.fU).weak k7.len k7.get,T.keep _ _ _ st6 λb hb o e=>(I9.pin (b,o) (List.mem_append_right _ (List.mem_append_right _ (dA hb e)))).1,λb hb=>?_⟩
    obtain⟨o,e,d⟩:=T.obj _ _ st6 b hb
    exact (I9.pin (b,o) (List.mem_append_right _ (List.mem_append_right _ (dA hb e)))).2.1
   cases b with
   | false =>
    rw [if_neg Bool.false_ne_true] at q8 ⊢
    obtain⟨m',hm,w8⟩:=hN _ _ q8
    obtain⟨J8,t8,f8⟩:=again I8
    exact⟨m',hm,i+1,ys,vys,H8,J8,t8,f8,rv,w8⟩
   | true =>
    rw [if_pos rfl] at q8 ⊢
    have aok:kF Y D (fG fp s6.heap):=⟨λp hp z=>absurd (hbelowfp p.1 (iW hp).1) (by rw [z];exact Nat.lt_irrefl _),by show s2.heap.objs.size<=D;rw [hDe];exact Nat.le_refl _,λx c e=>cellNe x c e⟩
    refine hB C s2 H2 fp lc D ys vys _ σ7 H8 s8 Nn _ I8 rv aok hz q8 λys' vys' H9 s9 I9 rv' q9=>?_
    obtain⟨J9,t9,f9⟩:=again I9
    obtain⟨m',hm,w9⟩:=hN _ _ q9
    exact⟨m',hm,i+1,ys',vys',H9,J9,t9,f9,rv',w9⟩
 exact codeAny_compStart_list (loop _ rfl) (T.self _ 0 _ _ _ (T.keep _ _ _ st2 λb _ o e=>old b o e) (loop _ rfl))
theorem wR {Y:Cx} {D:Addr} {ys:List Value} {P:List (Addr × Obj)} {σ:St} {H:Hp} {s:Shared} {y:Value} {Q:Value->Shared->Prop} {E:Value->Shared->Prop} (hpn:Y.pn=[]) (I:Inv Y ([(D,lobj ys)]++P) σ H s) (ok:kF Y D P) (z:ys.length<sizeLine)
  (q:∀ s',Inv Y ([(D,lobj (ys++[y]))]++P) σ H s'->Q .none s'):wpAny (model Y.prog Y.w) Y.A (call (.builtin "list.append") [.ref D,y]) Q E s:=by
 obtain⟨pD,nD,neD,nfD,_⟩:=I.pin (D,lobj ys) (by rw [hpn];simp)
 refine append_at (hsz:=by show ys.toArray.size<=sizeLine;rw [List.size_toArray];exact Nat.le_of_lt z) (show s.heap.get? D=some { cls:=.type "list",data:=.seq ys.toArray ys.length } from pD) λh' hsb hD'=>q _ ?_
 have eD:h'.get? D=some (lobj (ys++[y])):=by
  rw [hD']
  unfold lobj
  rw [List.length_append,List.length_singleton,List.push_toArray]
 have J1:Inv Y P σ H s:=I.gh λp hp=>I.pin p (List.mem_append_right _ (List.mem_append_right _ hp))
 have J2:Inv Y P σ H { s with heap:=h' }:=J1.turned (t':=s.toks) (it:=D) (λb o hb e=>hsb.extBut b o hb e) nD neD (.inr ok.new) ok.cell λp hp=>ok.ne p (by rw [hpn] at hp;simpa using hp)
 refine J2.gh λp hp=>?_
 rcases List.mem_append.mp hp with hp | hp
 ·have e:p=(D,lobj (ys++[y])):=by simpa using hp
  subst e
  exact⟨eD,nD,neD,nfD,λv z=>by cases z⟩
 ·exact J2.pin p (List.mem_append_right _ hp)
theorem mZ {Y:Cx} {D:Addr} {ys:List Value} {vys:List V} {P:List (Addr × Obj)} {σ:St} {H:Hp} {s:Shared} {elt:Expr} {te:TE} {N:List V->Hp->Prop} {Ps:Shared->Prop} (hpn:Y.pn=[]) (he:PE Y elt te) (I:Inv Y ([(D,lobj ys)]++P) σ H s) (rv:Vals vys ys) (ok:kF Y D P) (z:vys.length<sizeLine) (q:te σ H λv H4=>N (vys++[v]) H4)
  (k:∀ ys' vys' H' s',Inv Y ([(D,lobj ys')]++P) σ H' s'->Vals vys' ys'->N vys' H'->Ps s'):wpAny (model Y.prog Y.w) Y.A (mY elt (.ref D) Y.env) (λ_ s'=>Ps s') Y.xe s:=by
 unfold mY
 refine wpAny_bind (bK (he _ s σ H _ I q) λy s9 ⟨vy,H9,I9,r9,q9⟩=>?_)
 exact wpAny_bind (wR hpn I9 ok (by rw [<- rv.length];exact z) λs' I'=>wpAny_pure (k _ _ _ _ I' (rv.append (.cons r9 .nil)) q9))
theorem qS {X:Cx} {Ex:Addr->Shared->Hp->List Addr->Value->Shared->Prop} {elt target iter:Expr} {ifs:List Expr} {scope:Scope} {pos:Pos} {N':List Str} {js:List (Option Nat)} {cl:List (Str × Addr)} {g:TG} {tt:TT} {te:TE} (hcalm:X.calm=true)
  (K:ft X N' js scope cl)
  (hg:∀ C s₂ H₂ fp,kr X C s₂ H₂ fp->PG (cJ X (Ex C s₂ H₂ fp) N' scope cl C s₂ H₂ fp) target g) (ht:∀ C s₂ H₂ fp,kr X C s₂ H₂ fp->ku (cJ X (Ex C s₂ H₂ fp) N' scope cl C s₂ H₂ fp) ifs tt) (he:∀ C s₂ H₂ fp,kr X C s₂ H₂ fp->PE (cJ X (Ex C s₂ H₂ fp) N' scope cl C s₂ H₂ fp) elt te)
  (herr:∀ C s₂ H₂ fp use Q' acc e s',Ex C s₂ H₂ fp e s'->notedBy (model X.prog X.w) X.A (compEnvC scope (cellsFrom (C+1) scope.names cl) C X.env) (λe s''=>compPost (model X.prog X.w) X.A X.xe use Q' acc C (.error e) s'') e s')
  {pins:List (Addr × Obj)} {σ:St} {Q:VK} {use:Option (Value->Sem Unit)} {Q':Value->Shared->Prop} {itv:Value} {s2:Shared}
  (h2:Cs X pins σ target (λJ H1=>∃ W:Nat->Nat->List V->Hp->Prop,(∃ m,W 0 m [] H1)/\∀ i m ys H,W i m ys H ->
 (J.stop i H/\ys.length<=sizeLine/\∀ p,H p=none->Q (.ref p) (upd H p (.lst ys))) ∨
 (J.go i H/\ys.length<sizeLine/\∃ N:List V->Hp->Prop,(∀ ys' H',N ys' H'->∃ m',m'<m/\W (i+1) m' ys' H') /\
  ∀ x H',J.yld i H x H'->g x (cG js σ) H' λσ2 H2=>bL (cG js σ) σ2/\tt σ2 H2 λb H3=>if b=true then te σ2 H3 λv H4=>N (ys++[v]) H4 else N ys H3)) itv s2)
  (hok:∀ C D vys H4 s5,(∃ m,s5.heap.Ns C m)->s2.heap.objs.size<=D->D<=C->D≠C->H4 D=none->H4 C=none->(∀ h',Heap.SameBut C s5.heap h'->Inv X pins σ (upd H4 D (.lst vys)) { s5 with heap:=h' })->Q (.ref D) (upd H4 D (.lst vys))->compPost (model X.prog X.w) X.A X.xe use Q' (.ref D) C (.ok .next) s5) :
  wpAny (model X.prog X.w) X.A (newList []) (λacc s₃=>wpAny (model X.prog X.w) X.A (newFunctionEnv scope X.env.globals cl [] X.env.qual none .none (some X.env)) (λcenv s₄ =>
   codeAny (model X.prog X.w) X.A (.compStart (.ListComp elt [⟨target,iter,ifs,0⟩] scope pos) 0 itv acc { cenv with scope:=relabel scope X.env }) (compPost (model X.prog X.w) X.A X.xe use Q' acc cenv.locals) s₄) X.xe s₃) X.xe s2 :=
 uV (Bd:=λEx acc env Ps s=>wpAny (model X.prog X.w) X.A (mY elt acc env) (λ_ s'=>Ps s') Ex s) (Cc:=λys=>ys.length<sizeLine) (tb:=λys σ2 H3 N=>te σ2 H3 λv H4=>N (ys++[v]) H4) hcalm
  (λ_ _ _ it acc env I turn n h hE=>ik I (wo elt target iter ifs scope pos it acc env) turn n h hE) K hg ht
  (λC s₂ H₂ fp lc D ys vys P σ H s N Ps I rv ok z q k=>mZ rfl (he C s₂ H₂ fp lc) I rv ok z q k) herr h2 hok
theorem fk {X:Cx} {elt target iter:Expr} {ifs:List Expr} {scope:Scope} {pos:Pos} {N':List Str} {js:List (Option Nat)} {cl:List (Str × Addr)} {wi:TI} {g:TG} {tt:TT} {te:TE} (hcalm:X.calm=true)
  (K:ft X N' js scope cl) (hi:PI X target iter wi)
  (hg:∀ C s₂ H₂ fp,PG (de X N' scope cl C s₂ H₂ fp) target g) (ht:∀ C s₂ H₂ fp,ku (de X N' scope cl C s₂ H₂ fp) ifs tt) (he:∀ C s₂ H₂ fp,PE (de X N' scope cl C s₂ H₂ fp) elt te)
  (hs:∀ x,foldedSetIterable iter X.env x=pure x:=by intro _;rfl):PE X (.ListComp elt [⟨target,iter,ifs,0⟩] scope pos) (Cy js wi g tt te):=by
 intro pins s σ H Q I h
 rw [eval_ListComp]
 refine wpAny_comprehension_free (use:=none) rfl hs K.clos K.kind K.names (bK (hi pins s σ H _ I h) λv s1 h1=>bK h1 λitv s2 h2=>?_)
 exact qS (Ex:=λ_ _ _ _ _ _=>False) hcalm K (λC s H f _=>hg C s H f) (λC s H f _=>ht C s H f) (λC s H f _=>he C s H f) (λ_ _ _ _ _ _ _ _ _ z=>z.elim) h2 λC D vys H4 s5 ⟨m,hn⟩ _ _ _ _ _ hI q=>⟨m,hn,λh' hsb=>⟨.ref D,_,hI h' hsb,rfl,q⟩⟩
def AQ (wi:TI) (g:TG) (tt:TT) (te:TE) (ys:List V) (σ:St) (H:Hp) (N:List V->Hp->Prop):Prop:=wi σ H λJ H1=>∃ W:Nat->Nat->List V->Hp->Prop,(∃ m,W 0 m ys H1)/\∀ i m zs H,W i m zs H ->
 (J.stop i H/\N zs H) ∨
 (J.go i H/\zs.length<sizeLine/\∃ N2:List V->Hp->Prop,(∀ zs' H',N2 zs' H'->∃ m',m'<m/\W (i+1) m' zs' H') /\
  ∀ x H',J.yld i H x H'->g x σ H' λσ2 H2=>bL σ σ2/\tt σ2 H2 λb H3=>if b=true then te σ2 H3 λv H4=>N2 (zs++[v]) H4 else N2 zs H3)
def B0 (js:List (Option Nat)) (wi1:TI) (g1:TG) (tt1:TT) (wi2:TI) (g2:TG) (tt2:TT) (te:TE):TE:=λσ H Q=>wi1 σ H λJ H1=>∃ W:Nat->Nat->List V->Hp->Prop,(∃ m,W 0 m [] H1)/\∀ i m ys H,W i m ys H ->
 (J.stop i H/\ys.length<=sizeLine/\∀ p,H p=none->Q (.ref p) (upd H p (.lst ys))) ∨
 (J.go i H/\True/\∃ N:List V->Hp->Prop,(∀ ys' H',N ys' H'->∃ m',m'<m/\W (i+1) m' ys' H') /\
  ∀ x H',J.yld i H x H'->g1 x (cG js σ) H' λσ2 H2=>bL (cG js σ) σ2/\tt1 σ2 H2 λb H3=>if b=true then AQ wi2 g2 tt2 te ys σ2 H3 N else N ys H3)
theorem uu {Y:Cx} {D:Addr} {ys:List Value} {vys:List V} {P:List (Addr × Obj)} {σ:St} {H:Hp} {s:Shared} {elt t1 i1 t2 i2:Expr} {f1 f2:List Expr} {scope:Scope} {pos:Pos} {wi:TI} {g:TG} {tt:TT} {te:TE} {N:List V->Hp->Prop} {Ps:Shared->Prop} (hpn:Y.pn=[]) (hcalm:Y.calm=true) (hxe:Y.xe=λ_ _=>False) (hi:PI Y t2 i2 wi) (hg:PG Y t2 g) (ht:ku Y f2 tt) (he:PE Y elt te)
  (I:Inv Y ([(D,lobj ys)]++P) σ H s) (rv:Vals vys ys) (ok:kF Y D P) (q:AQ wi g tt te vys σ H N)
  (k:∀ ys' vys' H' s',Inv Y ([(D,lobj ys')]++P) σ H' s'->Vals vys' ys'->N vys' H'->Ps s') :
  wpAny (model Y.prog Y.w) Y.A (eval i2 Y.env) (λx s₄=>wpAny (model Y.prog Y.w) Y.A (pyIter x) (λit2 s₅=>codeAny (model Y.prog Y.w) Y.A (.compStart (.ListComp elt [⟨t1,i1,f1,0⟩,⟨t2,i2,f2,0⟩] scope pos) 1 it2 (.ref D) Y.env) (λr s₆=>match r with | .ok _=>Ps s₆ | .error _=>False) s₅) Y.xe s₄) Y.xe s:=by
 refine bK (hi _ s σ H _ I q) λv s1 h1=>bK h1 λitv s2 h2=>?_
 obtain⟨it,fp,tn,J,H2,e,I2,T,st2,f2',W,⟨m0,w0⟩,turn⟩:=h2
 subst e
 have nDb:∀ b∈fp,D≠b:=λb hb=>(f2' b hb).2.2.2.2.2 (D,lobj ys) (by rw [hpn];simp)
 have stat:∀{ys':List Value} {H':Hp},(∀ b∈fp,H' b=none)->∀ b∈fp,ko Y ([(D,lobj ys')]++P) H' b:=λ{ys' H'} hn b hb=>by
  refine⟨hn b hb,(f2' b hb).2.1,(f2' b hb).2.2.1,(f2' b hb).2.2.2.1,(f2' b hb).2.2.2.2.1,λp hp=>?_⟩
  rw [hpn] at hp
  have hp':p∈[(D,lobj ys')]++P:=by simpa using hp
  rcases List.mem_append.mp hp' with z | z
  ·have e:p=(D,lobj ys'):=by simpa using z
   rw [e];exact nDb b hb
  ·exact (f2' b hb).2.2.2.2.2 p (by rw [hpn];exact List.mem_append_right _ (List.mem_append_right _ z))
 have loop:codeAny (model Y.prog Y.w) Y.A (.compLoop (.ListComp elt [⟨t1,i1,f1,0⟩,⟨t2,i2,f2,0⟩] scope pos) 1 (.ref it) (.ref D) Y.env) (λr s₆=>match r with | .ok _=>Ps s₆ | .error _=>False) s2:=by
  refine ik (Ex:=Y.xe) (λn s'=>∃ i zs vzs H',Inv Y ([(D,lobj zs)]++P) σ H' s'/\tn i s'.heap/\(∀ b∈fp,H' b=none)/\Vals vzs zs/\W i n vzs H') (yv elt t1 i1 t2 i2 f1 f2 scope pos (.ref it) (.ref D) Y.env) ?_ m0
   ⟨0,ys,vys,H2,I2,st2,λb hb=>(f2' b hb).1,rv,w0⟩ λe s' z=>by rw [hxe] at z;exact z.elim
  rintro n s4 ⟨i,zs,vzs,H4,I4,st4,fr4,rz,w4⟩
  rcases turn i n vzs H4 w4 with⟨stop,qn⟩|⟨go,hz,Nn,hN,step⟩
  ·refine bK (T.done Y rfl rfl rfl hcalm i _ s4 _ H4 Y.xe I4 (stat fr4) st4 stop) λr s5 ⟨hr,I5⟩=>?_
   subst hr
   exact k zs vzs H4 s5 I5 rz qn
  ·refine bK (T.item Y rfl rfl rfl hcalm i _ s4 _ H4 Y.xe I4 (stat fr4) st4 go) λr s5 ⟨u,hr,h5⟩=>?_
   subst hr
   refine bK h5 λ_ s6 ⟨x,H6,I6,r6,y6,st6,fr6⟩=>?_
   have I6':=I6.pinned (stat fr6) (T.obj _ _ st6)
   refine bK (hg _ s6 _ H6 x u _ I6' r6 (step x H6 y6)) λ_ s7 ⟨σ7,H7,I7,k7,q7⟩=>?_
   refine bK (ht _ s7 σ7 H7 _ I7 q7) λb s8 ⟨H8,I8,q8⟩=>?_
   have again:∀{zs':List Value} {s9:Shared} {H9:Hp},Inv Y (([(D,lobj zs')]++P)++fG fp s6.heap) σ7 H9 s9->Inv Y ([(D,lobj zs')]++P) σ H9 s9/\tn (i+1) s9.heap/\∀ b∈fp,H9 b=none:=λ{zs' s9 H9} I9=>by
    refine⟨(I9.fU).weak k7.len k7.get,T.keep _ _ _ st6 λb hb o e=>(I9.pin (b,o) (List.mem_append_right _ (List.mem_append_right _ (dA hb e)))).1,λb hb=>?_⟩
    obtain⟨o,e,d⟩:=T.obj _ _ st6 b hb
    exact (I9.pin (b,o) (List.mem_append_right _ (List.mem_append_right _ (dA hb e)))).2.1
   cases b with
   | false =>
    rw [if_neg Bool.false_ne_true] at q8 ⊢
    obtain⟨m',hm,w8⟩:=hN _ _ q8
    obtain⟨J8,t8,f8⟩:=again I8
    exact⟨m',hm,i+1,zs,vzs,H8,J8,t8,f8,rz,w8⟩
   | true =>
    rw [if_pos rfl] at q8 ⊢
    have aok:kF Y D (P++fG fp s6.heap):=⟨λp hp z=>by
     rcases List.mem_append.mp hp with h | h
     ·exact ok.ne p h z
     ·exact nDb p.1 (iW h).1 z.symm,ok.new,ok.cell⟩
    rw [List.append_assoc] at I8
    refine mZ hpn he I8 rz aok hz q8 λys' vys' H9 s9 I9 rv' q9=>?_
    rw [<- List.append_assoc] at I9
    obtain⟨J9,t9,f9⟩:=again I9
    obtain⟨m',hm,w9⟩:=hN _ _ q9
    exact⟨m',hm,i+1,ys',vys',H9,J9,t9,f9,rv',w9⟩
 exact wc loop (T.self _ 0 _ _ _ st2 loop)
theorem Am {X:Cx} {elt t1 i1 t2 i2:Expr} {f1 f2:List Expr} {scope:Scope} {pos:Pos} {N':List Str} {js:List (Option Nat)} {cl:List (Str × Addr)} {wi1 wi2:TI} {g1 g2:TG} {tt1 tt2:TT} {te:TE} (hcalm:X.calm=true)
  (K:ft X N' js scope cl) (hi:PI X t1 i1 wi1)
  (hg:∀ C s₂ H₂ fp,PG (de X N' scope cl C s₂ H₂ fp) t1 g1) (ht:∀ C s₂ H₂ fp,ku (de X N' scope cl C s₂ H₂ fp) f1 tt1)
  (hi2:∀ C s₂ H₂ fp,PI (de X N' scope cl C s₂ H₂ fp) t2 i2 wi2) (hg2:∀ C s₂ H₂ fp,PG (de X N' scope cl C s₂ H₂ fp) t2 g2) (ht2:∀ C s₂ H₂ fp,ku (de X N' scope cl C s₂ H₂ fp) f2 tt2) (he:∀ C s₂ H₂ fp,PE (de X N' scope cl C s₂ H₂ fp) elt te)
  (hs:∀ x,foldedSetIterable i1 X.env x=pure x:=by intro _;rfl) (hs2:∀ env x,foldedSetIterable i2 env x=pure x:=by intro _ _;rfl) :
  PE X (.ListComp elt [⟨t1,i1,f1,0⟩,⟨t2,i2,f2,0⟩] scope pos) (B0 js wi1 g1 tt1 wi2 g2 tt2 te):=by
 intro pins s σ H Q I h
 rw [eval_ListComp]
 refine wpAny_comprehension_free (use:=none) rfl hs K.clos K.kind K.names (bK (hi pins s σ H _ I h) λv s1 h1=>bK h1 λitv s2 h2=>?_)
 refine uV (Ex:=λ_ _ _ _ _ _=>False) (Bd:=λEx acc env Ps s=>wpAny (model X.prog X.w) X.A (eval i2 env) (λx s₄=>wpAny (model X.prog X.w) X.A (pyIter x) (λit2 s₅=>codeAny (model X.prog X.w) X.A (.compStart (.ListComp elt [⟨t1,i1,f1,0⟩,⟨t2,i2,f2,0⟩] scope pos) 1 it2 acc env) (λr s₆=>match r with | .ok _=>Ps s₆ | .error _=>False) s₅) Ex s₄) Ex s) (Cc:=λ_=>True) (tb:=AQ wi2 g2 tt2 te) hcalm
  (λ_ _ _ it acc env I turn n h hE=>lM I (hs2 env) turn n h hE) K (λC s H f _=>hg C s H f) (λC s H f _=>ht C s H f)
  (λC s₂ H₂ fp lc D ys vys P σ H s N Ps I rv ok z q k=>uu (Y:=de X N' scope cl C s₂ H₂ fp) rfl hcalm rfl (hi2 C s₂ H₂ fp) (hg2 C s₂ H₂ fp) (ht2 C s₂ H₂ fp) (he C s₂ H₂ fp) I rv ok q k) (λ_ _ _ _ _ _ _ _ _ z=>z.elim) h2 λC D vys H4 s5 ⟨m,hn⟩ _ _ _ _ _ hI q=>⟨m,hn,λh' hsb=>⟨.ref D,_,hI h' hsb,rfl,q⟩⟩
def Bd (i:Int):Prop:=i.natAbs<2^4000
theorem ur:(10:Nat)^250<=2^4000:=by decide +kernel
theorem Bd.of {i:Int} (h1:-(10^250)<i) (h2:i<10^250):Bd i:=by
 refine Nat.lt_of_lt_of_le ?_ ur
 have:((10:Nat)^250:Nat)=((10:Int)^250).toNat:=by decide +kernel
 rw [this]
 omega
theorem Bd.mono {i j:Int} (h:Bd j) (h':i.natAbs<=j.natAbs):Bd i:=Nat.lt_of_le_of_lt h' h
theorem Bd.bits {i:Int} (h:Bd i):Builtin.Int.intBits i<=2^20 :=
 Nat.le_trans (intBits_le h) (by decide)
theorem Bd.Dk {i j:Int} (h:Bd j):Builtin.divisionGoesByPylong i j=false:=by
 refine PyProof.noPylong_of_log2 ?_
 by_cases z:j.natAbs=0
 ·rw [z];decide
 ·exact Nat.lt_of_lt_of_le ((Nat.log2_lt z).mpr h) (by decide)
section
variable {X:Cx}
theorem bo:gu X (binaryOp .Mult) (rI (λi j=>Bd i/\Bd j) λi j=>.int (i*j)):=AU λ_ _ _ _ _ _ _ hc q=>mul_int q (IntMulOk.of_bits hc.1.bits hc.2.bits)
theorem cT:gu X (binaryOp .FloorDiv) (rI (λ_ j=>0<j/\Bd j) λi j=>.int (i/j)):=AU λi j _ _ _ _ _ hc q=>by
 have h1:(0:Int)<j:=hc.1
 exact floordiv_int (by omega) (by rw [Int.fdiv_eq_ediv_of_nonneg i (by omega)];exact q) (.inl hc.2.Dk)
theorem jO:gu X (inplaceOp .FloorDiv) (rI (λ_ j=>0<j/\Bd j) λi j=>.int (i/j)):=AU λi j _ _ _ _ _ hc q=>by
 have h1:(0:Int)<j:=hc.1
 exact ifloordiv_int (by omega) (by rw [Int.fdiv_eq_ediv_of_nonneg i (by omega)];exact q) (.inl hc.2.Dk)
theorem uS:gu X (inplaceOp .Mult) (rI (λi j=>Bd i/\Bd j) λi j=>.int (i*j)):=AU λ_ _ _ _ _ _ _ hc q=>imul_int q (IntMulOk.of_bits hc.1.bits hc.2.bits)
theorem i7 {op:Operator} {r:R2} (ho:gu X (inplaceOp op) r):Dh X op r:=λpins s σ H x y v u Q I r1 r2 h=>ho pins s σ H x y v u Q I r1 r2 h
def zt (i j k:Nat) (ta:TA):TS:=λD σ H=>ta σ H λvs H1=>∃ v w u,vs=[v,w,u]/\D.nx (((σ.set i (some v)).set j (some w)).set k (some u)) H1
theorem rg {i j k:Nat} {x y z:Str} {a b c:Expr} {ta:TA} {px py pz pt pos:Pos} {kt k2 pt2} (hc:X.calm=true) (hN:X.N.Nodup) (hi:X.N[i]?=some x) (hj:X.N[j]?=some y) (hk:X.N[k]?=some z) (hij:i≠j) (hik:i≠k) (hjk:j≠k)
  (hx:X.env.scope.names.lookup x=some .local) (hy:X.env.scope.names.lookup y=some .local) (hz:X.env.scope.names.lookup z=some .local) (ha:PA X [a,b,c] ta)
  (hw:swappedStores [.Tuple [.Name x px,.Name y py,.Name z pz] kt pt] (.Tuple [a,b,c] k2 pt2) X.env=pure (some [x,y,z]))
  (hs:swapsWithSole [.Tuple [.Name x px,.Name y py,.Name z pz] kt pt] (.Tuple [a,b,c] k2 pt2) pos.line X.env=pure false:=by rfl) :
  PS X (.Assign [.Tuple [.Name x px,.Name y py,.Name z pz] kt pt] (.Tuple [a,b,c] k2 pt2) pos) (zt i j k ta):=by
 intro pins s σ H D I h
 rw [exec_Assign_arm]
 refine wpAny_bind (wpAny_standAt ?_)
 rw [hs]
 refine wpAny_bind (wpAny_pure ?_)
 rw [if_neg (by decide)]
 refine wpAny_bind (Tuple_ (bK (ha _ pins s σ H _ I h) λus s1 ⟨vs,H1,I1,r1,q1⟩=>?_))
 obtain⟨v,w,u,e1,q1⟩:=q1
 subst e1
 obtain⟨u1,u2,u3,rfl,rv,rw',ru⟩:∃ u1 u2 u3,us=[u1,u2,u3]/\RelV v u1/\RelV w u2/\RelV u u3:=by
  cases r1 with
  | cons p q =>
   cases q with
   | cons p' q' =>
    cases q' with
    | cons p'' q'' =>
     cases q''
     exact⟨_,_,_,rfl,p,p',p''⟩
 refine wpAny_newObj_type ?_ (by show 3<=sizeLine;decide)
 have I2:Inv X pins σ H1 { s1 with heap:=s1.heap.push { cls:=.type "tuple",data:=.seq [u1,u2,u3].toArray } }:=I1.kept (t':=s1.toks) λb o e=>Heap.get?_push_of_some _ e
 rw [hw]
 refine wpAny_bind (wpAny_pure ?_)
 show wpAny (model X.prog X.w) X.A (do rule "assign.swapped-stores";let items <- unpackItems (.ref s1.heap.objs.size) 3 none;assignInOrder [λv=>bindName X.env z v,λv=>bindName X.env y v,λv=>bindName X.env x v] items.reverse;pure Flow.next) _ _ _
 refine wpAny_bind (wpAny_rule (wpAny_bind (unpackItems_tuple (items:=#[u1,u2,u3]) (I.ok.hd hc) (IsTup.new s1.heap _) λh' hx'=>?_)))
 have I3:=I2.kept (h':=h') (t':=s1.toks) λb o e=>hx' b o (Nat.ne_of_lt (Heap.lt_size e)) e
 show wpAny _ _ (assignInOrder [λv=>bindName X.env z v,λv=>bindName X.env y v,λv=>bindName X.env x v] [u3,u2,u1] >>= λ_=>pure Flow.next) _ _ _
 refine wpAny_bind (assignInOrder_cons (wpAny_bindName (dt I3 hN hk (.inl hz) ru (λs2 I4=>?_) (.inr hz))))
 refine assignInOrder_cons (wpAny_bindName (dt I4 hN hj (.inl hy) rw' (λs3 I5=>?_) (.inr hy)))
 refine assignInOrder_cons (wpAny_bindName (dt I5 hN hi (.inl hx) rv (λs4 I6=>assignInOrder_nil (wpAny_pure ?_)) (.inr hx)))
 have e:((σ.set k (some u)).set j (some w)).set i (some v)=((σ.set i (some v)).set j (some w)).set k (some u):=by
  rw [List.set_comm _ _ (Ne.symm hij),List.set_comm _ _ (Ne.symm hik),List.set_comm _ _ (Ne.symm hjk)]
 rw [e] at I6
 exact⟨_,H1,I6,q1⟩
def Aq (K:PySem.W.Frag):List V->Hp->VK->Prop:=λxs H Q=>∃(a:Addr) (bs:List Bool),xs=[.ref a]/\aS K H a (bs.map V.bl)/\Q (.bl (bs.all id)) H
theorem eK (hc:X.calm=true):dW X (.builtin "all") (Aq X.K):=by
 intro pins s σ H xs us Q I r h
 obtain⟨a,bs,rfl,hq,q⟩:=h
 obtain⟨u,rfl,ru⟩:=vals1 r
 cases ru
 obtain⟨its,rv,p,hz⟩:=I.list hq
 have hl:=p.isList
 have hlt:a<s.heap.objs.size:=by obtain⟨_,e,_⟩:=hl;exact Heap.lt_size e
 have hb:∀(i:Nat) v,its[i]?=some v->∃ b,bs[i]?=some b/\v=.bool b:=λi v e=>by
  have hi:i<its.length:=(List.getElem?_eq_some_iff.mp e).1
  have hi2:i<bs.length:=by have:=rv.length;rw [List.length_map] at this;omega
  obtain⟨u,e1,e2⟩:=rv.get (i:=i) (x:=V.bl bs[i]) (by rw [List.getElem?_map,List.getElem?_eq_getElem hi2];rfl)
  rw [e] at e1
  cases e1
  exact⟨bs[i],List.getElem?_eq_getElem hi2,e2⟩
 have hln:its.length=bs.length:=by have:=rv.length;rw [List.length_map] at this;omega
 refine call_all_walk (wpAny_pyIter_list hl ?_)
 refine⟨s.heap.objs.size,[s.heap.objs.size,a],[s.heap.objs.size],its.toArray.size,_,_,λi=>(bs[i]?).getD true,rfl,Walks.list (A:=X.A.in1) (I.ok.hd hc) _ a (Nat.ne_of_lt hlt) its.toArray,
  ⟨⟨_,Heap.get?_push_size _ rfl,rfl,rfl⟩,hl.push _⟩,λi v s' Q' E' hP hQ=>?_,λh' tk hk=>?_⟩
 ·obtain⟨b,e,rfl⟩:=hb i v (by simpa using hP)
  simp only [e,Option.getD_some] at hQ
  exact wpAny_truthy_bool hQ
 ·have e:((List.range its.toArray.size).all λi=>(bs[i]?).getD true)=bs.all id:=by
   rw [List.size_toArray,hln,Bool.eq_iff_iff]
   simp only [List.all_eq_true,List.mem_range,id]
   constructor
   ·intro z b hb'
    obtain⟨i,hi,rfl⟩:=List.mem_iff_getElem.mp hb'
    have:=z i hi
    rwa [List.getElem?_eq_getElem hi,Option.getD_some] at this
   ·intro z i hi
    rw [List.getElem?_eq_getElem hi,Option.getD_some]
    exact z _ (List.getElem_mem hi)
  rw [e]
  exact⟨.bl _,H,I.kept λb o eb=>hk b o (λhm=>by rw [List.mem_singleton.mp hm] at eb;exact Nat.lt_irrefl _ (Heap.lt_size eb)) (Heap.get?_push_of_some _ eb),rfl,q⟩
end
def aC (K:PySem.W.Frag) (mg:Str->Option Value) (x:Str) (st:Stmt):Prop:=∃ f fd,wB K x x st f fd/\mg x=some (.ref f)
structure Callee (P:Program) (w:World) (K:PySem.W.Frag) (mg:Str->Option Value) (base:Heap) (CX:jI) (k:Nat) (x:Str) (ps:List Str) (sp:Sp):Prop where
 ex:∃ f fd,dJ P w K mg base CX k f fd ps sp/\mg x=some (.ref f)/\PySem.W.keepIn K (.ref f)=true/\Binds K fd ps []
section
variable {P:Program} {w:World} {K:PySem.W.Frag} {mg:Str->Option Value} {base:Heap} {CX:jI} {k:Nat} {x:Str} {ps:List Str} {sp:Sp}
theorem Callee.imp {sp':Sp} (C:Callee P w K mg base CX k x ps sp) (h:∀ vs H Q E,sp' vs H Q E->sp vs H Q E):Callee P w K mg base CX k x ps sp':=by
 obtain⟨f,fd,F,a,b,c⟩:=C.ex
 exact⟨f,fd,F.imp h,a,b,c⟩
theorem Callee.mono {j:Nat} (C:Callee P w K mg base CX k x ps sp) (h:k<=j):Callee P w K mg base CX j x ps sp:=by
 obtain⟨f,fd,F,a,b,c⟩:=C.ex
 exact⟨f,fd,F.mono h,a,b,c⟩
theorem aH {X:Cx} {E:XK} {e:Expr} {es:List Expr} {t:TA} {p pos:Pos} (C:Callee X.prog X.w X.K X.mg X.base CX k x ps sp) (hr:c6 k X.A) (hg:Gl X x) (hx:Passes CX X E)
  (ha:PA X (e::es) t) (hdb:(x==("__debug__":Str))=false:=by decide) (he:starEach (e::es) X.env=(false,eval e X.env)::starEach es X.env:=by rfl) (hpl:(backTo pos (starEach es X.env)).any (·.1)=false:=by rfl) :
  PE X (.Call (.Name x p) (e::es) [] pos) (oH sp [] E t):=by
 obtain⟨f,fd,F,hm,hk,hb⟩:=C.ex
 exact xS F hr hg hm hk hb .nil hx ha hdb he hpl
theorem sg {st:Stmt} {N:List Str} (D:aC K mg x st)
  (hb:∀(kV doc pm:Value) (an:Option Addr) (cdv ct:Value) (us:List Value),us.length=ps.length->bindArgs (PySem.W.fnOf x x (cK st) (bG st) (au st) .none kV doc pm an cdv ct) ⟨us,[]⟩=pure (ps.zip us))
  (S:aE N ps (au st)) (len:∀ vs H Q E,sp vs H Q E->vs.length=ps.length)
  (hbody:∀(f:Addr) (cdv:Value) (A:Around) (outer:List Env) (s:Shared) (H:Hp) (vs:List V) (Q:VK) (E:XK),c6 k (A.deeper (envOfC x (au st) s.heap.objs.size f cdv))->sp vs H Q E ->
   ∃ t,jv (fc aT P w K mg base N x (au st) f cdv A outer s H E).oR (bG st) t/\t { nx:=λ_ H'=>Q .cj H',rt:=Q } (start N vs) H):Callee P w K mg base aT (k+1) x ps sp:=by
 obtain⟨f,fd,F,hm⟩:=D
 exact⟨f,fd,F.ok S len λcdv A outer s H vs Q E hr h=>hbody f cdv A outer s H vs Q E hr h,hm,F.kp,F.binds hb⟩
theorem uB {h:Heap} {f:Addr} {st:Stmt} {oc:Value} {od an:Option Addr} {osl:Array (Option Value)} {kV doc pm cdv ct:Value} (X:K.In h) (G:h.Ns mainGlobals mg)
  (a:PySem.W.nsIn K mainGlobals x=some (some (.ref f))) (l:K.lookup f=some ⟨oc,od,.func (PySem.W.fnOf x x (cK st) (bG st) (au st) .none kV doc pm an cdv ct),osl⟩)
  (c:PySem.W.codeIn K cdv x=true) (kk:PySem.W.keepIn K (.ref f)=true):aC K mg x st:=⟨f,_,uN l c kk,PySem.W.mg_of X G a⟩
end
def iP (cl:List (Str × Addr)):List (Str × NameKind)->Prop
 | []=>True
 | y::r=>(match y.2 with | .free=>(cl.lookup y.1).isSome=true | _=>True)/\iP cl r
theorem iP.get {cl:List (Str × Addr)}:∀{l:List (Str × NameKind)},iP cl l->∀ y∈l,y.2=.free->(cl.lookup y.1).isSome=true
 | [],_,_,h,_=>nomatch h
 | z::r,a,y,h,e=>by
  rcases List.mem_cons.mp h with q | q
  ·subst q
   have:=a.1
   rw [e] at this
   exact this
  ·exact iP.get a.2 y q e
def hJ (X:Cx) (scope:Scope) (cl:List (Str × Addr)):List (Option Nat)->List Str->Prop
 | none::r,_::n=>hJ X scope cl r n
 | some j::r,x::n=>(X.N[j]?=some x/\(cl.lookup x).isSome=true/\(X.env.scope.names.lookup x=some .cell∨X.env.scope.names.lookup x=some .free)/\((relabel scope X.env).names.lookup x=some .cell∨(relabel scope X.env).names.lookup x=some .free))/\hJ X scope cl r n
 | [],[]=>True
 | _,_=>False
theorem hJ.len {X:Cx} {scope:Scope} {cl:List (Str × Addr)}:∀{js:List (Option Nat)} {N:List Str},hJ X scope cl js N->js.length=N.length
 | [],[],_=>rfl
 | none::r,_::n,h=>by
  have h':hJ X scope cl r n:=h
  simp [hJ.len h']
 | some j::r,x::n,h=>by
  have h':hJ X scope cl r n:=h.2
  simp [hJ.len h']
 | [],_::_,h=>h.elim
 | none::_,[],h=>h.elim
 | some _::_,[],h=>h.elim
theorem hJ.get {X:Cx} {scope:Scope} {cl:List (Str × Addr)}:∀{js:List (Option Nat)} {N:List Str},hJ X scope cl js N->∀(i j:Nat) x,js[i]?=some (some j)->N[i]?=some x ->
  X.N[j]?=some x/\(cl.lookup x).isSome=true/\AS X.env.scope x/\X.env.kindOf x≠some .local/\((relabel scope X.env).names.lookup x=some .cell∨(relabel scope X.env).names.lookup x=some .free)
 | [],[],_,i,j,x,e,_=>by simp at e
 | none::r,y::n,h,0,j,x,e,_=>by simp at e
 | none::r,y::n,h,i+1,j,x,e,e2=>hJ.get (js:=r) (N:=n) h i j x (by simpa using e) (by simpa using e2)
 | some k::r,y::n,h,0,j,x,e,e2=>by
  have q:k=j:=by simpa using e
  have q2:y=x:=by simpa using e2
  subst q;subst q2
  obtain⟨a,b,c,d⟩:=h.1
  refine⟨a,b,?_,?_,d⟩
  ·rcases c with c | c
   ·exact .inr (.inl c)
   ·exact .inr (.inr c)
  ·intro z
   have z':X.env.scope.names.lookup y=some .local:=z
   rcases c with c | c
   ·rw [c] at z';cases z'
   ·rw [c] at z';cases z'
 | some k::r,y::n,h,i+1,j,x,e,e2=>hJ.get (js:=r) (N:=n) h.2 i j x (by simpa using e) (by simpa using e2)
 | [],_::_,h,_,_,_,_,_=>h.elim
 | none::_,[],h,_,_,_,_,_=>h.elim
 | some _::_,[],h,_,_,_,_,_=>h.elim
theorem zP {X:Cx} {N':List Str} {js:List (Option Nat)} {scope:Scope} {cl:List (Str × Addr)} (clos:closureFor scope X.env=pure cl) (kind:scope.kind=.function) (nocell:∀ y∈scope.names,y.2=.cell->scope.names.lookup y.1=some .cell/\∀ p∈js.zip N',p.1.isSome=true->p.2≠y.1)
  (names:∀ y∈scope.names,y.2=.local->scope.names.lookup y.1=some .local) (sub:AllIn X.env cl) (has:iP cl scope.names) (j:hJ X scope cl js N'):ft X N' js scope cl :=
 ⟨clos,kind,nocell,names,sub,has.get,j.len,j.get⟩
theorem boot_int:bootBuiltins "int"=some (.type "int"):=by decide +kernel
theorem boot_bool:bootBuiltins "bool"=some (.type "bool"):=by decide +kernel
theorem boot_tuple:bootBuiltins "tuple"=some (.type "tuple"):=by decide +kernel
theorem boot_list:bootBuiltins "list"=some (.type "list"):=by decide +kernel
theorem boot_abs:bootBuiltins "abs"=some (.builtin "abs"):=by decide +kernel
theorem boot_all:bootBuiltins "all"=some (.builtin "all"):=by decide +kernel
theorem boot_max:bootBuiltins "max"=some (.builtin "max"):=by decide +kernel
theorem boot_min:bootBuiltins "min"=some (.builtin "min"):=by decide +kernel
theorem ak {H:Hp} {p:Addr} {o:HO} (h:H p=none):aG H (upd H p o):=λb u q=>by rw [aA (bH q h)];exact q
theorem cf {α:Type} {c:TT} {tb:TS} {D:Ends} {σ:St} {H:Hp} (S:α->St) (Pv:α->Hp->Prop) (μ:α->Nat) (x₀:α) (hσ:σ=S x₀) (h0:Pv x₀ H)
  (hs:∀ x H,Pv x H->c (S x) H λb H1=>if b=true then (∃ N:St->Hp->Prop,(∀ σ' H',N σ' H'->∃ y,σ'=S y/\Pv y H'/\μ y<μ x)/\tb { D with nx:=N,ct:=N,bk:=D.nx } (S x) H1) else D.nx (S x) H1):wg c tb D σ H:=by
 subst hσ
 refine⟨λm σ H=>∃ x,σ=S x/\Pv x H/\m=μ x,⟨_,x₀,rfl,h0,rfl⟩,?_⟩
 rintro m σ H ⟨x,rfl,p,rfl⟩
 have q:=hs x H p
 have e:(λb H1=>if b=true then (∃ N:St->Hp->Prop,(∀ σ' H',N σ' H'->∃ y,σ'=S y/\Pv y H'/\μ y<μ x)/\tb { D with nx:=N,ct:=N,bk:=D.nx } (S x) H1) else D.nx (S x) H1) =
   (λb H1=>if b=true then (∃ N:St->Hp->Prop,(∀ σ' H',N σ' H'->∃ m',m'<μ x/\∃ y,σ'=S y/\Pv y H'/\m'=μ y)/\tb { D with nx:=N,ct:=N,bk:=D.nx } (S x) H1) else D.nx (S x) H1):=by
  funext b H1
  cases b with
  | false=>rfl
  | true =>
   simp only [if_true]
   refine propext ⟨fun⟨N,hN,z⟩=>⟨N,λσ' H' n=>?_,z⟩,fun⟨N,hN,z⟩=>⟨N,λσ' H' n=>?_,z⟩⟩
   ·obtain⟨y,e1,e2,e3⟩:=hN σ' H' n
    exact⟨_,e3,y,e1,e2,rfl⟩
   ·obtain⟨m',l,y,e1,e2,e3⟩:=hN σ' H' n
    exact⟨y,e1,e2,e3▸l⟩
 rw [e] at q
 exact q
end L2
namespace Gcd
structure J (A B g u v ng nu nv:Int):Prop where
 g0:0<=g
 n0:0<=ng
 e1:u*A+v*B=g
 e2:nu*A+nv*B=ng
 ex:∃ s U NU V NV:Int,(s=1∨s = -1)/\0<=U/\0<=NU/\0<=V/\0<=NV/\u=s*U/\nu = -s*NU/\v = -s*V/\nv=s*NV/\g*NU+ng*U=B/\g*NV+ng*V=A /\
  (U<=1∨U<=B)/\(NU<=1∨NU<=B)/\(V<=1∨V<=A)/\(NV<=1∨NV<=A)
theorem J.start {A B:Int} (ha:0<=A) (hb:0<=B):J A B A 1 0 B 0 1 :=
 ⟨ha,hb,by grind,by grind,1,1,0,0,1,.inl rfl,by decide,by decide,by decide,by decide,by grind,by grind,by grind,by grind,by grind,by grind,.inl (by decide),.inl (by decide),.inl (by decide),.inl (by decide)⟩
theorem kY {n x B:Int} (hn:0<n) (hx:0<=x) (h:n*x<=B):x<=B:=by
 have:1*x<=n*x:=Int.mul_le_mul_of_nonneg_right hn hx
 omega
theorem J.turn {A B g u v ng nu nv:Int} (j:J A B g u v ng nu nv) (hn:0<ng) :
  J A B ng nu nv (g-g/ng*ng) (u-g/ng*nu) (v-g/ng*nv)/\(g-g/ng*ng)<ng/\0<=g/ng/\g/ng<=g:=by
 have q0:0<=g/ng:=Int.ediv_nonneg j.g0 j.n0
 have r:=Int.emod_def g ng
 have r0:=Int.emod_nonneg g (show ng≠0 by omega)
 have r1:=Int.emod_lt_of_pos g hn
 have ql:g/ng<=g:=Int.ediv_le_self ng j.g0
 have e1:=j.e1
 have e2:=j.e2
 have hc:g/ng*ng=ng*(g/ng):=Int.mul_comm _ _
 generalize g/ng=q at *
 obtain⟨s,U,NU,V,NV,hs,hU,hNU,hV,hNV,eu,enu,ev,env,b1,b2,l1,l2,l3,l4⟩:=j.ex
 have hqNU:0<=q*NU:=Int.mul_nonneg q0 hNU
 have hqNV:0<=q*NV:=Int.mul_nonneg q0 hNV
 have rr:0<=g-q*ng:=by omega
 have i1:ng*(U+q*NU)+(g-q*ng)*NU=B:=by grind
 have i2:ng*(V+q*NV)+(g-q*ng)*NV=A:=by grind
 have n1:0<=(g-q*ng)*NU:=Int.mul_nonneg rr hNU
 have n2:0<=(g-q*ng)*NV:=Int.mul_nonneg rr hNV
 refine⟨⟨j.n0,rr,e2,by grind,-s,NU,U+q*NU,NV,V+q*NV,by omega,hNU,by omega,hNV,by omega,by grind,by grind,by grind,by grind,i1,i2,l2,.inr (kY hn (by omega) (by omega)),l4,.inr (kY hn (by omega) (by omega))⟩,by omega,q0,ql⟩
structure AX (a b g u v:Int):Prop where
 g0:0<=g
 lin:u*a+v*b=g
 da:g∣a
 db:g∣b
 bu:u.natAbs<=max 1 b.natAbs
 bv:v.natAbs<=max 1 a.natAbs
theorem J.done {a b g u v nu nv:Int} (j:J (if a<0 then -a else a) (if b<0 then -b else b) g u v 0 nu nv):AX a b g (if a<0 then -u else u) (if b<0 then -v else v):=by
 have e1:=j.e1
 obtain⟨s,U,NU,V,NV,hs,hU,hNU,hV,hNV,eu,enu,ev,env,b1,b2,l1,l2,l3,l4⟩:=j.ex
 have hu:u.natAbs=U.toNat:=by
  rcases hs with rfl | rfl
  ·omega
  ·omega
 have hv:v.natAbs=V.toNat:=by
  rcases hs with rfl | rfl
  ·omega
  ·omega
 refine⟨j.g0,?_,?_,?_,?_,?_⟩
 ·split<;>split<;>rename_i h1 h2<;>simp only [h1,h2,if_true,if_false] at e1<;>grind
 ·have:g∣(if a<0 then -a else a):=⟨NV,by omega⟩
  by_cases h:a<0
  ·rw [if_pos h] at this
   exact Int.dvd_neg.mp this
  ·rw [if_neg h] at this
   exact this
 ·have:g∣(if b<0 then -b else b):=⟨NU,by omega⟩
  by_cases h:b<0
  ·rw [if_pos h] at this
   exact Int.dvd_neg.mp this
  ·rw [if_neg h] at this
   exact this
 ·have:(if a<0 then -u else u).natAbs=u.natAbs:=by split<;>omega
  rw [this,hu]
  split at l1<;>omega
 ·have:(if b<0 then -v else v).natAbs=v.natAbs:=by split<;>omega
  rw [this,hv]
  split at l3<;>omega
theorem J.small {A B g u v ng nu nv M:Int} (j:J A B g u v ng nu nv) (hA:0<=A) (hB:0<=B) (hAM:A<=M) (hBM:B<=M) (hM:1<=M):(-M<=u/\u<=M)/\(-M<=v/\v<=M)/\(-M<=nu/\nu<=M)/\(-M<=nv/\nv<=M):=by
 obtain⟨s,U,NU,V,NV,hs,hU,hNU,hV,hNV,eu,enu,ev,env,b1,b2,l1,l2,l3,l4⟩:=j.ex
 rcases hs with rfl | rfl
 ·refine⟨⟨?_,?_⟩,⟨?_,?_⟩,⟨?_,?_⟩,⟨?_,?_⟩⟩<;>omega
 ·refine⟨⟨?_,?_⟩,⟨?_,?_⟩,⟨?_,?_⟩,⟨?_,?_⟩⟩<;>omega
end Gcd
namespace L2
open PySem PySem.Spec PyProof.Rows
theorem aG.upd {H H1:Hp} {p:Addr} {o:HO} (h:aG H H1) (hp:H p=none):aG H (upd H1 p o):=λb u q=>by rw [aA (bH q hp)];exact h b u q
theorem zK {α:Type} {xs:List α} {k:Int} (h0:0<=k) (h1:k<xs.length):∃ v,oP xs k=some v/\xs[k.toNat]?=some v:=by
 have hk:k.toNat<xs.length:=by omega
 refine⟨xs[k.toNat],?_,List.getElem?_eq_getElem hk⟩
 have:=ic (xs:=xs) (j:=k.toNat) (List.getElem?_eq_getElem hk)
 rwa [Int.toNat_of_nonneg h0] at this
theorem bW {K:PySem.W.Frag} {H:Hp} {p:Addr} {xs:List V} {k:Int} {Q:VK} (h:aS K H p xs) (h0:0<=k) (h1:k<xs.length) (q:∀ v∈xs,Q v H):x5 K (.ref p) (.int k) H Q:=by
 obtain⟨v,e,e2⟩:=zK h0 h1
 exact⟨p,xs,k,v,rfl,rfl,h,e,q v (List.mem_of_getElem? e2)⟩
theorem pM {K:PySem.W.Frag} {H:Hp} {p:Addr} {xs:List V} {k:Int} {v:V} {Q:VK} (h:aS K H p xs) (h0:0<=k) (e:xs[k.toNat]?=some v) (q:Q v H):x5 K (.ref p) (.int k) H Q:=by
 have:=ic e
 rw [Int.toNat_of_nonneg h0] at this
 exact⟨p,xs,k,v,rfl,rfl,h,this,q⟩
def Loop (J:It) (g:TG) (tb:TS) (D:Ends) (σ:St) (H:Hp):Prop:=∃ W:Nat->Nat->St->Hp->Prop,(∃ m,W 0 m σ H)/\∀ i m σ H,W i m σ H ->
 (J.stop i H/\D.nx σ H)∨(J.go i H/\∃ N:St->Hp->Prop,(∀ σ' H',N σ' H'->∃ m',m'<m/\W (i+1) m' σ' H')/\∀ x H',J.yld i H x H'->g x σ H' λσ2 H2=>tb { D with nx:=N,ct:=N,bk:=D.nx } σ2 H2)
theorem yr {wi:TI} {g:TG} {tb:TS} {D:Ends} {σ:St} {H:Hp}:BY wi g tb D σ H=wi σ H λJ H1=>Loop J g tb D σ H1:=rfl
theorem jR {lo:Int} {n:Nat} {g:TG} {tb:TS} {D:Ends} {σ:St} {H:Hp} (Pv:Nat->St->Hp->Prop) (h0:Pv 0 σ H)
  (hs:∀ i σ H,i<n->Pv i σ H->g (.int (lo+i)) σ H λσ2 H2=>tb { D with nx:=Pv (i+1),ct:=Pv (i+1),bk:=D.nx } σ2 H2) (hd:∀ σ H,Pv n σ H->D.nx σ H):Loop (wI lo n) g tb D σ H:=sx Pv h0 hs hd
theorem sQ {K:PySem.W.Frag} {a:Addr} {xs:List V} {g:TG} {tb:TS} {D:Ends} {σ:St} {H:Hp} (Pv:Nat->St->Hp->Prop) (h0:Pv 0 σ H) (hl:∀ i σ H,i<=xs.length->Pv i σ H->aS K H a xs)
  (hs:∀ i x σ H,xs[i]?=some x->Pv i σ H->g x σ H λσ2 H2=>tb { D with nx:=Pv (i+1),ct:=Pv (i+1),bk:=D.nx } σ2 H2) (hd:∀ σ H,Pv xs.length σ H->D.nx σ H):Loop (wH K a) g tb D σ H:=uM Pv h0 hl hs hd
theorem uX {K:PySem.W.Frag} {a:Addr} {xs:List V} {g:TG} {tb:TS} {D:Ends} {σ:St} {H:Hp} (Pv:Nat->St->Hp->Prop) (h0:Pv 0 σ H) (hl:∀ i σ H,i<=xs.length->Pv i σ H->aL K H a xs)
  (hs:∀ i x σ H,xs[i]?=some x->Pv i σ H->g x σ H λσ2 H2=>tb { D with nx:=Pv (i+1),ct:=Pv (i+1),bk:=D.nx } σ2 H2) (hd:∀ σ H,Pv xs.length σ H->D.nx σ H):Loop (zC K a) g tb D σ H:=xb Pv h0 hl hs hd
def kG (J:It) (js:List (Option Nat)) (g:TG) (tt:TT) (te:TE) (σ:St) (Q:VK) (H1:Hp):Prop:=∃ W:Nat->Nat->List V->Hp->Prop,(∃ m,W 0 m [] H1)/\∀ i m ys H,W i m ys H ->
 (J.stop i H/\ys.length<=sizeLine/\∀ p,H p=none->Q (.ref p) (upd H p (.lst ys))) ∨
 (J.go i H/\ys.length<sizeLine/\∃ N:List V->Hp->Prop,(∀ ys' H',N ys' H'->∃ m',m'<m/\W (i+1) m' ys' H') /\
  ∀ x H',J.yld i H x H'->g x (cG js σ) H' λσ2 H2=>bL (cG js σ) σ2/\tt σ2 H2 λb H3=>if b=true then te σ2 H3 λv H4=>N (ys++[v]) H4 else N ys H3)
theorem AF {js:List (Option Nat)} {wi:TI} {g:TG} {tt:TT} {te:TE} {σ:St} {H:Hp} {Q:VK}:Cy js wi g tt te σ H Q=wi σ H λJ H1=>kG J js g tt te σ Q H1:=rfl
theorem c7 {K:PySem.W.Frag} {a:Addr} {xs:List V} {js:List (Option Nat)} {g:TG} {tt:TT} {te:TE} {σ:St} {Q:VK} {H1:Hp} (Pv:Nat->List V->Hp->Prop) (h0:Pv 0 [] H1) (hx:xs.length<=sizeLine) (hl:∀ i ys H,i<=xs.length->Pv i ys H->aS K H a xs/\ys.length<=i)
  (hs:∀ i x ys H,xs[i]?=some x->Pv i ys H->g x (cG js σ) H λσ2 H2=>bL (cG js σ) σ2/\tt σ2 H2 λb H3=>if b=true then te σ2 H3 λv H4=>Pv (i+1) (ys++[v]) H4 else Pv (i+1) ys H3)
  (hd:∀ ys H p,Pv xs.length ys H->H p=none->Q (.ref p) (upd H p (.lst ys))):kG (wH K a) js g tt te σ Q H1:=by
 refine⟨λi m ys H=>m=xs.length-i/\i<=xs.length/\Pv i ys H,⟨xs.length,by simp,Nat.zero_le _,h0⟩,?_⟩
 rintro i m ys H ⟨rfl,hi,p⟩
 obtain⟨q,hy⟩:=hl i ys H hi p
 by_cases hlt:i<xs.length
 ·refine .inr ⟨⟨xs,xs[i],q,by simp [hlt]⟩,by omega,Pv (i+1),λys' H' p'=>⟨xs.length-(i+1),by omega,rfl,hlt,p'⟩,λx H' y=>?_⟩
  obtain⟨e,y⟩:=y
  subst e
  exact hs i x ys _ (y xs q) p
 ·have e:i=xs.length:=by omega
  subst e
  exact .inl ⟨⟨xs,q,Nat.le_refl _⟩,by omega,λp' hp'=>hd ys H p' p hp'⟩
theorem kP {K:PySem.W.Frag} {a:Addr} {xs:List V} {js:List (Option Nat)} {g:TG} {tt:TT} {te:TE} {σ:St} {Q:VK} {H1:Hp} (Pv:Nat->List V->Hp->Prop) (h0:Pv 0 [] H1) (hx:xs.length<=sizeLine) (hl:∀ i ys H,i<=xs.length->Pv i ys H->aL K H a xs/\ys.length<=i)
  (hs:∀ i x ys H,xs[i]?=some x->Pv i ys H->g x (cG js σ) H λσ2 H2=>bL (cG js σ) σ2/\tt σ2 H2 λb H3=>if b=true then te σ2 H3 λv H4=>Pv (i+1) (ys++[v]) H4 else Pv (i+1) ys H3)
  (hd:∀ ys H p,Pv xs.length ys H->H p=none->Q (.ref p) (upd H p (.lst ys))):kG (zC K a) js g tt te σ Q H1:=by
 refine⟨λi m ys H=>m=xs.length-i/\i<=xs.length/\Pv i ys H,⟨xs.length,by simp,Nat.zero_le _,h0⟩,?_⟩
 rintro i m ys H ⟨rfl,hi,p⟩
 obtain⟨q,hy⟩:=hl i ys H hi p
 by_cases hlt:i<xs.length
 ·refine .inr ⟨⟨xs,xs[i],q,by simp [hlt]⟩,by omega,Pv (i+1),λys' H' p'=>⟨xs.length-(i+1),by omega,rfl,hlt,p'⟩,λx H' y=>?_⟩
  obtain⟨e,y⟩:=y
  subst e
  exact hs i x ys _ (y xs q) p
 ·have e:i=xs.length:=by omega
  subst e
  exact .inl ⟨⟨xs,q,Nat.le_refl _⟩,by omega,λp' hp'=>hd ys H p' p hp'⟩
theorem DH {CX:jI} {P:Program} {w:World} {K:PySem.W.Frag} {mg:Str->Option Value} {base:Heap} {N:List Str} {qual:Str} {scope:Scope} {f:Addr} {cd:Value} {A:Around} {outer:List Env} {s:Shared} {H:Hp} {E:XK} :
  (fc CX P w K mg base N qual scope f cd A outer s H E).K=K:=rfl
theorem Bl {X:Cx} {N':List Str} {scope:Scope} {cl:List (Str × Addr)} {C:Addr} {s₂:Shared} {H₂:Hp} {fp:List Addr}:(de X N' scope cl C s₂ H₂ fp).K=X.K:=rfl
theorem aK {K:PySem.W.Frag} {b k:Bool} {H:Hp}:wM K (.bl b) H k=(k=b):=rfl
theorem wm {K:PySem.W.Frag} {i:Int} {k:Bool} {H:Hp}:wM K (.int i) H k=(k=(i != 0)):=rfl
def x8 (K:PySem.W.Frag):List V->Hp->VK->Prop:=λxs H Q=>∃ p ys,xs=[.ref p]/\(aS K H p ys∨aL K H p ys)/\Q (.int ys.length) H
theorem aU {X:Cx}:dW X (.builtin "len") (x8 X.K):=lI
theorem cp {K:PySem.W.Frag} {H:Hp} {p:Addr} {xs:List V} {Q:VK} (h:aS K H p xs) (q:Q (.int xs.length) H):x8 K [.ref p] H Q:=⟨p,xs,rfl,.inl h,q⟩
theorem dE {K:PySem.W.Frag} {H:Hp} {p:Addr} {xs:List V} {Q:VK} (h:aL K H p xs) (q:Q (.int xs.length) H):x8 K [.ref p] H Q:=⟨p,xs,rfl,.inr h,q⟩
theorem iQ {K:PySem.W.Frag} {H:Hp} {p:Addr} {bs:List Bool} {Q:VK} (h:aS K H p (bs.map V.bl)) (q:Q (.bl (bs.all id)) H):Aq K [.ref p] H Q:=⟨p,bs,rfl,h,q⟩
theorem jG {a b:Int}:kB (.int a) (.int b)=true:=rfl
theorem yh {a b:Bool}:kB (.bl a) (.bl b)=true:=rfl
theorem yj {a:Int}:kB (.int a) .cj=true:=rfl
theorem yk {a:Int}:kB .cj (.int a)=true:=rfl
theorem ym:kB .cj .cj=true:=rfl
theorem yi {a:Bool}:kB (.bl a) .cj=true:=rfl
theorem yn {a b:Str}:kB (.str a) (.str b)=true:=rfl
def BX (t:TS):TS:=λD σ H=>∃ R:St->Hp->Prop,t { D with nx:=R } σ H/\∀ σ' H',R σ' H'->D.nx σ' H'
theorem cS {X:Cx} {st:Stmt} {t:TS} (h:PS X st t):PS X st (BX t):=by
 intro pins s σ H D I ⟨R,hw,hR⟩
 refine bK (h pins s σ H _ I hw) λf s' q=>?_
 cases f with
 | next=>obtain⟨σ',H',I',r⟩:=q;exact⟨σ',H',I',hR _ _ r⟩
 | brk=>exact q
 | cont=>exact q
 | ret u=>exact q
theorem w6 {P:Program} {w:World} {K:PySem.W.Frag} {mg:Str->Option Value} {base:Heap} {k:Nat} {x:Str} {ps:List Str} {sp:Sp} {st:Stmt} {N:List Str} {f:Addr} {fd:FuncData} (F:wB K x x st f fd)
  (S:aE N ps (au st)) (len:∀ vs H Q E,sp vs H Q E->vs.length=ps.length)
  (hbody:∀(cdv:Value) (A:Around) (outer:List Env) (s:Shared) (H:Hp) (vs:List V) (Q:VK) (E:XK),c6 k (A.deeper (envOfC x (au st) s.heap.objs.size f cdv))->sp vs H Q E ->
   ∃ t,jv (fc aT P w K mg base N x (au st) f cdv A outer s H E).oR (bG st) t/\t { nx:=λ_ H'=>Q .cj H',rt:=Q } (start N vs) H):dJ P w K mg base aT (k+1) f fd ps sp :=
 F.ok S len λcdv A outer s H vs Q E hr h=>hbody cdv A outer s H vs Q E hr h
theorem xq {P:Program} {w:World} {K:PySem.W.Frag} {mg:Str->Option Value} {k:Nat} {x y:Str} {sp:Sp} {st:Stmt} {fa:Addr} (hfa:mg x=some (.ref fa)) (D:aC K mg x st)
  (hb:∀(kV doc pm:Value) (an:Option Addr) (cdv ct:Value) (u:Value),bindArgs (PySem.W.fnOf x x (cK st) (bG st) (au st) .none kV doc pm an cdv ct) ⟨[u],[]⟩=pure [(y,u)])
  (ok:∀(base:Heap) (f:Addr) (fd:FuncData),K.In base->wB K x x st f fd->dJ P w K mg base aT k f fd [y] sp) :
  ∃ fd:FuncData,(∀(s:Shared) (u:Value),BindsTo s fd ⟨[u],[]⟩ [(y,u)])/\∀ base:Heap,K.In base->base.Ns mainGlobals mg->dJ P w K mg base aT k fa fd [y] sp:=by
 obtain⟨f,fd,F,hm⟩:=D
 have e:=hfa.symm.trans hm
 cases e
 refine⟨fd,λs u=>?_,λbase kb _=>ok base _ _ kb F⟩
 obtain⟨oc,od,kV,doc,pm,an,cdv,ct,osl,rfl,lk,hcd⟩:=F.ex
 exact .of_eq (hb kV doc pm an cdv ct u)
end L2
namespace L2
open PySem PySem.Spec PyProof.Rows PySem.W
def cZ:List Value:=[.type "ValueError",.type "Exception",.type "BaseException",.type "object"]
def cP:List Value->Bool
 | .ref _::r=>cP r
 | l=>l==cZ
theorem ou (self:Value):refuseLoop self "__setattr__" cZ=pure ():=by kernel_rfl
theorem j6 (self:Value):∀{l:List Value},cP l=true->refuseLoop self "__setattr__" l=pure ()
 | .ref c::r,e=>by rw [refuseLoop_ref];exact j6 self (l:=r) e
 | [],e=>by cases e
 | .type n::r,e=>by
  have:Value.type n::r=cZ:=by simpa [cP] using e
  rw [this];exact ou self
 | .none::r,e=>by simp [cP,cZ] at e
 | .bool _::r,e=>by simp [cP,cZ] at e
 | .int _ _::r,e=>by simp [cP,cZ] at e
 | .str _ _::r,e=>by simp [cP,cZ] at e
 | .bytes _ _::r,e=>by simp [cP,cZ] at e
 | .float _ _::r,e=>by simp [cP,cZ] at e
 | .builtin _::r,e=>by simp [cP,cZ] at e
theorem lS {l:List Value}:cP l=true->l.contains (.type "object")=true/\l.contains (.type "BaseException")=true/\l.isEmpty=false:=by
 intro h
 induction l with
 | nil=>cases h
 | cons a r ih =>
  cases a with
  | ref c =>
   obtain⟨h1,h2,_⟩:=ih h
   exact⟨by rw [List.contains_cons,h1,Bool.or_true],by rw [List.contains_cons,h2,Bool.or_true],rfl⟩
  | type n =>
   have e:Value.type n::r=cZ:=by simpa [cP] using h
   rw [e]
   exact⟨by decide,by decide,rfl⟩
  | _=>simp [cP,cZ] at h
section
variable {prog:Program} {w:World} {A:Around} {E:Value->Shared->Prop} {s:Shared} {K:PySem.W.Frag} {x C:Addr} {name:Str} {v:Value} {cd:ClassData}
theorem w5 {vs:Array Value} {sl:Array (Option Value)} {Q:Unit->Shared->Prop} (X:K.In s.heap) (hx:s.heap.get? x=some ⟨.ref C,none,.fields vs,sl⟩) (hc:clsIn K C=some cd) (hm:cP cd.mro=true) (hh:cd.hasDict=true)
  (hs:findIn K (.ref C) "__setattr__"=some (some (.builtin "object.__setattr__"))) (hn:findIn K (.ref C) name=some none)
  (h:∀ h',h'.get? x=some ⟨.ref C,some s.heap.objs.size,.fields vs,sl⟩->h'.Ns1 s.heap.objs.size (λy=>if y=name then some v else none)->(∀ b ob,b≠x->s.heap.get? b=some ob->h'.get? b=some ob)->Q () { s with heap:=h',toks:=s.toks+2 }) :
  wpAny (model prog w) A (setAttr (.ref x) name v) Q E s:=by
 have I:PySem.W.InstAt s.heap x ⟨.ref C,none,.fields vs,sl⟩ C none:=⟨hx,rfl,rfl,True.intro⟩
 obtain⟨m1,m2,m3⟩:=lS hm
 refine PySem.W.set_plain X I hs ?_
 have SF:=PySem.F.store_object
 have sub:Looks (model prog w) s.heap (isInstance (.ref x) (.type "object")) true:=I.type.andThen (looks_mroIn X (by unfold mroIn;rw [hc,Option.bind_some,if_neg (by rw [m3];decide),m1]))
 refine codeAny_call_builtin SF.slot.plain SF.entry (@check_slot (model prog w) _ _ { s with toks:=s.toks+1 } "object.__setattr__" "object" "__setattr__" (.ref x) [.str name s.toks,v] [] _ SF.kind SF.split sub (SF.args (.ref x) (.str name s.toks) v) ?_)
 have L1:Looks (model prog w) s.heap (mroOf (.ref C)) cd.mro:=(looks_clsIn X hc).andThen .now
 rw [osa_eq,refuse_eq]
 refine wpAny_bind (wpAny_bind (Looks.here (s:={ s with toks:=s.toks+1 }) I.type (wpAny_bind (Looks.here (s:={ s with toks:=s.toks+1 }) L1 ?_))))
 rw [j6 _ hm]
 refine wpAny_pure (wpAny_bind (Looks.here (s:={ s with toks:=s.toks+1 }) I.type (wpAny_bind (Looks.here (s:={ s with toks:=s.toks+1 }) (looks_findIn X hn) (wpAny_bind (wpAny_pure ?_))))))
 show wpAny _ _ (Builtin.ObjectAttr.storeInOwnDict (.ref x) (.ref C) (.str name s.toks) name v false) _ _ _
 refine wpAny_bind (wpAny_pure (wpAny_bind (wpAny_bind (wpAny_loadPart hx (wpAny_bind (Looks.here (s:={ s with toks:=s.toks+1 }) (looks_clsIn X hc) ?_))))))
 rw [hh]
 refine wpAny_bind (wpAny_alloc ?_)
 have hlt:x≠s.heap.objs.size:=Nat.ne_of_lt (Heap.lt_size hx)
 have hp:(s.heap.push { cls:=.type "dict",data:=.dict #[] }).get? x=some ⟨.ref C,none,.fields vs,sl⟩:=Heap.get?_push_of_some _ hx
 refine wpAny_bind (wpAny_update (s:={ s with toks:=s.toks+1,heap:=s.heap.push { cls:=.type "dict",data:=.dict #[] } }) hp ?_)
 refine wpAny_pure ?_
 show wpAny _ _ (Builtin.ObjectAttr.storeInDict s.heap.objs.size (.str name s.toks) name v) _ _ _
 generalize hu:(s.heap.push { cls:=.type "dict",data:=.dict #[] }).update x (λo=>{ o with dict:=some s.heap.objs.size })=h1
 have g1:h1.get? x=some ⟨.ref C,some s.heap.objs.size,.fields vs,sl⟩:=by rw [<- hu];exact Heap.get?_update_self _ hp rfl
 have g2:∀ b,b≠x->h1.get? b=(s.heap.push { cls:=.type "dict",data:=.dict #[] }).get? b:=λb hb=>by rw [<- hu];exact Heap.get?_update_other _ _ (Ne.symm hb)
 have g3:h1.Ns1 s.heap.objs.size (λ_=>none):=by
  have e1:h1.get? s.heap.objs.size=some { cls:=.type "dict",data:=.dict #[] }:=by rw [g2 _ (Ne.symm hlt)];exact Heap.get?_push_size _ rfl
  have e3:h1.Ns s.heap.objs.size (λ_=>none):=⟨_,#[],_,e1,rfl,(λe he=>absurd he (by simp)),λ_=>rfl⟩
  exact Heap.Ns1.of_empty e3
 refine wpAny_bind (wpAny_pure (wpAny_bind ?_))
 refine wpAny_nsSet1 (s:={ s with toks:=s.toks+1,heap:=h1 }) g3 λh' hn2 hs2=>?_
 obtain⟨oD,esD,epD,hoD,hdD,hcD⟩:=hn2.count (ns:=[name]) (PySem.Within.cons name v (ns:=[]) (λy hy=>absurd rfl hy))
 refine wpAny_bind (wpAny_lookBehind hoD (by rw [hdD];exact pastItsLine_dict (Nat.le_trans hcD (by show 1<=sizeLine+1;decide))) ?_)
 refine wpAny_pure (h h' ((hs2.2 _ hlt).trans g1) hn2 λb ob hb e=>?_)
 have hb2:b≠s.heap.objs.size:=Nat.ne_of_lt (Heap.lt_size e)
 exact (hs2.2 b hb2).trans ((g2 b hb).trans (Heap.get?_push_of_some _ e))
structure d7 (K:PySem.W.Frag) (C:Addr):Prop where
 cls:∃ cd,clsIn K C=some cd/\cP cd.mro=true/\cd.hasDict=true
 at_:∃ od cd sl,K.lookup C=some ⟨.type "type",od,.cls cd,sl⟩
 sa:findIn K (.ref C) "__setattr__"=some (some (.builtin "object.__setattr__"))
 ga:findIn K (.ref C) "__getattribute__"=some (some (.builtin "BaseException.__getattribute__"))
 gx:findIn K (.ref C) "__getattr__"=some none
 ca:findIn K (.ref C) "__class__"=some (some (.builtin "object.__class__"))
 gs:specialIn K (.builtin "object.__class__") "__get__"=some (some (.builtin "getset_descriptor.__get__"))
 tk:takesIn K (.builtin "object.__class__")=some true
theorem d7.there (c:d7 K C) {h:Heap} (X:K.In h):∃ oc od cd sl,h.get? C=some ⟨oc,od,.cls cd,sl⟩:=by
 obtain⟨cd,hc,_⟩:=c.cls
 unfold clsIn at hc
 split at hc
 ·rename_i c' d' cd' sl' ho
  exact⟨_,_,_,_,X _ _ ho⟩
 ·cases hc
end
section
variable {prog:Program} {w:World} {A:Around} {E:Value->Shared->Prop} {h:Heap} {g:Array GenState} {d:Drawn} {t:Nat} {os:OsState}
variable {nm q:Str} {C N:Addr} {bs bm:List Value} {hdct:Bool} {sn:List Str} {sub:List Value} {ab:Bool} {col:Option Bool} {dd:Option Addr} {k0 k1 k2 k3 k5:Option Value}
abbrev kD:String := "ValueError.__new__"
abbrev newExc (C a:Addr):Obj:={ cls:=.ref C,data:=.fields #[.ref a,.none,.none,.none,.bool false,.none] }
theorem wZ (hB:bm.contains (.type "ValueError")=true) (hA:bm.contains (.type "AttributeError")=false) (hN:bm.contains (.type "NameError")=false) {rest:List Value} {R:Result->Shared->Prop}
  (hC:h.get? C=some (excClassObj nm q C N bs bm hdct sn sub ab col dd k0 k1 k2 k3 k5 kD)) (hrest:rest.length<=sizeLine)
  (hq:R (.ok (.ret (.ref (h.objs.size+1)))) ⟨(h.push { cls:=.type "tuple",data:=.seq rest.toArray }).push (newExc C h.objs.size),g,d,t,os⟩) :
  codeAny (model prog w) A (.builtin kD ⟨.ref C::rest,[]⟩) R ⟨h,g,d,t,os⟩:=by
 have Fn:=PySem.F.excBase_ValueError
 have hends:=Fn.ends
 have cB:(Value.ref C::bm).contains (.type "ValueError")=true:=by rw [List.contains_cons,hB,Bool.or_true]
 have cA:(Value.ref C::bm).contains (.type "AttributeError")=false:=by rw [List.contains_cons,hA];rfl
 have cN:(Value.ref C::bm).contains (.type "NameError")=false:=by rw [List.contains_cons,hN];rfl
 refine codeAny_builtinAt Fn.entry ?_
 unfold Builtin.«BaseException.__new__»
 refine PySem.wpAt_bind ?_
 show PySem.wpAt _ _ _ (stack >>= _) _ _ _
 refine PySem.wpAt_bind (PySem.wpAt_stack λp below=>PySem.wpAt_of_wpAny ?_)
 wp_walk
 refine PySem.wpAt_of_wpAny ?_
 rw [Fn.owner]
 repeat (first | with_reducible refine wpAny_madeHere_exc Fn.canon hC ?_ | with_reducible refine wpAny_loadPart_at hC ?_ | (with_reducible refine wpAny_isSubtype_exc hC ?_;first | rw [cB] | rw [cA] | rw [cN]) | wp_step)
 show R _ _
 rw [Heap.size_push]
 exact hq
theorem kx (hB:bm.contains (.type "ValueError")=true) {rest:List Value} {M:Model} {Q:Unit->Shared->Prop} (hC:h.get? C=some (excClassObj nm q C N bs bm hdct sn sub ab col dd k0 k1 k2 k3 k5 kD))
  (hq:Q () ⟨h,g,d,t,os⟩):wpAny M A (checkBuiltinCall kD ⟨.ref C::rest,[]⟩) Q E ⟨h,g,d,t,os⟩:=by
 have Fn:=PySem.F.excBase_ValueError
 have cB:(Value.ref C::bm).contains (.type "ValueError")=true:=by rw [List.contains_cons,hB,Bool.or_true]
 have hstar:=Fn.noStar
 simp only [checkBuiltinCall,Fn.newKind,Fn.newSplit,Fn.newRow]
 repeat (first | refine wpAny_loadPart_at hC ?_ | (refine wpAny_isSubtype_exc hC ?_;rw [cB]) | refine wpAny_staticBase_exc hC ?_ | refine wpAny_madeBy_exc hC ?_ | simp only [bne_self_eq_false,Bool.false_eq_true,if_false] | wp_step)
 exact hq
theorem lT {K:PySem.W.Frag} {i:Value} {rest:List Value} {Q:Fin->Shared->Prop} (X:K.In h) (hB:bm.contains (.type "ValueError")=true) (hA:bm.contains (.type "AttributeError")=false) (hN:bm.contains (.type "NameError")=false)
  (hC:h.get? C=some (excClassObj nm q C N bs bm hdct sn sub ab col dd k0 k1 k2 k3 k5 kD)) (hrest:rest.length<=sizeLine) (hi:findIn K (.ref C) "__init__"=some (some i)) {j:Value}
  (hb:Looks (model prog w) h (bindSpecial i (.ref (h.objs.size+1))) (j,[.ref (h.objs.size+1)]))
  (hq:codeAny (model prog w) A (.call j ⟨.ref (h.objs.size+1)::rest,[]⟩) (λr s'=>match r with | .ok (.ret v)=>v=.none/\Q (.done (.ret (.ref (h.objs.size+1)))) s' | .ok _=>False | .error e=>E e s')
   ⟨(h.push { cls:=.type "tuple",data:=.seq rest.toArray }).push (newExc C h.objs.size),g,d,t,os⟩) :
  wpAny (model prog w) A (Builtin.«type.__call__» ⟨.ref C::rest,[]⟩) Q E ⟨h,g,d,t,os⟩:=by
 have Fn:=PySem.F.excBase_ValueError
 repeat (first | with_reducible refine wpAny_loadPart_at hC ?_ | with_reducible refine wpAny_madeBy_exc hC ?_ | wp_step)
 refine codeAny_call_builtin_code (Code.quiet_builtin _ Fn.quiet) (kx hB hC ?_)
 refine wZ hB hA hN hC hrest ?_
 show wpAny _ _ _ _ _ _
 have kp:∀ b o,h.get? b=some o->((h.push { cls:=.type "tuple",data:=.seq rest.toArray }).push (newExc C h.objs.size)).get? b=some o:=λb o e=>Heap.get?_push_of_some _ (Heap.get?_push_of_some _ e)
 have hget:((h.push { cls:=.type "tuple",data:=.seq rest.toArray }).push (newExc C h.objs.size)).get? (h.objs.size+1)=some (newExc C h.objs.size):=by
  have:=Heap.get?_push_size (h.push { cls:=.type "tuple",data:=.seq rest.toArray }) (o:=newExc C h.objs.size) rfl
  rwa [Heap.size_push] at this
 have cC:(Value.ref C::bm).contains (.ref C)=true:=by simp
 have hC₁:=kp _ _ hC
 have L1:=(looks_findIn (M:=model prog w) X hi).keeps kp
 have L2:=hb.keeps kp
 unfold isInstance
 repeat (first | with_reducible refine wpAny_loadPart_at hget ?_ | (with_reducible refine wpAny_isSubtype_exc hC₁ ?_;rw [cC]) | wp_step)
 show wpAny _ _ (typeLookup (.ref C) _) _ _ _
 refine L1.at (wpAny_holding (wpAny_bind (L2.at (wpAny_bind (wpAny_call (codeAny_mono hq λr s' z=>?_))))))
 rcases r with e | (_ | _ | _ | v)
 ·exact z
 ·exact z.elim
 ·exact z.elim
 ·exact z.elim
 ·obtain⟨rfl,z⟩:=z
  exact wpAny_pure (wpAny_pure z)
theorem nG {K:PySem.W.Frag} {i:Value} {rest:List Value} {Q:Value->Shared->Prop} (X:K.In h) (hB:bm.contains (.type "ValueError")=true) (hA:bm.contains (.type "AttributeError")=false) (hN:bm.contains (.type "NameError")=false)
  (hC:h.get? C=some (excClassObj nm q C N bs bm hdct sn sub ab col dd k0 k1 k2 k3 k5 kD)) (hrest:rest.length<=sizeLine) (hi:findIn K (.ref C) "__init__"=some (some i)) {j:Value}
  (hb:Looks (model prog w) h (bindSpecial i (.ref (h.objs.size+1))) (j,[.ref (h.objs.size+1)]))
  (hq:codeAny (model prog w) (A.under (.builtin "type.__call__" ⟨.ref C::rest,[]⟩)) (.call j ⟨.ref (h.objs.size+1)::rest,[]⟩) (λr s'=>match r with | .ok (.ret v)=>v=.none/\Q (.ref (h.objs.size+1)) s' | .ok _=>False | .error e=>E e s')
   ⟨(h.push { cls:=.type "tuple",data:=.seq rest.toArray }).push (newExc C h.objs.size),g,d,t,os⟩) :
  wpAny (model prog w) A (call (.ref C) rest) Q E ⟨h,g,d,t,os⟩:=by
 have f1:=tc_lookup
 have f2:=tc_bind (.ref C)
 have hT:(⟨h,g,d,t,os⟩:Shared).TypeIs (.ref C) "type":=⟨_,hC,rfl⟩
 refine wpAny_call (codeAny_of_tree ?_)
 show wpAny _ _ (callAny (.ref C) _) _ _ _
 repeat (any_goals (first | assumption | with_reducible refine wpAny_loadPart_at hC ?_ | wp_step))
 refine⟨rfl,?_⟩
 refine codeAny_call_builtin_at (Code.quiet_builtin _ (by decide +kernel)) entry_typeCall (wpAny_check_type_call_sub hC ?_)
 exact lT X hB hA hN hC hrest hi hb hq
end
def Tr (h:Heap) (e:Addr) (C:Value) (dd:Option Addr) (T:Addr) (fl:Value):Prop :=
 ∃ vs sl oT ts,h.get? e=some ⟨C,dd,.fields vs,sl⟩/\vs[1]?=some (.ref T)/\T≠e/\h.get? T=some oT/\oT.data=.fields ts/\ts[3]?=some fl
structure Kp (fs ch:List Addr) (h h':Heap):Prop where
 keep:∀ b o,b∉ch->b∉fs->h.get? b=some o->h'.get? b=some o
 slot:∀ b o,b∉ch->h.get? b=some o->∃ sl,h'.get? b=some { o with slots:=sl }
theorem Kp.trans {fs ch:List Addr} {h h' h'':Heap} (a:Kp fs ch h h') (b:Kp fs ch h' h''):Kp fs ch h h'' :=
 ⟨λc o hc hf e=>b.keep c o hc hf (a.keep c o hc hf e),λc o hc e=>by
  obtain⟨sl,e1⟩:=a.slot c o hc e
  obtain⟨sl',e2⟩:=b.slot c _ hc e1
  exact⟨sl',e2⟩⟩
theorem Kp.mono {fs ch ch':List Addr} {h h':Heap} (a:Kp fs ch h h') (hs:∀ b∈ch,b∈ch'):Kp fs ch' h h' :=
 ⟨λc o hc hf e=>a.keep c o (λz=>hc (hs c z)) hf e,λc o hc e=>a.slot c o (λz=>hc (hs c z)) e⟩
section
variable {M:Model} {A:Around} {E:Value->Shared->Prop} {s:Shared} {base:Heap} {env:Env} {outer:List Env} {L e T:Addr} {C:Value} {dd:Option Addr} {fl:Value}
theorem nI {vs:Array Value} {sl:Array (Option Value)} {head:Value} {hadNext:Bool} {Q:Unit->Shared->Prop} (hfr:A.frames=some (env::outer)) (hl:s.heap.FunFrames base (env::outer)) (hf:env.frame=some L)
  (he:s.heap.get? e=some ⟨C,dd,.fields vs,sl⟩) (hsz:1<vs.size)
  (h:∀ h' T,Tr h' e C dd T (rawInt L)->s.heap.objs.size<=T->Kp (gw (env::outer)) [e] s.heap h'->Q () { s with heap:=h' }) :
  wpAny M A (do let a <- frameOf env;let pl <- entryPlaceOf L hadNext;let b <- EntryCells.newEntry head a .none (rawInt L) .none pl;setField (.ref e) 1 b) Q E s:=by
 have hne:e∉gw (env::outer):=λhm=>by
  obtain⟨_,o,ho,hnf⟩:=hl.mem hm
  rw [he] at ho
  cases ho
  exact hnf vs rfl
 refine wpAny_bind (wpAny_frameOf_fun hfr hl hf λh1 so=>?_)
 refine wpAny_bind (wpAny_entryPlaceOf λpl hpl=>?_)
 unfold EntryCells.newEntry newFields
 refine wpAny_bind (wpAny_newObj_type ?_ (hpl.sizeOk5 _ _ _ _ _))
 have e1:h1.get? e=some ⟨C,dd,.fields vs,sl⟩:=(so.2.1 e hne).trans he
 generalize hO:({ cls:=.type "traceback",dict:=none,data:=.fields ([head,.ref L,.none,rawInt L,.none]++(if pl.isEmpty then List.replicate 6 Value.none else pl)).toArray }:Obj)=oT
 have hTd:oT.data=.fields ([head,.ref L,.none,rawInt L,.none]++(if pl.isEmpty then List.replicate 6 Value.none else pl)).toArray:=by rw [<- hO]
 have hTf:oT.isFreed=false:=by rw [<- hO];rfl
 have e2:(h1.push oT).get? e=some ⟨C,dd,.fields vs,sl⟩:=Heap.get?_push_of_some oT e1
 refine wpAny_setField e2 rfl hsz (h _ h1.objs.size ?_ ?_ ?_)
 ·have ne:h1.objs.size≠e:=Nat.ne_of_gt (Heap.lt_size e1)
  refine⟨vs.setIfInBounds 1 (.ref h1.objs.size),sl,oT,_,Heap.get?_update_self _ e2 rfl,by simp [hsz],ne,?_,hTd,by simp⟩
  rw [Heap.get?_update_other _ _ (Ne.symm ne)]
  exact Heap.get?_push_size h1 hTf
 ·exact Nat.le_of_eq (Eq.symm so.1)
 ·refine⟨λb o hb hf' q=>?_,λb o hb q=>?_⟩
  ·have hb':b≠e:=λz=>hb (by simp [z])
   rw [Heap.get?_update_other _ _ (Ne.symm hb')]
   exact Heap.get?_push_of_some oT ((so.2.1 b hf').trans q)
  ·have hb':b≠e:=λz=>hb (by simp [z])
   obtain⟨sl',q'⟩:=so.2.2 b o q
   refine⟨sl',?_⟩
   rw [Heap.get?_update_other _ _ (Ne.symm hb')]
   exact Heap.get?_push_of_some oT q'
theorem pS {vs:Array Value} {sl:Array (Option Value)} {Q:Unit->Shared->Prop} (hfr:A.frames=some (env::outer)) (hl:s.heap.FunFrames base (env::outer)) (hf:env.frame=some L)
  (he:s.heap.get? e=some ⟨C,dd,.fields vs,sl⟩) (h1:vs[1]?=some .none)
  (h:∀ h' T,Tr h' e C dd T (rawInt L)->s.heap.objs.size<=T->Kp (gw (env::outer)) [e] s.heap h'->Q () { s with heap:=h' }):wpAny M A (noteFrame (.ref e) env) Q E s:=by
 unfold noteFrame
 simp only [hf]
 refine wpAny_bind (wpAny_field he rfl h1 ?_)
 rw [if_neg (by decide)]
 exact nI hfr hl hf he (Array.getElem?_eq_some_iff.mp h1).1 h
theorem sV {Q:Unit->Shared->Prop} (hfr:A.frames=some (env::outer)) (hl:s.heap.FunFrames base (env::outer)) (hf:env.frame=some L) (ht:Tr s.heap e C dd T .none)
  (h:∀ h' T',Tr h' e C dd T' (rawInt L)->s.heap.objs.size<=T'->Kp (gw (env::outer)) [e,T] s.heap h'->Q () { s with heap:=h' }):wpAny M A (noteFrame (.ref e) env) Q E s:=by
 obtain⟨vs,sl,oT,ts,he,h1,hTe,hT,hdT,h3⟩:=ht
 unfold noteFrame
 simp only [hf]
 refine wpAny_bind (wpAny_field he rfl h1 ?_)
 rw [if_pos (show (Value.ref T != Value.none)=true from by simp)]
 refine wpAny_bind (wpAny_field hT hdT h3 ?_)
 rw [if_neg (show ¬((Value.none==rawInt L)=true) from by simp [rawInt])]
 refine wpAny_bind (wpAny_setField hT hdT (Array.getElem?_eq_some_iff.mp h3).1 ?_)
 generalize hu:s.heap.update T (Obj.mapFields (·.setIfInBounds 3 Value.none))=h1'
 have oth:∀ b,b≠T->h1'.get? b=s.heap.get? b:=λb hb=>by rw [<- hu];exact Heap.get?_update_other _ _ (Ne.symm hb)
 have hT1:∃ o,h1'.get? T=some o:=⟨_,by rw [<- hu];exact Heap.get?_update_self _ hT (Obj.isFreed_of_fields (Obj.data_mapFields hdT _))⟩
 have hl1:h1'.FunFrames base (env::outer):=hl.of_keeps λb o hb hnf=>⟨o,(oth b λq=>by rw [q,hT] at hb;cases hb;exact hnf ts hdT).trans hb,rfl⟩
 refine nI (s:={ s with heap:=h1' }) hfr hl1 hf ((oth e (Ne.symm hTe)).trans he) (Array.getElem?_eq_some_iff.mp h1).1 λh' T' t' n' k'=>h h' T' t' ?_ ?_
 ·have z:h1'.objs.size=s.heap.objs.size:=by rw [<- hu];exact Heap.size_update ..
  rw [<- z];exact n'
 ·refine⟨λb o hb hf' q=>k'.keep b o (λz=>hb (by simp at z;simp [z])) hf' ((oth b λz=>hb (by simp [z])).trans q),λb o hb q=>k'.slot b o (λz=>hb (by simp at z;simp [z])) ((oth b λz=>hb (by simp [z])).trans q)⟩
theorem land {Q:Unit->Shared->Prop} {fs:List Addr} (ht:Tr s.heap e C dd T fl) (h:∀ h',Tr h' e C dd T .none->Kp fs [T] s.heap h'->Q () { s with heap:=h' }):wpAny M A (setFlight (.ref e) none) Q E s:=by
 obtain⟨vs,sl,oT,ts,he,h1,hTe,hT,hdT,h3⟩:=ht
 unfold setFlight
 refine wpAny_bind (wpAny_field he rfl h1 ?_)
 rw [if_pos (show (Value.ref T != Value.none)=true from by simp)]
 have hsz:=(Array.getElem?_eq_some_iff.mp h3).1
 refine wpAny_setField hT hdT hsz (h _ ?_ ?_)
 ·refine⟨vs,sl,_,_,(Heap.get?_update_other _ _ hTe).trans he,h1,hTe,Heap.get?_update_self _ hT (Obj.isFreed_of_fields (Obj.data_mapFields hdT _)),Obj.data_mapFields hdT _,by simp [hsz]⟩
 ·refine⟨λb o hb _ q=>(Heap.get?_update_other _ _ λz=>hb (by simp [z])).trans q,λb o hb q=>⟨o.slots,(Heap.get?_update_other _ _ λz=>hb (by simp [z])).trans q⟩⟩
theorem nM {vs:Array Value} {sl:Array (Option Value)} {Q:Unit->Shared->Prop} (hfr:A.frames=some (env::outer)) (hl:s.heap.FunFrames base (env::outer)) (hf:env.frame=some L)
  (he:s.heap.get? e=some ⟨C,dd,.fields vs,sl⟩) (h1:vs[1]?=some .none)
  (h:∀ h' T,Tr h' e C dd T .none->s.heap.objs.size<=T->Kp (gw (env::outer)) [e] s.heap h'->Q () { s with heap:=h' }):wpAny M A (leaving env (.ref e)) Q E s:=by
 unfold leaving
 refine wpAny_bind (pS hfr hl hf he h1 λh1' T t1 n1 k1=>?_)
 refine land (fs:=gw (env::outer)) t1 λh2 t2 k2=>h h2 T t2 n1 ⟨λb o hb hf' q=>?_,λb o hb q=>?_⟩
 ·exact k2.keep b o (λz=>by simp at z;rw [z] at q;exact absurd (Heap.lt_size q) (Nat.not_lt.mpr n1)) hf' (k1.keep b o hb hf' q)
 ·obtain⟨s1,q1⟩:=k1.slot b o hb q
  obtain⟨s2,q2⟩:=k2.slot b _ (λz=>by simp at z;rw [z] at q;exact absurd (Heap.lt_size q) (Nat.not_lt.mpr n1)) q1
  exact⟨s2,q2⟩
theorem pO {Q:Unit->Shared->Prop} (hfr:A.frames=some (env::outer)) (hl:s.heap.FunFrames base (env::outer)) (hf:env.frame=some L) (ht:Tr s.heap e C dd T .none)
  (h:∀ h' T',Tr h' e C dd T' .none->s.heap.objs.size<=T'->Kp (gw (env::outer)) [e,T] s.heap h'->Q () { s with heap:=h' }):wpAny M A (leaving env (.ref e)) Q E s:=by
 unfold leaving
 refine wpAny_bind (sV hfr hl hf ht λh1' T' t1 n1 k1=>?_)
 refine land (fs:=gw (env::outer)) t1 λh2 t2 k2=>h h2 T' t2 n1 ⟨λb o hb hf' q=>?_,λb o hb q=>?_⟩
 ·exact k2.keep b o (λz=>by simp at z;rw [z] at q;exact absurd (Heap.lt_size q) (Nat.not_lt.mpr n1)) hf' (k1.keep b o hb hf' q)
 ·obtain⟨s1,q1⟩:=k1.slot b o hb q
  obtain⟨s2,q2⟩:=k2.slot b _ (λz=>by simp at z;rw [z] at q;exact absurd (Heap.lt_size q) (Nat.not_lt.mpr n1)) q1
  exact⟨s2,q2⟩
end
def XO (x C:Addr) (dd:Option Addr):HO:=.ext λh=>∃ vs sl,h.get? x=some ⟨.ref C,dd,.fields vs,sl⟩
def XN (x C:Addr) (dd:Option Addr):HO:=.ext λh=>∃ t sl,h.get? x=some ⟨.ref C,dd,.fields #[.ref t,.none,.none,.none,.bool false,.none],sl⟩
section
variable {P:Program} {w:World} {H H':Hp} {h h':Heap} {x C:Addr} {dd:Option Addr}
theorem XO.ok {vs:Array Value} {sl:Array (Option Value)} (e:h.get? x=some ⟨.ref C,dd,.fields vs,sl⟩):bP P w H h x (XO x C dd) :=
 ⟨⟨vs,sl,e⟩,⟨_,e⟩,λ_ _ ⟨vs,sl,q⟩ k=>⟨vs,sl,k _ q⟩⟩
theorem XN.ok {t:Addr} {sl:Array (Option Value)} (e:h.get? x=some ⟨.ref C,dd,.fields #[.ref t,.none,.none,.none,.bool false,.none],sl⟩):bP P w H h x (XN x C dd) :=
 ⟨⟨t,sl,e⟩,⟨_,e⟩,λ_ _ ⟨vs,sl,q⟩ k=>⟨vs,sl,k _ q⟩⟩
theorem XN.get (hok:fu P w H h) (e:H x=some (XN x C dd)):∃ t sl,h.get? x=some ⟨.ref C,dd,.fields #[.ref t,.none,.none,.none,.bool false,.none],sl⟩:=by
 obtain⟨q,_⟩:=(show bP P w H h x (XN x C dd) from hok x _ e)
 exact q
end
def gk (P:Program) (w:World):jI:=λouter H s E e s'=>∃(x C T:Addr) (dd:Option Addr) (H':Hp),e=.ref x/\s'.os=s.os/\AllBare s'.gens/\Un (gw outer) [] H H' s.heap s'.heap/\fu P w H' s'.heap /\
 Tr s'.heap x (.ref C) dd T .none/\s.heap.get? x=none/\s.heap.get? T=none/\H' T=none/\H' x=some (XO x C dd)/\E (.ref C) (some x) H'
theorem qJ {base h h':Heap} {H H':Hp} {ex:List Addr}:∀{l:List Env} {fs:List Addr},h.FunFrames base l->Un fs ex H H' h h'->(∀ b∈gw l,H b=none)->(∀ b∈gw l,b∉ex)->h'.FunFrames base l
 | [],_,_,_,_,_=>trivial
 | env::r,fs,hl,u,hn,hx=>by
  obtain⟨hk,⟨L,o,hf,hb,ho,hd⟩,hr⟩:=hl
  have hL:L∈gw (env::r):=by unfold gw;rw [List.filterMap_cons,hf];exact List.mem_cons_self
  have sub:∀ b∈gw r,b∈gw (env::r):=λb hb'=>by unfold gw;rw [List.filterMap_cons,hf];exact List.mem_cons_of_mem _ hb'
  obtain⟨sl,e⟩:=u.any ho (hn L hL) (hx L hL)
  exact⟨hk,⟨L,_,hf,hb,e,hd⟩,qJ hr u (λb hb'=>hn b (sub b hb')) λb hb'=>hx b (sub b hb')⟩
theorem qI {P:Program} {w:World} {H':Hp} {h h':Heap} {x C:Addr} {dd:Option Addr} {fs ch:List Addr} (hok:fu P w H' h) (k:Kp fs ch h h') (hch:∀ b∈ch,b=x∨H' b=none) (hfs:∀ b∈fs,H' b=none)
  (hx:H' x=some (XO x C dd)) {vs:Array Value} {sl:Array (Option Value)} (e:h'.get? x=some ⟨.ref C,dd,.fields vs,sl⟩):fu P w H' h':=by
 intro b o q
 by_cases hb:b=x
 ·subst hb
  rw [hx] at q
  cases q
  exact XO.ok e
 ·refine (hok b o q).ki (λc u hc r=>k.keep c u (λz=>?_) (λz=>?_) r) (λ_ r=>r) λ_ _ r=>r
  ·rcases hch c z with q1 | q1
   ·rcases hc with q2 | q2
    ·exact hb (q2.symm.trans q1)
    ·rw [q1,hx] at q2;cases q2
   ·rcases hc with q2 | q2
    ·rw [q2,q] at q1;cases q1
    ·rw [q2] at q1;cases q1
  ·have q1:=hfs c z
   rcases hc with q2 | q2
   ·rw [q2,q] at q1;cases q1
   ·rw [q2] at q1;cases q1
theorem vE {P:Program} {w:World} {K:PySem.W.Frag} {mg:Str->Option Value} {base:Heap} {N:List Str} {qual:Str} {scope:Scope} {f:Addr} {cd:Value} {A:Around} {outer:List Env} {s:Shared} {H:Hp} {E:XK} :
  Passes (gk P w) (fc (gk P w) P w K mg base N qual scope f cd A outer s H E) E:=by
 intro pins σ H1 s1 e s' I hq
 obtain⟨x,C,T,dd,H',rfl,os,bare,un,hok,tr,nx,nT,hT,hx,hE⟩:=hq
 have hl:=qJ I.stack un I.iJ (λb _=>by simp)
 have frN:∀ b∈gw (envOfC qual scope s.heap.objs.size f cd::outer),H' b=none:=λb hb=>by
  obtain⟨_,o,ho,_⟩:=I.stack.mem hb
  exact un.free b o ho (I.iJ b hb) (by simp)
 show wpAny (model P w) (A.deeper (envOfC qual scope s.heap.objs.size f cd)) (leaving (envOfC qual scope s.heap.objs.size f cd) (.ref x)) _ _ s'
 refine pO (L:=s.heap.objs.size) I.ok.frames hl rfl tr λh'' T' t' n' k'=>?_
 have old:∀ b o,s.heap.get? b=some o->b∉[x,T]:=λb o q hb=>by
  obtain⟨o1,q1⟩:=I.base.there b o q (by intro z;exact absurd (show b∈([]:List Addr) from z) (by simp))
  rcases List.mem_cons.mp hb with z | z
  ·rw [z,nx] at q1;cases q1
  ·rw [List.mem_singleton.mp z,nT] at q1;cases q1
 have nex:∀ b:Addr,b∉(fc (gk P w) P w K mg base N qual scope f cd A outer s H E).ex:=λb z=>absurd (show b∈([]:List Addr) from z) (by simp)
 have nfr:∀ b o,s.heap.get? b=some o->b∉gw outer->b∉gw (envOfC qual scope s.heap.objs.size f cd::outer):=λb o q hb hm=>by
  rcases List.mem_cons.mp (I.fR b hm) with z | z
  ·exact absurd (Heap.lt_size q) (by rw [z];exact Nat.lt_irrefl _)
  ·exact hb z
 obtain⟨vs,sl,oT,ts,he,r'⟩:=t'
 have tr':Tr h'' x (.ref C) dd T' .none:=⟨vs,sl,oT,ts,he,r'⟩
 refine⟨x,C,T',dd,H',rfl,os.trans I.os,bare,?_,?_,tr',?_,?_,hok.fresh n',hx,hE⟩
 ·refine⟨λb o q nn hb _=>?_,λb o q nn hb _=>?_,λb o q nn _=>?_,λb o q _=>?_,λb xs q=>un.tups b xs (I.base.tups b xs q),λb o xs q=>un.frzs b o xs (I.base.frzs b o xs q),λb ps q=>?_⟩
  ·have q1:=I.base.keep b o q nn hb (nex b)
   have q2:=un.keep b o q1 (I.base.free b o q nn (nex b)) (nfr b o q hb) (by simp)
   exact k'.keep b o (old b o q) (nfr b o q hb) q2
  ·obtain⟨s1',q1⟩:=I.base.slot b o q nn hb (nex b)
   obtain⟨s2',q2⟩:=un.any q1 (I.base.free b o q nn (nex b)) (by simp)
   obtain⟨s3',q3⟩:=k'.slot b _ (old b o q) q2
   exact⟨s3',q3⟩
  ·obtain⟨o1,q1⟩:=I.base.there b o q (nex b)
   exact un.free b o1 q1 (I.base.free b o q nn (nex b)) (by simp)
  ·obtain⟨o1,q1⟩:=I.base.there b o q (nex b)
   obtain⟨o2,q2⟩:=un.there b o1 q1 (by simp)
   obtain⟨s3',q3⟩:=k'.slot b _ (old b o q) q2
   exact⟨_,q3⟩
  ·obtain⟨m1,e1⟩:=I.base.tbls b ps q
   obtain⟨m2,e2⟩:=un.tbls b _ e1
   exact⟨m1++m2,by rw [e2,Array.append_assoc]⟩
 ·exact qI hok k' (λb hb=>by
   rcases List.mem_cons.mp hb with z | z
   ·exact .inl z
   ·exact .inr (by rw [List.mem_singleton.mp z];exact hT)) frN hx he
 ·cases q:s.heap.get? x with
  | none=>rfl
  | some o=>exact absurd (List.mem_cons_self) (old x o q)
 ·cases q:s.heap.get? T' with
  | none=>rfl
  | some o =>
   obtain⟨o1,q1⟩:=I.base.there T' o q (nex T')
   obtain⟨o2,q2⟩:=un.there T' o1 q1 (by simp)
   exact absurd (Heap.lt_size q2) (Nat.not_lt.mpr n')
section
variable {prog:Program} {w:World} {A:Around} {E:Value->Shared->Prop} {s:Shared} {K:PySem.W.Frag} {env:Env}
theorem ky {x:Sem Value} {Q:Flow->Shared->Prop} (hh:A.handled=none)
  (h:wpAny (model prog w) A x (λv s₁=>∃ e C t dd sl,v=.ref e/\K.In s₁.heap/\d7 K C/\s₁.heap.get? e=some ⟨.ref C,dd,.fields #[.ref t,.none,.none,.none,.bool false,.none],sl⟩/\E (.ref e) s₁) E s) :
  wpAny (model prog w) A (raiseStmt env (some x) none) Q E s:=by
 unfold raiseStmt
 refine wpAny_bind (wpAny_mono h (λv s₁ h₁=>?_) λ_ _ z=>z)
 obtain⟨e,C,t,dd,sl,rfl,X,c,he,hE⟩:=h₁
 obtain⟨hp,g,d,tk,os⟩:=s₁
 have L1:Looks (model prog w) hp (isSubtype (.ref C) (.type "BaseException")) true:=by
  obtain⟨cd,hc,hm,_⟩:=c.cls
  obtain⟨m1,m2,m3⟩:=lS hm
  exact looks_mroIn X (by unfold mroIn;rw [hc,Option.bind_some,if_neg (by rw [m3];decide),m2])
 obtain⟨od,cd,sc,hk⟩:=c.at_
 have hC:=X _ _ hk
 repeat (first | with_reducible refine wpAny_loadPart_at he ?_ | with_reducible refine wpAny_loadPart_at hC ?_ | with_reducible refine Looks.at L1 ?_ | wp_step)
 exact wpAny_raiseNew_none hh hE
end
def we (K:PySem.W.Frag) (H₀:Hp) (E:XK) (te:TE):TS:=λ_ σ H=>te σ H λv H1=>∃ x C dd,v=.ref x/\H1 x=some (XN x C dd)/\d7 K C/\H₀ x=none/\E (.ref C) (some x) (upd H1 x (XO x C dd))
section
variable {P:Program} {w:World} {K:PySem.W.Frag} {mg:Str->Option Value} {base:Heap} {N:List Str} {qual:Str} {scope:Scope} {f:Addr} {cd:Value} {A:Around} {outer:List Env} {s:Shared} {H:Hp} {E:XK}
theorem tX {pins:List (Addr × Obj)} {σ:St} {H2:Hp} {s2:Shared} {x C:Addr} {dd:Option Addr} (I:Inv (fc (gk P w) P w K mg base N qual scope f cd A outer s H E) pins σ H2 s2) (hx:H2 x=some (XN x C dd)) (hn:H x=none)
  (hE:E (.ref C) (some x) (upd H2 x (XO x C dd))):(fc (gk P w) P w K mg base N qual scope f cd A outer s H E).xe (.ref x) s2:=by
 obtain⟨t,sl,he⟩:=XN.get I.hok hx
 have nex:∀ b:Addr,b∉(fc (gk P w) P w K mg base N qual scope f cd A outer s H E).ex:=λb z=>absurd (show b∈([]:List Addr) from z) (by simp)
 have nx:s.heap.get? x=none:=by
  cases q:s.heap.get? x with
  | none=>rfl
  | some o =>
   have:=I.base.free x o q hn (nex x)
   rw [hx] at this
   cases this
 have old:∀ b o,s.heap.get? b=some o->b≠x:=λb o q z=>by rw [z,nx] at q;cases q
 have nfr:∀ b o,s.heap.get? b=some o->b∉gw outer->b∉gw (envOfC qual scope s.heap.objs.size f cd::outer):=λb o q hb hm=>by
  rcases List.mem_cons.mp (I.fR b hm) with z | z
  ·exact absurd (Heap.lt_size q) (by rw [z];exact Nat.lt_irrefl _)
  ·exact hb z
 have hok':fu P w (upd H2 x (XO x C dd)) s2.heap:=λb o q=>by
  by_cases hb:b=x
  ·subst hb
   rw [ag] at q
   cases q
   exact XO.ok he
  ·rw [aA hb] at q
   refine (I.hok b o q).ki (λ_ _ _ r=>r) (λc r=>?_) λc xs r=>?_
   ·rw [aA (λz=>by rw [z,hx] at r;cases r)];exact r
   ·rw [aA (λz=>by rw [z,hx] at r;cases r)];exact r
 show wpAny (model P w) (A.deeper (envOfC qual scope s.heap.objs.size f cd)) (leaving (envOfC qual scope s.heap.objs.size f cd) (.ref x)) _ _ s2
 refine nM (L:=s.heap.objs.size) I.ok.frames I.stack rfl he rfl λh'' T t' n' k'=>?_
 obtain⟨vs,sl',oT,ts,he',r'⟩:=t'
 have tr':Tr h'' x (.ref C) dd T .none:=⟨vs,sl',oT,ts,he',r'⟩
 have nT:T≠x:=r'.2.1
 refine⟨x,C,T,dd,upd H2 x (XO x C dd),rfl,I.os,I.bare,?_,?_,tr',nx,?_,?_,ag,hE⟩
 ·refine⟨λb o q nn hb _=>?_,λb o q nn hb _=>?_,λb o q nn _=>?_,λb o q _=>?_,λb xs q=>?_,λb o xs q=>?_,λb ps q=>?_⟩
  ·exact k'.keep b o (by simp [old b o q]) (nfr b o q hb) (I.base.keep b o q nn hb (nex b))
  ·obtain⟨s1',q1⟩:=I.base.slot b o q nn hb (nex b)
   obtain⟨s3',q3⟩:=k'.slot b _ (by simp [old b o q]) q1
   exact⟨s3',q3⟩
  ·rw [aA (old b o q)]
   exact I.base.free b o q nn (nex b)
  ·obtain⟨o1,q1⟩:=I.base.there b o q (nex b)
   obtain⟨s3',q3⟩:=k'.slot b _ (by simp [old b o q]) q1
   exact⟨_,q3⟩
  ·have:=I.base.tups b xs q
   rw [aA (λz=>by rw [z,hx] at this;cases this)];exact this
  ·have:=I.base.frzs b o xs q
   rw [aA (λz=>by rw [z,hx] at this;cases this)];exact this
  ·obtain⟨m1,e1⟩:=I.base.tbls b ps q
   exact⟨m1,by rw [aA (λz=>by rw [z,hx] at e1;cases e1)];exact e1⟩
 ·exact qI hok' k' (λb hb=>.inl (by simpa using hb)) (λb hb=>by
   have z:=I.iJ b hb
   rw [aA (λy=>by rw [y,hx] at z;cases z)];exact z) ag he'
 ·cases q:s.heap.get? T with
  | none=>rfl
  | some o =>
   obtain⟨o1,q1⟩:=I.base.there T o q (nex T)
   exact absurd (Heap.lt_size q1) (Nat.not_lt.mpr n')
 ·rw [aA nT]
  exact I.hok.fresh n'
theorem eR {e:Expr} {te:TE} {pos:Pos} (he:PE (fc (gk P w) P w K mg base N qual scope f cd A outer s H E) e te):PS (fc (gk P w) P w K mg base N qual scope f cd A outer s H E) (.Raise (some e) none pos) (we K H E te):=by
 intro pins s1 σ H1 D I h
 rw [arm_exec_Raise]
 refine wpAny_bind (wpAny_standAt (ky (K:=K) (I.ok.hd rfl) (wpAny_bind (bK (he pins s1 σ H1 _ I h) λv s2 ⟨y,H2,I2,r,x,C,dd,ey,hx,c,hn,hE⟩=>?_))))
 subst ey
 obtain rfl:v=Value.ref x:=r
 obtain⟨t,sl,hg⟩:=XN.get I2.hok hx
 exact wpAny_bind (wpAny_standAt (wpAny_pure ⟨x,C,t,dd,sl,rfl,I2.iu,c,hg,tX I2 hx hn hE⟩))
end
section
variable {prog:Program} {w:World} {A:Around} {E:Value->Shared->Prop} {h:Heap} {g:Array GenState} {d:Drawn} {t:Nat} {os:OsState}
variable {nm q:Str} {C N:Addr} {bs bm:List Value} {hdct:Bool} {sn:List Str} {sub:List Value} {ab:Bool} {col:Option Bool} {dd:Option Addr} {k0 k1 k2 k3 k5:Option Value}
theorem su {R:Result->Shared->Prop} {e a:Addr} (hB:bm.contains (.type "ValueError")=true) (hC:h.get? C=some (excClassObj nm q C N bs bm hdct sn sub ab col dd k0 k1 k2 k3 k5 kD)) (he:h.get? e=some (newExc C a))
  (hq:∀ h',h'.get? e=some (newExc C h.objs.size)->(∀ b o,b≠e->h.get? b=some o->h'.get? b=some o)->R (.ok (.ret .none)) ⟨h',g,d,t,os⟩) :
  codeAny (model prog w) A (.call (.builtin "ValueError.__init__") ⟨[.ref e],[]⟩) R ⟨h,g,d,t,os⟩:=by
 have Fn:=PySem.F.excBase_ValueError
 have cB:(Value.ref C::bm).contains (.type "ValueError")=true:=by rw [List.contains_cons,hB,Bool.or_true]
 have hshort:=Fn.noStar
 refine codeAny_call_builtin Fn.init.plain Fn.initEntry ?_
 have chk:∀{Q:Unit->Shared->Prop} {E:Value->Shared->Prop} {A:Around},Q () ⟨h,g,d,t,os⟩->wpAny (model prog w) A (checkBuiltinCall "ValueError.__init__" ⟨[.ref e],[]⟩) Q E ⟨h,g,d,t,os⟩:=by
  intro Q E A hq
  simp only [checkBuiltinCall,Fn.initKind,Fn.initSplit,Fn.initRow]
  repeat (first | with_reducible refine wpAny_loadPart_at he ?_ | with_reducible refine wpAny_loadPart_at hC ?_ | (with_reducible refine wpAny_isSubtype_exc hC ?_;rw [cB]) | wp_step)
  exact hq
 refine chk ?_
 wp_walk
 have hp:=Heap.get?_push_of_some (h:=h) { cls:=.type "tuple",data:=.seq ([]:List Value).toArray } he
 refine hq _ ?_ λb o hb z=>?_
 ·exact Heap.get?_update_self _ hp rfl
 ·rw [Heap.get?_update_other _ _ (Ne.symm hb)]
  exact Heap.get?_push_of_some _ z
end
theorem dJ.any {P:Program} {w:World} {K:PySem.W.Frag} {mg:Str->Option Value} {base:Heap} {CX:jI} {k:Nat} {f:Addr} {fd:FuncData} {ps:List Str} {sp:Sp} (F:dJ P w K mg base aT k f fd ps sp):dJ P w K mg base CX k f fd ps sp :=
 ⟨F.len,λA outer s H args us vs Q E hr he hb hv hs=>codeAny_mono (F.run A outer s H args us vs Q E hr he hb hv hs) λr s' q=>by
  cases r with
  | error e=>exact False.elim q
  | ok fl =>
   cases fl with
   | ret u=>exact q
   | next=>exact q
   | brk=>exact q
   | cont=>exact q⟩
def BM (K:PySem.W.Frag) (ta tv:TE) (f:Str):TS:=λD σ H=>tv σ H λy H1=>ta σ H1 λxv H2=>∃ x C,xv=.ref x/\H2 x=some (XN x C none)/\d7 K C/\findIn K (.ref C) f=some none /\
 ∀ dx,H2 dx=none->dx≠x->D.nx σ (upd (upd H2 dx (.xd [(f,y)])) x (XN x C (some dx)))
section
variable {X:Cx} {o value:Expr} {f:Str} {pos pos':Pos} {ta tv:TE}
theorem xW (ha:PE X o ta) (hv:PE X value tv) (hs:swapsWith value (some (.Attribute o f pos')) pos.line X.env=pure false:=by rfl):PS X (.Assign [.Attribute o f pos'] value pos) (BM X.K ta tv f):=by
 intro pins s σ H D I h
 refine plainObj_wpAny_Assign_Attribute (bK (hv pins s σ H _ I h) λu s1 ⟨y,H1,I1,ry,q⟩=>bK (ha pins s1 σ H1 _ I1 q) λov s2 ⟨xv,H2,I2,rx,x,C,ex,hx,c,hf,q2⟩=>?_) hs
 subst ex
 obtain rfl:ov=Value.ref x:=rx
 obtain⟨t,sl,hg⟩:=XN.get I2.hok hx
 obtain⟨cd,hc,hm,hh⟩:=c.cls
 refine w5 I2.iu hg hc hm hh c.sa hf λh' g1 g2 g3=>?_
 have hd0:H2 s2.heap.objs.size=none:=I2.hok.fresh (Nat.le_refl _)
 have hne:s2.heap.objs.size≠x:=λz=>by rw [z,hx] at hd0;cases hd0
 have bx:∀ b,H2 b=none->b≠x:=λb z y=>by rw [y,hx] at z;cases z
 have bd:∀ b o,s2.heap.get? b=some o->b≠s2.heap.objs.size:=λb o q=>Nat.ne_of_lt (Heap.lt_size q)
 have tb:∀ b u,H2 b=some u->b≠s2.heap.objs.size:=λb u q z=>by rw [z,hd0] at q;cases q
 refine⟨σ,upd (upd H2 s2.heap.objs.size (.xd [(f,y)])) x (XN x C (some s2.heap.objs.size)),I2.un ⟨λb o q n _ _=>g3 b o (bx b n) q,λb o q n _ _=>⟨o.slots,g3 b o (bx b n) q⟩,λb o q n _=>?_,λb o q _=>?_,λb xs q=>?_,λb o xs q=>?_,λb ps q=>?_⟩ ?_,q2 _ hd0 hne⟩
 ·rw [aA (bx b n),aA (bd b o q)];exact n
 ·by_cases z:b=x
  ·exact⟨_,by rw [z];exact g1⟩
  ·exact⟨o,g3 b o z q⟩
 ·rw [aA (λz=>by rw [z,hx] at q;cases q),aA (tb b _ q)];exact q
 ·rw [aA (λz=>by rw [z,hx] at q;cases q),aA (tb b _ q)];exact q
 ·exact⟨#[],by rw [aA (λz=>by rw [z,hx] at q;cases q),aA (tb b _ q),q];simp⟩
 ·intro b o q
  by_cases z:b=x
  ·subst z
   rw [ag] at q
   cases q
   exact XN.ok g1
  ·rw [aA z] at q
   by_cases z2:b=s2.heap.objs.size
   ·subst z2
    rw [ag] at q
    cases q
    refine⟨_,g2,λk=>?_⟩
    show hZ (List.lookup k [(f,y)]) (if k=f then some u else none)
    by_cases e:k=f
    ·subst e
     rw [if_pos rfl,List.lookup_cons,beq_self_eq_true]
     exact ry
    ·have e':(k==f)=false:=by simpa using e
     rw [if_neg e,List.lookup_cons,e']
     exact True.intro
   ·rw [aA z2] at q
    refine (I2.hok b o q).ki (λc' u' hc' r=>g3 c' u' (λz3=>?_) r) (λc' r=>?_) λc' xs r=>?_
    ·rcases hc' with e | e
     ·exact z (e.symm.trans z3)
     ·rw [z3,hx] at e;cases e
    ·rw [aA (λz3=>by rw [z3,hx] at r;cases r),aA (tb c' _ r)];exact r
    ·rw [aA (λz3=>by rw [z3,hx] at r;cases r),aA (tb c' _ r)];exact r
end
structure yB (K:PySem.W.Frag) (C:Addr):Prop where
 obj:∃ nm q N bs bm hdct sn sub ab col dd k0 k1 k2 k3 k5,K.lookup C=some (excClassObj nm q C N bs bm hdct sn sub ab col dd k0 k1 k2 k3 k5 kD)/\bm.contains (.type "ValueError")=true/\bm.contains (.type "AttributeError")=false/\bm.contains (.type "NameError")=false
 kp:keepIn K (.ref C)=true
def mH (K:PySem.W.Frag) (f:Str):Sp:=λvs H Q _=>∃ x C v,vs=[.ref x,v]/\H x=some (XN x C none)/\d7 K C/\findIn K (.ref C) f=some none /\
 ∀ dx,H dx=none->dx≠x->Q .cj (upd (upd H dx (.xd [(f,v)])) x (XN x C (some dx)))
def AI (C:Addr) (f:Str) (t:TA):TE:=λσ H Q=>t σ H λvs H1=>∃ v,vs=[v]/\∀ x dx,H1 x=none->H1 dx=none->dx≠x->Q (.ref x) (upd (upd (upd H1 x (XN x C none)) dx (.xd [(f,v)])) x (XN x C (some dx)))
def AH (C:Addr):TE:=λ_ H Q=>∀ x,H x=none->Q (.ref x) (upd H x (XN x C none))
section
variable {X:Cx} {C fi:Addr} {fd:FuncData} {p f x:Str} {k:Nat} {pos np:Pos} {e:Expr} {t:TA}
theorem Inv.newExc {pins:List (Addr × Obj)} {σ:St} {H:Hp} {s:Shared} (I:Inv X pins σ H s) (us:List Value):Inv X pins σ (upd H (s.heap.objs.size+1) (XN (s.heap.objs.size+1) C none))
  { s with heap:=(s.heap.push { cls:=.type "tuple",data:=.seq us.toArray }).push (L2.newExc C s.heap.objs.size) }:=by
 have I1:Inv X pins σ H { s with heap:=s.heap.push { cls:=.type "tuple",data:=.seq us.toArray } }:=I.kept (t':=s.toks) λb u q=>Heap.get?_push_of_some _ q
 refine I1.laid (a:=s.heap.objs.size+1) (t':=s.toks) (λb u q=>Heap.get?_push_of_some _ q) (Nat.le_of_eq (Heap.size_push _ _)) ?_
 refine XN.ok (t:=s.heap.objs.size) (sl:=#[]) ?_
 have:=Heap.get?_push_size (s.heap.push { cls:=.type "tuple",data:=.seq us.toArray }) (o:=L2.newExc C s.heap.objs.size) rfl
 rwa [Heap.size_push] at this
theorem tO (M:yB X.K C) (c:d7 X.K C) (hi:findIn X.K (.ref C) "__init__"=some (some (.ref fi))) (fn:isFn X.K (.ref fi)=true) (hf:findIn X.K (.ref C) f=some none) (F:dJ X.prog X.w X.K X.mg X.base aT k fi fd ["self",p] (mH X.K f)) (hr:c6 (k+1) X.A) (hg:Gl X x)
  (hm:X.mg x=some (.ref C)) (hb:Binds X.K fd ["self",p] []) (ha:PA X [e] t) (hdb:(x==("__debug__":Str))=false:=by decide) (he:starEach [e] X.env=(false,eval e X.env)::starEach [] X.env:=by rfl) (hpl:(backTo pos (starEach [] X.env)).any (·.1)=false:=by rfl) :
  PE X (.Call (.Name x np) [e] [] pos) (AI C f t):=by
 intro pins s σ H Q I h
 refine wpAny_Call_Name_kw (jy I hg hm ?_ hdb)
 refine PySem.W.callWith_K (h₀:=X.base) I.ok.mod.kin M.kp (bK (ha pos pins s σ H _ I h) λus s1 ⟨vs,H1,I1,r,q⟩=>⟨I1.iu,?_⟩) he hpl
 obtain⟨v,rfl,q⟩:=q
 obtain⟨u,rfl,ru⟩:=vals1 r
 obtain⟨nm,qn,Nn,bs,bm,hdct,sn,sub,ab,col,dd,k0,k1,k2,k3,k5,hk,hB,hA,hN⟩:=M.obj
 have I2:=Inv.newExc (C:=C) I1 [u]
 have n1:H1 (s1.heap.objs.size+1)=none:=I1.hok.fresh (Nat.le_succ _)
 have r2:Vals [V.ref (s1.heap.objs.size+1),v] [Value.ref (s1.heap.objs.size+1),u]:=.cons rfl (.cons ru .nil)
 have hq:mH X.K f [V.ref (s1.heap.objs.size+1),v] (upd H1 (s1.heap.objs.size+1) (XN (s1.heap.objs.size+1) C none)) (λz H3=>z=.cj/\Q (.ref (s1.heap.objs.size+1)) H3) E0 :=
  ⟨_,C,v,rfl,ag,c,hf,λdx hd hne=>⟨rfl,q _ dx n1 (by rw [aA hne] at hd;exact hd) hne⟩⟩
 obtain⟨hh,g,d,tk,os⟩:=s1
 refine nG (K:=X.K) I1.iu hB hA hN (I1.iu _ _ hk) (by show 1<=sizeLine;decide) hi (bind_fn I1.iu _ (beq_iff_eq.mp fn)) ?_
 refine codeAny_mono (F.run _ X.stack _ _ ⟨[Value.ref (hh.objs.size+1),u],[]⟩ [Value.ref (hh.objs.size+1),u] _ _ E0 (hr.make C [u] []) (I2.Bp.make C [u] []) (by have:=hb _ [Value.ref (hh.objs.size+1),u] I2.iu rfl;rwa [List.append_nil] at this) r2 hq) λr s' hq'=>?_
 cases r with
 | error e=>exact False.elim hq'
 | ok fl =>
  cases fl with
  | ret u' =>
   obtain⟨v',H',I3,rv,ev,q3⟩:=I2.after hq'
   subst ev
   exact⟨rv,⟨V.ref (hh.objs.size+1),H',I3,rfl,q3⟩⟩
  | next=>exact False.elim hq'
  | brk=>exact False.elim hq'
  | cont=>exact False.elim hq'
theorem tM (M:yB X.K C) (hi:findIn X.K (.ref C) "__init__"=some (some (.builtin "ValueError.__init__"))) (hg:Gl X x) (hm:X.mg x=some (.ref C)) (hdb:(x==("__debug__":Str))=false:=by decide) :
  PE X (.Call (.Name x np) [] [] pos) (AH C):=by
 intro pins s σ H Q I h
 refine wpAny_Call_Name_kw (jy I hg hm ?_ hdb)
 refine PySem.W.callWith_K0 I.iu M.kp ?_
 obtain⟨nm,qn,Nn,bs,bm,hdct,sn,sub,ab,col,dd,k0,k1,k2,k3,k5,hk,hB,hA,hN⟩:=M.obj
 have I2:=Inv.newExc (C:=C) I []
 have n1:H (s.heap.objs.size+1)=none:=I.hok.fresh (Nat.le_succ _)
 have Fn:=PySem.F.excBase_ValueError
 obtain⟨hh,g,d,tk,os⟩:=s
 have hC:=I.iu _ _ hk
 refine nG (K:=X.K) I.iu hB hA hN hC (by show 0<=sizeLine;decide) hi (j:=.builtin "ValueError.__init__") (Looks.of_pure (Fn.init.bind _)) ?_
 have hC2:((hh.push { cls:=.type "tuple",data:=.seq ([]:List Value).toArray }).push (L2.newExc C hh.objs.size)).get? C=some _:=Heap.get?_push_of_some _ (Heap.get?_push_of_some _ hC)
 have he2:((hh.push { cls:=.type "tuple",data:=.seq ([]:List Value).toArray }).push (L2.newExc C hh.objs.size)).get? (hh.objs.size+1)=some (L2.newExc C hh.objs.size):=by
  have:=Heap.get?_push_size (hh.push { cls:=.type "tuple",data:=.seq ([]:List Value).toArray }) (o:=L2.newExc C hh.objs.size) rfl
  rwa [Heap.size_push] at this
 refine su hB hC2 he2 λh' g1 g3=>⟨rfl,.ref (hh.objs.size+1),_,?_,rfl,h _ n1⟩
 have e:upd (upd H (hh.objs.size+1) (XN (hh.objs.size+1) C none)) (hh.objs.size+1) (XN (hh.objs.size+1) C none)=upd H (hh.objs.size+1) (XN (hh.objs.size+1) C none):=by
  funext b
  by_cases z:b=hh.objs.size+1
  ·rw [z,ag,ag]
  ·rw [aA z]
 have W:=I2.write (x:=hh.objs.size+1) (e:=hh.objs.size+1) (o:=XN (hh.objs.size+1) C none) (h':=h') (t':=tk) (by rw [ag];exact True.intro) (.inl rfl) (λb u hb q=>g3 b u hb q) ⟨_,g1⟩ (XN.ok g1)
 rw [e] at W
 exact W
end
def DG (H:Hp) (x C:Addr) (dd:Option Addr):Prop:=H x=some (XO x C dd)∨H x=some (XN x C dd)
def DN (K:PySem.W.Frag) (ta:TE) (f:Str):TE:=λσ H Q=>ta σ H λxv H1=>∃ x C dx fs v,xv=.ref x/\DG H1 x C (some dx)/\d7 K C/\findIn K (.ref C) f=some none/\H1 dx=some (.xd fs)/\fs.lookup f=some v/\Q v H1
section
variable {X:Cx} {e:Expr} {f:Str} {pos:Pos} {ta:TE}
end
section
variable {prog:Program} {w:World} {A:Around} {E:Value->Shared->Prop} {K:PySem.W.Frag} {h:Heap} {g:Array GenState} {d:Drawn} {t:Nat} {os:OsState} {x C B:Addr}
theorem d7.base (c:d7 K C):mroIn K C (.type "BaseException")=some true:=by
 obtain⟨cd,hc,hm,_⟩:=c.cls
 obtain⟨m1,m2,m3⟩:=lS hm
 unfold mroIn
 rw [hc,Option.bind_some,if_neg (by rw [m3];decide),m2]
end
section
variable {M:Model} {A:Around} {E:Value->Shared->Prop} {s:Shared}
end
section
variable {X:Cx} {pins:List (Addr × Obj)} {σ:St} {H:Hp} {s:Shared} {M:Model} {A:Around} {E:Value->Shared->Prop}
end
section
variable {X:Cx} {pins:List (Addr × Obj)} {σ:St} {H:Hp} {s:Shared} {x:Addr}
def xf (n:Option Nat) (x:Addr) (σ:St):St:=match n with | some i=>σ.set i (some (.ref x)) | none=>σ
def qL (n:Option Nat) (D:Ends):Ends:=match n with
 | some i=>{ nx:=λσ H=>D.nx (σ.set i none) H,rt:=D.rt,bk:=λσ H=>D.bk (σ.set i none) H,ct:=λσ H=>D.ct (σ.set i none) H }
 | none=>D
end
def Dc (K:PySem.W.Frag) (B:Addr) (n:Option Nat) (sp:Sp) (ta:TA) (put:V->St->St) (ts:TS):TS:=λD σ H=>ta σ H λvs H1=>sp vs H1 (λv H2=>D.nx (put v σ) H2)
 (λcv xo H2=>∃ C x dd,cv=.ref C/\xo=some x/\H2 x=some (XO x C dd)/\d7 K C/\mroIn K C (.ref B)=some true/\ts (qL n D) (xf n x σ) H2)
section
variable {X:Cx} {B:Addr} {n:Option Nat} {hd:ExceptHandler} {ts:TS}
variable {k:Nat} {f:Str} {ps:List Str} {sp:Sp} {e:Expr} {es:List Expr} {t:TA} {p cpos epos pos:Pos}
end
section
variable {P:Program} {w:World} {K:PySem.W.Frag} {mg:Str->Option Value} {base:Heap} {k:Nat} {x:Str} {ps:List Str} {sp:Sp}
theorem oZ {st:Stmt} {N:List Str} (D:aC K mg x st)
  (hb:∀(kV doc pm:Value) (an:Option Addr) (cdv ct:Value) (us:List Value),us.length=ps.length->bindArgs (PySem.W.fnOf x x (cK st) (bG st) (au st) .none kV doc pm an cdv ct) ⟨us,[]⟩=pure (ps.zip us))
  (S:aE N ps (au st)) (len:∀ vs H Q E,sp vs H Q E->vs.length=ps.length)
  (hbody:∀(f:Addr) (cdv:Value) (A:Around) (outer:List Env) (s:Shared) (H:Hp) (vs:List V) (Q:VK) (E:XK),c6 k (A.deeper (envOfC x (au st) s.heap.objs.size f cdv))->sp vs H Q E ->
   ∃ t,jv (fc (gk P w) P w K mg base N x (au st) f cdv A outer s H E) (bG st) t/\t { nx:=λ_ H'=>Q .cj H',rt:=Q } (start N vs) H):Callee P w K mg base (gk P w) (k+1) x ps sp:=by
 obtain⟨f,fd,F,hm⟩:=D
 obtain⟨oc,od,kV,doc,pm,an,cdv,ct,osl,rfl,lk,hcd⟩:=F.ex
 exact⟨f,_,yJ lk hcd S len λA outer s H vs Q E hr h=>hbody f cdv A outer s H vs Q E hr h,hm,F.kp,F.binds hb⟩
theorem Callee.any {CX:jI} (C:Callee P w K mg base aT k x ps sp):Callee P w K mg base CX k x ps sp:=by
 obtain⟨f,fd,F,a,b,c⟩:=C.ex
 exact⟨f,fd,F.any,a,b,c⟩
end
theorem xh {P:Program} {w:World} {K:PySem.W.Frag} {mg:Str->Option Value} {base:Heap} {qual f p:Str} {st:Stmt} {fi:Addr} {fd:FuncData} {p1 p2 p3 p4:Pos} (F:wB K "__init__" qual st fi fd) (S:aE ["self",p] ["self",p] (au st))
  (hb:bG st=[.Assign [.Attribute (.Name "self" p1) f p2] (.Name p p3) p4]) (h1:(au st).names.lookup ("self":Str)=some .local) (h2:(au st).names.lookup p=some .local) (hd:(p==("__debug__":Str))=false) (hcd:(p==("__classdict__":Str))=false)
  (ab:∀ env:Env,attributeBase (.Name "self" p1) f env (eval (.Name "self" p1) env)=eval (.Name "self" p1) env) (sw:∀ env:Env,swapsWith (.Name p p3) (some (.Attribute (.Name "self" p1) f p2)) p4.line env=pure false):dJ P w K mg base aT 1 fi fd ["self",p] (mH K f):=by
 refine F.ok S (λvs H Q E h=>?_) (λcdv A outer s H vs Q E hr h=>?_)
 ·obtain⟨x,C,v,rfl,_⟩:=h
  rfl
 ·obtain⟨x,C,v,rfl,hx,c,hf,q⟩:=h
  rw [hb]
  refine⟨_,ao (xW (qe (i:=0) rfl (.inl h1) (by decide) (by decide)) (qe (i:=1) rfl (.inl h2) hd hcd) (sw _)),?_⟩
  exact⟨v,rfl,.ref x,rfl,x,C,rfl,hx,c,hf,λdx n ne=>q dx n ne⟩
structure oX (P:Program) (w:World) (K:PySem.W.Frag) (mg:Str->Option Value) (base:Heap) (x:Str) (C:Addr) (f:Str):Prop where
 mkd:yB K C
 cls:d7 K C
 at_:mg x=some (.ref C)
 nof:findIn K (.ref C) f=some none
 ex:∃ fi fd p,findIn K (.ref C) "__init__"=some (some (.ref fi))/\isFn K (.ref fi)=true/\dJ P w K mg base aT 1 fi fd ["self",p] (mH K f)/\Binds K fd ["self",p] []
structure wN (K:PySem.W.Frag) (mg:Str->Option Value) (x:Str) (C:Addr):Prop where
 mkd:yB K C
 cls:d7 K C
 at_:mg x=some (.ref C)
 ini:findIn K (.ref C) "__init__"=some (some (.builtin "ValueError.__init__"))
section
variable {X:Cx} {C:Addr} {f x:Str} {pos np:Pos} {e:Expr} {t:TA}
theorem mq (c:oX X.prog X.w X.K X.mg X.base x C f) (hr:c6 2 X.A) (hg:Gl X x) (ha:PA X [e] t) (hdb:(x==("__debug__":Str))=false:=by decide)
  (he:starEach [e] X.env=(false,eval e X.env)::starEach [] X.env:=by rfl) (hpl:(backTo pos (starEach [] X.env)).any (·.1)=false:=by rfl):PE X (.Call (.Name x np) [e] [] pos) (AI C f t):=by
 obtain⟨fi,fd,p,hi,fn,F,hb⟩:=c.ex
 exact tO c.mkd c.cls hi fn c.nof F hr hg c.at_ hb ha hdb he hpl
theorem vH (c:wN X.K X.mg x C) (hg:Gl X x) (hdb:(x==("__debug__":Str))=false:=by decide):PE X (.Call (.Name x np) [] [] pos) (AH C):=tM c.mkd c.ini hg c.at_ hdb
end
inductive zA (K:PySem.W.Frag) (H:Hp):Nat->V->V->Bool->Prop
 | flat {d:Nat} {y x:V}:gE y=true->gE x=true->zA K H d y x (wC y x)
 | same {d:Nat} {p:Addr}:zA K H d (.ref p) (.ref p) true
 | lists {d:Nat} {p q:Addr} {xs ys:List V} {e:Nat->Bool}:p≠q->aS K H p xs->aS K H q ys->xs.length=ys.length->(∀ j y x,xs[j]?=some y->ys[j]?=some x->zA K H d y x (e j))->zA K H (d+1) (.ref p) (.ref q) ((List.range xs.length).all e)
 | unlike {d:Nat} {p q:Addr} {xs ys:List V}:p≠q->aS K H p xs->aS K H q ys->xs.length≠ys.length->zA K H (d+1) (.ref p) (.ref q) false
 | tups {d:Nat} {p q:Addr} {xs ys:List V} {e:Nat->Bool}:p≠q->aL K H p xs->aL K H q ys->(∀ j y x,xs[j]?=some y->ys[j]?=some x->zA K H d y x (e j))->zA K H (d+1) (.ref p) (.ref q) ((List.range (min xs.length ys.length)).all e && xs.length==ys.length)
section
variable {X:Cx} {pins:List (Addr × Obj)} {σ:St} {H:Hp} {s:Shared}
theorem Vals.at {xs:List V} {us:List Value} (r:Vals xs us):∀{j:Nat} {u:Value},us[j]?=some u->∃ x,xs[j]?=some x/\RelV x u:=by
 induction r with
 | nil=>intro j u h;simp at h
 | cons r t ih =>
  intro j u h
  cases j with
  | zero=>simp only [List.getElem?_cons_zero,Option.some.injEq] at h;subst h;exact⟨_,rfl,r⟩
  | succ j=>simp only [List.getElem?_cons_succ] at h ⊢;exact ih h
theorem Vals.len {xs:List V} {us:List Value} (r:Vals xs us):us.length=xs.length:=by
 induction r with
 | nil=>rfl
 | cons r t ih=>simp only [List.length_cons,ih]
end
theorem fA {A B:Prop} (a:A) (f:A->B):B:=f a
section
variable {K:PySem.W.Frag} {mg:Str->Option Value} {h:Heap} {x f p qual:Str} {C D fi N:Addr}
section
variable {nm q:Str} {bs bm:List Value} {hdct ab:Bool} {sn:Option Str} {od:Option Addr} {cd:ClassData} {sl:Array (Option Value)}
theorem AM {o:Obj} (l:K.lookup C=some o) (ob:∃ nm q N bs bm hdct sn sub ab col dd k0 k1 k2 k3 k5,o=excClassObj nm q C N bs bm hdct sn sub ab col dd k0 k1 k2 k3 k5 kD/\bm.contains (.type "ValueError")=true/\bm.contains (.type "AttributeError")=false/\bm.contains (.type "NameError")=false) (kp:keepIn K (.ref C)=true):yB K C:=by
 obtain⟨nm,q,N,bs,bm,hdct,sn,sub,ab,col,dd,k0,k1,k2,k3,k5,e,r⟩:=ob
 subst e
 exact⟨⟨nm,q,N,bs,bm,hdct,sn,sub,ab,col,dd,k0,k1,k2,k3,k5,l,r⟩,kp⟩
theorem yx (l:K.lookup C=some ⟨.type "type",od,.cls cd,sl⟩) (h2:cP cd.mro=true) (h3:cd.hasDict=true)
  (sa:findIn K (.ref C) "__setattr__"=some (some (.builtin "object.__setattr__"))) (ga:findIn K (.ref C) "__getattribute__"=some (some (.builtin "BaseException.__getattribute__"))) (gx:findIn K (.ref C) "__getattr__"=some none)
  (ca:findIn K (.ref C) "__class__"=some (some (.builtin "object.__class__"))) (gs:specialIn K (.builtin "object.__class__") "__get__"=some (some (.builtin "getset_descriptor.__get__"))) (tk:takesIn K (.builtin "object.__class__")=some true):L2.d7 K C :=
 ⟨⟨cd,by unfold clsIn;rw [l],h2,h3⟩,⟨_,_,_,l⟩,sa,ga,gx,ca,gs,tk⟩
theorem rV (a:mg x=some (.ref C)) (M:yB K C) (c:d7 K C) (ini:findIn K (.ref C) "__init__"=some (some (.builtin "ValueError.__init__"))):wN K mg x C:=⟨M,c,a,ini⟩
structure lG (qual f p:Str) (st:Stmt):Prop where
 S:aE ["self",p] ["self",p] (au st)
 hb:∃ p1 p2 p3 p4,bG st=[.Assign [.Attribute (.Name "self" p1) f p2] (.Name p p3) p4]/\(∀ env:Env,attributeBase (.Name "self" p1) f env (eval (.Name "self" p1) env)=eval (.Name "self" p1) env)/\(∀ env:Env,swapsWith (.Name p p3) (some (.Attribute (.Name "self" p1) f p2)) p4.line env=pure false)
 h1:(au st).names.lookup ("self":Str)=some .local
 h2:(au st).names.lookup p=some .local
 hd:(p==("__debug__":Str))=false
 hcd:(p==("__classdict__":Str))=false
 bd:∀(kV doc pm:Value) (an:Option Addr) (cdv ct:Value) (us:List Value),us.length=2->bindArgs (PySem.W.fnOf "__init__" qual (cK st) (bG st) (au st) .none kV doc pm an cdv ct) ⟨us,[]⟩=pure ((["self",p]:List Str).zip us)
theorem mQ {st:Stmt} {oc:Value} {od an:Option Addr} {osl:Array (Option Value)} {kV doc pm cdv ct:Value} (I:lG qual f p st) (a:mg x=some (.ref C)) (M:yB K C) (c:d7 K C) (nof:findIn K (.ref C) f=some none)
  (ini:findIn K (.ref C) "__init__"=some (some (.ref fi))) (fn:isFn K (.ref fi)=true) (l:K.lookup fi=some ⟨oc,od,.func (PySem.W.fnOf "__init__" qual (cK st) (bG st) (au st) .none kV doc pm an cdv ct),osl⟩) (cc:codeIn K cdv qual=true) (kk:keepIn K (.ref fi)=true) :
  ∀(P:Program) (w:World) (base:Heap),oX P w K mg base x C f:=λP w base=>by
 obtain⟨p1,p2,p3,p4,hb,ab,sw⟩:=I.hb
 have F:=uN l cc kk
 exact⟨M,c,a,nof,fi,_,p,ini,fn,xh F I.S hb I.h1 I.h2 I.hd I.hcd ab sw,F.binds I.bd⟩
end
theorem iO {od:Option Addr} {cd:ClassData} {sl:Array (Option Value)} (_:K.In h) (_:mg x=some (.ref C)) (l:K.lookup C=some ⟨.type "type",od,.cls cd,sl⟩) (h2:cP cd.mro=true) (h3:cd.hasDict=true)
  (sa:findIn K (.ref C) "__setattr__"=some (some (.builtin "object.__setattr__"))) (ga:findIn K (.ref C) "__getattribute__"=some (some (.builtin "BaseException.__getattribute__"))) (gx:findIn K (.ref C) "__getattr__"=some none)
  (ca:findIn K (.ref C) "__class__"=some (some (.builtin "object.__class__"))) (gs:specialIn K (.builtin "object.__class__") "__get__"=some (some (.builtin "getset_descriptor.__get__"))) (tk:takesIn K (.builtin "object.__class__")=some true)
  (ob:∃ nm q N bs bm hdct sn sub ab col dd k0 k1 k2 k3 k5,(⟨.type "type",od,.cls cd,sl⟩:Obj)=excClassObj nm q C N bs bm hdct sn sub ab col dd k0 k1 k2 k3 k5 kD/\bm.contains (.type "ValueError")=true/\bm.contains (.type "AttributeError")=false/\bm.contains (.type "NameError")=false) (kp:keepIn K (.ref C)=true):d7 K C/\yB K C :=
 ⟨yx l h2 h3 sa ga gx ca gs tk,AM l ob kp⟩
end
end L2
namespace Pw
theorem jZ (x n:Int):∀ k:Nat,(x%n)^k%n=x^k%n
 | 0=>by rw [Int.pow_zero,Int.pow_zero]
 | k+1=>by rw [Int.pow_succ,Int.pow_succ,Int.mul_emod,jZ x n k,Int.emod_emod,<- Int.mul_emod]
theorem wb (b:Int):∀ k:Nat,(b*b)^k=b^(2*k)
 | 0=>by rw [Nat.mul_zero,Int.pow_zero,Int.pow_zero]
 | k+1=>by
  rw [Int.pow_succ,wb b k,Nat.mul_add,Nat.mul_one,Int.pow_succ,Int.pow_succ,Int.mul_assoc]
theorem uZ (x y n:Int):x%n*y%n=x*y%n:=by rw [Int.mul_emod,Int.emod_emod,<- Int.mul_emod]
theorem yV {x x' y y' n:Int} (h:x%n=x'%n) (h':y%n=y'%n):x*y%n=x'*y'%n:=by rw [Int.mul_emod,h,h',<- Int.mul_emod]
theorem step (r b n:Int) (l:Nat):(if l%2=1 then r*b%n else r)*(b*b%n)^(l/2)%n=r*b^l%n:=by
 have e:(b*b%n)^(l/2)%n=b^(2*(l/2))%n:=by rw [jZ,wb]
 by_cases c:l%2=1
 ·rw [if_pos c]
  have h:l=2*(l/2)+1:=by omega
  have e2:b^l=b^(2*(l/2))*b:=by rw [<- Int.pow_succ];exact congrArg _ h
  rw [yV (Int.emod_emod_of_dvd (r*b) (Int.dvd_refl n)) e,e2]
  congr 1
  rw [Int.mul_assoc,Int.mul_comm b]
 ·rw [if_neg c]
  have h:l=2*(l/2):=by omega
  rw [yV (rfl:r%n=r%n) e,<- h]
theorem pow_add (a:Int) (m:Nat):∀ k:Nat,a^(m+k)=a^m*a^k
 | 0=>by rw [Nat.add_zero,Int.pow_zero,Int.mul_one]
 | k+1=>by rw [<- Nat.add_assoc,Int.pow_succ,pow_add a m k,Int.pow_succ,Int.mul_assoc]
theorem mul_pow (a b:Int):∀ k:Nat,(a*b)^k=a^k*b^k
 | 0=>by rw [Int.pow_zero,Int.pow_zero,Int.pow_zero,Int.mul_one]
 | k+1=>by
  rw [Int.pow_succ,Int.pow_succ,Int.pow_succ,mul_pow a b k]
  grind
theorem pow_mul (a:Int) (m:Nat):∀ k:Nat,a^(m*k)=(a^m)^k
 | 0=>by rw [Nat.mul_zero,Int.pow_zero,Int.pow_zero]
 | k+1=>by rw [Nat.mul_add,Nat.mul_one,pow_add,pow_mul a m k,Int.pow_succ]
theorem one_pow:∀ k:Nat,(1:Int)^k=1
 | 0=>Int.pow_zero 1
 | k+1=>by rw [Int.pow_succ,one_pow k,Int.mul_one]
theorem zI {n x y:Int}:x%n=y%n↔n∣x-y:=by
 rw [Int.emod_eq_emod_iff_emod_sub_eq_zero,Int.dvd_iff_emod_eq_zero]
end Pw
namespace L2
open PySem PySem.Spec PyProof.Rows
end L2
namespace L2
open PySem PySem.Spec PyProof.Rows PySem.W
theorem Vals.rev:∀{xs:List V} {us:List Value},Vals xs us->Vals xs.reverse us.reverse
 | [],[],_=>.nil
 | x::xs,u::us,.cons r t=>by
  rw [List.reverse_cons,List.reverse_cons]
  exact (Vals.rev t).append (.cons r .nil)
def Ci (K:PySem.W.Frag) (te:TE) (tk:TO):TE:=λσ H Q=>te σ H λx H1=>tk σ H1 λo H2=>o=some (-1)/\∃ a xs,x=.ref a/\aS K H2 a xs/\∀ p,H2 p=none->Q (.ref p) (upd H2 p (.lst xs.reverse))
section
variable {X:Cx} {e k:Expr} {te:TE} {tk:TO} {p2 pos:Pos}
theorem vG (he:PE X e te) (hk:PO X (some k) tk)
  (hs:∀ a b:Addr,∃ ops,subscripted (.Slice none none (some k) p2) false (.ref a) (.ref b)=operate ops (getItem (.ref a) (.ref b)):=by intro a b;exact⟨_,by with_unfolding_all rfl⟩):PE X (.Subscript e (.Slice none none (some k) p2) pos) (Ci X.K te tk):=by
 intro pins s σ H Q I h
 refine Subscript_ (bK (he pins s σ H _ I h) λv s1 ⟨x,H1,I1,r1,q1⟩=>?_)
 refine wpAny_Slice ?_
 rw [evalPart_none]
 refine wpAny_pure (wpAny_pure ?_)
 refine bK (hk pins s1 σ H1 _ I1 q1) λvk s3 ⟨o,H3,I3,pk,eo,a,xs,ex,hx,q3⟩=>?_
 subst eo
 subst ex
 cases r1
 have I4:Inv X pins σ H3 { s3 with heap:=s3.heap.push { cls:=.type "slice",data:=.fields #[.none,.none,vk] } }:=I3.kept (t':=s3.toks) λb ob q=>Heap.get?_push_of_some _ q
 obtain⟨its,r,ht,hz⟩:=I4.list hx
 have hlen:=r.length
 show wpAny (model X.prog X.w) X.A (subscriptTail e (.Slice none none (some k) p2) (.ref a) (.ref s3.heap.objs.size)) (EP X pins σ Q) X.xe { s3 with heap:=s3.heap.push { cls:=.type "slice",data:=.fields #[.none,.none,vk] } }
 obtain⟨ops,hops⟩:=hs a s3.heap.objs.size
 refine tail_any (ops:=ops) ht.isList.typeIs slot_list_getitem.lookup ?_ hops
 refine wpAny_getItem_list_slice ht.isList (Heap.IsSliceOf.new ..) .none .none pk (by simp) ?_ (by rw [List.size_toArray]<;>omega)
 rw [krv_pick]
 refine⟨.ref _,_,I4.laid (t':=s3.toks) (o:=.lst xs.reverse) (λb ob q=>Heap.get?_push_of_some _ q) (Nat.le_refl _) ?_,rfl,q3 _ (I4.hok.fresh (Nat.le_refl _))⟩
 exact⟨by rw [List.length_reverse];exact hz,_,0,r.rev,Heap.get?_push_size _ rfl⟩
end
mutual
def dv (K:PySem.W.Frag) (H:Hp):PyData->V->Prop
 | .none,v=>v=.cj
 | .bool b,v=>v=.bl b
 | .int i,v=>v=.int i
 | .str x,v=>v=.str x
 | .list ds,v=>∃ p xs,v=.ref p/\aS K H p xs/\bD K H ds xs
 | .tuple ds,v=>∃ p xs,v=.ref p/\aL K H p xs/\bD K H ds xs
 | .dict _,_=>False
def bD (K:PySem.W.Frag) (H:Hp):List PyData->List V->Prop
 | [],xs=>xs=[]
 | d::ds,xs=>∃ x r,xs=x::r/\dv K H d x/\bD K H ds r
end
section
variable {K:PySem.W.Frag} {H H':Hp}
theorem Rd.same {a:Addr} {o:HO} (h:Rd H a o) (s:aG H H'):Rd H' a o:=by
 rcases h with h | ⟨b,h⟩
 ·exact .inl (s _ _ h)
 ·exact .inr ⟨b,s _ _ h⟩
theorem aS.same {a:Addr} {xs:List V} (h:aS K H a xs) (s:aG H H'):aS K H' a xs:=h.imp (λz=>z.same s) id
theorem aL.same {a:Addr} {xs:List V} (h:aL K H a xs) (s:aG H H'):aL K H' a xs:=h.imp (λz=>z.same s) id
mutual
theorem dv.same (s:aG H H'):∀(d:PyData) {v:V},dv K H d v->dv K H' d v
 | .none,_,h=>h
 | .bool _,_,h=>h
 | .int _,_,h=>h
 | .str _,_,h=>h
 | .list ds,_,⟨p,xs,e,h,t⟩=>⟨p,xs,e,h.same s,bD.same s ds t⟩
 | .tuple ds,_,⟨p,xs,e,h,t⟩=>⟨p,xs,e,h.same s,bD.same s ds t⟩
 | .dict _,_,h=>h.elim
theorem bD.same (s:aG H H'):∀(ds:List PyData) {xs:List V},bD K H ds xs->bD K H' ds xs
 | [],_,h=>h
 | d::ds,_,⟨x,r,e,h,t⟩=>⟨x,r,e,dv.same s d h,bD.same s ds t⟩
end
theorem bD.length:∀{ds:List PyData} {xs:List V},bD K H ds xs->xs.length=ds.length
 | [],_,h=>by cases h;rfl
 | d::ds,_,⟨x,r,e,h,t⟩=>by subst e;rw [List.length_cons,List.length_cons,bD.length t]
theorem bD.get:∀{ds:List PyData} {xs:List V},bD K H ds xs->∀{i:Nat} {x:V},xs[i]?=some x->∃ d,ds[i]?=some d/\dv K H d x
 | [],_,h,i,x,e=>by cases h;simp at e
 | d::ds,_,⟨y,r,ey,h,t⟩,0,x,e=>by subst ey;simp at e;subst e;exact⟨d,rfl,h⟩
 | d::ds,_,⟨y,r,ey,h,t⟩,i+1,x,e=>by subst ey;simp at e;simpa using bD.get t e
theorem bD.append:∀{ds es:List PyData} {xs ys:List V},bD K H ds xs->bD K H es ys->bD K H (ds++es) (xs++ys)
 | [],_,_,_,h,h'=>by cases h;exact h'
 | d::ds,_,_,_,⟨x,r,e,h,t⟩,h'=>by subst e;exact⟨x,_,rfl,h,t.append h'⟩
theorem bD.one {d:PyData} {x:V} (h:dv K H d x):bD K H [d] [x]:=⟨x,[],rfl,h,rfl⟩
theorem bD.ints:∀ ns:List Int,bD K H (ns.map PyData.int) (ns.map V.int)
 | []=>rfl
 | n::ns=>⟨_,_,rfl,rfl,bD.ints ns⟩
theorem dv.lst {p:Addr} {xs:List V} {ds:List PyData} (h:H p=some (.lst xs)) (t:bD K H ds xs):dv K H (.list ds) (.ref p):=⟨p,xs,rfl,aS.of h,t⟩
theorem dv.tup {p:Addr} {xs:List V} {ds:List PyData} (h:H p=some (.tup xs)) (t:bD K H ds xs):dv K H (.tuple ds) (.ref p):=⟨p,xs,rfl,aL.of h,t⟩
mutual
def z9:PyData->Bool
 | .list _=>false
 | .tuple ds=>kA ds
 | _=>true
def kA:List PyData->Bool
 | []=>true
 | d::ds=>z9 d && kA ds
end
def SameBut (p:Addr) (H H':Hp):Prop:=∀ b o,b≠p->H b=some o->H' b=some o
theorem aL.but {p a:Addr} {us xs:List V} (hp:H p=some (.lst us)) (s:SameBut p H H') (h:aL K H a xs):aL K H' a xs:=by
 rcases h with (h | ⟨o,h⟩) | h
 ·exact .inl (.inl (s _ _ (λe=>by rw [e,hp] at h;cases h) h))
 ·exact .inl (.inr ⟨o,s _ _ (λe=>by rw [e,hp] at h;cases h) h⟩)
 ·exact .inr h
mutual
theorem dv.but {p:Addr} {us:List V} (hp:H p=some (.lst us)) (s:SameBut p H H'):∀(d:PyData) {v:V},z9 d=true->dv K H d v->dv K H' d v
 | .none,_,_,h=>h
 | .bool _,_,_,h=>h
 | .int _,_,_,h=>h
 | .str _,_,_,h=>h
 | .list ds,_,z,_=>by cases z
 | .tuple ds,_,z,⟨q,xs,e,h,t⟩=>⟨q,xs,e,h.but hp s,bD.but hp s ds z t⟩
 | .dict _,_,_,h=>h.elim
theorem bD.but {p:Addr} {us:List V} (hp:H p=some (.lst us)) (s:SameBut p H H'):∀(ds:List PyData) {xs:List V},kA ds=true->bD K H ds xs->bD K H' ds xs
 | [],_,_,h=>h
 | d::ds,_,z,⟨x,r,e,h,t⟩=>by
  have z':z9 d=true/\kA ds=true:=by simpa [kA] using z
  exact⟨x,r,e,dv.but hp s d z'.1 h,bD.but hp s ds z'.2 t⟩
end
theorem nR {α:Type} {f:α->PyData} (h:∀ x,z9 (f x)=true):∀ xs:List α,kA (xs.map f)=true
 | []=>rfl
 | x::xs=>by rw [List.map_cons,kA,h,nR h xs];rfl
end
section
variable {X:Cx} {pins:List (Addr × Obj)} {σ:St} {H:Hp} {s:Shared}
mutual
theorem dY (I:Inv X pins σ H s):∀(d:PyData) {v:V} {u:Value},dv X.K H d v->RelV v u->∃ as,Reads s.heap u d as
 | .none,_,u,h,r=>by cases h;cases r;exact⟨_,.none⟩
 | .bool _,_,u,h,r=>by cases h;cases r;exact⟨_,.bool _⟩
 | .int _,_,u,h,r=>by cases h;obtain⟨t,rfl⟩:=r;exact⟨_,.int _ _⟩
 | .str _,_,u,h,r=>by cases h;obtain⟨t,rfl⟩:=r;exact⟨_,.str _ _⟩
 | .list ds,_,u,⟨p,xs,e,h,t⟩,r=>by
  subst e
  cases r
  obtain⟨its,rr,pl,_⟩:=I.list h
  obtain⟨o,h1,h2,n,h3⟩:=pl.isList
  obtain⟨as,ra⟩:=fI I ds t rr
  exact⟨_,.list h1 h2 h3 (by simpa using ra)⟩
 | .tuple ds,_,u,⟨p,xs,e,h,t⟩,r=>by
  subst e
  cases r
  obtain⟨its,rr,pl,_⟩:=I.tuple h
  obtain⟨o,h1,h2,n,h3⟩:=pl
  obtain⟨as,ra⟩:=fI I ds t rr
  exact⟨_,.tuple h1 h2 h3 (by simpa using ra)⟩
 | .dict _,_,_,h,_=>h.elim
theorem fI (I:Inv X pins σ H s):∀(ds:List PyData) {xs:List V} {us:List Value},bD X.K H ds xs->Vals xs us->∃ as,ReadsAll s.heap us ds as
 | [],_,us,h,r=>by cases h;cases r;exact⟨_,.nil⟩
 | d::ds,_,us,⟨x,r,e,h,t⟩,rr=>by
  subst e
  cases rr with
  | cons r1 r2 =>
   obtain⟨a1,q1⟩:=dY I d h r1
   obtain⟨a2,q2⟩:=fI I ds t r2
   exact⟨_,.cons q1 q2⟩
end
def xZ (K:PySem.W.Frag) (neg:Bool):R2:=λy x H Q=>∃ d e,dv K H d y/\dv K H e x/\d.canLay0=true/\e.canLay0=true/\min d.depth e.depth<=60/\Q (.bl (if neg then !PyData.eqv d e else PyData.eqv d e)) H
theorem jX (hu:X.A.units+64<cLine):gu X (compareOp .Eq) (xZ X.K false):=by
 intro pins s σ H y x u v Q I ry rx h
 obtain⟨d,e,hd,he,c1,c2,c3,q⟩:=h
 obtain⟨as,ra⟩:=dY I d hd ry
 obtain⟨bs,rb⟩:=dY I e he rx
 exact SeqAt.compareEq_reads ra rb c1 c2 (by omega) ⟨.bl _,H,I,rfl,q⟩
theorem qb (hu:X.A.units+64<cLine):gu X (compareOp .NotEq) (xZ X.K true):=by
 intro pins s σ H y x u v Q I ry rx h
 obtain⟨d,e,hd,he,c1,c2,c3,q⟩:=h
 obtain⟨as,ra⟩:=dY I d hd ry
 obtain⟨bs,rb⟩:=dY I e he rx
 exact SeqAt.compareNe_reads ra rb c1 c2 (by omega) ⟨.bl _,H,I,rfl,q⟩
end
end L2
namespace Pw
def lst (xs:List Nat):Nat:=xs.getLast?.getD 0
end Pw
namespace L2
open PySem PySem.Spec PyProof.Rows PySem.W
def CA (C:Addr) (H:Hp) (E:XK):Prop:=∀ x H',aG H H'->H x=none->H' x=some (XO x C none)->E (.ref C) (some x) H'
def CB (C:Addr) (f:Str) (v:V) (H:Hp) (E:XK):Prop:=∀ x dx H',aG H H'->H x=none->H' x=some (XO x C (some dx))->H' dx=some (.xd [(f,v)])->E (.ref C) (some x) H'
theorem kS {K:PySem.W.Frag} {C x:Addr} {H H1:Hp} {E:XK} (c:d7 K C) (hs:aG H H1) (hx:H1 x=none) (e:CA C H E) :
  ∃(C':Addr) (dd:Option Addr),upd H1 x (XN x C none) x=some (XN x C' dd)/\d7 K C'/\H x=none/\E (.ref C') (some x) (upd (upd H1 x (XN x C none)) x (XO x C' dd)):=by
 refine⟨C,none,ag,c,hs.free hx,e x _ ?_ (hs.free hx) ag⟩
 intro b o q
 have q1:=hs _ _ q
 have bx:b≠x:=λy=>by rw [y,hx] at q1;cases q1
 rw [aA bx,aA bx]
 exact q1
theorem kT {K:PySem.W.Frag} {C x dx:Addr} {f:Str} {v:V} {H H1:Hp} {E:XK} (c:d7 K C) (hs:aG H H1) (hx:H1 x=none) (hdx:H1 dx=none) (ne:dx≠x) (e:CB C f v H E) :
  ∃(C':Addr) (dd:Option Addr),upd (upd (upd H1 x (XN x C none)) dx (.xd [(f,v)])) x (XN x C (some dx)) x=some (XN x C' dd)/\d7 K C'/\H x=none/\E (.ref C') (some x) (upd (upd (upd (upd H1 x (XN x C none)) dx (.xd [(f,v)])) x (XN x C (some dx))) x (XO x C' dd)):=by
 refine⟨C,some dx,ag,c,hs.free hx,e x dx _ ?_ (hs.free hx) ag ?_⟩
 ·intro b o q
  have q1:=hs _ _ q
  have bx:b≠x:=λy=>by rw [y,hx] at q1;cases q1
  have bd:b≠dx:=λy=>by rw [y,hdx] at q1;cases q1
  rw [aA bx,aA bx,aA bd,aA bx]
  exact q1
 ·rw [aA ne,aA ne,ag]
end L2
namespace Ld
structure fv (n r:Int):Prop where
 two:2<=r
 dv:r∣n
 no:∀ d:Int,2<=d->d<r->¬d∣n
theorem fv.one {n r r':Int} (h:fv n r) (h':fv n r'):r=r':=by
 rcases Int.lt_trichotomy r r' with c | c | c
 ·exact absurd h.dv (h'.no r h.two c)
 ·exact c
 ·exact absurd h'.dv (h.no r' h'.two c)
theorem fv.le {n r:Int} (h:fv n r) (hn:0<n):r<=n:=Int.le_of_dvd hn h.dv
structure Inv (n k:Int):Prop where
 two:2<=k
 odd:k=2∨k%2=1
 no:∀ d:Int,2<=d->d<k->¬d∣n
theorem Inv.step {n k:Int} (h:Inv n k) (hk:¬k∣n):Inv n (k+if k=2 then 1 else 2):=by
 have h2:=h.two
 by_cases c:k=2
 ·rw [if_pos c]
  refine⟨by omega,.inr (by omega),λd d0 d1=>?_⟩
  have:d=k:=by omega
  rw [this];exact hk
 ·rw [if_neg c]
  have ho:k%2=1:=by rcases h.odd with z | z;exact absurd z c;exact z
  refine⟨by omega,.inr (by omega),λd d0 d1 hd=>?_⟩
  rcases (by omega:d<k∨d=k∨d=k+1) with z | z | z
  ·exact h.no d d0 z hd
  ·subst z;exact hk hd
  ·have e2:(2:Int)∣d:=Int.dvd_of_emod_eq_zero (by omega)
   exact h.no 2 (by omega) (by omega) (Int.dvd_trans e2 hd)
theorem Inv.found {n k:Int} (h:Inv n k) (hk:k∣n):fv n k:=⟨h.two,hk,h.no⟩
theorem Inv.done {n k:Int} (h:Inv n k) (hn:2<=n) (hk:n<k*k):fv n n:=by
 refine⟨hn,Int.dvd_refl n,λd d0 d1 hd=>?_⟩
 obtain⟨c,hc⟩:=hd
 have h2:=h.two
 by_cases z:d<k
 ·exact h.no d d0 z ⟨c,hc⟩
 ·have c0:0<c:=by
   rcases (by omega:c<=0∨0<c) with y | y
   ·have:=Int.mul_nonpos_of_nonneg_of_nonpos (show 0<=d by omega) y
    omega
   ·exact y
  have c2:2<=c:=by
   rcases (by omega:c=1∨2<=c) with y | y
   ·subst y;omega
   ·exact y
  have ck:c<k:=by
   rcases (by omega:c<k∨k<=c) with y | y
   ·exact y
   ·have:=Int.mul_le_mul (show k<=d by omega) y (by omega) (by omega)
    omega
  exact h.no c c2 ck ⟨d,by rw [Int.mul_comm];exact hc⟩
end Ld
namespace L2
open PySem PySem.Spec PyProof.Rows PySem.W
section
variable {K:PySem.W.Frag} {H:Hp}
theorem nF:∀ bs cs:List Int,PyData.eqvAll (bs.map PyData.int) (cs.map PyData.int)=decide (bs=cs)
 | [],[]=>by simp [PyData.eqvAll]
 | [],_::_=>by simp [PyData.eqvAll]
 | _::_,[]=>by simp [PyData.eqvAll]
 | a::r,b::t=>by
  simp only [List.map_cons,PyData.eqvAll,PyData.eqv,nF r t]
  by_cases h:a=b<;>by_cases h':r=t<;>simp [h,h']
theorem fz {neg:Bool} {p q:Addr} {bs cs:List Int} {Q:VK} (h1:aS K H p (bs.map V.int)) (h2:aS K H q (cs.map V.int)) (h:Q (.bl (if neg then !decide (bs=cs) else decide (bs=cs))) H):xZ K neg (.ref p) (.ref q) H Q:=by
 refine⟨.list (bs.map PyData.int),.list (cs.map PyData.int),⟨_,_,rfl,h1,bD.ints _⟩,⟨_,_,rfl,h2,bD.ints _⟩,ke_canLayAll0 _,ke_canLayAll0 _,?_,?_⟩
 ·simp [PyData.depth,ke_depthAll]
 ·show Q (.bl (if neg then !PyData.eqvAll _ _ else PyData.eqvAll _ _)) H
  rw [nF]
  exact h
mutual
theorem eqv_refl:∀ d:PyData,d.canLay0=true->PyData.eqv d d=true
 | .none,_=>by simp [PyData.eqv]
 | .bool _,_=>by simp [PyData.eqv]
 | .int _,_=>by simp [PyData.eqv]
 | .str _,_=>by simp [PyData.eqv]
 | .list ds,h=>by simpa [PyData.eqv] using iT ds h
 | .tuple ds,h=>by simpa [PyData.eqv] using iT ds h
 | .dict _,h=>by simp [PyData.canLay0] at h
theorem iT:∀ ds:List PyData,PyData.canLayAll0 ds=true->PyData.eqvAll ds ds=true
 | [],_=>by simp [PyData.eqvAll]
 | d::ds,h=>by
  have h':d.canLay0=true/\PyData.canLayAll0 ds=true:=by simpa [PyData.canLayAll0] using h
  simp [PyData.eqvAll,eqv_refl d h'.1,iT ds h'.2]
end
end
end L2
namespace L2
open PySem PySem.Spec PyProof.Rows
def CF (lo k:Int) (n:Nat):It:=⟨λi _=>i<n,λi H x H'=>H'=H/\x=.int (lo+i*k),λi _=>n<=i⟩
def Bz (lo hi k:Int):Nat:=if lo<hi then ((hi-lo-1)/k+1).toNat else 0
def Bt (ta:TA):TI:=λσ H R=>ta σ H λvs H1=>∃ i j k:Int,vs=[.int i,.int j,.int k]/\(-(2^60)<=i/\i<2^60 /\ -(2^60)<=j/\j<2^60/\0<k/\k<2^29)/\R (CF i k (Bz i j k)) H1
section
variable {X:Cx} {tg:Expr}
end
end L2
namespace Sv
def AA (d:Nat) (arr:Nat->Bool):Nat->Bool:=λj=>arr j || (decide (d*d<=j) && decide (j%d=0))
def sv:Nat->(Nat->Bool) × List Nat
 | 0=>(λ_=>false,[])
 | i+1=>if (sv i).1 (i+2) then sv i else (AA (i+2) (sv i).1,(sv i).2++[i+2])
theorem len:∀ i,(sv i).2.length<=i
 | 0=>Nat.le_refl _
 | i+1=>by
  have:=len i
  rw [sv]
  split
  ·omega
  ·rw [List.length_append,List.length_singleton];omega
end Sv
namespace L2
open PySem PySem.Spec PyProof.Rows
theorem rY {X:Cx}:dW X (.type "int") (λxs H Q=>∃ k,xs=[.bl k]/\Q (.int (if k=true then 1 else 0)) H):=λpins s σ H xs us Q I r h=>kN pins s σ H xs us Q I r (.inr h)
section
variable {X:Cx} {pins:List (Addr × Obj)} {σ:St} {H:Hp} {s:Shared} {h':Heap}
theorem Inv.rR {t':Nat} {ch:List Addr} (I:Inv X pins σ H s) (k:∀ b o,b∉ch->s.heap.get? b=some o->h'.get? b=some o) (hf:∀ b∈ch,ko X pins H b):Inv X pins σ H { s with heap:=h',toks:=t' }:=by
 have nit:∀ b u,H b=some u->b∉ch:=λb u e z=>by rw [(hf b z).1] at e;cases e
 refine I.step (g':=s.gens) (d':=s.drawn) (ch:=ch) (λb hb=>?_) (λb o _ _ hc e _=>k b o hc e) (λb o _ _ hc e _=>⟨o.slots,k b o hc e⟩) (λ_ _ _ _ n=>n)
  (λb o hc e=>⟨o,k b o hc e⟩) (λ_ _ e=>e) (λ_ _ _ e=>e) (λb ps e=>⟨#[],by rw [e];simp⟩) (λm hm=>?_) (λb u e=>?_) I.bare
 ·obtain⟨_,f1,_,f3,f4,f5⟩:=hf b hb
  exact⟨f3,f1,f4,f5⟩
 ·obtain⟨o,es,ep,ho,r⟩:=hm
  exact⟨o,es,ep,k _ o (λz=>(hf _ z).2.1 rfl) ho,r⟩
 ·refine (I.hok b u e).ki (λc v hc q=>k c v ?_ q) (λ_ q=>q) λ_ _ q=>q
  rcases hc with z | z
  ·rw [z];exact nit b u e
  ·exact nit c _ z
theorem Inv.adopt {T:Addr} {o:HO} (I:Inv X pins σ H s) (hf:ko X pins H T) (new:bP X.prog X.w (upd H T o) s.heap T o):Inv X pins σ (upd H T o) s:=by
 have nT:∀ b u,H b=some u->b≠T:=λb u e z=>by rw [z,hf.1] at e;cases e
 refine I.step (h':=s.heap) (g':=s.gens) (d':=s.drawn) (t':=s.toks) (ch:=[T]) (λb hb=>?_) (λb o _ _ hc e _=>e) (λb o _ _ hc e _=>⟨o.slots,e⟩) (λb o hc e n=>by rw [aA (λz=>hc (by simp [z]))];exact n)
  (λb o hc e=>⟨o,e⟩) (λb xs e=>by rw [aA (nT _ _ e)];exact e) (λb o u e=>by rw [aA (nT _ _ e)];exact e) (λb ps e=>⟨#[],by rw [aA (nT _ _ e),e];simp⟩) (λm hm=>hm) (λb u e=>?_) I.bare
 ·have e:b=T:=by simpa using hb
  subst e
  obtain⟨_,f1,_,f3,f4,f5⟩:=hf
  exact⟨f3,f1,f4,f5⟩
 ·by_cases z:b=T
  ·subst z
   rw [ag] at e
   cases e
   exact new
  ·rw [aA z] at e
   exact (I.hok b u e).ki (λc v _ q=>q) (λc q=>by rw [aA (nT _ _ q)];exact q) λc xs q=>by rw [aA (nT _ _ q)];exact q
end
def Dz (K:PySem.W.Frag) (a:Addr):It :=
 ⟨λi H=>∃ xs x,aS K H a xs/\xs[i]?=some x,λi H x H'=>∃ p v,H p=none/\x=.ref p/\(∀ xs,aS K H a xs->xs[i]?=some v)/\H'=upd H p (.tup [.int i,v]),λi H=>∃ xs,aS K H a xs/\xs.length<=i⟩
def Bs (K:PySem.W.Frag) (ta:TA):TI:=λσ H R=>ta σ H λvs H1=>∃ a,vs=[.ref a]/\(∃ xs,aS K H1 a xs)/\R (Dz K a) H1
end L2
namespace Crt
structure G (a b g:Int):Prop where
 pos:0<g
 da:g∣a
 db:g∣b
 lin:∃ u v:Int,u*a+v*b=g
theorem G.gr {a b g d:Int} (h:G a b g) (h1:d∣a) (h2:d∣b):d∣g:=by
 obtain⟨u,v,e⟩:=h.lin
 rw [<- e]
 exact Int.dvd_add (Int.dvd_mul_of_dvd_right h1) (Int.dvd_mul_of_dvd_right h2)
theorem G.one {a b g g':Int} (h:G a b g) (h':G a b g'):g=g':=Int.le_antisymm (Int.le_of_dvd h'.pos (h'.gr h.da h.db)) (Int.le_of_dvd h.pos (h.gr h'.da h'.db))
theorem a1 {g u A v L:Int} (e:u*(g*A)+v*(g*L)=g):g*(u*A+v*L)=g*1:=by grind
theorem a2 {g A k L l y:Int} (h1:y=g*A*k) (h2:y=g*L*l):g*(A*k)=g*(L*l):=by grind
theorem a3 {u A v L k l:Int} (e4:u*A+v*L=1) (e5:A*k=L*l):k=L*(u*l+v*k):=by
 have z:k*(u*A+v*L)=k:=by rw [e4,Int.mul_one]
 grind
theorem a4 {A D r L q1 t:Int} (et:L*q1+t=D*r):A*t=A*(D*r)-A*(L*q1):=by grind
theorem a5 {D r A L c:Int} (hc:r*A-1=L*c):D*(r*A)-D=D*(L*c):=by rw [<- hc];grind
theorem a6 {M L t q2 N x:Int} (ex:M*L*q2+x=N+M*t):x-N=M*(t-L*q2):=by grind
theorem a7 {g A L t q1 q2 c D r N x:Int} (z3:x=N+g*A*t-g*A*L*q2) (z1:A*t=A*(D*r)-A*(L*q1)) (z2:D*(r*A)-D=D*(L*c)):x-(N+g*D)=g*L*(c*D-q1*A-A*q2):=by grind
theorem a8 {M L k w:Int} (h:k=L*w):M*k=M*L*w:=by rw [h,Int.mul_assoc]
structure Dw (M N m n W x:Int):Prop where
 pos:0<W
 dM:M∣W
 dm:m∣W
 le:∀ y:Int,M∣y->m∣y->W∣y
 x0:0<=x
 x1:x<W
 eM:M∣x-N
 em:m∣x-n
theorem CC:∀(b a:Nat),0<a->∃ g,G (a:Int) (b:Int) g:=by
 intro b
 induction b using Nat.strongRecOn with
 | ind b ih =>
  intro a ha
  rcases Nat.eq_zero_or_pos b with z | z
  ·subst z
   exact⟨a,by omega,Int.dvd_refl _,Int.dvd_zero _,1,0,by simp⟩
  ·obtain⟨g,h⟩:=ih (a%b) (Nat.mod_lt a z) b z
   obtain⟨u,v,e⟩:=h.lin
   have ed:(a:Int)=(b:Int)*((a/b:Nat):Int)+((a%b:Nat):Int):=by
    have:=Nat.div_add_mod a b
    rw [<- Int.natCast_mul,<- Int.natCast_add,this]
   refine⟨g,h.pos,?_,h.da,v,u-v*((a/b:Nat):Int),?_⟩
   ·rw [ed]
    exact Int.dvd_add (Int.dvd_mul_of_dvd_left h.da) h.db
   ·rw [ed,<- e]
    generalize ((a/b:Nat):Int)=q
    generalize ((a%b:Nat):Int)=r
    generalize (b:Int)=b'
    grind
theorem Ba {a b:Int} (ha:0<a) (hb:0<b):∃ g,G a b g:=by
 obtain⟨g,h⟩:=CC b.toNat a.toNat (by omega)
 rw [Int.toNat_of_nonneg (by omega),Int.toNat_of_nonneg (by omega)] at h
 exact⟨g,h⟩
structure Told (ps:List (Int × Int)) (M N:Int):Prop where
 pos:0<M
 x0:0<=N
 x1:N<M
 dv:∀ p∈ps,p.1∣M
 le:∀ y:Int,(∀ p∈ps,p.1∣y)->M∣y
 al:∀ p∈ps,p.1∣N-p.2
theorem Told.nil:Told [] 1 0:=⟨by decide,by decide,by decide,λ_ h=>by simp at h,λy _=>⟨y,by omega⟩,λ_ h=>by simp at h⟩
theorem Told.one {ps:List (Int × Int)} {M N M' N':Int} (h:Told ps M N) (h':Told ps M' N'):M=M'/\N=N':=by
 have e:M=M':=Int.le_antisymm (Int.le_of_dvd h'.pos (h.le _ h'.dv)) (Int.le_of_dvd h.pos (h'.le _ h.dv))
 subst e
 refine⟨rfl,?_⟩
 have z:M∣N-N':=h.le _ λp hp=>by
  have:=Int.dvd_sub (h.al p hp) (h'.al p hp)
  rwa [show N-p.2-(N' - p.2)=N-N' by omega] at this
 have w:=Int.emod_emod_of_dvd
 have:=(Int.emod_eq_emod_iff_emod_sub_eq_zero (m:=N) (n:=M) (k:=N')).mpr (Int.emod_eq_zero_of_dvd z)
 rwa [Int.emod_eq_of_lt h.x0 h.x1,Int.emod_eq_of_lt h'.x0 h'.x1] at this
end Crt
namespace Num
def Al (n x y:Int):Prop:=n∣x-y
theorem Al.refl (n x:Int):Al n x x:=⟨0,by omega⟩
theorem Al.symm {n x y:Int} (h:Al n x y):Al n y x:=by
 have:=(Int.dvd_neg).mpr h
 rwa [show -(x-y)=y-x by omega] at this
theorem Al.trans {n x y z:Int} (h:Al n x y) (h':Al n y z):Al n x z:=by
 have:=Int.dvd_add h h'
 rwa [show x-y+(y-z)=x-z by omega] at this
theorem Al.mul {n x y u v:Int} (h:Al n x y) (h':Al n u v):Al n (x*u) (y*v):=by
 have h1:n∣(x-y)*u:=Int.dvd_mul_of_dvd_left h
 have h2:n∣y*(u-v):=Int.dvd_mul_of_dvd_right h'
 have:=Int.dvd_add h1 h2
 rwa [show (x-y)*u+y*(u-v)=x*u-y*v by rw [Int.sub_mul,Int.mul_sub];omega] at this
theorem Al.pow {n x y:Int} (h:Al n x y):∀ k:Nat,Al n (x^k) (y^k)
 | 0=>by rw [Int.pow_zero,Int.pow_zero];exact Al.refl _ _
 | k+1=>by rw [Int.pow_succ,Int.pow_succ];exact (Al.pow h k).mul h
theorem Al.iff {n x y:Int}:Al n x y↔x%n=y%n:=Pw.zI.symm
theorem Al.rest (n x:Int):Al n (x%n) x:=Al.iff.mpr (Int.emod_emod_of_dvd x (Int.dvd_refl n))
def Co (a n:Int):Prop:=∃ u v:Int,u*a+v*n=1
theorem Co.dvd {a n b:Int} (h:Co a n) (hd:n∣a*b):n∣b:=by
 obtain⟨u,v,e⟩:=h
 have h1:n∣u*(a*b):=Int.dvd_mul_of_dvd_right hd
 have h2:n∣(v*b)*n:=⟨v*b,Int.mul_comm _ _⟩
 have:=Int.dvd_add h1 h2
 have e2:u*(a*b)+v*b*n=(u*a+v*n)*b:=by
  rw [Int.add_mul,Int.mul_assoc u a b,Int.mul_assoc v n b,Int.mul_comm n b,Int.mul_assoc v b n]
 rw [e2,e,Int.one_mul] at this
 exact this
theorem Co.cancel {a n x y:Int} (h:Co a n) (e:Al n (a*x) (a*y)):Al n x y:=by
 refine h.dvd ?_
 rw [Int.mul_sub]
 exact e
theorem Co.mul {a b n:Int} (h:Co a n) (h':Co b n):Co (a*b) n:=by
 obtain⟨u,v,e⟩:=h
 obtain⟨u',v',e'⟩:=h'
 refine⟨u*u',u*a*v'+v*(u'*b+v'*n),?_⟩
 have:(u*a+v*n)*(u'*b+v'*n)=1:=by rw [e,e'];rfl
 grind
theorem Co.pow {a n:Int} (h:Co a n):∀ k:Nat,Co (a^k) n
 | 0=>⟨1,0,by rw [Int.pow_zero];simp⟩
 | k+1=>by rw [Int.pow_succ];exact (Co.pow h k).mul h
theorem Co.BA {a b n:Int} (h:Co a n) (e:Al n a b):Co b n:=by
 obtain⟨u,v,e1⟩:=h
 obtain⟨c,hc⟩:=e
 refine⟨u,v+u*c,?_⟩
 have:b=a-n*c:=by omega
 rw [this]
 grind
theorem aX {n a:Int} {d k:Nat} (h:Al n (a^d) 1):Al n (a^(d*k)) 1:=by
 rw [Pw.pow_mul]
 have:=h.pow k
 rwa [Pw.one_pow] at this
structure Ord (n a:Int) (m:Nat):Prop where
 pos:0<m
 one:Al n (a^m) 1
 dv:∀ j:Nat,Al n (a^j) 1->m∣j
theorem pow_mod {n a:Int} {m j:Nat} (h:Al n (a^m) 1) (hj:Al n (a^j) 1):Al n (a^(j%m)) 1:=by
 have e:a^j=a^(m*(j/m))*a^(j%m):=by rw [<- Pw.pow_add,Nat.div_add_mod]
 rw [e] at hj
 have h1:=(aX (k:=j/m) h).mul (Al.refl n (a^(j%m)))
 rw [Int.one_mul] at h1
 exact h1.symm.trans hj
theorem mh {n a:Int} {m:Nat} (pos:0<m) (one:Al n (a^m) 1) (no:∀ j,0<j->j<m->¬Al n (a^j) 1):Ord n a m:=by
 refine⟨pos,one,λj hj=>?_⟩
 have h:=pow_mod one hj
 rcases Nat.eq_zero_or_pos (j%m) with z | z
 ·exact Nat.dvd_of_mod_eq_zero z
 ·exact absurd h (no _ z (Nat.mod_lt _ pos))
theorem fD {P:Nat->Prop}:∀ N:Nat,P N->∃ m,P m/\∀ j,j<m->¬P j:=by
 intro N
 induction N using Nat.strongRecOn with
 | ind N ih =>
  intro h
  by_cases z:∃ j,j<N/\P j
  ·obtain⟨j,hj,pj⟩:=z
   exact ih j hj pj
  ·exact⟨N,h,λj hj pj=>z ⟨j,hj,pj⟩⟩
theorem iY {n a:Int} {N:Nat} (pos:0<N) (h:Al n (a^N) 1):∃ m,Ord n a m/\m<=N:=by
 obtain⟨m,⟨m0,m1⟩,no⟩:=fD (P:=λj=>0<j/\Al n (a^j) 1) N ⟨pos,h⟩
 refine⟨m,mh m0 m1 λj j0 jm z=>no j jm ⟨j0,z⟩,?_⟩
 by_cases z:m<=N
 ·exact z
 ·exact absurd ⟨pos,h⟩ (no N (by omega))
theorem Ord.vz {n a:Int} {m m':Nat} (h:Ord n a m) (h':Ord n a m'):m=m':=Nat.dvd_antisymm (h.dv _ h'.one) (h'.dv _ h.one)
theorem Ord.inj {n a:Int} {m i j:Nat} (h:Ord n a m) (c:Co a n) (hi:i<m) (hj:j<m) (e:Al n (a^i) (a^j)):i=j:=by
 have aux:∀ i j:Nat,i<m->j<m->i<=j->Al n (a^i) (a^j)->i=j:=by
  intro i j hi hj hij e
  have e1:a^j=a^i*a^(j-i):=by rw [<- Pw.pow_add];congr 1;omega
  rw [e1] at e
  have e2:Al n (a^i*1) (a^i*a^(j-i)):=by rw [Int.mul_one];exact e
  have e3:=(c.pow i).cancel e2
  have:=h.dv _ e3.symm
  rcases Nat.eq_zero_or_pos (j-i) with z | z
  ·omega
  ·have:=Nat.le_of_dvd z this
   omega
 rcases Nat.le_total i j with z | z
 ·exact aux i j hi hj z e
 ·exact (aux j i hj hi z e.symm).symm
theorem vK:∀(n:Nat) (l:List Nat),l.Nodup->(∀ x∈l,x<n)->l.length<=n:=by
 intro n
 induction n with
 | zero =>
  intro l _ h
  cases l with
  | nil=>exact Nat.le_refl _
  | cons x r=>exact absurd (h x (by simp)) (by omega)
 | succ n ih =>
  intro l nd h
  by_cases c:n∈l
  ·have h1:=ih (l.erase n) (nd.erase n) λx hx=>by
    have hx':=List.mem_of_mem_erase hx
    have ne:x≠n:=λz=>by
     subst z
     exact absurd hx (List.Nodup.not_mem_erase nd)
    have:=h x hx'
    omega
   rw [List.length_erase_of_mem c] at h1
   omega
  ·have h1:=ih l nd λx hx=>by
    have:=h x hx
    have ne:x≠n:=λz=>c (z▸hx)
    omega
   omega
end Num
namespace Num
structure Pm (p:Int):Prop where
 two:2<=p
 no:∀ d:Int,2<=d->d<p->¬d∣p
theorem Pm.co {p a:Int} (h:Pm p) (ha:¬p∣a):Co a p:=by
 have h2:=h.two
 have r0:=Int.emod_nonneg a (show p≠0 by omega)
 have r1:=Int.emod_lt_of_pos a (show 0<p by omega)
 have rn:a%p≠0:=λz=>ha (Int.dvd_of_emod_eq_zero z)
 obtain⟨g,G⟩:=Crt.Ba (a:=a%p) (b:=p) (by omega) (by omega)
 have gl:=Int.le_of_dvd (show 0<a%p by omega) G.da
 have g1:g=1:=by
  have g0:=G.pos
  rcases (by omega:g=1∨2<=g) with z | z
  ·exact z
  ·exact absurd G.db (h.no g z (by omega))
 obtain⟨u,v,e⟩:=G.lin
 rw [g1] at e
 exact Co.BA ⟨u,v,e⟩ (Al.rest p a)
theorem Pm.or {p a b:Int} (h:Pm p) (hd:p∣a*b) (ha:¬p∣a):p∣b:=(h.co ha).dvd hd
theorem Pm.jA {p:Int} (h:Pm p):¬Al p 0 1:=λz=>by
 have h2:=h.two
 have z':p∣0-1:=z
 have z2:=(Int.dvd_neg).mpr z'
 rw [show -((0:Int)-1)=1 by decide] at z2
 have:=Int.le_of_dvd (show (0:Int)<1 by decide) z2
 omega
def H:Int->List Int->Int->Int
 | acc,[],_=>acc
 | acc,c::cs,x=>H (acc*x+c) cs x
theorem uk (x:Int):∀(cs:List Int) (a b:Int),H (a+b) cs x=H a cs x+b*x^cs.length
 | [],a,b=>by rw [List.length_nil,Int.pow_zero,Int.mul_one];rfl
 | c::cs,a,b=>by
  show H ((a+b)*x+c) cs x=H (a*x+c) cs x+b*x^(cs.length+1)
  rw [show (a+b)*x+c=(a*x+c)+b*x by rw [Int.add_mul];omega,uk x cs,Int.pow_succ,Int.mul_assoc,Int.mul_comm x]
def xX (r:Int):Int->List Int->List Int
 | _,[]=>[]
 | _,[_]=>[]
 | c0,c::c'::cs=>(c0*r+c)::xX r (c0*r+c) (c'::cs)
theorem mC (r:Int):∀(cs:List Int) (c0:Int),(xX r c0 cs).length=cs.length-1
 | [],_=>rfl
 | [_],_=>rfl
 | c::c'::cs,c0=>by
  show (xX r (c0*r+c) (c'::cs)).length+1=_
  rw [mC r (c'::cs)]
  simp
theorem factor (x r:Int):∀(cs:List Int) (c0:Int),cs≠[]->H c0 cs x-H c0 cs r=(x-r)*H c0 (xX r c0 cs) x
 | [],_,h=>absurd rfl h
 | [c],c0,_=>by
  show c0*x+c-(c0*r+c)=(x-r)*c0
  rw [Int.sub_mul,Int.mul_comm c0 x,Int.mul_comm c0 r]
  omega
 | c::c'::cs,c0,_=>by
  have ih:=factor x r (c'::cs) (c0*r+c) (by simp)
  show H (c0*x+c) (c'::cs) x-H (c0*r+c) (c'::cs) r=(x-r)*H (c0*x+(c0*r+c)) (xX r (c0*r+c) (c'::cs)) x
  have e1:c0*x+c=(c0*r+c)+c0*(x-r):=by rw [Int.mul_sub];omega
  have e2:H (c0*x+(c0*r+c)) (xX r (c0*r+c) (c'::cs)) x=H (c0*r+c) (xX r (c0*r+c) (c'::cs)) x+c0*x*x^cs.length:=by
   rw [Int.add_comm (c0*x),uk,mC]
   simp
  rw [e1,uk,e2,List.length_cons,Int.pow_succ,Int.mul_add,<- ih]
  generalize H (c0*r+c) (c'::cs) x=A
  generalize H (c0*r+c) (c'::cs) r=B
  generalize x^cs.length=Y
  grind
theorem roots {p:Int} (hp:Pm p):∀(n:Nat) (cs:List Int) (c0:Int),cs.length=n->¬p∣c0->∀ rs:List Int,rs.Pairwise (λa b=>¬Al p a b)->(∀ r∈rs,p∣H c0 cs r)->rs.length<=n:=by
 intro n
 induction n with
 | zero =>
  intro cs c0 hl h0 rs hr hz
  have:cs=[]:=List.eq_nil_of_length_eq_zero hl
  subst this
  cases rs with
  | nil=>exact Nat.le_refl _
  | cons r rs=>exact absurd (hz r (by simp)) h0
 | succ n ih =>
  intro cs c0 hl h0 rs hr hz
  cases rs with
  | nil=>exact Nat.zero_le _
  | cons r rs =>
   have hne:cs≠[]:=λz=>by rw [z] at hl;simp at hl
   obtain⟨h1,h2⟩:=List.pairwise_cons.mp hr
   have:=ih (xX r c0 cs) c0 (by rw [mC,hl];rfl) h0 rs h2 λs hs=>by
    have e:=factor s r cs c0 hne
    have d1:=hz s (List.mem_cons_of_mem _ hs)
    have d2:=hz r (by simp)
    have d3:=Int.dvd_sub d1 d2
    rw [e] at d3
    exact hp.or d3 λz=>h1 s hs (Al.symm z)
   simpa using this
theorem um (x:Int):∀(n:Nat) (a:Int),H a (List.replicate n 0++[-1]) x=a*x^(n+1)-1
 | 0,a=>by
  show a*x + -1=_
  rw [Int.pow_succ,Int.pow_zero,Int.one_mul];omega
 | n+1,a=>by
  show H (a*x+0) (List.replicate n 0++[-1]) x=_
  rw [um x n,Int.add_zero,Int.pow_succ x (n+1),Int.mul_comm (x^(n+1)) x,Int.mul_assoc]
theorem wQ {p:Int} (hp:Pm p) {n:Nat} (hn:0<n) (h:∀ a:Int,¬p∣a->Al p (a^n) 1):p-1<=n:=by
 have h2:=hp.two
 obtain⟨m,rfl⟩:∃ m,n=m+1:=⟨n-1,by omega⟩
 have key:=roots hp (m+1) (List.replicate m 0++[-1]) 1 (by simp) (λz=>by have:=Int.le_of_dvd (by decide) z;omega) ((List.range (p-1).toNat).map λi:Nat=>(i:Int)+1) ?_ ?_
 ·rw [List.length_map,List.length_range] at key
  omega
 ·rw [List.pairwise_map]
  refine List.Pairwise.imp_of_mem (R:=(·<·)) (λ{a b} ha hb hab z=>?_) List.pairwise_lt_range
  have hb':=List.mem_range.mp hb
  have:=Int.le_of_dvd (by omega) (Al.symm z)
  omega
 ·intro r hr
  obtain⟨i,hi,rfl⟩:=List.mem_map.mp hr
  have hi':=List.mem_range.mp hi
  rw [um,Int.one_mul]
  exact h _ λz=>by have:=Int.le_of_dvd (by omega) z;omega
theorem k8 {f:Nat->Nat} {n:Nat} (h:∀ i j,i<j->j<n->f i≠f j):((List.range n).map f).Nodup:=by
 show List.Pairwise _ _
 rw [List.pairwise_map]
 exact List.Pairwise.imp_of_mem (R:=(·<·)) (λ{a b} ha hb hab=>h a b hab (List.mem_range.mp hb)) List.pairwise_lt_range
theorem rest_eq {p x y:Int} (hp:0<p) (e:(x%p).toNat=(y%p).toNat):Al p x y:=by
 have h1:=Int.emod_nonneg x (show p≠0 by omega)
 have h2:=Int.emod_nonneg y (show p≠0 by omega)
 exact Al.iff.mpr (by omega)
theorem back {n a:Int} (hn:2<=n) (c:Co a n):∃ d:Nat,0<d/\(d:Int)<=n/\Al n (a^d) 1:=by
 by_cases z:∃ i j:Nat,i<j/\j<n.toNat+1/\Al n (a^i) (a^j)
 ·obtain⟨i,j,ij,jn,e⟩:=z
  refine⟨j-i,by omega,by omega,?_⟩
  have e1:a^j=a^i*a^(j-i):=by rw [<- Pw.pow_add];congr 1;omega
  rw [e1] at e
  have e2:Al n (a^i*1) (a^i*a^(j-i)):=by rw [Int.mul_one];exact e
  exact ((c.pow i).cancel e2).symm
 ·exfalso
  have nd:=k8 (f:=λi=>(a^i%n).toNat) (n:=n.toNat+1) λi j ij jn e=>z ⟨i,j,ij,jn,rest_eq (by omega) e⟩
  have:=vK n.toNat _ nd λx hx=>by
   obtain⟨i,_,rfl⟩:=List.mem_map.mp hx
   have h1:=Int.emod_nonneg (a^i) (show n≠0 by omega)
   have h2:=Int.emod_lt_of_pos (a^i) (show 0<n by omega)
   show (a^i%n).toNat<n.toNat
   omega
  rw [List.length_map,List.length_range] at this
  omega
def fact:Nat->Nat
 | 0=>1
 | n+1=>(n+1)*fact n
theorem nH:∀ n,0<fact n
 | 0=>by decide
 | n+1=>Nat.mul_pos (Nat.succ_pos n) (nH n)
theorem nq {d:Nat}:∀ n,0<d->d<=n->d∣fact n
 | 0,h,h'=>by omega
 | n+1,h,h'=>by
  by_cases c:d=n+1
  ·subst c;exact⟨fact n,rfl⟩
  ·exact Nat.dvd_trans (nq n h (by omega)) ⟨n+1,Nat.mul_comm _ _⟩
theorem Ord.mul {n a b:Int} {k m:Nat} (ha:Ord n a k) (hb:Ord n b m) (ca:Co a n) (cb:Co b n) (co:Nat.Coprime k m):Ord n (a*b) (k*m):=by
 refine⟨Nat.mul_pos ha.pos hb.pos,?_,λj hj=>?_⟩
 ·rw [Pw.mul_pow]
  have h1:=aX (k:=m) ha.one
  have h2:=aX (k:=k) hb.one
  rw [Nat.mul_comm m k] at h2
  exact h1.mul h2
 ·rw [Pw.mul_pow] at hj
  have d1:k∣j:=by
   have e:=hj.pow m
   rw [Pw.one_pow,Pw.mul_pow,<- Pw.pow_mul,<- Pw.pow_mul] at e
   have h2:=aX (k:=j) hb.one
   rw [Nat.mul_comm m j] at h2
   have e2:Al n (a^(j*m)) 1:=by
    have:=(Al.refl n (a^(j*m))).mul h2.symm
    rw [Int.mul_one] at this
    exact this.trans e
   exact Nat.Coprime.dvd_of_dvd_mul_right co (ha.dv _ e2)
  have d2:m∣j:=by
   have e:=hj.pow k
   rw [Pw.one_pow,Pw.mul_pow,<- Pw.pow_mul,<- Pw.pow_mul] at e
   have h2:=aX (k:=j) ha.one
   rw [Nat.mul_comm k j] at h2
   have e2:Al n (b^(j*k)) 1:=by
    have:=h2.symm.mul (Al.refl n (b^(j*k)))
    rw [Int.one_mul] at this
    exact this.trans e
   exact Nat.Coprime.dvd_of_dvd_mul_right co.symm (hb.dv _ e2)
  exact Nat.Coprime.mul_dvd_of_dvd_of_dvd co d1 d2
end Num
namespace Num
def Nm (q:Nat):Prop:=2<=q/\∀ d,2<=d->d<q->¬d∣q
theorem yW {m:Nat} (h:2<=m):∃ q,Nm q/\q∣m:=by
 obtain⟨q,⟨q2,qm⟩,no⟩:=fD (P:=λd=>2<=d/\d∣m) m ⟨h,Nat.dvd_refl m⟩
 exact⟨q,⟨q2,λd d2 dq hd=>no d dq ⟨d2,Nat.dvd_trans hd qm⟩⟩,qm⟩
theorem Nm.co {q m:Nat} (h:Nm q) (hm:¬q∣m):Nat.Coprime q m:=by
 have hg:=Nat.gcd_dvd_left q m
 have g0:0<Nat.gcd q m:=Nat.gcd_pos_of_pos_left m (by have:=h.1;omega)
 have gl:=Nat.le_of_dvd (by have:=h.1;omega) hg
 rcases (by omega:Nat.gcd q m=1∨(2<=Nat.gcd q m/\Nat.gcd q m<q)∨Nat.gcd q m=q) with z | ⟨z1,z2⟩ | z
 ·exact z
 ·exact absurd hg (h.2 _ z1 z2)
 ·exact absurd (z▸Nat.gcd_dvd_right q m) hm
theorem wa {q:Nat} (hq:2<=q):∀ m:Nat,0<m->∃ k m',m=q^k*m'/\¬q∣m':=by
 intro m
 induction m using Nat.strongRecOn with
 | ind m ih =>
  intro hm
  by_cases c:q∣m
  ·obtain⟨t,ht⟩:=c
   have t0:0<t:=by
    rcases Nat.eq_zero_or_pos t with z | z
    ·subst z;omega
    ·exact z
   have tm:t<m:=by
    rw [ht]
    have:=Nat.mul_le_mul_right t hq
    omega
   obtain⟨k,m',e,hn⟩:=ih t tm t0
   exact⟨k+1,m',by rw [ht,e,Nat.pow_succ,Nat.mul_comm (q^k) q,Nat.mul_assoc],hn⟩
  ·exact⟨0,m,by simp,c⟩
theorem q5 {q:Nat} (h:Nm q):∀(k d:Nat),d∣q^(k+1)->¬d∣q^k->d=q^(k+1):=by
 intro k
 induction k with
 | zero =>
  intro d h1 h2
  rw [Nat.zero_add,Nat.pow_one] at h1 ⊢
  rw [Nat.pow_zero] at h2
  have q2:=h.1
  have d0:0<d:=Nat.pos_of_dvd_of_pos h1 (by omega)
  have dl:=Nat.le_of_dvd (by omega) h1
  rcases (by omega:d=1∨(2<=d/\d<q)∨d=q) with z | ⟨z1,z2⟩ | z
  ·exact absurd (z▸Nat.dvd_refl 1) h2
  ·exact absurd h1 (h.2 d z1 z2)
  ·exact z
 | succ k ih =>
  intro d h1 h2
  by_cases c:q∣d
  ·obtain⟨t,ht⟩:=c
   have q0:0<q:=by have:=h.1;omega
   rw [ht,Nat.pow_succ,Nat.mul_comm (q^(k+1)) q] at h1
   rw [ht,Nat.pow_succ,Nat.mul_comm (q^k) q] at h2
   have e1:=Nat.dvd_of_mul_dvd_mul_left q0 h1
   have e2:¬t∣q^k:=λz=>h2 (Nat.mul_dvd_mul_left q z)
   rw [ht,ih t e1 e2,Nat.pow_succ q (k+1),Nat.mul_comm]
  ·have co:Nat.Coprime (q^(k+1+1)) d:=Nat.Coprime.pow_left _ (h.co c)
   have:d∣1:=by
    have:=Nat.dvd_gcd h1 (Nat.dvd_refl d)
    rwa [co] at this
   exact absurd (Nat.dvd_trans this (Nat.one_dvd _)) h2
section
variable {p:Int} {L:Nat}
structure Ex (p:Int) (L:Nat):Prop where
 pos:0<L
 all:∀ a:Int,¬p∣a->Al p (a^L) 1
 no:∀ j,0<j->j<L->∃ a:Int,¬p∣a/\¬Al p (a^j) 1
theorem Pm.unit {p a:Int} (hp:Pm p) (c:Co a p):¬p∣a:=λh=>by
 obtain⟨u,v,e⟩:=c
 have h1:p∣u*a:=Int.dvd_mul_of_dvd_right h
 have h2:p∣v*p:=⟨v,Int.mul_comm _ _⟩
 have:=Int.dvd_add h1 h2
 rw [e] at this
 have:=Int.le_of_dvd (by decide) this
 have:=hp.two
 omega
theorem yH (hp:Pm p):∃ L,Ex p L:=by
 have h2:=hp.two
 have uni:∀ a:Int,¬p∣a->Al p (a^fact p.toNat) 1:=λa ha=>by
  obtain⟨d,d0,d1,e⟩:=back h2 (hp.co ha)
  obtain⟨t,ht⟩:=nq p.toNat d0 (by omega)
  rw [ht]
  exact aX e
 obtain⟨L,⟨l0,l1⟩,no⟩:=fD (P:=λj=>0<j/\∀ a:Int,¬p∣a->Al p (a^j) 1) (fact p.toNat) ⟨nH _,uni⟩
 refine⟨L,l0,l1,λj j0 jl=>?_⟩
 have:=no j jl
 by_cases z:∃ a:Int,¬p∣a/\¬Al p (a^j) 1
 ·exact z
 ·exact absurd ⟨j0,λa ha=>Classical.byContradiction λw=>z ⟨a,ha,w⟩⟩ this
theorem oa (hp:Pm p) (h:Ex p L):∀ m:Nat,0<m->m∣L->∃ x:Int,Co x p/\Ord p x m:=by
 intro m
 induction m using Nat.strongRecOn with
 | ind m ih =>
  intro hm hd
  by_cases c:m=1
  ·subst c
   exact⟨1,⟨1,0,by omega⟩,by decide,by rw [Int.pow_succ,Int.pow_zero];exact Al.refl _ _,λj _=>Nat.one_dvd j⟩
  ·obtain⟨q,hq,qm⟩:=yW (show 2<=m by omega)
   obtain⟨k,m',e,hn⟩:=wa hq.1 m hm
   have q0:0<q:=by have:=hq.1;omega
   obtain⟨k',rfl⟩:∃ k',k=k'+1:=by
    cases k with
    | zero=>rw [Nat.pow_zero,Nat.one_mul] at e;exact absurd (e▸qm) hn
    | succ k'=>exact⟨k',rfl⟩
   have m0:0<m':=by
    rcases Nat.eq_zero_or_pos m' with z | z
    ·rw [z,Nat.mul_zero] at e;omega
    ·exact z
   have qk:2<=q^(k'+1):=by
    rw [Nat.pow_succ]
    have:=Nat.mul_le_mul (Nat.pow_pos (n:=k') q0) hq.1
    omega
   have mm:m'<m:=by
    rw [e]
    have:=Nat.mul_le_mul_right m' qk
    omega
   obtain⟨y,cy,oy⟩:=ih m' mm m0 (Nat.dvd_trans ⟨q^(k'+1),by rw [e,Nat.mul_comm]⟩ hd)
   have dq:q^(k'+1)∣L:=Nat.dvd_trans ⟨m',e⟩ hd
   obtain⟨T,hT⟩:=dq
   have T0:0<T:=by
    rcases Nat.eq_zero_or_pos T with z | z
    ·rw [z,Nat.mul_zero] at hT;have:=h.pos;omega
    ·exact z
   have eL:L=q*(q^k'*T):=by rw [hT,Nat.pow_succ,Nat.mul_comm (q^k') q,Nat.mul_assoc]
   have jp:0<q^k'*T:=Nat.mul_pos (Nat.pow_pos q0) T0
   have jl:q^k'*T<L:=by
    rw [eL]
    have:=Nat.mul_le_mul_right (q^k'*T) hq.1
    omega
   obtain⟨a,ha,hna⟩:=h.no _ jp jl
   have ca:=hp.co ha
   have z1:Al p ((a^T)^(q^(k'+1))) 1:=by
    rw [<- Pw.pow_mul,Nat.mul_comm,<- hT]
    exact h.all a ha
   have z2:¬Al p ((a^T)^(q^k')) 1:=by
    rw [<- Pw.pow_mul,Nat.mul_comm]
    exact hna
   obtain⟨d,od,_⟩:=iY (Nat.pow_pos q0) z1
   have d1:=od.dv _ z1
   have d2:¬d∣q^k':=λw=>z2 (by obtain⟨t,ht⟩:=w;rw [ht];exact aX od.one)
   have ed:=q5 hq k' d d1 d2
   subst ed
   refine⟨a^T*y,(ca.pow T).mul cy,?_⟩
   rw [e]
   exact od.mul oy (ca.pow T) cy (Nat.Coprime.pow_left _ (hq.co hn))
theorem yI (hp:Pm p) (h:Ex p L):(L:Int)=p-1:=by
 have h2:=hp.two
 have h1:=wQ hp h.pos h.all
 obtain⟨g,cg,og⟩:=oa hp h L h.pos (Nat.dvd_refl L)
 have nd:=k8 (f:=λi=>(g^i%p).toNat-1) (n:=L) λi j ij jn e=>by
  have r1:∀ k:Nat,1<=(g^k%p).toNat:=λk=>by
   have a1:=Int.emod_nonneg (g^k) (show p≠0 by omega)
   have:g^k%p≠0:=λz=>hp.unit (cg.pow k) (Int.dvd_of_emod_eq_zero z)
   omega
  have e':(g^i%p).toNat=(g^j%p).toNat:=by
   have:=r1 i
   have:=r1 j
   have e:(g^i%p).toNat-1=(g^j%p).toNat-1:=e
   omega
  have:=og.inj cg (by omega) jn (rest_eq (by omega) e')
  omega
 have:=vK (p-1).toNat _ nd λx hx=>by
  obtain⟨i,_,rfl⟩:=List.mem_map.mp hx
  have a1:=Int.emod_nonneg (g^i) (show p≠0 by omega)
  have a2:=Int.emod_lt_of_pos (g^i) (show 0<p by omega)
  have:g^i%p≠0:=λz=>hp.unit (cg.pow i) (Int.dvd_of_emod_eq_zero z)
  show (g^i%p).toNat-1<(p-1).toNat
  omega
 rw [List.length_map,List.length_range] at this
 omega
theorem iU (hp:Pm p) {a:Int} (ha:¬p∣a):Al p (a^(p-1).toNat) 1:=by
 obtain⟨L,h⟩:=yH hp
 have:=yI hp h
 rw [show (p-1).toNat=L by omega]
 exact h.all a ha
theorem pF (hp:Pm p) {m:Nat} (h0:0<m) (hd:m∣(p-1).toNat):∃ x:Int,1<=x/\x<p/\Ord p x m:=by
 obtain⟨L,h⟩:=yH hp
 have:=yI hp h
 have h2:=hp.two
 obtain⟨x,cx,ox⟩:=oa hp h m h0 (by rwa [show (p-1).toNat=L by omega] at hd)
 have a1:=Int.emod_nonneg x (show p≠0 by omega)
 have a2:=Int.emod_lt_of_pos x (show 0<p by omega)
 have a3:x%p≠0:=λz=>hp.unit cx (Int.dvd_of_emod_eq_zero z)
 refine⟨x%p,by omega,a2,ox.pos,((Al.rest p x).pow m).trans ox.one,λj hj=>ox.dv j (((Al.rest p x).pow j).symm.trans hj)⟩
theorem xc (hp:Pm p):∃ g:Int,1<=g/\g<p/\Ord p g (p-1).toNat:=pF hp (by have:=hp.two;omega) (Nat.dvd_refl _)
end
end Num
namespace Num
theorem Co.Aa {n a:Int} {m:Nat} (h:Al n (a^(m+1)) 1):Co a n:=by
 obtain⟨c,hc⟩:=h
 refine⟨a^m,-c,?_⟩
 rw [Int.pow_succ] at hc
 rw [Int.neg_mul,Int.mul_comm c n]
 omega
theorem vA {n a:Int} {e:Nat} (h0:0<e) (h1:Al n (a^e) 1) (no:∀ q,Nm q->q∣e->¬Al n (a^(e/q)) 1):Ord n a e:=by
 obtain⟨m,om,_⟩:=iY h0 h1
 have d:=om.dv _ h1
 by_cases z:m=e
 ·subst z;exact om
 ·exfalso
  obtain⟨t,ht⟩:=d
  have t2:2<=t:=by
   rcases (by omega:t=0∨t=1∨2<=t) with w | w | w
   ·rw [w] at ht;omega
   ·rw [w,Nat.mul_one] at ht;exact absurd ht.symm z
   ·exact w
  obtain⟨q,hq,r,hr⟩:=yW t2
  have q0:0<q:=by have:=hq.1;omega
  have e1:e=q*(m*r):=by rw [ht,hr,<- Nat.mul_assoc,Nat.mul_comm m q,Nat.mul_assoc]
  refine no q hq ⟨m*r,e1⟩ ?_
  rw [e1,Nat.mul_div_cancel_left _ q0]
  exact aX om.one
theorem Ord.Di {n a:Int} {e:Nat} (h:Ord n a e) {q:Nat} (hq:Nm q) (hd:q∣e):¬Al n (a^(e/q)) 1:=λz=>by
 have q0:0<q:=by have:=hq.1;omega
 obtain⟨r,hr⟩:=hd
 rw [hr,Nat.mul_div_cancel_left _ q0] at z
 have d:=h.dv _ z
 have r0:0<r:=by
  rcases Nat.eq_zero_or_pos r with w | w
  ·rw [w,Nat.mul_zero] at hr;have:=h.pos;omega
  ·exact w
 have:=Nat.le_of_dvd r0 d
 have:=Nat.mul_le_mul_right r hq.1
 omega
end Num
namespace Num
theorem vL {n r:Int} (h:Ld.fv n r):Pm r:=⟨h.two,λd d2 dr hd=>h.no d d2 dr (Int.dvd_trans hd h.dv)⟩
def cF:List (Int × Int)->Int
 | []=>1
 | p::r=>p.1^p.2.toNat*cF r
theorem j4:∀(ps:List (Int × Int)) (p:Int × Int),cF (ps++[p])=cF ps*p.1^p.2.toNat
 | [],p=>by show p.1^_*1=1*_;omega
 | q::r,p=>by
  show q.1^q.2.toNat*cF (r++[p])=q.1^q.2.toNat*cF r*_
  rw [j4 r p,Int.mul_assoc]
structure Part (n:Int) (ps:List (Int × Int)):Prop where
 ok:∀ p∈ps,Pm p.1/\1<=p.2/\p.2<=30
 rise:ps.Pairwise λa b=>a.1<b.1
 prod:cF ps=n
theorem bC {q:Int} (h:0<q):∀ k:Nat,0<q^k
 | 0=>by rw [Int.pow_zero];decide
 | k+1=>by rw [Int.pow_succ];exact Int.mul_pos (bC h k) h
theorem two_pow_le {q:Int} (h:2<=q):∀ k:Nat,(2:Int)^k<=q^k
 | 0=>by rw [Int.pow_zero,Int.pow_zero];exact Int.le_refl _
 | k+1=>by
  rw [Int.pow_succ,Int.pow_succ]
  exact Int.mul_le_mul (two_pow_le h k) h (by decide) (Int.le_of_lt (bC (by omega) k))
theorem two_le:∀{k:Nat},(2:Int)^k<=10^9->k<=29:=by
 intro k h
 by_cases c:k<=29
 ·exact c
 ·exfalso
  have e:k=30+(k-30):=by omega
  rw [e,Pw.pow_add] at h
  have:=bC (show (0:Int)<2 by decide) (k-30)
  have h2:=Int.mul_le_mul_of_nonneg_left (show (1:Int)<=2^(k-30) by omega) (show (0:Int)<=2^30 by decide)
  have:(2:Int)^30=1073741824:=by decide
  omega
structure Way (n:Int) (ps:List (Int × Int)) (left prime:Int):Prop where
 ok:∀ p∈ps,Pm p.1/\1<=p.2/\p.2<=30
 rise:ps.Pairwise λa b=>a.1<b.1
 prod:cF ps*left=n
 pos:1<=left
 inv:Ld.Inv left prime
 le:∀ p∈ps,p.1<=prime
 gone:ps=[]∨¬prime∣left
 two:(2:Int)^ps.length*left<=n
theorem Way.start {n:Int} (h:1<=n):Way n [] n 2:=⟨λ_ z=>by simp at z,List.Pairwise.nil,by show 1*n=n;omega,h,⟨by decide,.inl rfl,λd d0 d1=>by omega⟩,λ_ z=>by simp at z,.inl rfl,by rw [List.length_nil,Int.pow_zero];omega⟩
theorem Way.step {n left prime r left':Int} {ps:List (Int × Int)} {k:Nat} (w:Way n ps left prime) (hn:n<=10^9) (hl:1<left) (h:Ld.fv left r) (e:left=r^k*left') (l0:1<=left') (hk:1<=k) (hg:¬r∣left'):Way n (ps++[(r,(k:Int))]) left' r:=by
 have r2:=h.two
 have pm:=vL h
 have rp:prime<=r:=by
  rcases (by omega:prime<=r∨r<prime) with z | z
  ·exact z
  ·exact absurd h.dv (w.inv.no r r2 z)
 have rk:=bC (show 0<r by omega) k
 have k2:=two_pow_le r2 k
 have kl:(2:Int)^k<=left:=by
  have:=Int.mul_le_mul k2 l0 (by decide) (Int.le_of_lt rk)
  rw [Int.mul_one] at this
  omega
 have ln:left<=n:=by
  have z:=w.two
  have p0:=bC (show (0:Int)<2 by decide) ps.length
  have:=Int.mul_le_mul_of_nonneg_right (show (1:Int)<=2^ps.length by omega) (show 0<=left by omega)
  omega
 have k29:=two_le (k:=k) (by omega)
 refine⟨λp hp=>?_,?_,?_,l0,?_,λp hp=>?_,.inr hg,?_⟩
 ·rcases List.mem_append.mp hp with z | z
  ·exact w.ok p z
  ·rw [List.mem_singleton.mp z]
   exact⟨pm,by show (1:Int)<=k;omega,by show (k:Int)<=30;omega⟩
 ·refine List.pairwise_append.mpr ⟨w.rise,List.pairwise_singleton _ _,λa ha b hb=>?_⟩
  rw [List.mem_singleton.mp hb]
  show a.1<r
  have:=w.le a ha
  rcases w.gone with z | z
  ·rw [z] at ha;simp at ha
  ·have:prime≠r:=λy=>z (y▸h.dv)
   omega
 ·rw [j4,<- w.prod,e]
  show cF ps*r^((k:Int).toNat)*left'=_
  rw [Int.toNat_natCast,Int.mul_assoc]
 ·refine⟨r2,?_,λd d0 d1 hd=>h.no d d0 d1 (by rw [e];exact Int.dvd_mul_of_dvd_right hd)⟩
  rcases (by omega:r=2∨2<r) with z | z
  ·exact .inl z
  ·refine .inr ?_
   rcases (by omega:r%2=1∨r%2=0) with y | y
   ·exact y
   ·exact absurd (Int.dvd_of_emod_eq_zero y) (pm.no 2 (by decide) z)
 ·rcases List.mem_append.mp hp with z | z
  ·have:=w.le p z;omega
  ·rw [List.mem_singleton.mp z];exact Int.le_refl _
 ·rw [List.length_append,List.length_singleton,Pw.pow_add,Int.pow_succ,Int.pow_zero,Int.one_mul,Int.mul_assoc]
  refine Int.le_trans (Int.mul_le_mul_of_nonneg_left ?_ (Int.le_of_lt (bC (by decide) _))) w.two
  rw [e]
  obtain⟨k',rfl⟩:∃ k',k=k'+1:=⟨k-1,by omega⟩
  have p0:=bC (show 0<r by omega) k'
  have h1:r<=r^(k'+1):=by
   rw [Int.pow_succ]
   have:=Int.mul_le_mul_of_nonneg_right (show 1<=r^k' by omega) (show 0<=r by omega)
   omega
  exact Int.mul_le_mul_of_nonneg_right (show 2<=r^(k'+1) by omega) (show 0<=left' by omega)
theorem Way.done {n prime:Int} {ps:List (Int × Int)} (w:Way n ps 1 prime):Part n ps:=⟨w.ok,w.rise,by have:=w.prod;omega⟩
theorem Way.len {n left prime:Int} {ps:List (Int × Int)} (w:Way n ps left prime) (hn:n<=10^9):ps.length<=29:=by
 refine two_le ?_
 have z:=w.two
 have p0:=bC (show (0:Int)<2 by decide) ps.length
 have:=Int.mul_le_mul_of_nonneg_left w.pos (Int.le_of_lt p0)
 omega
end Num
namespace Num
open PySem
theorem eP:∀{ps:List (Int × Int)} {p:Int × Int},p∈ps->1<=p.2->p.1∣cF ps
 | a::r,p,h,hk=>by
  rcases List.mem_cons.mp h with z | z
  ·subst z
   obtain⟨k,hk'⟩:∃ k,p.2.toNat=k+1:=⟨p.2.toNat-1,by omega⟩
   show p.1∣p.1^p.2.toNat*cF r
   rw [hk',Int.pow_succ]
   exact Int.dvd_mul_of_dvd_left ⟨p.1^k,Int.mul_comm _ _⟩
  ·exact Int.dvd_mul_of_dvd_right (eP z hk)
theorem yY {q:Nat} (h:Nm q):Pm (q:Int):=⟨by have:=h.1;omega,λd d2 dq hd=>h.2 d.toNat (by omega) (by omega) (by
 obtain⟨c,hc⟩:=hd
 have:(d.toNat:Int)=d:=by omega
 exact Int.natCast_dvd_natCast.mp (by rw [this];exact⟨c,hc⟩))⟩
theorem qT {p:Int} (h:Pm p):Nm p.toNat:=⟨by have:=h.two;omega,λd d2 dp hd=>h.no d (by omega) (by omega) (by
 have:=Int.natCast_dvd_natCast.mpr hd
 rwa [show (p.toNat:Int)=p by have:=h.two;omega] at this)⟩
theorem vM {p q:Int} (hp:Pm p) (hq:Pm q):∀ k:Nat,q∣p^k->q=p
 | 0,h=>by
  rw [Int.pow_zero] at h
  have:=Int.le_of_dvd (by decide) h
  have:=hq.two
  omega
 | k+1,h=>by
  rw [Int.pow_succ] at h
  by_cases c:q∣p^k
  ·exact vM hp hq k c
  ·have d:=hq.or h c
   have l:=Int.le_of_dvd (by have:=hp.two;omega) d
   rcases (by omega:q<p∨q=p) with z | z
   ·exact absurd d (hp.no q hq.two z)
   ·exact z
theorem fF {q:Int} (hq:Pm q):∀{ps:List (Int × Int)},(∀ p∈ps,Pm p.1)->q∣cF ps->∃ p∈ps,p.1=q
 | [],_,h=>by
  have:=Int.le_of_dvd (by decide) (show q∣1 from h)
  have:=hq.two
  omega
 | a::r,hp,h=>by
  by_cases c:q∣a.1^a.2.toNat
  ·exact⟨a,by simp,(vM (hp a (by simp)) hq _ c).symm⟩
  ·obtain⟨p,h1,h2⟩:=fF hq (λp z=>hp p (List.mem_cons_of_mem _ z)) (hq.or h c)
   exact⟨p,List.mem_cons_of_mem _ h1,h2⟩
theorem vD {n a e:Int} {ps:List (Int × Int)} (h:Part e ps) (he:1<=e):(Al n (a^e.toNat) 1/\∀ q∈ps.map (·.1),¬Al n (a^(e/q).toNat) 1)↔Ord n a e.toNat:=by
 constructor
 ·rintro⟨h1,h2⟩
  refine vA (by omega) h1 λq hq hd=>?_
  have hd':(q:Int)∣e:=by
   have:=Int.natCast_dvd_natCast.mpr hd
   rwa [show (e.toNat:Int)=e by omega] at this
  obtain⟨p,hp,ep⟩:=fF (yY hq) (λp z=>(h.ok p z).1) (by rw [h.prod];exact hd')
  have:=h2 q (List.mem_map.mpr ⟨p,hp,ep⟩)
  rwa [show (e/(q:Int)).toNat=e.toNat/q by
   have:e/(q:Int)=((e.toNat/q:Nat):Int):=by rw [Int.natCast_ediv];congr 1;omega
   rw [this,Int.toNat_natCast]] at this
 ·intro h1
  refine⟨h1.one,λq hq=>?_⟩
  obtain⟨p,hp,rfl⟩:=List.mem_map.mp hq
  obtain⟨o1,o2,_⟩:=h.ok p hp
  have d:p.1∣e:=by rw [<- h.prod];exact eP hp o2
  have t:=o1.two
  have:=h1.Di (qT o1) (by
   have:(p.1.toNat:Int)∣(e.toNat:Int):=by rw [show (p.1.toNat:Int)=p.1 by omega,show (e.toNat:Int)=e by omega];exact d
   exact Int.natCast_dvd_natCast.mp this)
  rwa [show e.toNat/p.1.toNat=(e/p.1).toNat by
   have:e/p.1=((e.toNat/p.1.toNat:Nat):Int):=by rw [Int.natCast_ediv];congr 1<;>omega
   rw [this,Int.toNat_natCast]] at this
structure LF (p g:Int):Prop where
 one:1<=g
 lt:g<p
 ord:Ord p g (p-1).toNat
 no:∀ a:Int,1<=a->a<g->¬Ord p a (p-1).toNat
def rowsOf (ps:List (Int × Int)) (ds:Nat->PyData):List PyData:=(List.range ps.length).map λi=>.tuple [ds i,.int (ps.getD i (0,0)).2]
theorem dD {ps:List (Int × Int)} {ds:Nat->PyData}:(rowsOf ps ds).length=ps.length:=by unfold rowsOf;rw [List.length_map,List.length_range]
theorem qh {ps:List (Int × Int)} {ds:Nat->PyData} {i:Nat} {p:Int × Int} (h:ps[i]?=some p):(rowsOf ps ds)[i]?=some (.tuple [ds i,.int p.2]):=by
 have hi:=(List.getElem?_eq_some_iff.mp h).1
 unfold rowsOf
 rw [List.getElem?_map,List.getElem?_range hi]
 show some (PyData.tuple [ds i,.int (ps.getD i (0,0)).2])=_
 rw [List.getD_eq_getElem?_getD,h]
 rfl
inductive hW:Int->PyData->Prop
 | mk (p g:Int) (ps:List (Int × Int)) (ds:Nat->PyData):Pm p->p<=10^9->LF p g->Part (p-1) ps->ps.length<=29->(∀ i q k,ps[i]?=some (q,k)->hW q (ds i))->hW p (.tuple [.int p,.int g,.tuple (rowsOf ps ds)])
theorem hW.head {p:Int} {d:PyData} (h:hW p d):∃ g rows,d=.tuple [.int p,.int g,.tuple rows]:=by
 cases h
 exact⟨_,_,rfl⟩
def Ht:Nat->Int->Prop
 | 0,_=>False
 | L+1,n=>∀ q:Int,Pm q->q∣n-1->Ht L q
theorem yL:∀(L:Nat) (n:Int),Pm n->n<2^(L+2)->Ht (L+2) n
 | 0,n,h,hn=>by
  have h2:=h.two
  have hn':n<4:=hn
  intro q hq hd
  intro q' hq' hd'
  have q2:=hq.two
  have l:=Int.le_of_dvd (by rcases (by omega:n=2∨n=3) with z | z;exfalso;rw [z] at hd;have:=Int.le_of_dvd (by decide) hd;omega;omega) hd
  have qq:q=2:=by omega
  rw [qq] at hd'
  have:=Int.le_of_dvd (by decide) hd'
  have:=hq'.two
  omega
 | L+1,n,h,hn=>by
  intro q hq hd
  have q2:=hq.two
  have h2:=h.two
  refine yL L q hq ?_
  have e:(2:Int)^(L+1+2)=2^(L+2)*2:=by rw [<- Int.pow_succ]
  rw [e] at hn
  have four:(4:Int)<=2^(L+2):=by
   have:=bC (show (0:Int)<2 by decide) L
   have e4:(2:Int)^(L+2)=2^L*4:=by rw [Pw.pow_add];rfl
   omega
  obtain⟨c,hc⟩:=hd
  rcases (by omega:n<=3∨3<n) with z | z
  ·have:q<=n-1:=Int.le_of_dvd (by
    rcases (by omega:n=2∨n=3) with y | y
    ·exfalso
     rw [y] at hc
     have:=Int.le_of_dvd (by decide) (show q∣1 from ⟨c,hc⟩)
     omega
    ·omega) ⟨c,hc⟩
   omega
  ·rcases (by omega:n%2=0∨n%2=1) with y | y
   ·exact absurd (Int.dvd_of_emod_eq_zero y) (h.no 2 (by decide) (by omega))
   ·rcases (by omega:q=2∨2<q) with x | x
    ·omega
    ·have qo:q%2=1:=by
      rcases (by omega:q%2=1∨q%2=0) with w | w
      ·exact w
      ·exact absurd (Int.dvd_of_emod_eq_zero w) (hq.no 2 (by decide) x)
     have ce:c%2=0:=by
      rcases (by omega:c%2=0∨c%2=1) with w | w
      ·exact w
      ·exfalso
       have:(q*c)%2=1:=by rw [Int.mul_emod,qo,w];rfl
       omega
     have c2:2<=c:=by
      rcases (by omega:c<=0∨2<=c) with w | w
      ·have:=Int.mul_nonpos_of_nonneg_of_nonpos (show 0<=q by omega) w
       omega
      ·exact w
     have:=Int.mul_le_mul_of_nonneg_left c2 (show 0<=q by omega)
     omega
theorem uQ {n:Int} (h:Pm n) (hn:n<=10^9):Ht 30 n:=yL 28 n h (by
 have:(2:Int)^(28+2)=1073741824:=by decide
 omega)
end Num
namespace L2
open PySem PySem.Spec PyProof.Rows
def DO:PyData->String
 | .none => "NoneType"
 | .bool _ => "bool"
 | .int _ => "int"
 | .str _ => "str"
 | .list _ => "list"
 | .tuple _ => "tuple"
 | .dict _ => "dict"
def jx:PyData->Bool
 | .int _=>true
 | _=>false
def wD:PyData->Bool
 | .bool _=>true
 | _=>false
def zW:PyData->Bool
 | .tuple _=>true
 | _=>false
def Bw:PyData->Bool
 | .list _=>true
 | _=>false
section
variable {X:Cx} {K:PySem.W.Frag}
def j5 (K:PySem.W.Frag):List V->Hp->VK->Prop:=λxs H Q=>∃ d x n b,xs=[x,.ty n]/\dv K H d x/\PySem.W.kitOne K (.type (DO d)) (.type n)=some b/\Q (.bl b) H
theorem aV:dW X (.builtin "isinstance") (j5 X.K):=by
 intro pins s σ H xs us Q I r h
 obtain⟨d,x,n,b,rfl,hd,ek,q⟩:=h
 obtain⟨u,w',rfl,rx,rc⟩:=vals2 r
 have e:w'=.type n:=rc
 subst e
 have fin:∀ tk,∃ v' H',Inv X pins σ H' { s with toks:=tk }/\RelV v' (.bool b)/\Q v' H':=λtk=>⟨.bl b,H,I.tok _,rfl,q⟩
 cases d with
 | none=>cases hd;exact fY I rx gv.cj ek fin
 | bool y=>cases hd;exact fY I rx (gv.bl _) ek fin
 | int y=>cases hd;exact fY I rx (gv.int _) ek fin
 | str y=>cases hd;exact fY I rx (gv.str _) ek fin
 | list ds =>
  obtain⟨p,ys,rfl,h,t⟩:=hd
  cases rx
  obtain⟨its,rr,pl,_⟩:=I.list h
  obtain⟨o,h1,h2,_⟩:=pl.isList
  exact PySem.W.kia_one PySem.W.kitx_list I.iu ⟨o,h1,h2⟩ ek (λz=>nomatch z) fin
 | tuple ds =>
  obtain⟨p,ys,rfl,h,t⟩:=hd
  cases rx
  obtain⟨its,rr,pl,_⟩:=I.tuple h
  obtain⟨o,h1,h2,_⟩:=pl
  exact PySem.W.kia_one PySem.W.kitx_tuple I.iu ⟨o,h1,h2⟩ ek (λz=>nomatch z) fin
 | dict _=>exact hd.elim
theorem qO {H:Hp} {d:PyData} {x:V} {Q:VK} (h:dv K H d x) (q:Q (.bl (jx d || wD d)) H):j5 K [x,.ty "int"] H Q:=by
 refine⟨d,x,"int",_,rfl,h,?_,q⟩
 cases d<;>first | exact h.elim | with_unfolding_all rfl
theorem ir {H:Hp} {d:PyData} {x:V} {Q:VK} (h:dv K H d x) (q:Q (.bl (wD d)) H):j5 K [x,.ty "bool"] H Q:=by
 refine⟨d,x,"bool",_,rfl,h,?_,q⟩
 cases d<;>first | exact h.elim | with_unfolding_all rfl
theorem bM {H:Hp} {d:PyData} {x:V} {Q:VK} (h:dv K H d x) (q:Q (.bl (zW d)) H):j5 K [x,.ty "tuple"] H Q:=by
 refine⟨d,x,"tuple",_,rfl,h,?_,q⟩
 cases d<;>first | exact h.elim | with_unfolding_all rfl
theorem cn {H:Hp} {d:PyData} {x:V} {Q:VK} (h:dv K H d x) (q:Q (.bl (Bw d)) H):j5 K [x,.ty "list"] H Q:=by
 refine⟨d,x,"list",_,rfl,h,?_,q⟩
 cases d<;>first | exact h.elim | with_unfolding_all rfl
end
def Bq (i:Int) (n:Nat):List V:=(List.range n).map fun(k:Nat)=>V.int (i+(k:Int))
def DM (ta:TA):TE:=λσ H Q=>ta σ H λvs H1=>∃ i j:Int,vs=[.int i,.int j]/\(-(2^62)<=i/\i<2^62 /\ -(2^62)<=j/\j<2^62)/\j-i<=10^6/\∀ l,H1 l=none->Q (.ref l) (upd H1 l (.lst (Bq i (j-i).toNat)))
variable {X:Cx}
section
variable {X:Cx} {K:PySem.W.Frag}
end
section
variable {κ:Type} [DecidableEq κ]
def iM (kvs:List (κ × V)) (k:κ):Option V:=(kvs.find? λkv=>decide (kv.1=k)).map (·.2)
def putK (kvs:List (κ × V)) (k:κ) (v:V):List (κ × V) :=
 if (kvs.any λkv=>decide (kv.1=k))=true then kvs.map (λkv=>if kv.1=k then (kv.1,v) else kv) else kvs++[(k,v)]
def Bm (kvs:List (κ × V)) (k:κ):List (κ × V):=kvs.filter λkv=>decide (kv.1≠k)
theorem kn {p:κ × V} {r:List (κ × V)} {k:κ} (e:p.1=k):iM (p::r) k=some p.2:=by simp [iM,List.find?_cons,e]
theorem km {p:κ × V} {r:List (κ × V)} {k:κ} (e:¬p.1=k):iM (p::r) k=iM r k:=by simp [iM,List.find?_cons,e]
theorem oO (k:κ):∀ kvs:List (κ × V),(kvs.any λkv=>decide (kv.1=k))=(iM kvs k).isSome
 | []=>rfl
 | p::r=>by
  rw [List.any_cons]
  by_cases e:p.1=k
  ·simp only [kn e,decide_eq_true e,Bool.true_or,Option.isSome_some]
  ·rw [km e,decide_eq_false e,Bool.false_or];exact oO k r
theorem fE (kvs:List (κ × V)) (k:κ) (v:V):(putK kvs k v).length<=kvs.length+1:=by
 unfold putK
 split
 ·rw [List.length_map];omega
 ·rw [List.length_append,List.length_cons,List.length_nil];omega
theorem hZ.sM {o:Option V} {u:Option Value} (r:hZ o u):o.isSome=u.isSome:=by
 cases o with
 | none=>cases u with
  | none=>rfl
  | some _=>exact (show False from r).elim
 | some _=>cases u with
  | none=>exact (show False from r).elim
  | some _=>rfl
theorem hZ.getD {o:Option V} {u:Option Value} {d:V} {d':Value} (r:hZ o u) (rd:RelV d d'):RelV (o.getD d) (u.getD d'):=by
 cases o with
 | none=>cases u with
  | none=>exact rd
  | some _=>exact (show False from r).elim
 | some _=>cases u with
  | none=>exact (show False from r).elim
  | some _=>exact r
theorem KV.val {kvs:List (κ × V)} {vs:List (κ × Value)} (r:KV kvs vs) (k:κ):hZ (iM kvs k) (valueAt vs k):=by
 unfold KV at r
 induction r with
 | nil=>exact True.intro
 | @cons p q ps qs h t ih =>
  obtain⟨h1,h2⟩:=h
  by_cases e:p.1=k
  ·have e':q.1=k:=h1.symm.trans e
   have b:valueAt (q::qs) k=some q.2:=by simp [valueAt,List.find?_cons,e']
   rw [kn e,b];exact h2
  ·have e':¬q.1=k:=λz=>e (h1.trans z)
   have b:valueAt (q::qs) k=valueAt qs k:=by simp [valueAt,List.find?_cons,e']
   rw [km e,b];exact ih
theorem KV.any {kvs:List (κ × V)} {vs:List (κ × Value)} (r:KV kvs vs) (k:κ):(kvs.any λkv=>decide (kv.1=k))=vs.any λkv=>decide (kv.1=k):=by
 unfold KV at r
 induction r with
 | nil=>rfl
 | cons h t ih=>rw [List.any_cons,List.any_cons,ih,h.1]
theorem KV.Au {kvs:List (κ × V)} {vs:List (κ × Value)} (r:KV kvs vs) (k:κ) {y:V} {u:Value} (ry:RelV y u) :
  KV (kvs.map λkv=>if kv.1=k then (kv.1,y) else kv) (vs.map λkv=>if kv.1=k then (kv.1,u) else kv):=by
 unfold KV at r ⊢
 induction r with
 | nil=>exact .nil
 | @cons p q ps qs h t ih =>
  rw [List.map_cons,List.map_cons]
  refine .cons ?_ ih
  obtain⟨h1,h2⟩:=h
  by_cases e:p.1=k
  ·rw [if_pos e,if_pos (h1.symm.trans e)];exact⟨h1,ry⟩
  ·rw [if_neg e,if_neg (λz=>e (h1.trans z))];exact⟨h1,h2⟩
theorem KV.put {kvs:List (κ × V)} {vs:List (κ × Value)} (r:KV kvs vs) (k:κ) {y:V} {u:Value} (ry:RelV y u):KV (putK kvs k y) (stored vs k u):=by
 unfold putK stored
 rw [r.any k]
 by_cases e:(vs.any λkv=>decide (kv.1=k))=true
 ·rw [if_pos e,if_pos e];exact r.Au k ry
 ·rw [if_neg e,if_neg e];exact Paired.snoc r ⟨rfl,ry⟩
theorem KV.keys {kvs:List (κ × V)} {vs:List (κ × Value)} (r:KV kvs vs):kvs.map (·.1)=vs.map (·.1):=by
 unfold KV at r
 induction r with
 | nil=>rfl
 | cons h t ih=>rw [List.map_cons,List.map_cons,ih,h.1]
theorem KV.length {kvs:List (κ × V)} {vs:List (κ × Value)} (r:KV kvs vs):kvs.length=vs.length:=Paired.length r
end
theorem qR {P:Program} {w:World} {k:Key} {u:Value} (r:RelV (kV k) u):(cq P w).is k u=true:=by
 cases k with
 | inl i=>obtain⟨t,e⟩:=(show ∃ t,u=Value.int i t from r);subst e;exact nP P w i t
 | inr x=>obtain⟨t,e⟩:=(show ∃ t,u=Value.str x t from r);subst e;exact nQ P w x t
theorem kW {P:Program} {w:World}:∀{ks:List Key} {us:List Value},Vals (ks.map kV) us->ItemsAre (cq P w) ks us
 | [],_,r=>by rw [List.map_nil] at r;cases r;exact .nil
 | k::ks,_,r=>by
  rw [List.map_cons] at r
  cases r with
  | cons h t=>exact .cons (qR h) (kW t)
abbrev KT (H:Hp):List (List Key × V)->List (List Key × Addr × Value)->Prop:=Paired λp q=>p.1=q.1/\H q.2.1=some (.tup (p.1.map kV))/\RelV p.2 q.2.2
theorem KT.val {H:Hp} {kvs:List (List Key × V)} {xs:List (List Key × Addr × Value)} (r:KT H kvs xs) (k:List Key):hZ (iM kvs k) ((atKey xs k).map (·.2)):=by
 induction r with
 | nil=>exact True.intro
 | @cons p q ps qs h t ih =>
  obtain⟨h1,_,h2⟩:=h
  by_cases e:p.1=k
  ·have e':q.1=k:=h1.symm.trans e
   have b:atKey (q::qs) k=some q.2:=by simp [atKey,List.find?_cons,e']
   rw [kn e,b];exact h2
  ·have e':¬q.1=k:=λz=>e (h1.trans z)
   have b:atKey (q::qs) k=atKey qs k:=by simp [atKey,List.find?_cons,e']
   rw [km e,b];exact ih
theorem KT.Au {H:Hp} {kvs:List (List Key × V)} {xs:List (List Key × Addr × Value)} (r:KT H kvs xs) (k:List Key) {y:V} {u:Value} (ry:RelV y u) :
  KT H (kvs.map λkv=>if kv.1=k then (kv.1,y) else kv) (xs.map (putAt k u)):=by
 induction r with
 | nil=>exact .nil
 | @cons p q ps qs h t ih =>
  rw [List.map_cons,List.map_cons]
  refine .cons ?_ ih
  obtain⟨h1,h2,h3⟩:=h
  unfold putAt
  by_cases e:p.1=k
  ·rw [if_pos e,if_pos (h1.symm.trans e)];exact⟨h1,h2,ry⟩
  ·rw [if_neg e,if_neg (λz=>e (h1.trans z))];exact⟨h1,h2,h3⟩
theorem KT.put {H:Hp} {kvs:List (List Key × V)} {xs:List (List Key × Addr × Value)} (r:KT H kvs xs) (k:List Key) {b:Addr} {y:V} {u:Value} (hb:H b=some (.tup (k.map kV))) (ry:RelV y u) :
  KT H (putK kvs k y) (storedH xs k b u):=by
 have e:(kvs.any λkv=>decide (kv.1=k))=(atKey xs k).isSome:=by
  rw [oO,(r.val k).sM,Option.isSome_map]
 unfold putK storedH
 rw [e]
 by_cases q:(atKey xs k).isSome=true
 ·rw [if_pos q,if_pos q];exact r.Au k ry
 ·rw [if_neg q,if_neg q];exact Paired.snoc r ⟨rfl,hb,ry⟩
theorem KT.keeps {H H':Hp} {kvs:List (List Key × V)} {xs:List (List Key × Addr × Value)} (r:KT H kvs xs) (ht:∀ b ys,H b=some (.tup ys)->H' b=some (.tup ys)):KT H' kvs xs :=
 Paired.z7 r λ_ _ z=>⟨z.1,ht _ _ z.2.1,z.2.2⟩
section
variable {P:Program} {w:World} {H:Hp} {h:Heap} {a:Addr}
theorem y3 {u:HO} (ok:fu P w H h) (e:Rd H a u):bP P w H h a u:=e.ok ok
theorem uG {kvs:List (Key × V)} (ok:fu P w H h) (e:Rd H a (.dK kvs)):kvs.length<=sizeLine/\(a==sysModules)=false/\∃ vs,KV kvs vs/\h.DictOf (cq P w) a vs :=
 show bP P w H h a (.dK kvs) from y3 ok e
theorem yF {kvs:List (Key × V)} (ok:fu P w H h) (e:H a=some (.dK kvs)):kvs.length<=sizeLine/\(a==sysModules)=false/\∃ vs,KV kvs vs/\h.DictOf (cq P w) a vs:=uG ok (.inl e)
theorem pN {ks:List Key} (ok:fu P w H h) (e:H a=some (.tup (ks.map kV))):(tupleKind (cq P w)).is h ks a:=by
 obtain⟨_,its,r,o,h1,h2,n,h3⟩:=(show bP P w H h a (.tup (ks.map kV)) from ok a _ e)
 exact⟨o,its.toArray,n,h1,h2,h3,by simpa using kW r⟩
theorem uH {kvs:List (List Key × V)} (ok:fu P w H h) (e:Rd H a (.dT kvs)):kvs.length<=sizeLine/\(a==sysModules)=false /\
  ∃ xs,KT H kvs xs/\h.DictOfH (tupleKind (cq P w)) a xs:=by
 obtain⟨z,y,xs,r,o,es,ep,h1,h2,h3,h4,h5⟩:=(show bP P w H h a (.dT kvs) from y3 ok e)
 refine⟨z,y,xs,r,o,es,ep,h1,h2,h3,h4,λx hx=>?_,h5⟩
 have all:∀{l:List (List Key × V)} {m:List (List Key × Addr × Value)},KT H l m->∀ x∈m,(tupleKind (cq P w)).is h x.1 x.2.1:=by
  intro l m q
  induction q with
  | nil=>intro x hx;exact nomatch hx
  | @cons p q ps qs hq t ih =>
   intro x hx
   rcases List.mem_cons.mp hx with e | hx
   ·subst e
    exact pN ok (by rw [<- hq.1];exact hq.2.1)
   ·exact ih x hx
 exact all r x hx
theorem Bn {kvs:List (List Key × V)} (ok:fu P w H h) (e:H a=some (.dT kvs)):kvs.length<=sizeLine/\(a==sysModules)=false /\
  ∃ xs,KT H kvs xs/\h.DictOfH (tupleKind (cq P w)) a xs:=uH ok (.inl e)
end
def gS (H:Hp) (a:Addr) (y:V) (r:Option V):Prop :=
 (∃ kvs k,Rd H a (.dK kvs)/\y=kV k/\r=iM kvs k)∨∃ kvs k b,Rd H a (.dT kvs)/\y=.ref b/\H b=some (.tup (k.map kV))/\r=iM kvs k
def mR (H:Hp) (a:Addr) (y v:V) (H':Hp):Prop :=
 (∃ kvs k,H a=some (.dK kvs)/\y=kV k/\kvs.length<sizeLine/\H'=upd H a (.dK (putK kvs k v))) ∨
 ∃ kvs k b,H a=some (.dT kvs)/\y=.ref b/\H b=some (.tup (k.map kV))/\kvs.length<sizeLine/\H'=upd H a (.dT (putK kvs k v))
theorem gS.k {H:Hp} {a:Addr} {kvs:List (Key × V)} {k:Key} (e:H a=some (.dK kvs)):gS H a (kV k) (iM kvs k):=.inl ⟨kvs,k,.inl e,rfl,rfl⟩
theorem gS.t {H:Hp} {a b:Addr} {kvs:List (List Key × V)} {k:List Key} (e:H a=some (.dT kvs)) (eb:H b=some (.tup (k.map kV))):gS H a (.ref b) (iM kvs k):=.inr ⟨kvs,k,b,.inl e,rfl,eb,rfl⟩
theorem mR.k {H:Hp} {a:Addr} {kvs:List (Key × V)} {k:Key} {v:V} (e:H a=some (.dK kvs)) (hl:kvs.length<sizeLine):mR H a (kV k) v (upd H a (.dK (putK kvs k v))):=.inl ⟨kvs,k,e,rfl,hl,rfl⟩
theorem mR.t {H:Hp} {a b:Addr} {kvs:List (List Key × V)} {k:List Key} {v:V} (e:H a=some (.dT kvs)) (eb:H b=some (.tup (k.map kV))) (hl:kvs.length<sizeLine) :
  mR H a (.ref b) v (upd H a (.dT (putK kvs k v))):=.inr ⟨kvs,k,b,e,rfl,eb,hl,rfl⟩
section
variable {X:Cx} {pins:List (Addr × Obj)} {σ:St} {H:Hp} {s:Shared} {a:Addr} {y v:V} {u r:Value} {o:Option V} {A:Around} {E:Value->Shared->Prop}
theorem Inv.big (I:Inv X pins σ H s):sysModules<s.heap.objs.size:=by
 have h:mainGlobals<s.heap.objs.size:=(I.mod.glob.keeps I.bk).lt
 exact Nat.lt_trans (by decide) h
theorem sj {Q:Value->Shared->Prop} (hu:A.units+1<cLine) (I:Inv X pins σ H s) (g:gS H a y (some v)) (ry:RelV y u) (h:∀ w' s',Inv X pins σ H s'->RelV v w'->Q w' s') :
  wpAny (model X.prog X.w) A (getItem (.ref a) u) Q E s:=by
 rcases g with⟨kvs,k,e,ey,l⟩|⟨kvs,k,b,e,ey,eb,l⟩
 ·subst ey
  obtain⟨z,hd,vs,rel,dd⟩:=uG I.hok e
  obtain⟨w',hw,rw'⟩:=hZ.some_of (v:=v) (o:=valueAt vs k) (by rw [l];exact rel.val k)
  exact wpAny_getItem_of (qR ry) dd.mapOf hw (h w' _ (I.tok _) rw')
 ·subst ey
  cases (show u=Value.ref b from ry)
  obtain⟨z,hd,xs,rel,dd⟩:=uH I.hok e
  obtain⟨w',hw,rw'⟩:=hZ.some_of (v:=v) (o:=(atKey xs k).map (·.2)) (by rw [l];exact rel.val k)
  obtain⟨p,hp,hp2⟩:=Option.map_eq_some_iff.mp hw
  refine wpAny_getItem_heap (tupleKind_room_in1 hu) (pN I.hok eb) dd hp ?_
  rw [hp2]
  exact h w' _ (I.tok _) rw'
theorem lP {h':Heap} {t':Nat} {ob:HO} (I:Inv X pins σ H s) (mu:Bf (H a)) (hs:Heap.SameBut a s.heap h') (he:∃ q,h'.get? a=some q) (new:bP X.prog X.w (upd H a ob) h' a ob) :
  Inv X pins σ (upd H a ob) { s with heap:=h',toks:=t' } :=
 I.write (x:=a) (e:=a) mu (.inl rfl) (λb q hb z=>(hs.2 b hb).trans z) he new
theorem uF {P:Program} {w:World} {H':Hp} {h':Heap} {kvs:List (Key × V)} {vs:List (Key × Value)} (z:kvs.length<=sizeLine) (hd:(a==sysModules)=false) (rel:KV kvs vs) (dd:h'.DictOf (cq P w) a vs) :
  bP P w H' h' a (.dK kvs):=⟨z,hd,vs,rel,dd⟩
theorem sk {H':Hp} {Q:Unit->Shared->Prop} (hu:A.units+1<cLine) (I:Inv X pins σ H s) (g:mR H a y v H') (ry:RelV y u) (rv:RelV v r) (h:∀ s',Inv X pins σ H' s'->Q () s') :
  wpAny (model X.prog X.w) A (setItem (.ref a) u r) Q E s:=by
 rcases g with⟨kvs,k,e,ey,l,eH⟩|⟨kvs,k,b,e,ey,eb,l,eH⟩
 ·subst ey eH
  obtain⟨z,hd,vs,rel,dd⟩:=yF I.hok e
  have hz:vs.length<=sizeLine:=by rw [<- rel.length];exact z
  have hl:(putK kvs k v).length<=sizeLine:=by have:=fE kvs k v;omega
  refine wpAny_setItem_pairs (hsz:=hz) (qR ry) dd λh' dd' hs=>h _ ?_
  have he:∃ q,h'.get? a=some q:=let ⟨q,_,_,hq,_⟩:=dd';⟨q,hq⟩
  exact lP I (by rw [e];exact True.intro) hs he (uF hl hd (rel.put k rv) dd')
 ·subst ey eH
  cases (show u=Value.ref b from ry)
  obtain⟨z,hd,xs,rel,dd⟩:=Bn I.hok e
  have hz:xs.length<=sizeLine:=by rw [<- Paired.length rel];exact z
  have hl:(putK kvs k v).length<=sizeLine:=by have:=fE kvs k v;omega
  refine wpAny_setItem_heap (hsz:=hz) (tupleKind_room_in1 hu) (pN I.hok eb) dd λh' dd' hs=>h _ ?_
  obtain⟨q,es,ep,hq,h2,h3,h4,_,h5⟩:=dd'
  refine lP I (by rw [e];exact True.intro) hs ⟨q,hq⟩ ⟨hl,hd,_,(rel.put k eb rv).keeps λc ys ec=>?_,q,es,ep,hq,h2,h3,h4,h5⟩
  rw [aA (kZ ec e (λz=>nomatch z))]
  exact ec
end
section
variable {X:Cx} {pins:List (Addr × Obj)} {σ:St} {H:Hp} {s:Shared} {a:Addr} {kvs:List (Key × V)} {k:Key} {u:Value} {A:Around} {E:Value->Shared->Prop}
end
def Bg (i:Expr):Prop:=∀ ov iv,subscripted i false ov iv=operate [ov,iv] (getItem ov iv)
theorem yp {prog:Program} {w:World} {A:Around} {E:Value->Shared->Prop} {s:Shared} {env:Env} {value slice:Expr} {pos:Pos} {T id:String} {Q:Value->Shared->Prop}
  (hl:typeLookup (.type T) "__getitem__"=pure (some (.builtin id))) (hs:Bg slice)
  (h:wpAny (model prog w) A (eval value env) (λo s₁=>wpAny (model prog w) A (eval slice env) (λi s₂=>s₂.TypeIs o T/\wpAny (model prog w) A (getItem o i) Q E s₂) E s₁) E s) :
  wpAny (model prog w) A (eval (.Subscript value slice pos) env) Q E s:=by
 refine Subscript_ (wpAny_mono h (λo s₁ h₁=>wpAny_mono h₁ (λi s₂ h₂=>?_) λ_ _ x=>x) λ_ _ x=>x)
 obtain⟨hT,h₂⟩:=h₂
 unfold subscriptTail
 refine wpAny_bind ?_
 rw [getitemInPython_of_ne hT.not_modules]
 refine wpAny_bind (wpAny_specialOf hT hl ?_)
 have fin:wpAny (model prog w) A (subscripted slice false o i) (λr s₃=>wpAny (model prog w) A (letTemporaryGo value o r >>= λ_=>pure r) Q E s₃) E s₂:=by
  rw [hs o i]
  exact wpAny_operating (wpAny_mono h₂ (λr s₃ h₃=>wpAny_bind (wpAny_letTemporaryGo (wpAny_pure h₃))) λ_ _ x=>x)
 first
  | exact wpAny_pure (wpAny_bind fin)
  | exact wpAny_bind (wpAny_pure (wpAny_bind fin))
  | exact wpAny_bind fin
theorem nk {X:Cx} {pins:List (Addr × Obj)} {σ:St} {H:Hp} {s:Shared} {a:Addr} {y:V} {o:Option V} (I:Inv X pins σ H s) (g:gS H a y o):s.TypeIs (.ref a) "dict":=by
 rcases g with⟨kvs,k,e,_,_⟩|⟨kvs,k,b,e,_,_,_⟩
 ·obtain⟨_,_,vs,_,dd⟩:=uG I.hok e
  exact dd.typeIs
 ·obtain⟨_,_,xs,_,dd⟩:=uH I.hok e
  exact dd.typeIs
def zh (td ty:TE):TE:=λσ H Q=>td σ H λx H1=>ty σ H1 λy H2=>∃ a v,x=.ref a/\gS H2 a y (some v)/\Q v H2
def C7 (ty td:TE):TE:=λσ H Q=>ty σ H λy H1=>td σ H1 λx H2=>∃ a o,x=.ref a/\gS H2 a y o/\Q (.bl o.isSome) H2
def yq (ty td:TE):TE:=λσ H Q=>ty σ H λy H1=>td σ H1 λx H2=>∃ a o,x=.ref a/\gS H2 a y o/\Q (.bl (!o.isSome)) H2
def y4 (td ty tv:TE):TS:=λD σ H=>tv σ H λv H1=>td σ H1 λx H2=>ty σ H2 λy H3=>∃ a H4,x=.ref a/\mR H3 a y v H4/\D.nx σ H4
section
variable {X:Cx} {o i e value:Expr} {pos pos' tpos:Pos} {td ty tv:TE}
theorem iz (hu:X.A.units+1<cLine) (ho:PE X o td) (hi:PE X i ty) (hs:Bg i):PE X (.Subscript o i pos) (zh td ty):=by
 intro pins s σ H Q I h
 refine yp PySem.F.slot_dict_getitem.lookup hs (bK (ho pins s σ H _ I h) λu s1 ⟨x,H1,I1,rx,q1⟩=>bK (hi pins s1 σ H1 _ I1 q1) λiv s2 ⟨y,H2,I2,ry,a,v,ex,g,q2⟩=>?_)
 subst ex
 obtain rfl:u=Value.ref a:=rx
 exact⟨nk I2 g,sj hu I2 g ry λw' s3 I3 rw'=>⟨v,H2,I3,rw',q2⟩⟩
theorem mv (hu:X.A.units+1<cLine) (ho:PE X o td) (hi:PE X i ty) (hv:PE X value tv) (hs:swapsWith value (some (.Subscript o i pos')) pos.line X.env=pure false) :
  PS X (.Assign [.Subscript o i pos'] value pos) (y4 td ty tv):=by
 intro pins s σ H D I h
 refine wpAny_Assign_Subscript (bK (hv pins s σ H _ I h) λr s1 ⟨v,H1,I1,rv,q1⟩=>bK (ho pins s1 σ H1 _ I1 q1) λu s2 ⟨x,H2,I2,rx,q2⟩=>bK (hi pins s2 σ H2 _ I2 q2) λiv s3 ⟨y,H3,I3,ry,a,H4,ex,g,q3⟩=>?_) hs
 subst ex
 obtain rfl:u=Value.ref a:=rx
 exact sk hu I3 g ry rv λs4 I4=>⟨σ,H4,I4,q3⟩
end
theorem uE {P:Program} {w:World} {H:Hp} (h:Heap) (hb:sysModules<h.objs.size):bP P w H (h.push { cls:=.type "dict",data:=.dict #[] }) h.objs.size (.dK []) :=
 ⟨Nat.zero_le _,beq_eq_false_iff_ne.mpr (Ne.symm (Nat.ne_of_lt hb)),[],.nil,Heap.DictOf.new h⟩
def AB:TE:=λ_ H Q=>∀ p,H p=none->Q (.ref p) (upd H p (.dK []))
def AD:TE:=λ_ H Q=>∀ p,H p=none->Q (.ref p) (upd H p (.dT []))
section
variable {X:Cx} {pos:Pos}
end
def mM:List (TE × TE)->St->Hp->(List (V × V)->Hp->Prop)->Prop
 | [],_,H,Q=>Q [] H
 | (tk,tv)::r,σ,H,Q=>tk σ H λx H1=>tv σ H1 λy H2=>mM r σ H2 λps H3=>Q ((x,y)::ps) H3
abbrev VV:List (V × V)->List (Value × Value)->Prop:=Paired λp q=>RelV p.1 q.1/\RelV p.2 q.2
def Ct (X:Cx) (pos:Pos) (keys:List (Option Expr)) (values:List Expr) (trs:List (TE × TE)):Prop :=
 ∀(pins:List (Addr × Obj)) (s:Shared) (σ:St) (H:Hp) (Q:List (V × V)->Hp->Prop),Inv X pins σ H s->mM trs σ H Q ->
  wpAny (model X.prog X.w) X.A (evalPairs (pairTrees keys values X.env pos)) (λvs s'=>∃ ps H',Inv X pins σ H' s'/\VV ps vs/\Q ps H') X.xe s
theorem xV {X:Cx} {pos:Pos}:Ct X pos [] [] []:=λpins s σ H Q I h=>pairTrees_nil_walk ⟨[],H,I,.nil,h⟩
theorem j3 {X:Cx} {pos:Pos} {k v:Expr} {ks:List (Option Expr)} {vs:List Expr} {tk tv:TE} {trs:List (TE × TE)} (hk:PE X k tk) (hv:PE X v tv) (hr:Ct X pos ks vs trs) :
  Ct X pos (some k::ks) (v::vs) ((tk,tv)::trs):=λpins s σ H Q I h =>
 pairTrees_cons_walk (bK (hk pins s σ H _ I h) λu s1 ⟨x,H1,I1,rx,q1⟩=>bK (hv pins s1 σ H1 _ I1 q1) λw2 s2 ⟨y,H2,I2,ry,q2⟩ =>
  bK (hr pins s2 σ H2 _ I2 q2) λws s3 ⟨ps,H3,I3,rel,q3⟩=>⟨(x,y)::ps,H3,I3,.cons ⟨rx,ry⟩ rel,q3⟩)
def jT (kvs more:List (Key × V)):List (Key × V):=more.foldl (λacc kv=>putK acc kv.1 kv.2) kvs
theorem KV.merge:∀{more:List (Key × V)} {rs:List (Key × Value)} {kvs:List (Key × V)} {vs:List (Key × Value)},KV more rs->KV kvs vs->KV (jT kvs more) (merged vs rs):=by
 intro more rs kvs vs r
 unfold KV at r
 induction r generalizing kvs vs with
 | nil=>intro q;exact q
 | @cons p q ps qs h t ih =>
  intro r0
  have e:KV (putK kvs p.1 p.2) (stored vs q.1 q.2):=by
   have:=r0.put p.1 h.2
   rw [<- h.1];exact this
  exact ih e
theorem gH:∀(more kvs:List (Key × V)),(jT kvs more).length<=kvs.length+more.length
 | [],kvs=>by show kvs.length<=kvs.length+0;omega
 | p::r,kvs=>by
  have h1:=gH r (putK kvs p.1 p.2)
  have h2:=fE kvs p.1 p.2
  show (jT (putK kvs p.1 p.2) r).length<=_
  rw [List.length_cons];omega
theorem jL {P:Program} {w:World}:∀{kvs:List (Key × V)} {ws:List (Value × Value)},VV (kvs.map λkv=>(kV kv.1,kv.2)) ws->∃ rs,Carries (cq P w) ws rs/\KV kvs rs
 | [],_,r=>by rw [List.map_nil] at r;cases r;exact⟨[],True.intro,.nil⟩
 | p::kvs,_,r=>by
  rw [List.map_cons] at r
  cases r with
  | @cons a b as bs h t =>
   obtain⟨rs,c,q⟩:=jL (P:=P) (w:=w) t
   obtain⟨b1,b2⟩:=b
   exact⟨(p.1,b2)::rs,⟨qR h.1,rfl,c⟩,.cons ⟨rfl,h.2⟩ q⟩
def zj (trs:List (TE × TE)):TE:=λσ H Q=>∀ p,H p=none->mM trs σ (upd H p (.dK [])) λps H2=>H2 p=some (.dK [])/\∃ kvs:List (Key × V),ps=kvs.map (λkv=>(kV kv.1,kv.2))/\kvs.length<=15/\Q (.ref p) (upd H2 p (.dK (jT [] kvs)))
theorem xT {X:Cx} {pos:Pos} {keys:List (Option Expr)} {values:List Expr} {trs:List (TE × TE)} (h:Ct X pos keys values trs) (hall:keys.all (·.isSome)=true) (hl:keys.length=values.length) (h0:keys≠[])
  (h15:keys.length<=15):PE X (.Dict keys values pos) (zj trs):=by
 intro pins s σ H Q I q
 have hn:=I.hok.fresh (Nat.le_refl s.heap.objs.size)
 have I1:=I.laid (a:=s.heap.objs.size) (o:=.dK []) (h':=s.heap.push { cls:=.type "dict",data:=.dict #[] }) (t':=s.toks) (λ_ _ q=>Heap.get?_push_of_some _ q) (Nat.le_refl _) (uE s.heap I.big)
 refine wpAny_Dict_walk (knd:=cq X.prog X.w) hall hl h0 h15 (bK (h pins _ σ _ _ I1 (q _ hn)) λws s2 ⟨ps,H2,I2,rel,e,kvs,ep,lk,q2⟩=>?_)
 subst ep
 obtain⟨rs,c,rk⟩:=jL (P:=X.prog) (w:=X.w) rel
 obtain⟨z,hd,vs0,r0,dd⟩:=yF I2.hok e
 cases r0
 refine⟨rs,c,dd,λh' dd' hs=>⟨.ref s.heap.objs.size,_,?_,rfl,q2⟩⟩
 have hz:(jT [] kvs).length<=sizeLine:=by
  have h1:=gH kvs []
  rw [List.length_nil] at h1
  rw [sizeLine_eq];omega
 have he:∃ q,h'.get? s.heap.objs.size=some q:=let ⟨q,_,_,hq,_⟩:=dd';⟨q,hq⟩
 exact lP I2 (by rw [e];exact True.intro) hs he (uF hz hd (rk.merge .nil) dd')
structure M1 (X:Cx) (o:Expr) (m:Str) (apos:Pos) (e:Expr) (cpos:Pos):Prop where
 base:attributeBase o m X.env (eval o X.env)=eval o X.env
 few:((backTo cpos (starEach [e] X.env)).all (λx=>!x.1) && (backToKw cpos (keywordEach [] X.env)).all (λx=>x.1.isSome)
  && decide (([e]:List Expr).length+([]:List Keyword).length+(if ([]:List Keyword).isEmpty then 0 else 1)<30))=true
 line:(apos.endLine==cpos.line)=true
 trees:backTo cpos (starEach [e] X.env)=[(false,eval e X.env)]
structure M2 (X:Cx) (o:Expr) (m:Str) (apos:Pos) (e f:Expr) (cpos:Pos):Prop where
 base:attributeBase o m X.env (eval o X.env)=eval o X.env
 few:((backTo cpos (starEach [e,f] X.env)).all (λx=>!x.1) && (backToKw cpos (keywordEach [] X.env)).all (λx=>x.1.isSome)
  && decide (([e,f]:List Expr).length+([]:List Keyword).length+(if ([]:List Keyword).isEmpty then 0 else 1)<30))=true
 line:(apos.endLine==cpos.line)=true
 trees:backTo cpos (starEach [e,f] X.env)=[(false,eval e X.env),(false,eval f X.env)]
def Dy (H:Hp) (a:Addr):Prop:=(∃ kvs,Rd H a (.dK kvs))∨∃ kvs,Rd H a (.dT kvs)
section
variable {X:Cx} {pins:List (Addr × Obj)} {σ:St} {H:Hp} {s:Shared} {a:Addr} {y d:V} {u r:Value} {o:Option V} {A:Around} {E:Value->Shared->Prop}
end
section
variable {X:Cx} {o e f:Expr} {apos cpos:Pos} {td ty tx:TE}
end
section
variable {X:Cx} {pins:List (Addr × Obj)} {σ:St} {H:Hp} {s:Shared} {a:Addr} {kvs:List (Key × V)} {A:Around} {E:Value->Shared->Prop}
end
section
variable {X:Cx} {pins:List (Addr × Obj)} {σ:St} {H:Hp} {s:Shared} {a:Addr} {y:V} {u:Value} {A:Around} {E:Value->Shared->Prop}
end
def BS (l:Int) (b:Bool):HO:=.dK [(Sum.inr "left",.int l),(Sum.inr "free",.bl b)]
def Cw (l:Int) (b:Bool):Prop:=b=true∨(0<=l/\l<2147483647)
def Up (p:Addr) (b:Bool) (H H':Hp):Prop:=∃ l,Cw l b/\H'=upd H p (BS l b)
theorem ug {H:Hp} {p:Addr} {o o':HO}:upd (upd H p o) p o'=upd H p o':=by
 funext c
 by_cases e:c=p
 ·subst e;rw [ag,ag]
 ·rw [aA e,aA e,aA e]
theorem Up.trans {p:Addr} {b:Bool} {H H1 H2:Hp} (h:Up p b H H1) (h':Up p b H1 H2):Up p b H H2:=by
 obtain⟨l,_,rfl⟩:=h
 obtain⟨l',k',rfl⟩:=h'
 exact⟨l',k',ug⟩
theorem Up.at {p:Addr} {b:Bool} {H H1:Hp} (h:Up p b H H1):∃ l,Cw l b/\H1 p=some (BS l b):=by
 obtain⟨l,k,rfl⟩:=h
 exact⟨l,k,ag⟩
theorem Up.ne {p q:Addr} {b:Bool} {H H1:Hp} (h:Up p b H H1) (n:q≠p):H1 q=H q:=by
 obtain⟨l,k,rfl⟩:=h
 exact aA n
def Us (p:Addr) (b:Bool) (H H':Hp):Prop:=(∃ l,Cw l b/\H' p=some (BS l b))/\∀ q o,q≠p->H q=some o->H' q=some o
theorem Up.us {p:Addr} {b:Bool} {H H':Hp} (h:Up p b H H'):Us p b H H':=⟨h.at,λq o n e=>by rw [h.ne n];exact e⟩
theorem Us.trans {p:Addr} {b:Bool} {H H1 H2:Hp} (h:Us p b H H1) (h':Us p b H1 H2):Us p b H H2:=⟨h'.1,λq o n e=>h'.2 q o n (h.2 q o n e)⟩
theorem Us.free {p q:Addr} {b:Bool} {H H1:Hp} (h:Us p b H H1) (f:H1 q=none):H q=none:=by
 cases e:H q with
 | none=>rfl
 | some o =>
  by_cases n:q=p
  ·subst n
   obtain⟨l,_,z⟩:=h.1
   rw [z] at f;cases f
  ·rw [h.2 q o n e] at f;cases f
theorem Us.set {p q:Addr} {b:Bool} {H H1:Hp} {o:HO} (h:Us p b H H1) (f:H q=none) (n:q≠p):Us p b H (upd H1 q o):=by
 obtain⟨⟨l,k,e⟩,s⟩:=h
 exact⟨⟨l,k,by rw [aA (Ne.symm n)];exact e⟩,λr u n er=>by rw [aA (λz=>by rw [z,f] at er;cases er)];exact s r u n er⟩
section
variable {K:PySem.W.Frag} {H H':Hp}
theorem aL.gG {a:Addr} {xs:List V} (k:∀ a xs,Rd H a (.tup xs)->Rd H' a (.tup xs)) (h:aL K H a xs):aL K H' a xs:=h.imp (λz=>k _ _ z) id
mutual
theorem dv.gG (k:∀ a xs,Rd H a (.tup xs)->Rd H' a (.tup xs)):∀(d:PyData) {v:V},z9 d=true->dv K H d v->dv K H' d v
 | .none,_,_,h=>h
 | .bool _,_,_,h=>h
 | .int _,_,_,h=>h
 | .str _,_,_,h=>h
 | .list ds,_,z,_=>by cases z
 | .tuple ds,_,z,⟨q,xs,e,h,t⟩=>⟨q,xs,e,h.gG k,bD.gG k ds z t⟩
 | .dict _,_,_,h=>h.elim
theorem bD.gG (k:∀ a xs,Rd H a (.tup xs)->Rd H' a (.tup xs)):∀(ds:List PyData) {xs:List V},kA ds=true->bD K H ds xs->bD K H' ds xs
 | [],_,_,h=>h
 | d::ds,_,z,⟨x,r,e,h,t⟩=>by
  have z':z9 d=true/\kA ds=true:=by simpa [kA] using z
  exact⟨x,r,e,dv.gG k d z'.1 h,bD.gG k ds z'.2 t⟩
end
theorem bD.set:∀{ds:List PyData} {us:List V} (i:Nat) {d:PyData} {v:V},bD K H ds us->dv K H d v->bD K H (ds.set i d) (us.set i v)
 | [],_,_,_,_,h,_=>by cases h;exact rfl
 | e::ds,_,0,_,_,⟨x,r,ex,h,t⟩,hv=>by subst ex;exact⟨_,_,rfl,hv,t⟩
 | e::ds,_,i+1,_,_,⟨x,r,ex,h,t⟩,hv=>by subst ex;exact⟨_,_,rfl,h,bD.set i t hv⟩
theorem Us.gG {p:Addr} {b:Bool} {l:Int} (h:Us p b H H') (hp:H p=some (BS l b)):∀ a xs,Rd H a (.tup xs)->Rd H' a (.tup xs):=by
 intro a xs z
 rcases z with z | ⟨o,z⟩
 ·exact .inl (h.2 _ _ (λe=>by rw [e,hp] at z;cases z) z)
 ·exact .inr ⟨o,h.2 _ _ (λe=>by rw [e,hp] at z;cases z) z⟩
end
theorem Us.ref {p:Addr} {b:Bool} {H H1:Hp} (h:Us p b H H1):∃ l,Cw l b/\H1 p=some (BS l b):=h.1
theorem oo {X:Cx} {ss:List Stmt}:jv X ss (λ_ _ _=>False):=by
 intro _ _ _ _ _ _ h
 exact False.elim h
theorem vN {X:Cx} {Ex:Addr->Shared->Hp->List Addr->Value->Shared->Prop} {elt target iter:Expr} {ifs:List Expr} {scope:Scope} {pos:Pos} {N':List Str} {js:List (Option Nat)} {cl:List (Str × Addr)} {wi:TI} {g:TG} {tt:TT} {te:TE} {i0:Nat} {x0:Str} {pos' pos2:Pos} (hN0:X.N.Nodup) (hi0:X.N[i0]?=some x0) (hx0:Loc X.env.scope x0) (hcalm:X.calm=true)
  (K:ft X N' js scope cl) (hi:PI X target iter wi)
  (hg:∀ C s₂ H₂ fp,kr X C s₂ H₂ fp->PG (cJ X (Ex C s₂ H₂ fp) N' scope cl C s₂ H₂ fp) target g) (ht:∀ C s₂ H₂ fp,kr X C s₂ H₂ fp->ku (cJ X (Ex C s₂ H₂ fp) N' scope cl C s₂ H₂ fp) ifs tt) (he:∀ C s₂ H₂ fp,kr X C s₂ H₂ fp->PE (cJ X (Ex C s₂ H₂ fp) N' scope cl C s₂ H₂ fp) elt te)
  (herr:∀ C s₂ H₂ fp use Q' acc e s',Ex C s₂ H₂ fp e s'->notedBy (model X.prog X.w) X.A (compEnvC scope (cellsFrom (C+1) scope.names cl) C X.env) (λe s''=>compPost (model X.prog X.w) X.A X.xe use Q' acc C (.error e) s'') e s')
  (hsw:swapsWith (.ListComp elt [⟨target,iter,ifs,0⟩] scope pos) (some (.Name x0 pos')) pos2.line X.env=pure true) (hf0:X.fn x0=true∨X.env.scope.names.lookup x0=some .local)
  (hs:∀ x,foldedSetIterable iter X.env x=pure x:=by intro _;rfl):PS X (.Assign [.Name x0 pos'] (.ListComp elt [⟨target,iter,ifs,0⟩] scope pos) pos2) (ub (Cy js wi g tt te) (eQ i0)):=by
 intro pins s σ H Dn I h
 rw [exec_Assign_Name_used _ _ _ _ hsw]
 refine wpAny_bind (wpAny_standAt (wpAny_bind ?_))
 unfold evalThenUse
 refine wpAny_bind ?_
 refine wpAny_comprehension_free (use:=some (assign (.Name x0 pos') X.env)) rfl hs K.clos K.kind K.names (bK (hi pins s σ H _ I h) λv s1 h1=>bK h1 λitv s2 h2=>?_)
 obtain⟨H2,I2⟩:∃ H2,Inv X pins σ H2 s2:=by obtain⟨_,_,_,_,H2,_,I2,_⟩:=h2;exact⟨H2,I2⟩
 refine qS (Ex:=Ex) (Q:=λx H1=>eQ i0 x σ H1 Dn.nx) hcalm K hg ht he herr h2 λC D vys H4 s5 hm hDe hDleC hDC nD nC hI qn=>?_
 obtain⟨m5,hn5⟩:=hm
 have le:=Nat.le_trans hDe hDleC
 have key:Inv X pins σ (upd H4 D (.lst vys)) s5:=hI s5.heap ⟨rfl,λ_ _=>rfl⟩
 have nC':upd H4 D (.lst vys) C=none:=by rw [aA (Ne.symm hDC)];exact nC
 have CL:C≠X.env.locals:=λz=>by
  have:=I2.lt
  rw [<- z] at this
  exact Nat.lt_irrefl _ (Nat.lt_of_lt_of_le this le)
 have Cfs:C∉X.fs:=λz=>I2.xw le z
 obtain⟨oC,es,ep,gC,dC,skC,fdC⟩:=hn5
 have J1:Inv X ((C,oC)::pins) σ (upd H4 D (.lst vys)) s5:=key.gh λp hp=>by
  rcases List.mem_cons.mp hp with z | z
  ·subst z
   exact⟨gC,nC',CL,Cfs,λv z=>by rw [dC] at z;cases z⟩
  ·exact key.pin p (List.mem_append_right _ z)
 show wpAny _ _ (assign (.Name x0 pos') X.env (.ref D)) _ _ _
 refine PyProof.Rows.assign_Name ?_
 refine dt J1 hN0 hi0 hx0 (show RelV (.ref D) (.ref D) from rfl) (λs6 I6=>?_) hf0
 have pC:=(I6.pin (C,oC) (List.mem_append_right _ (List.mem_cons_self ..))).1
 refine⟨m5,⟨oC,es,ep,pC,dC,skC,fdC⟩,λh' hsb'=>?_⟩
 have I7:Inv X pins (σ.set i0 (some (.ref D))) (upd H4 D (.lst vys)) s6:=I6.gh λp hp=>I6.pin p (List.mem_append_right _ (List.mem_cons_of_mem _ hp))
 have I8:=I7.turned (t':=s6.toks) (it:=C) (λb o hb e=>hsb'.extBut b o hb e) nC' CL (.inr (Nat.le_trans I2.sz le))
  (λx c e=>by
   obtain⟨v,q⟩:=I2.cell x c e
   exact Nat.ne_of_lt (Nat.lt_of_lt_of_le q.lt le))
  (λp hp=>Nat.ne_of_lt (Nat.lt_of_lt_of_le (Heap.lt_size (I2.pin p hp).1) le))
 exact wpAny_pure (wpAny_pure ⟨_,_,I8,qn⟩)
theorem mx {X:Cx} {elt target iter:Expr} {ifs:List Expr} {scope:Scope} {pos:Pos} {N':List Str} {js:List (Option Nat)} {cl:List (Str × Addr)} {wi:TI} {g:TG} {tt:TT} {te:TE} {i0:Nat} {x0:Str} {pos' pos2:Pos} (hN0:X.N.Nodup) (hi0:X.N[i0]?=some x0) (hx0:Loc X.env.scope x0) (hcalm:X.calm=true)
  (K:ft X N' js scope cl) (hi:PI X target iter wi)
  (hg:∀ C s₂ H₂ fp,PG (de X N' scope cl C s₂ H₂ fp) target g) (ht:∀ C s₂ H₂ fp,ku (de X N' scope cl C s₂ H₂ fp) ifs tt) (he:∀ C s₂ H₂ fp,PE (de X N' scope cl C s₂ H₂ fp) elt te)
  (hsw:swapsWith (.ListComp elt [⟨target,iter,ifs,0⟩] scope pos) (some (.Name x0 pos')) pos2.line X.env=pure true) (hf0:X.fn x0=true∨X.env.scope.names.lookup x0=some .local)
  (hs:∀ x,foldedSetIterable iter X.env x=pure x:=by intro _;rfl):PS X (.Assign [.Name x0 pos'] (.ListComp elt [⟨target,iter,ifs,0⟩] scope pos) pos2) (ub (Cy js wi g tt te) (eQ i0)) :=
 vN (Ex:=λ_ _ _ _ _ _=>False) hN0 hi0 hx0 hcalm K hi (λC s H f _=>hg C s H f) (λC s H f _=>ht C s H f) (λC s H f _=>he C s H f) (λ_ _ _ _ _ _ _ _ _ z=>z.elim) hsw hf0 hs
theorem mP (it t:Addr) (i:Nat) (items:Array Value) (x:Value) (hx:items[i]?=some x):Meets (Builtin.«tuple_iterator.__next__» ⟨[.ref it],[]⟩)
  (λ_ R s=>s.heap.IsTupleIter it t i/\s.heap.IsTuple t items/\∀ h',h'.IsTupleIter it t (i+1)->Heap.SameBut it s.heap h'->R (.ok (.ret x)) { s with heap:=h' }) :=
 .of_wp λprog w A R s h=>by
  obtain⟨⟨o,e,c,d⟩,⟨o2,e2,c2,n2,d2⟩,q⟩:=h
  have hx':items[(i:Int).toNat]?=some x:=by simpa using hx
  wp_walk using wpAny_field (i:=0) (x:=Value.ref t) e d rfl,wpAny_field (i:=1) (x:=Value.int i 0) e d rfl,wpAny_seqItems e2 d2
  rw [hx']
  refine wpAny_bind (wpAny_setField e d (show 1<2 by decide) ?_)
  obtain⟨oc,od,odt,os⟩:=o
  cases c
  cases d
  wp_walk
  refine⟨x,rfl,q _ ⟨_,Heap.get?_update_self _ e rfl,rfl,?_⟩ (Heap.SameBut.update ..)⟩
  show Data.fields _=_
  simp [rawInt]
theorem oK (it t:Addr) (i:Nat) (items:Array Value) (hx:items[i]?=none):Meets (Builtin.«tuple_iterator.__next__» ⟨[.ref it],[]⟩)
  (λA R s=>A.handled=none/\s.heap.IsTupleIter it t i/\s.heap.IsTuple t items/\∀ h' e,Heap.ExtBut it s.heap h'->(∃ o,h'.get? e=some o/\o.cls=.type "StopIteration")->R (.error (.ref e)) { s with heap:=h' }) :=
 .of_wp λprog w A R s h=>by
  obtain⟨hn,⟨o,e,c,d⟩,⟨o2,e2,c2,n2,d2⟩,q⟩:=h
  have hx':items[(i:Int).toNat]?=none:=by simpa using hx
  wp_walk using wpAny_field (i:=0) (x:=Value.ref t) e d rfl,wpAny_field (i:=1) (x:=Value.int i 0) e d rfl,wpAny_seqItems e2 d2
  rw [hx']
  wp_walk using wpAny_setField e d (show 0<2 by decide)
  refine wpAny_raiseNew_none hn (q _ _ (λb o hb e=>Heap.get?_push_of_some _ (Heap.get?_push_of_some _ ((Heap.get?_update_other _ _ (Ne.symm hb)).trans e))) ⟨_,Heap.get?_push_size _ rfl,rfl⟩)
section
variable {prog:Program} {w:World} {A:Around} {E:Value->Shared->Prop} {s:Shared} {it t:Addr} {i:Nat} {items:Array Value} {Q:Value->Shared->Prop}
theorem jr {x:Value} (h1:s.heap.IsTupleIter it t i) (h2:s.heap.IsTuple t items) (hx:items[i]?=some x) (q:∀ h',h'.IsTupleIter it t (i+1)->Heap.SameBut it s.heap h'->Q x { s with heap:=h' }) :
  wpAny (model prog w) A (Builtin.SmallTypes.nextOf (.ref it)) Q E s:=by
 have ty:s.TypeIs (.ref it) "tuple_iterator":=by obtain⟨o,e,c,_⟩:=h1;exact⟨o,e,c⟩
 unfold Builtin.SmallTypes.nextOf
 refine wpAny_bind (wpAny_callSpecial?_slot ty slot_tupleiter_next (call_meets slot_tupleiter_next ty entry_tupleiter_next (args_tupleiter_next _) (mP it t i items x hx) ⟨h1,h2,λh' a b=>?_⟩))
 exact wpAny_pure (q h' a b)
theorem jU (hn:A.handled=none) (h1:s.heap.IsTupleIter it t i) (h2:s.heap.IsTuple t items) (hx:items[i]?=none) (q:∀ h' e,Heap.ExtBut it s.heap h'->(∃ o,h'.get? e=some o/\o.cls=.type "StopIteration")->E (.ref e) { s with heap:=h' }) :
  wpAny (model prog w) A (Builtin.SmallTypes.nextOf (.ref it)) Q E s:=by
 have ty:s.TypeIs (.ref it) "tuple_iterator":=by obtain⟨o,e,c,_⟩:=h1;exact⟨o,e,c⟩
 unfold Builtin.SmallTypes.nextOf
 exact wpAny_bind (wpAny_callSpecial?_slot ty slot_tupleiter_next (call_meets slot_tupleiter_next ty entry_tupleiter_next (args_tupleiter_next _) (oK it t i items hx) ⟨hn,h1,h2,λh' e a b=>q h' e a b⟩))
end
inductive Sd
 | l
 | t
def Sd.It:Sd->Heap->Addr->Addr->Nat->Prop
 | .l=>Heap.IsListIter
 | .t=>Heap.IsTupleIter
def Sd.Sq:Sd->Heap->Addr->Array Value->Prop
 | .l=>Heap.IsList
 | .t=>Heap.IsTuple
def Sd.io (k:Sd) (a:Addr):Obj:=match k with
 | .l=>{ cls:=.type "list_iterator",data:=.fields #[.ref a,.int 0 0] }
 | .t=>{ cls:=.type "tuple_iterator",data:=.fields #[.ref a,.int 0 0] }
theorem Sd.It.at {k:Sd} {h h':Heap} {it a:Addr} {i:Nat} (x:k.It h it a i) (e:∀ o,h.get? it=some o->h'.get? it=some o):k.It h' it a i:=by
 cases k<;>(obtain⟨o,e1,r⟩:=x;exact⟨o,e o e1,r⟩)
theorem Sd.It.there {k:Sd} {h:Heap} {it a:Addr} {i:Nat} (x:k.It h it a i):∃ o,h.get? it=some o/\∀ v,o.data≠.cell v:=by
 cases k<;>(obtain⟨o,e1,_,d⟩:=x;exact⟨o,e1,λv z=>by rw [d] at z;cases z⟩)
theorem Sd.Sq.at {k:Sd} {h h':Heap} {a:Addr} {xs:Array Value} (x:k.Sq h a xs) (e:∀ o,h.get? a=some o->h'.get? a=some o):k.Sq h' a xs:=by
 cases k<;>(obtain⟨o,e1,r⟩:=x;exact⟨o,e o e1,r⟩)
theorem Sd.Sq.lt {k:Sd} {h:Heap} {a:Addr} {xs:Array Value} (x:k.Sq h a xs):a<h.objs.size:=by
 cases k<;>(obtain⟨o,e1,r⟩:=x;exact Heap.lt_size e1)
theorem Sd.start (k:Sd) {h:Heap} {it a:Addr} (e:h.get? it=some (k.io a)):k.It h it a 0:=by
 cases k<;>exact⟨_,e,rfl,rfl⟩
section
variable {prog:Program} {w:World} {A:Around} {E:Value->Shared->Prop} {s:Shared} {it a:Addr} {i:Nat} {xs:Array Value} {Q:Value->Shared->Prop} {k:Sd}
theorem Sd.item {x:Value} (h1:k.It s.heap it a i) (h2:k.Sq s.heap a xs) (hx:xs[i]?=some x) (q:∀ h',k.It h' it a (i+1)->Heap.SameBut it s.heap h'->Q x { s with heap:=h' }) :
  wpAny (model prog w) A (Builtin.SmallTypes.nextOf (.ref it)) Q E s:=by
 cases k
 ·exact wpAny_nextOf_list_item h1 h2 hx q
 ·exact jr h1 h2 hx q
theorem Sd.fin (hn:A.handled=none) (h1:k.It s.heap it a i) (h2:k.Sq s.heap a xs) (hx:xs[i]?=none) (q:∀ h' e,Heap.ExtBut it s.heap h'->(∃ o,h'.get? e=some o/\o.cls=.type "StopIteration")->E (.ref e) { s with heap:=h' }) :
  wpAny (model prog w) A (Builtin.SmallTypes.nextOf (.ref it)) Q E s:=by
 cases k
 ·exact wpAny_nextOf_list_end hn h1 h2 hx q
 ·exact jU hn h1 h2 hx q
theorem Sd.iter (h2:k.Sq s.heap a xs) (q:Q (.ref s.heap.objs.size) { s with heap:=s.heap.push (k.io a) }):wpAny (model prog w) A (pyIter (.ref a)) Q E s:=by
 cases k
 ·exact wpAny_pyIter_list h2 q
 ·exact wpAny_pyIter_tuple h2 q
end
theorem yy (k1 k2:Sd) (l1 l2:Addr) (xs ys:Array Value):Meets (Builtin.«zip.__new__» ⟨[.type "zip",.ref l1,.ref l2],[]⟩)
  (λ_ R s=>k1.Sq s.heap l1 xs/\k2.Sq s.heap l2 ys/\∀ h',IsZip h' (s.heap.objs.size+4) (s.heap.objs.size+2) (s.heap.objs.size+3) .none->IsPair h' (s.heap.objs.size+2) (.ref s.heap.objs.size) (.ref (s.heap.objs.size+1)) ->
   IsPair h' (s.heap.objs.size+3) .none .none->k1.It h' s.heap.objs.size l1 0->k2.It h' (s.heap.objs.size+1) l2 0->(∀ c o,s.heap.get? c=some o->h'.get? c=some o)->R (.ok (.ret (.ref (s.heap.objs.size+4)))) { s with heap:=h' }) :=
 .of_wp λprog w A R s h=>by
  obtain⟨h1,h2,q⟩:=h
  have f1:=sub_zip
  have h2':k2.Sq (s.heap.push (k1.io l1)) l2 ys:=h2.at λo e=>Heap.get?_push_of_some _ e
  wp_walk using Sd.iter h1,Sd.iter (s:={ s with heap:=s.heap.push (k1.io l1) }) h2'
  refine⟨_,rfl,?_⟩
  have e5:((((s.heap.push (k1.io l1)).push (k2.io l2)).push { cls:=.type "tuple",data:=.seq #[.ref s.heap.objs.size,.ref (s.heap.push (k1.io l1)).objs.size] }).push { cls:=.type "tuple",data:=.seq #[.none,.none] }).objs.size=s.heap.objs.size+4:=by simp only [Heap.size_push]
  have e4:(((s.heap.push (k1.io l1)).push (k2.io l2)).push { cls:=.type "tuple",data:=.seq #[.ref s.heap.objs.size,.ref (s.heap.push (k1.io l1)).objs.size] }).objs.size=s.heap.objs.size+3:=by simp only [Heap.size_push]
  have e3:((s.heap.push (k1.io l1)).push (k2.io l2)).objs.size=s.heap.objs.size+2:=by simp only [Heap.size_push]
  have e2:(s.heap.push (k1.io l1)).objs.size=s.heap.objs.size+1:=by simp only [Heap.size_push]
  show R (.ok (.ret (.ref ((((s.heap.push (k1.io l1)).push (k2.io l2)).push { cls:=.type "tuple",data:=.seq #[.ref s.heap.objs.size,.ref (s.heap.push (k1.io l1)).objs.size] }).push { cls:=.type "tuple",data:=.seq #[.none,.none] }).objs.size))) { s with heap:=((((s.heap.push (k1.io l1)).push (k2.io l2)).push { cls:=.type "tuple",data:=.seq #[.ref s.heap.objs.size,.ref (s.heap.push (k1.io l1)).objs.size] }).push { cls:=.type "tuple",data:=.seq #[.none,.none] }).push { cls:=.type "zip",data:=.fields #[.none,.bool false,.bool false,.ref ((s.heap.push (k1.io l1)).push (k2.io l2)).objs.size,.ref (((s.heap.push (k1.io l1)).push (k2.io l2)).push { cls:=.type "tuple",data:=.seq #[.ref s.heap.objs.size,.ref (s.heap.push (k1.io l1)).objs.size] }).objs.size] } }
  have g0:(s.heap.push (k1.io l1)).get? s.heap.objs.size=some (k1.io l1):=Heap.get?_push_size _ (by cases k1<;>rfl)
  have g1:((s.heap.push (k1.io l1)).push (k2.io l2)).get? (s.heap.objs.size+1)=some (k2.io l2):=by rw [<- e2];exact Heap.get?_push_size _ (by cases k2<;>rfl)
  rw [e5,e4,e3,e2]
  refine q _ ?_ ?_ ?_ (k1.start (Heap.get?_push_of_some _ (Heap.get?_push_of_some _ (Heap.get?_push_of_some _ (Heap.get?_push_of_some _ g0))))) (k2.start (Heap.get?_push_of_some _ (Heap.get?_push_of_some _ (Heap.get?_push_of_some _ g1)))) λc o e=>Heap.get?_push_of_some _ (Heap.get?_push_of_some _ (Heap.get?_push_of_some _ (Heap.get?_push_of_some _ (Heap.get?_push_of_some _ e))))
  ·exact (show _=_ from by
    have:=Heap.get?_push_size (((((s.heap.push (k1.io l1)).push (k2.io l2)).push { cls:=.type "tuple",data:=.seq #[.ref s.heap.objs.size,.ref (s.heap.objs.size+1)] }).push { cls:=.type "tuple",data:=.seq #[.none,.none] })) (o:={ cls:=.type "zip",data:=.fields #[.none,.bool false,.bool false,.ref (s.heap.objs.size+2),.ref (s.heap.objs.size+3)] }) rfl
    simp only [Heap.size_push] at this
    exact this)
  ·refine Heap.get?_push_of_some _ (Heap.get?_push_of_some _ ?_)
   have:=Heap.get?_push_size ((s.heap.push (k1.io l1)).push (k2.io l2)) (o:={ cls:=.type "tuple",data:=.seq #[.ref s.heap.objs.size,.ref (s.heap.objs.size+1)] }) rfl
   simp only [Heap.size_push] at this
   exact this
  ·refine Heap.get?_push_of_some _ ?_
   have:=Heap.get?_push_size (((s.heap.push (k1.io l1)).push (k2.io l2)).push { cls:=.type "tuple",data:=.seq #[.ref s.heap.objs.size,.ref (s.heap.objs.size+1)] }) (o:={ cls:=.type "tuple",data:=.seq #[.none,.none] }) rfl
   simp only [Heap.size_push] at this
   exact this
theorem wz (k1 k2:Sd) (z TI TO i1 i2 l1 l2:Addr) (ap:ZipApart z TI TO i1 i2 l1 l2) (n1 n2:Nat) (xs ys:Array Value) (x y a b:Value) (hx:xs[n1]?=some x) (hy:ys[n2]?=some y):Meets (Builtin.«zip.__next__» ⟨[.ref z],[]⟩)
  (λ_ R s=>IsZip s.heap z TI TO .none/\IsPair s.heap TI (.ref i1) (.ref i2)/\IsPair s.heap TO a b/\k1.It s.heap i1 l1 n1/\k2.It s.heap i2 l2 n2/\k1.Sq s.heap l1 xs/\k2.Sq s.heap l2 ys /\
   ∀ h',IsZip h' z TI TO (rawInt s.heap.objs.size)->IsPair h' TO x y->k1.It h' i1 l1 (n1+1)->k2.It h' i2 l2 (n2+1)->IsPair h' s.heap.objs.size x y ->
    (∀ c o,c≠z->c≠TO->c≠i1->c≠i2->s.heap.get? c=some o->h'.get? c=some o)->R (.ok (.ret (.ref s.heap.objs.size))) { s with heap:=h' }) :=
 .of_wp λprog w A R s h=>by
  obtain⟨hz,hTI,hTO,j1,j2,q1,q2,q⟩:=h
  wp_walk using wpAny_field (i:=2) (x:=Value.bool false) hz rfl rfl,wpAny_field (i:=3) (x:=Value.ref TI) hz rfl rfl,wpAny_field (i:=0) (x:=Value.none) hz rfl rfl,wpAny_field (i:=4) (x:=Value.ref TO) hz rfl rfl,wpAny_seqItems hTI rfl,wpAny_setField_rec hz (show 0<5 by decide)
  intro ha za sa
  have ka:∀ c o,c≠z->s.heap.get? c=some o->ha.get? c=some o:=λc o hc e=>(sa.2 c hc).trans e
  have j1a:=j1.at (h':=ha) λo e=>ka i1 o ap.i1z e
  have q1a:=q1.at (h':=ha) λo e=>ka l1 o ap.l1z e
  wp_walk using wpAny_onRaise,Sd.item (s:={ s with heap:=ha }) j1a q1a hx
  intro hb jb sb
  have kb:∀ c o,c≠z->c≠i1->s.heap.get? c=some o->hb.get? c=some o:=λc o h1 h2 e=>(sb.2 c h2).trans (ka c o h1 e)
  have TOb:IsPair hb TO a b:=kb TO _ ap.TOz ap.TOi1 hTO
  wp_walk using wpAny_seqItems TOb rfl,wpAny_updateSeq_pair (s:={ s with heap:=hb }) TOb
  intro hc TOc' sc
  have TOc:IsPair hc TO x b:=TOc'
  have kc:∀ c o,c≠z->c≠i1->c≠TO->s.heap.get? c=some o->hc.get? c=some o:=λc o h1 h2 h3 e=>(sc.2 c h3).trans (kb c o h1 h2 e)
  have zc:hc.get? z=some { cls:=.type "zip",data:=.fields #[.ellipsis,.bool false,.bool false,.ref TI,.ref TO] }:=(sc.2 z (Ne.symm ap.TOz)).trans ((sb.2 z (Ne.symm ap.i1z)).trans za)
  have j1c:=jb.at (h':=hc) λo e=>(sc.2 i1 (Ne.symm ap.TOi1)).trans e
  have j2c:=j2.at (h':=hc) λo e=>kc i2 o ap.i2z (Ne.symm ap.i12) (Ne.symm ap.TOi2) e
  have q2c:=q2.at (h':=hc) λo e=>kc l2 o ap.l2z ap.l2i1 ap.l2TO e
  wp_walk using wpAny_letGo,wpAny_onRaise,Sd.item (s:={ s with heap:=hc }) j2c q2c hy
  intro hd jd sd
  have TOd:IsPair hd TO x b:=(sd.2 TO ap.TOi2).trans TOc
  have zd:=(sd.2 z (Ne.symm ap.i2z)).trans zc
  wp_walk using wpAny_seqItems TOd rfl,wpAny_updateSeq_pair (s:={ s with heap:=hd }) TOd
  intro he TOe' se
  have TOe:IsPair he TO x y:=TOe'
  have ze:=(se.2 z (Ne.symm ap.TOz)).trans zd
  wp_walk using wpAny_letGo,wpAny_seqItems TOe rfl
  have sz:he.objs.size=s.heap.objs.size:=se.1.trans (sd.1.trans (sc.1.trans (sb.1.trans sa.1)))
  have zn:z≠he.objs.size:=Nat.ne_of_lt (Heap.lt_size ze)
  have zf:(he.push { cls:=.type "tuple",data:=.seq #[x,y] }).get? z=some { cls:=.type "zip",data:=.fields #[.ellipsis,.bool false,.bool false,.ref TI,.ref TO] }:=Heap.get?_push_of_some _ ze
  have ke:∀ c o,c≠z->he.get? c=some o->(((he.push { cls:=.type "tuple",data:=.seq #[x,y] }).update z (Obj.mapFields λx=>x.setIfInBounds 0 (rawInt ↑he.objs.size))).update z (Obj.mapFields λx=>x.setIfInBounds 1 (Value.bool false))).get? c=some o:=λc o hc e=>(Heap.get?_update_other _ _ (Ne.symm hc)).trans ((Heap.get?_update_other _ _ (Ne.symm hc)).trans (Heap.get?_push_of_some _ e))
  have g1:=Heap.get?_update_self (Obj.mapFields λx=>x.setIfInBounds 0 (rawInt ↑he.objs.size)) zf rfl
  have g2:=Heap.get?_update_self (Obj.mapFields λx=>x.setIfInBounds 1 (Value.bool false)) g1 rfl
  have gn:(((he.push { cls:=.type "tuple",data:=.seq #[x,y] }).update z (Obj.mapFields λx=>x.setIfInBounds 0 (rawInt ↑he.objs.size))).update z (Obj.mapFields λx=>x.setIfInBounds 1 (Value.bool false))).get? he.objs.size=some { cls:=.type "tuple",data:=.seq #[x,y] }:=(Heap.get?_update_other _ _ zn).trans ((Heap.get?_update_other _ _ zn).trans (Heap.get?_push_size _ rfl))
  refine⟨_,rfl,?_⟩
  show R (.ok (.ret (.ref he.objs.size))) { s with heap:=(((he.push { cls:=.type "tuple",data:=.seq #[x,y] }).update z (Obj.mapFields λx=>x.setIfInBounds 0 (rawInt ↑he.objs.size))).update z (Obj.mapFields λx=>x.setIfInBounds 1 (Value.bool false))) }
  generalize (((he.push { cls:=.type "tuple",data:=.seq #[x,y] }).update z (Obj.mapFields λx=>x.setIfInBounds 0 (rawInt ↑he.objs.size))).update z (Obj.mapFields λx=>x.setIfInBounds 1 (Value.bool false)))=hf at *
  rw [sz]
  refine q hf (by rw [<- sz];exact g2) (ke TO _ ap.TOz TOe) (j1c.at λo e=>ke i1 o ap.i1z ((se.2 i1 (Ne.symm ap.TOi1)).trans ((sd.2 i1 ap.i12).trans e))) (jd.at λo e=>ke i2 o ap.i2z ((se.2 i2 (Ne.symm ap.TOi2)).trans e)) (by rw [<- sz];exact gn) λc o h1 h2 h3 h4 e=>ke c o h1 ((se.2 c h2).trans ((sd.2 c h4).trans (kc c o h1 h3 h2 e)))
theorem wx (k1:Sd) (z TI TO i1 i2 l1:Addr) (i1z:i1≠z) (l1z:l1≠z) (n1:Nat) (xs:Array Value) (a b:Value) (hx:xs[n1]?=none):Meets (Builtin.«zip.__next__» ⟨[.ref z],[]⟩)
  (λA R s=>A.handled=none/\IsZip s.heap z TI TO .none/\IsPair s.heap TI (.ref i1) (.ref i2)/\IsPair s.heap TO a b/\k1.It s.heap i1 l1 n1/\k1.Sq s.heap l1 xs /\
   ∀ h' e,(∀ c o,c≠z->c≠i1->s.heap.get? c=some o->h'.get? c=some o)->(∃ o,h'.get? e=some o/\o.cls=.type "StopIteration")->R (.error (.ref e)) { s with heap:=h' }) :=
 .of_wp λprog w A R s h=>by
  obtain⟨hn,hz,hTI,hTO,j1,q1,q⟩:=h
  wp_walk using wpAny_field (i:=2) (x:=Value.bool false) hz rfl rfl,wpAny_field (i:=3) (x:=Value.ref TI) hz rfl rfl,wpAny_field (i:=0) (x:=Value.none) hz rfl rfl,wpAny_field (i:=4) (x:=Value.ref TO) hz rfl rfl,wpAny_seqItems hTI rfl,wpAny_setField_rec hz (show 0<5 by decide)
  intro ha za sa
  have ka:∀ c o,c≠z->s.heap.get? c=some o->ha.get? c=some o:=λc o hc e=>(sa.2 c hc).trans e
  have j1a:=j1.at (h':=ha) λo e=>ka i1 o i1z e
  have q1a:=q1.at (h':=ha) λo e=>ka l1 o l1z e
  wp_walk using wpAny_onRaise,Sd.fin (A:=A.in1) (s:={ s with heap:=ha }) hn j1a q1a hx
  intro hb e kb oe
  have zb:=kb z _ (Ne.symm i1z) za
  refine wpAny_setField_rec (s:={ s with heap:=hb }) zb (show 0<5 by decide) λhc zc sc=>?_
  obtain⟨o,eo,co⟩:=oe
  have ez:e≠z:=λx=>by
   subst x
   rw [zb] at eo
   cases eo
   injection co with x
   exact absurd x (by decide)
  exact q hc e (λc o h1 h2 x=>(sc.2 c h1).trans (kb c o h2 (ka c o h1 x))) ⟨o,(sc.2 e ez).trans eo,co⟩
section
variable {prog:Program} {w:World} {A:Around} {E:Value->Shared->Prop} {s:Shared}
theorem lh {it:Addr} {T id:String} {Q:Option Value->Shared->Prop} (ty:s.TypeIs (.ref it) T) (sl:Slot T "__next__" id)
  (h:wpAny (model prog w) A (call (.builtin id) [.ref it]) (λv s'=>Q (some v) s') (λe s'=>(∃ x o,e=.ref x/\s'.heap.get? x=some o/\o.cls=.type "StopIteration")/\Q none s') s):wpAny (model prog w) A (pyNext (.ref it)) Q E s:=by
 unfold pyNext
 refine wpAny_bind (wpAny_attempt (wpAny_callSpecial?_slot ty sl (wpAny_mono h (λv s' q=>wpAny_pure q) λe s' q=>?_)))
 obtain⟨⟨x,o,rfl,eo,co⟩,q⟩:=q
 refine wpAny_bind (wpAny_isInstance (T := "StopIteration") (b:=true) ⟨o,eo,co⟩ ?_ ?_)
 ·with_unfolding_all rfl
 ·rw [if_pos rfl]
  exact wpAny_pure q
theorem m7 {k1 k2:Sd} {l1 l2:Addr} {xs ys:Array Value} {Q:Value->Shared->Prop} (h1:k1.Sq s.heap l1 xs) (h2:k2.Sq s.heap l2 ys)
  (q:∀ h',IsZip h' (s.heap.objs.size+4) (s.heap.objs.size+2) (s.heap.objs.size+3) .none->IsPair h' (s.heap.objs.size+2) (.ref s.heap.objs.size) (.ref (s.heap.objs.size+1)) ->
   IsPair h' (s.heap.objs.size+3) .none .none->k1.It h' s.heap.objs.size l1 0->k2.It h' (s.heap.objs.size+1) l2 0->(∀ c o,s.heap.get? c=some o->h'.get? c=some o)->Q (.ref (s.heap.objs.size+4)) { s with heap:=h' }) :
  wpAny (model prog w) A (call (.type "zip") [.ref l1,.ref l2]) Q E s :=
 callType_new F.called_zip (by decide) (F.typeCall_zip_2 _ _) (F.newCall_zip_2 _ _) (λobj=>F.args_object_init_3 _ _ _) F.entry_zip_new (yy k1 k2 l1 l2 xs ys) ⟨h1,h2,λh' z a b c d e=>⟨⟨_,z,rfl⟩,q h' z a b c d e⟩⟩
theorem kz {k1 k2:Sd} {z TI TO i1 i2 l1 l2:Addr} {n1 n2:Nat} {xs ys:Array Value} {x y a b:Value} {Q:Option Value->Shared->Prop} (ap:ZipApart z TI TO i1 i2 l1 l2) (hz:IsZip s.heap z TI TO .none) (hTI:IsPair s.heap TI (.ref i1) (.ref i2)) (hTO:IsPair s.heap TO a b)
  (j1:k1.It s.heap i1 l1 n1) (j2:k2.It s.heap i2 l2 n2) (q1:k1.Sq s.heap l1 xs) (q2:k2.Sq s.heap l2 ys) (hx:xs[n1]?=some x) (hy:ys[n2]?=some y)
  (q:∀ h',IsZip h' z TI TO (rawInt s.heap.objs.size)->IsPair h' TO x y->k1.It h' i1 l1 (n1+1)->k2.It h' i2 l2 (n2+1)->IsPair h' s.heap.objs.size x y ->
    (∀ c o,c≠z->c≠TO->c≠i1->c≠i2->s.heap.get? c=some o->h'.get? c=some o)->Q (some (.ref s.heap.objs.size)) { s with heap:=h' }):wpAny (model prog w) A (pyNext (.ref z)) Q E s :=
 lh ⟨_,hz,rfl⟩ F.slot_zip_next (call_meets F.slot_zip_next ⟨_,hz,rfl⟩ F.entry_zip_next (F.args_zip_next_1 _) (wz k1 k2 z TI TO i1 i2 l1 l2 ap n1 n2 xs ys x y a b hx hy) ⟨hz,hTI,hTO,j1,j2,q1,q2,λh' a b c d e f=>q h' a b c d e f⟩)
theorem l7 {k1:Sd} {z TI TO i1 i2 l1:Addr} {n1:Nat} {xs:Array Value} {a b:Value} {Q:Option Value->Shared->Prop} (hn:A.handled=none) (i1z:i1≠z) (l1z:l1≠z) (hz:IsZip s.heap z TI TO .none) (hTI:IsPair s.heap TI (.ref i1) (.ref i2)) (hTO:IsPair s.heap TO a b)
  (j1:k1.It s.heap i1 l1 n1) (q1:k1.Sq s.heap l1 xs) (hx:xs[n1]?=none)
  (q:∀ h',(∀ c o,c≠z->c≠i1->s.heap.get? c=some o->h'.get? c=some o)->Q none { s with heap:=h' }):wpAny (model prog w) A (pyNext (.ref z)) Q E s :=
 lh ⟨_,hz,rfl⟩ F.slot_zip_next (call_meets F.slot_zip_next ⟨_,hz,rfl⟩ F.entry_zip_next (F.args_zip_next_1 _) (wx k1 z TI TO i1 i2 l1 i1z l1z n1 xs a b hx) ⟨hn,hz,hTI,hTO,j1,q1,λh' e k ⟨o,eo,co⟩=>⟨⟨e,o,rfl,eo,co⟩,q h' k⟩⟩)
end
def jJ (k:Sd) (K:PySem.W.Frag) (H:Hp) (a:Addr) (xs:List V):Prop:=match k with
 | .l=>aS K H a xs
 | .t=>aL K H a xs
theorem Inv.Az {X:Cx} {pins:List (Addr × Obj)} {σ:St} {H:Hp} {s:Shared} {k:Sd} {a:Addr} {xs:List V} (I:Inv X pins σ H s) (h:jJ k X.K H a xs):∃ its:List Value,Vals xs its/\k.Sq s.heap a its.toArray:=by
 cases k
 ·obtain⟨its,r,p,_⟩:=I.list h
  exact⟨its,r,p.isList⟩
 ·obtain⟨its,r,p,_⟩:=I.tuple h
  exact⟨its,r,p⟩
theorem Inv.rN {X:Cx} {pins:List (Addr × Obj)} {σ:St} {H:Hp} {s:Shared} {k:Sd} {a:Addr} {xs ys:List V} (I:Inv X pins σ H s) (h:jJ k X.K H a xs) (h':jJ k X.K H a ys):xs=ys:=by
 cases k
 ·exact I.nN h h'
 ·exact I.lD h h'
def Bb (k1 k2:Sd) (K:PySem.W.Frag) (a b:Addr):It :=
 ⟨λi H=>∃ xs ys x y,jJ k1 K H a xs/\jJ k2 K H b ys/\xs[i]?=some x/\ys[i]?=some y,λi H x H'=>∃ p u v,H p=none/\x=.ref p/\(∀ xs,jJ k1 K H a xs->xs[i]?=some u)/\(∀ ys,jJ k2 K H b ys->ys[i]?=some v)/\H'=upd H p (.tup [u,v]),
  λi H=>∃ xs,jJ k1 K H a xs/\xs.length<=i⟩
theorem oN {P:Program} {w:World} {K:PySem.W.Frag} {elts:List Expr} {x1} {pos:Pos} {k1 k2:Sd} {a b z TI TO i1 i2:Addr} (ap:ZipApart z TI TO i1 i2 a b):Turn P w K (.Tuple elts x1 pos) (Bb k1 k2 K a b) [z,TI,TO,i1,i2] z (λi h=>IsZip h z TI TO .none/\IsPair h TI (.ref i1) (.ref i2)/\(∃ u v,IsPair h TO u v)/\k1.It h i1 a i/\k2.It h i2 b i) where
 mem:=by simp
 obj:=λi h st c hc=>by
  obtain⟨h1,h2,⟨u,v,h3⟩,h4,h5⟩:=st
  simp only [List.mem_cons,List.not_mem_nil,or_false] at hc
  rcases hc with rfl | rfl | rfl | rfl | rfl
  ·exact⟨_,h1,λv z=>by cases z⟩
  ·exact⟨_,h2,λv z=>by cases z⟩
  ·exact⟨_,h3,λv z=>by cases z⟩
  ·exact h4.there
  ·exact h5.there
 keep:=λi h h' st k=>by
  obtain⟨h1,h2,⟨u,v,h3⟩,h4,h5⟩:=st
  exact⟨k z (by simp) _ h1,k TI (by simp) _ h2,⟨u,v,k TO (by simp) _ h3⟩,h4.at λo x=>k i1 (by simp) o x,h5.at λo x=>k i2 (by simp) o x⟩
 item:=by
  intro X hP hw hK hc i pins s σ H E I hf st hg
  subst hP hw hK
  obtain⟨xs,ys,x,y,hq1,hq2,hx,hy⟩:=hg
  obtain⟨its1,rv1,p1⟩:=I.Az hq1
  obtain⟨its2,rv2,p2⟩:=I.Az hq2
  obtain⟨u,hu,ru⟩:=rv1.get hx
  obtain⟨v,hv,rv⟩:=rv2.get hy
  obtain⟨h1,h2,⟨u0,v0,h3⟩,h4,h5⟩:=st
  refine kz ap h1 h2 h3 h4 h5 p1 p2 (x:=u) (y:=v) (by simpa using hu) (by simpa using hv) λh' z' TO' j1 j2 hT hk=>?_
  refine⟨_,rfl,?_⟩
  have fT:H s.heap.objs.size=none:=I.hok.fresh (Nat.le_refl _)
  refine wpAny_letOwnedTupleGo_zip z' λh'' z2 s2=>?_
  have hke:∀ c o,c∉[z,TI,TO,i1,i2]->s.heap.get? c=some o->h''.get? c=some o:=λc o hc q=>by
   simp only [List.mem_cons,List.not_mem_nil,or_false,not_or] at hc
   exact (s2.2 c hc.1).trans (hk c o hc.1 hc.2.2.1 hc.2.2.2.1 hc.2.2.2.2 q)
  have I1:Inv X pins σ H { s with heap:=h'',toks:=s.toks }:=I.rR hke hf
  have nz:∀ c∈[z,TI,TO,i1,i2],c≠s.heap.objs.size:=λc hc e=>by
   have:∃ o,s.heap.get? c=some o:=by
    simp only [List.mem_cons,List.not_mem_nil,or_false] at hc
    rcases hc with rfl | rfl | rfl | rfl | rfl
    ·exact⟨_,h1⟩
    ·exact⟨_,h2⟩
    ·exact⟨_,h3⟩
    ·obtain⟨o,e,_⟩:=h4.there;exact⟨o,e⟩
    ·obtain⟨o,e,_⟩:=h5.there;exact⟨o,e⟩
   obtain⟨o,eo⟩:=this
   exact Nat.ne_of_lt (Heap.lt_size eo) e
  have hT2:h''.get? s.heap.objs.size=some { cls:=.type "tuple",data:=.seq #[u,v] }:=(s2.2 _ (Ne.symm (nz z (by simp)))).trans hT
  refine⟨.ref s.heap.objs.size,upd H s.heap.objs.size (.tup [x,y]),?_,rfl,⟨_,x,y,fT,rfl,λzs hz=>by rw [I.rN hz hq1];exact hx,λzs hz=>by rw [I.rN hz hq2];exact hy,rfl⟩,
   ⟨z2,(s2.2 TI ap.TIz).trans (hk TI _ ap.TIz ap.TITO ap.TIi1 ap.TIi2 h2),⟨_,_,(s2.2 TO ap.TOz).trans TO'⟩,j1.at λo q=>(s2.2 i1 ap.i1z).trans q,j2.at λo q=>(s2.2 i2 ap.i2z).trans q⟩,λc hc=>?_⟩
  ·exact I1.adopt (T:=s.heap.objs.size) (o:=.tup [x,y]) (I.pH (Nat.le_refl _) fT) ⟨by show 2<=sizeLine;decide,[u,v],.cons ru (.cons rv .nil),⟨_,hT2,rfl,_,rfl⟩⟩
  ·rw [aA (nz c hc)]
   exact (hf c hc).1
 done:=by
  intro X hP hw hK hc i pins s σ H E I hf st hg
  subst hP hw hK
  obtain⟨xs,hq,hx⟩:=hg
  obtain⟨its,rv,p⟩:=I.Az hq
  have hl:=rv.length
  obtain⟨h1,h2,⟨u0,v0,h3⟩,h4,h5⟩:=st
  exact l7 (I.ok.hd hc) ap.i1z ap.l1z h1 h2 h3 h4 p (by simp;omega) λh' eb=>⟨rfl,I.rR (t':=s.toks) (ch:=[z,i1]) (λc o hc q=>by
   simp only [List.mem_cons,List.not_mem_nil,or_false,not_or] at hc
   exact eb c o hc.1 hc.2 q) (λc hc=>hf c (by
    simp only [List.mem_cons,List.not_mem_nil,or_false] at hc
    rcases hc with rfl | rfl<;>simp))⟩
 self:=λ_ _ _ _ _ st h=>wpAny_pyIter_zip st.1 h
def Bv (k1 k2:Sd) (K:PySem.W.Frag) (ta:TA):TI:=λσ H R=>ta σ H λvs H1=>∃ a b,vs=[.ref a,.ref b]/\(∃ xs,jJ k1 K H1 a xs)/\(∃ ys,jJ k2 K H1 b ys)/\R (Bb k1 k2 K a b) H1
theorem kM:bootBuiltins "zip"=some (.type "zip"):=by decide +kernel
theorem Ao {X:Cx} {elts:List Expr} {x1} {tpos:Pos} {a b:Expr} {ta:TA} {p pos:Pos} (k1 k2:Sd) (hg:Gl X "zip") (hm:X.mg "zip"=none) (ha:PA X [a,b] ta) (hs:starEach [a,b] X.env=[(false,eval a X.env),(false,eval b X.env)]:=by rfl) (hs2:starEach [b] X.env=[(false,eval b X.env)]:=by rfl) :
  PI X (.Tuple elts x1 tpos) (.Call (.Name "zip" p) [a,b] [] pos) (Bv k1 k2 X.K ta):=by
 intro pins s σ H R I h
 refine Call_ (gU I hg hm kM (PyProof.Rows.callWith_type1 (bK (ha pos pins s σ H _ I h) λus s1 ⟨vs,H1,I1,r1,q1⟩=>?_) (by rw [hs,hs2]) (by rw [hs2];rfl)))
 obtain⟨a',b',e,⟨xs,hq1⟩,⟨ys,hq2⟩,q⟩:=q1
 subst e
 cases r1 with
 | cons r rr =>
  cases rr with
  | cons r' rr' =>
   cases rr'
   cases r
   cases r'
   obtain⟨its1,rv1,p1⟩:=I1.Az hq1
   obtain⟨its2,rv2,p2⟩:=I1.Az hq2
   refine m7 p1 p2 λh' hz hTI hTO j1 j2 hk=>?_
   refine wpAny_pyIter_zip hz ?_
   have I2:Inv X pins σ H1 { s1 with heap:=h' }:=I1.kept (t':=s1.toks) hk
   refine⟨_,[s1.heap.objs.size+4,s1.heap.objs.size+2,s1.heap.objs.size+3,s1.heap.objs.size,s1.heap.objs.size+1],_,_,H1,rfl,I2,oN (PyProof.Rows.zipApart_new p1.lt p2.lt),⟨hz,hTI,⟨_,_,hTO⟩,j1,j2⟩,λc hc=>?_,q⟩
   simp only [List.mem_cons,List.not_mem_nil,or_false] at hc
   rcases hc with rfl | rfl | rfl | rfl | rfl<;>exact I1.pH (by omega) (I1.hok.fresh (by omega))
theorem iR {K:PySem.W.Frag} {k1 k2:Sd} {a b:Addr} {xs ys:List V} {js:List (Option Nat)} {g:TG} {tt:TT} {te:TE} {σ:St} {Q:VK} {H1:Hp} (Pv:Nat->List V->Hp->Prop) (h0:Pv 0 [] H1) (hxy:xs.length=ys.length) (hx:xs.length<=sizeLine) (hl:∀ i zs H,i<=xs.length->Pv i zs H->jJ k1 K H a xs/\jJ k2 K H b ys/\zs.length<=i)
  (hs:∀ i x y zs H p,xs[i]?=some x->ys[i]?=some y->Pv i zs H->H p=none->g (.ref p) (cG js σ) (upd H p (.tup [x,y])) λσ2 H2=>bL (cG js σ) σ2/\tt σ2 H2 λc H3=>if c=true then te σ2 H3 λv H4=>Pv (i+1) (zs++[v]) H4 else Pv (i+1) zs H3)
  (hd:∀ zs H p,Pv xs.length zs H->H p=none->Q (.ref p) (upd H p (.lst zs))):kG (Bb k1 k2 K a b) js g tt te σ Q H1:=by
 refine⟨λi m zs H=>m=xs.length-i/\i<=xs.length/\Pv i zs H,⟨xs.length,by simp,Nat.zero_le _,h0⟩,?_⟩
 rintro i m zs H ⟨rfl,hi,p⟩
 obtain⟨q,q',hy⟩:=hl i zs H hi p
 by_cases hlt:i<xs.length
 ·refine .inr ⟨⟨xs,ys,xs[i],ys[i],q,q',by simp [hlt],by simp⟩,by omega,Pv (i+1),λys' H' p'=>⟨xs.length-(i+1),by omega,rfl,hlt,p'⟩,λx H' y=>?_⟩
  obtain⟨pt,u,v,f,e1,e2,e3,e4⟩:=y
  subst e1 e4
  exact hs i u v zs _ pt (e2 xs q) (e3 ys q') p f
 ·have e:i=xs.length:=by omega
  subst e
  exact .inl ⟨⟨xs,q,Nat.le_refl _⟩,by omega,λp' hp'=>hd zs H p' p hp'⟩
end L2
namespace Num
theorem qc {p x y:Int} {m:Nat} (h:Al p x y) (o:Ord p x m):Ord p y m:=⟨o.pos,(h.pow m).symm.trans o.one,λj z=>o.dv j ((h.pow j).trans z)⟩
def eN:List (Int × Int)->Nat
 | []=>1
 | p::r=>p.1.toNat^p.2.toNat*eN r
theorem iS:∀ a b:List (Int × Int),eN (a++b)=eN a*eN b
 | [],b=>by simp [eN]
 | p::r,b=>by
  show p.1.toNat^p.2.toNat*eN (r++b)=p.1.toNat^p.2.toNat*eN r*eN b
  rw [iS r b,Nat.mul_assoc]
theorem qH:∀ a:List (Int × Int),(∀ p∈a,Pm p.1)->(eN a:Int)=cF a
 | [],_=>rfl
 | p::r,h=>by
  have t:=(h p (List.mem_cons_self ..)).two
  show ((p.1.toNat^p.2.toNat*eN r:Nat):Int)=p.1^p.2.toNat*cF r
  rw [Int.natCast_mul,Int.natCast_pow,qH r λx z=>h x (List.mem_cons_of_mem _ z),show (p.1.toNat:Int)=p.1 by omega]
theorem pE:∀ a:List (Int × Int),(∀ p∈a,Pm p.1)->0<eN a
 | [],_=>Nat.one_pos
 | p::r,h=>by
  have t:=(h p (List.mem_cons_self ..)).two
  exact Nat.mul_pos (Nat.pow_pos (by omega)) (pE r λx z=>h x (List.mem_cons_of_mem _ z))
theorem zO {q m:Nat} (h:Nm q) (hm:¬q∣m) (k:Nat):Nat.Coprime (q^k) m:=Nat.Coprime.pow_left k (h.co hm)
theorem Bo {q:Int} (hq:Pm q) {b:List (Int × Int)} (hb:∀ p∈b,Pm p.1) (ne:∀ p∈b,p.1≠q):¬q.toNat∣eN b:=λz=>by
 have t:=hq.two
 have:q∣cF b:=by
  rw [<- qH b hb]
  have:=Int.natCast_dvd_natCast.mpr z
  rwa [show (q.toNat:Int)=q by omega] at this
 obtain⟨p,hp,e⟩:=fF hq hb this
 exact ne p hp e
theorem yG {b:List (Int × Int)} (hb:∀ p∈b,Pm p.1):∀ a:List (Int × Int),(∀ p∈a,Pm p.1)->(∀ x∈a,∀ y∈b,y.1≠x.1)->Nat.Coprime (eN a) (eN b)
 | [],_,_=>Nat.coprime_one_left _
 | p::r,h,ne=>by
  have hp:=h p (List.mem_cons_self ..)
  exact Nat.Coprime.mul_left (zO (qT hp) (Bo hp hb (ne p (List.mem_cons_self ..))) _) (yG hb r (λx z=>h x (List.mem_cons_of_mem _ z)) λx z=>ne x (List.mem_cons_of_mem _ z))
theorem xQ {n a:Int} {q t:Nat} (hq:Nm q) (h:Al n (a^q^t) 1) (no:∀ j,j<t->¬Al n (a^q^j) 1):Ord n a (q^t):=by
 have q2:=hq.1
 obtain⟨m,o,_⟩:=iY (N:=q^t) (Nat.pow_pos (by omega)) h
 have d:=o.dv _ h
 cases t with
 | zero =>
  have:m=1:=Nat.eq_one_of_dvd_one (by simpa using d)
  rw [this] at o
  simpa using o
 | succ k =>
  have:m=q^(k+1):=q5 hq k m d λz=>no k (Nat.lt_succ_self _) (by
   obtain⟨c,hc⟩:=z
   rw [hc]
   exact aX o.one)
  rw [<- this]
  exact o
theorem cu {a:Int} {x y:Nat}:(a^x)^y=a^(x*y):=by rw [Int.pow_mul]
theorem qd {n a:Int} {M1 M2 E1 E2:Nat} (co:Nat.Coprime M1 M2) (p1:0<M1) (p2:0<M2) (h:Al n (a^(M1*M2)) 1) (o1:Ord n (a^M2) E1) (o2:Ord n (a^M1) E2):Ord n a (E1*E2):=by
 have d1:E1∣M1:=o1.dv M1 (by rw [cu,Nat.mul_comm];exact h)
 have d2:E2∣M2:=o2.dv M2 (by rw [cu];exact h)
 obtain⟨c1,hc1⟩:=d1
 obtain⟨c2,hc2⟩:=d2
 obtain⟨e,o,_⟩:=iY (Nat.mul_pos p1 p2) h
 have x1:e∣M2*E1:=o.dv _ (by rw [<- cu];exact o1.one)
 have x2:e∣M1*E2:=o.dv _ (by rw [<- cu];exact o2.one)
 have cc:Nat.Coprime c2 c1:=by
  have:Nat.Coprime c1 c2:=Nat.Coprime.coprime_dvd_left ⟨E1,by rw [hc1,Nat.mul_comm]⟩ (Nat.Coprime.coprime_dvd_right ⟨E2,by rw [hc2,Nat.mul_comm]⟩ co)
  exact this.symm
 have x3:e∣E1*E2:=by
  have:=Nat.dvd_gcd x1 x2
  rw [show M2*E1=E1*E2*c2 by rw [hc2];rw [Nat.mul_comm (E2*c2) E1,Nat.mul_assoc],show M1*E2=E1*E2*c1 by rw [hc1];rw [Nat.mul_assoc,Nat.mul_comm c1 E2,Nat.mul_assoc],Nat.gcd_mul_left,cc.gcd_eq_one,Nat.mul_one] at this
  exact this
 have ce:Nat.Coprime E1 E2:=Nat.Coprime.coprime_dvd_left ⟨c1,hc1⟩ (Nat.Coprime.coprime_dvd_right ⟨c2,hc2⟩ co)
 refine⟨Nat.mul_pos o1.pos o2.pos,?_,λj hj=>?_⟩
 ·obtain⟨c,hc⟩:=x3
  rw [hc]
  exact aX o.one
 ·refine ce.mul_dvd_of_dvd_of_dvd (o1.dv j ?_) (o2.dv j ?_)
  ·rw [cu,Nat.mul_comm,<- cu]
   have:=hj.pow M2
   rwa [Int.one_pow] at this
  ·rw [cu,Nat.mul_comm,<- cu]
   have:=hj.pow M1
   rwa [Int.one_pow] at this
structure TO (n a:Int) (ps:List (Int × Int)) (ts:List Int):Prop where
 len:ts.length=ps.length
 nn:∀ t∈ts,0<=t
 ord:Ord n a (eN ((ps.map (·.1)).zip ts))
theorem TO.al {n a b:Int} {ps:List (Int × Int)} {ts:List Int} (h:TO n a ps ts) (e:Al n a b):TO n b ps ts:=⟨h.len,h.nn,qc e h.ord⟩
theorem TO.none {n a:Int} (h:Al n a 1):TO n a [] []:=⟨rfl,λ_ z=>by simp at z,⟨Nat.one_pos,by show Al n (a^1) 1;rw [Int.pow_one];exact h,λj _=>Nat.one_dvd j⟩⟩
theorem TO.one {n a q k:Int} {t:Nat} (hq:Pm q) (h:Al n (a^q.toNat^t) 1) (no:∀ j,j<t->¬Al n (a^q.toNat^j) 1):TO n a [(q,k)] [(t:Int)]:=by
 refine⟨rfl,λx z=>?_,?_⟩
 ·rw [List.mem_singleton.mp z];omega
 ·show Ord n a (q.toNat^(t:Int).toNat*1)
  rw [Nat.mul_one,Int.toNat_natCast]
  exact xQ (qT hq) h no
theorem TO.two {n a:Int} {as bs:List (Int × Int)} {ts us:List Int} (ha:∀ p∈as,Pm p.1) (hb:∀ p∈bs,Pm p.1) (ne:∀ x∈as,∀ y∈bs,y.1≠x.1) (h:Al n (a^eN (as++bs)) 1) (h1:TO n (a^eN bs) as ts) (h2:TO n (a^eN as) bs us):TO n a (as++bs) (ts++us):=by
 refine⟨by rw [List.length_append,List.length_append,h1.len,h2.len],λt z=>(List.mem_append.mp z).elim (h1.nn t) (h2.nn t),?_⟩
 rw [List.map_append,List.zip_append (by rw [List.length_map,h1.len]),iS]
 rw [iS] at h
 exact qd (yG hb as ha ne) (pE as ha) (pE bs hb) h h1.ord h2.ord
end Num
namespace L2
open PySem PySem.Spec PyProof.Rows
section
variable {prog:Program} {w:World} {A:Around} {E:Value->Shared->Prop} {s:Shared}
end
def CD (K:PySem.W.Frag) (a:Addr):It :=
 ⟨λi H=>∃ xs x,aL K H a xs/\xs[i]?=some x,λi H x H'=>∃ p v,H p=none/\x=.ref p/\(∀ xs,aL K H a xs->xs[i]?=some v)/\H'=upd H p (.tup [.int i,v]),λi H=>∃ xs,aL K H a xs/\xs.length<=i⟩
def zU (K:PySem.W.Frag) (ta:TA):TI:=λσ H R=>ta σ H λvs H1=>∃ a,vs=[.ref a]/\(∃ xs,aL K H1 a xs)/\R (CD K a) H1
def yO (K:PySem.W.Frag) (ta:TA):TI:=λσ H R=>ta σ H λvs H1=>∃ a b k1 k2,vs=[.ref a,.ref b]/\(∃ xs,jJ k1 K H1 a xs)/\(∃ ys,jJ k2 K H1 b ys)/\R (Bb k1 k2 K a b) H1
theorem qZ {X:Cx} {elts:List Expr} {x1} {tpos:Pos} {a b:Expr} {ta:TA} {p pos:Pos} (hg:Gl X "zip") (hm:X.mg "zip"=none) (ha:PA X [a,b] ta) (hs:starEach [a,b] X.env=[(false,eval a X.env),(false,eval b X.env)]:=by rfl) (hs2:starEach [b] X.env=[(false,eval b X.env)]:=by rfl) :
  PI X (.Tuple elts x1 tpos) (.Call (.Name "zip" p) [a,b] [] pos) (yO X.K ta):=by
 intro pins s σ H R I h
 refine Call_ (gU I hg hm kM (PyProof.Rows.callWith_type1 (bK (ha pos pins s σ H _ I h) λus s1 ⟨vs,H1,I1,r1,q1⟩=>?_) (by rw [hs,hs2]) (by rw [hs2];rfl)))
 obtain⟨a',b',k1,k2,e,⟨xs,hq1⟩,⟨ys,hq2⟩,q⟩:=q1
 subst e
 cases r1 with
 | cons r rr =>
  cases rr with
  | cons r' rr' =>
   cases rr'
   cases r
   cases r'
   obtain⟨its1,rv1,p1⟩:=I1.Az hq1
   obtain⟨its2,rv2,p2⟩:=I1.Az hq2
   refine m7 p1 p2 λh' hz hTI hTO j1 j2 hk=>?_
   refine wpAny_pyIter_zip hz ?_
   have I2:Inv X pins σ H1 { s1 with heap:=h' }:=I1.kept (t':=s1.toks) hk
   refine⟨_,[s1.heap.objs.size+4,s1.heap.objs.size+2,s1.heap.objs.size+3,s1.heap.objs.size,s1.heap.objs.size+1],_,_,H1,rfl,I2,oN (PyProof.Rows.zipApart_new p1.lt p2.lt),⟨hz,hTI,⟨_,_,hTO⟩,j1,j2⟩,λc hc=>?_,q⟩
   simp only [List.mem_cons,List.not_mem_nil,or_false] at hc
   rcases hc with rfl | rfl | rfl | rfl | rfl<;>exact I1.pH (by omega) (I1.hok.fresh (by omega))
end L2
namespace L2
open PySem PySem.Spec PyProof.Rows PySem.W
end L2
namespace L2
open PySem PySem.Spec PyProof.Rows
theorem iN:∀{us:List Value} {ns:List Int},IntsAre us ns->Vals (ns.map V.int) us
 | _,_,.nil=>.nil
 | _,_,.cons n t h=>.cons ⟨t,rfl⟩ (iN h)
def ya (K:PySem.W.Frag):List V->Hp->VK->Prop:=λxs H Q=>∃(a:Addr) (ns:List Int),xs=[.ref a]/\aS K H a (ns.map V.int)/\ns.length<64/\∀(p:Addr) (ns':List Int),ns'.Perm ns->ns'.Pairwise (·<=·)->H p=none->Q (.ref p) (upd H p (.lst (ns'.map V.int)))
theorem m6 {X:Cx}:dW X (.builtin "sorted") (ya X.K):=by
 intro pins s σ H xs us Q I r h
 obtain⟨a,ns,rfl,hq,hl,q⟩:=h
 obtain⟨u,rfl,ru⟩:=vals1 r
 cases ru
 obtain⟨its,rv,p,hz⟩:=I.list hq
 have il:=intsAre_of rv
 have ln:its.length=ns.length:=by have:=rv.length;rw [List.length_map] at this;omega
 refine sorted_ints p.isList il (by omega) λout ns' ho hp hs=>?_
 obtain⟨e,he⟩:=sortedAll_at s.heap its out
 have I1:Inv X pins σ H { s with heap:=sortedAll s.heap its out }:=I.kept (t':=s.toks) λb o x=>sortedAll_old x
 have fT:H (s.heap.objs.size+1)=none:=I.hok.fresh (Nat.le_succ _)
 have vo:=iN ho
 have lo:ns'.length=ns.length:=hp.length_eq
 refine⟨.ref (s.heap.objs.size+1),upd H (s.heap.objs.size+1) (.lst (ns'.map V.int)),?_,rfl,q _ ns' hp hs fT⟩
 refine I1.adopt (T:=s.heap.objs.size+1) (o:=.lst (ns'.map V.int)) (I.pH (Nat.le_succ _) fT) ⟨?_,out.toList,e,vo,?_⟩
 ·rw [List.length_map,lo]
  exact Nat.le_trans (Nat.le_of_lt hl) (by decide)
 ·rw [he]
end L2
namespace L2
open PySem PySem.Spec PyProof.Rows PySem.W
section
variable {prog:Program} {w:World} {A:Around} {E:Value->Shared->Prop} {K:PySem.W.Frag} {h:Heap} {g:Array GenState} {d:Drawn} {t:Nat} {os:OsState} {x C B:Addr}
end
section
variable {X:Cx} {pins:List (Addr × Obj)} {σ:St} {H:Hp} {s:Shared} {x:Addr}
end
section
variable {X:Cx} {B:Addr} {n:Option Nat} {hd:ExceptHandler} {ts:TS}
variable {B2:Addr} {n2:Option Nat} {hd2:ExceptHandler} {ts2:TS}
def Cj (K:PySem.W.Frag) (B:Addr) (n:Option Nat) (B2:Addr) (n2:Option Nat) (sp:Sp) (ta:TA) (put:V->St->St) (ts ts2:TS):TS:=λD σ H=>ta σ H λvs H1=>sp vs H1 (λv H2=>D.nx (put v σ) H2)
 (λcv xo H2=>∃ C x dd,cv=.ref C/\xo=some x/\H2 x=some (XO x C dd)/\d7 K C/\((mroIn K C (.ref B)=some true/\ts (qL n D) (xf n x σ) H2)∨(mroIn K C (.ref B)=some false/\mroIn K C (.ref B2)=some true/\ts2 (qL n2 D) (xf n2 x σ) H2)))
variable {k:Nat} {f:Str} {ps:List Str} {sp:Sp} {e:Expr} {es:List Expr} {t:TA} {p cpos epos pos:Pos}
end
namespace HT
section
variable {prog:Program} {w:World} {A:Around} {E:Value->Shared->Prop} {s:Shared}
theorem uv {t b:Addr} {ws:List Value} {Q:Value->Shared->Prop} (ht:IsTup s.heap t ([]:List Value).toArray) (hb:IsTup s.heap b ws.toArray)
  (h1:Q (.ref b) s):wpAny (model prog w) A (binaryOp .Add (.ref t) (.ref b)) Q E s:=by
 obtain⟨⟨cls,dd,data,sl⟩,ho,hc,n,hd⟩:=id ht
 obtain⟨⟨cls2,dd2,data2,sl2⟩,ho2,hc2,n2,hd2⟩:=id hb
 simp only at hc hd hc2 hd2
 subst hc hd hc2 hd2
 exact concat_meets ⟨_,ho,rfl⟩ ⟨_,ho2,rfl⟩ noFill_tuple_add seq_tuple_add PySem.F.slot_tuple_add PySem.F.entry_tuple_add (PySem.F.args_tuple_add_2 _ _)
   (tuple_addW0 t b ([]:List Value).toArray ws.toArray n n2 dd dd2 sl sl2 (by simp)) ⟨ho,ho2,h1⟩
end
end HT
def lj (K:PySem.W.Frag):R2:=λx y H Q=>∃ a b xs ys,x=.ref a/\y=.ref b/\aL K H a xs/\aL K H b ys/\xs.length+ys.length<=sizeLine/\∀ p H',aG H H'->aL K H' p (xs++ys)->Q (.ref p) H'
theorem cL {X:Cx}:gu X (binaryOp .Add) (lj X.K):=by
 intro pins s σ H x y v u Q I rx ry h
 obtain⟨a,b,xs,ys,rfl,rfl,ha,hb,hz,q⟩:=h
 by_cases e:xs=[]
 ·subst e
  cases rx
  cases ry
  obtain⟨its,r1,p1,_⟩:=I.tuple ha
  obtain⟨its2,r2,p2,_⟩:=I.tuple hb
  have e1:its=[]:=r1.jz.mpr rfl
  subst e1
  exact HT.uv p1 p2 ⟨.ref b,H,I,rfl,q b H (aG.refl _) hb⟩
 ·refine xO pins s σ H _ _ v u Q I rx ry ⟨a,b,xs,ys,rfl,rfl,ha,hb,e,hz,λz=>q a H (aG.refl _) (by rw [z,List.append_nil];exact ha),λ_ p hp=>q p _ (ak hp) (aL.of ag)⟩
end L2
namespace L2
open PySem PySem.Spec PyProof.Rows PySem.W
namespace Tsl
open _root_.HT
section
variable {prog:Program} {w:World} {A:Around} {E:Value->Shared->Prop} {s:Shared}
theorem oM {t sl:Addr} {items:Array Value} {vl vu:Value} {lo hi:Option Int} {Q:Value->Shared->Prop} (ht:IsTup s.heap t items) (hs:s.heap.IsSliceOf sl vl vu .none) (pl:IsPart vl lo) (pu:IsPart vu hi)
  (h0:c5 items.size 0 lo=0) (h1:c5 items.size items.size hi=items.size) (q:Q (.ref t) s):wpAny (model prog w) A (getItem (.ref t) (.ref sl)) Q E s:=by
 obtain⟨os,hos,hcs,hds⟩:=id hs
 have hTs:s.TypeIs (.ref sl) "slice":=⟨os,hos,hcs⟩
 unfold getItem
 try with_reducible refine wpAny_holding ?_
 first | refine wpAny_bind (wpAny_pure ?_) | skip
 refine wpAny_bind (wpAny_sequenceKey ht.typeIs (by decide) ?_)
 refine wpAny_bind (wpAny_callSpecial?_slot (name:=Str.ofString "__getitem__") ht.typeIs slot_tuple_getitem (wpAny_call_entry slot_tuple_getitem ht.typeIs entry_tuple_getitem ?_ (args_tuple_getitem _ _)))
 show wpAny _ _ (Builtin.Tuple.tupleItemsOf _ >>= _) _ _ _
 refine wpAny_bind (tupleItemsOf_ ht ?_)
 refine wpAny_bind (wpAny_typeOf hTs ?_)
 rw [if_pos (by decide)]
 refine wpAny_bind (eY hs pl pu ?_)
 rw [h0,h1]
 dsimp only
 rw [if_pos (by simp)]
 unfold Builtin.Tuple.tupleIsExact
 refine wpAny_bind (wpAny_bind (wpAny_typeOf ht.typeIs (wpAny_pure ?_)))
 rw [if_pos (by decide)]
 first
  | exact wpAny_bind (wpAny_rule (wpAny_pure ⟨_,rfl,wpAny_pure q⟩))
  | (refine wpAny_bind (m:=rule _) (wpAny_pure ?_);exact wpAny_pure ⟨_,rfl,wpAny_pure q⟩)
  | (unfold rule;wp_walk)
theorem nJ {α β:Type} {f g:α->Option β}:∀{l:List α},(∀ x∈l,f x=g x)->l.filterMap f=l.filterMap g
 | [],_=>rfl
 | x::l,h=>by rw [List.filterMap_cons,List.filterMap_cons,h x (List.mem_cons_self ..),nJ λy hy=>h y (List.mem_cons_of_mem _ hy)]
theorem rX (xs:Array Value):((List.range xs.size).filterMap fun(m:Nat)=>xs[((xs.size:Int)-1+(m:Int) * -1).toNat]?).toArray=xs.toList.reverse.toArray:=by
 rw [<- krv_pick]
 unfold slicePick
 rw [krv_bounds]
 show _=((sliceRange ((xs.size:Int)-1) (-1) (-1)).filterMap (xs[·]?)).toArray
 rw [krv_sliceRange,List.filterMap_map]
 congr 1
 exact nJ λm hm=>by
  have:=List.mem_range.mp hm
  show xs[((xs.size:Int)-1+(m:Int) * -1).toNat]?=xs[xs.size-1-m]?
  congr 1
  omega
theorem mW (n:Nat):Builtin.Slice.sliceAdjust none none (-1) (n:Int)=((n:Int)-1,-1):=by
 unfold Builtin.Slice.sliceAdjust
 simp
theorem mX (n:Nat):Builtin.Slice.slicePlaces ((n:Int)-1) (-1) (-1)=n:=by
 unfold Builtin.Slice.slicePlaces
 simp
 omega
theorem iG {sl:Addr} {vk:Value} {n:Nat} {Q:Int × Int × Nat->Shared->Prop} (hs:s.heap.IsSliceOf sl .none .none vk) (pk:IsPart vk (some (-1)))
  (h:Q ((n:Int)-1,-1,n) s):wpAny (model prog w) A (Builtin.Slice.sliceApplied (.ref sl) (pure (n:Int))) Q E s:=by
 obtain⟨os,hos,hcs,hds⟩:=id hs
 unfold Builtin.Slice.sliceApplied Builtin.Slice.sliceFields
 refine wpAny_bind (wpAny_bind (wpAny_field hos hds (x:=.none) rfl (wpAny_bind (wpAny_field hos hds (x:=.none) rfl (wpAny_bind (wpAny_field hos hds (x:=vk) rfl (wpAny_pure ?_)))))))
 refine wpAny_bind (gZ pk ?_)
 dsimp only
 rw [if_neg (by decide)]
 refine wpAny_bind (slicePart_none (wpAny_bind (slicePart_none (wpAny_bind (wpAny_pure ?_)))))
 show wpAny _ _ (pure ((Builtin.Slice.sliceAdjust none none (-1) (n:Int)).1,(-1:Int),Builtin.Slice.slicePlaces (Builtin.Slice.sliceAdjust none none (-1) (n:Int)).1 (Builtin.Slice.sliceAdjust none none (-1) (n:Int)).2 (-1))) _ _ s
 rw [mW]
 dsimp only
 rw [mX]
 exact wpAny_pure h
theorem qu {t sl:Addr} {items:Array Value} {vk:Value} {Q:Value->Shared->Prop} (ht:IsTup s.heap t items) (hs:s.heap.IsSliceOf sl .none .none vk) (pk:IsPart vk (some (-1))) (hz:items.size<=sizeLine)
  (q:Q (.ref s.heap.objs.size) { s with heap:=s.heap.push { cls:=.type "tuple",data:=.seq items.toList.reverse.toArray } }):wpAny (model prog w) A (getItem (.ref t) (.ref sl)) Q E s:=by
 obtain⟨os,hos,hcs,hds⟩:=id hs
 have hTs:s.TypeIs (.ref sl) "slice":=⟨os,hos,hcs⟩
 have hsz:sizeOk (.seq items.toList.reverse.toArray):=by
  show items.toList.reverse.toArray.size<=sizeLine
  rw [List.size_toArray,List.length_reverse,Array.length_toList]
  exact hz
 unfold getItem
 try with_reducible refine wpAny_holding ?_
 first | refine wpAny_bind (wpAny_pure ?_) | skip
 refine wpAny_bind (wpAny_sequenceKey ht.typeIs (by decide) ?_)
 refine wpAny_bind (wpAny_callSpecial?_slot (name:=Str.ofString "__getitem__") ht.typeIs slot_tuple_getitem (wpAny_call_entry slot_tuple_getitem ht.typeIs entry_tuple_getitem ?_ (args_tuple_getitem _ _)))
 show wpAny _ _ (Builtin.Tuple.tupleItemsOf _ >>= _) _ _ _
 refine wpAny_bind (tupleItemsOf_ ht ?_)
 refine wpAny_bind (wpAny_typeOf hTs ?_)
 rw [if_pos (by decide)]
 refine wpAny_bind (iG hs pk ?_)
 dsimp only
 rw [if_neg (by simp),rX]
 first
  | exact wpAny_bind (m:=Builtin.Tuple.tupleExact _) (wpAny_newObj_type (wpAny_pure ⟨_,rfl,wpAny_pure q⟩) hsz)
  | exact wpAny_bind (wpAny_bind (m:=Builtin.Tuple.tupleExact _) (wpAny_newObj_type (wpAny_pure (wpAny_pure ⟨_,rfl,wpAny_pure q⟩)) hsz))
  | exact wpAny_bind (m:=Builtin.Tuple.tupleExact _) (wpAny_newObj_type (wpAny_bind (wpAny_pure (wpAny_pure ⟨_,rfl,wpAny_pure q⟩))) hsz)
  | exact wpAny_bind (wpAny_bind (m:=Builtin.Tuple.tupleExact _) (wpAny_newObj_type (wpAny_pure ⟨_,rfl,wpAny_pure q⟩) hsz))
end
end Tsl
def vQ (K:PySem.W.Frag):V->Option Int->Option Int->Hp->VK->Prop:=λx lo hi H Q=>∃ a xs,x=.ref a/\aL K H a xs/\∀ p H',aG H H'->aL K H' p (bE xs lo hi)->Q (.ref p) H'
theorem pA {xs:List V} {lo hi:Option Int} (h0:HT.c5 xs.length 0 lo=0) (h1:HT.c5 xs.length xs.length hi=xs.length):bE xs lo hi=xs:=by
 unfold bE
 rw [h0,h1]
 simp
theorem cM {X:Cx}:Cu X (vQ X.K):=by
 intro pins s σ H x v vl vu lo hi sl Q I rx hs pl pu h
 obtain⟨a,xs,rfl,hx,q⟩:=h
 by_cases hw:HT.c5 xs.length 0 lo=0/\HT.c5 xs.length xs.length hi=xs.length
 ·cases rx
  obtain⟨its,r,ht,hz⟩:=I.tuple hx
  have hlen:its.toArray.size=xs.length:=by rw [List.size_toArray];exact r.length.symm
  refine⟨"tuple",_,slot_tuple_getitem.lookup,ht.typeIs,?_⟩
  refine Tsl.oM ht hs pl pu (by rw [hlen];exact hw.1) (by rw [hlen];exact hw.2) ?_
  exact⟨.ref a,H,I,rfl,q a H (aG.refl _) (by rw [pA hw.1 hw.2];exact hx)⟩
 ·exact qi pins s σ H _ v vl vu lo hi sl Q I rx hs pl pu ⟨a,xs,rfl,hx,hw,λp hp=>q p _ (ak hp) (aL.of ag)⟩
def zw (K:PySem.W.Frag) (te:TE) (tk:TO):TE:=λσ H Q=>te σ H λx H1=>tk σ H1 λo H2=>o=some (-1)/\∃ a xs,x=.ref a/\aL K H2 a xs/\∀ p,H2 p=none->Q (.ref p) (upd H2 p (.tup xs.reverse))
section
variable {X:Cx} {e k:Expr} {te:TE} {tk:TO} {p2 pos:Pos}
theorem xU (he:PE X e te) (hk:PO X (some k) tk)
  (hs:∀ a b:Addr,∃ ops,subscripted (.Slice none none (some k) p2) false (.ref a) (.ref b)=operate ops (getItem (.ref a) (.ref b)):=by intro a b;exact⟨_,by with_unfolding_all rfl⟩):PE X (.Subscript e (.Slice none none (some k) p2) pos) (zw X.K te tk):=by
 intro pins s σ H Q I h
 refine Subscript_ (bK (he pins s σ H _ I h) λv s1 ⟨x,H1,I1,r1,q1⟩=>?_)
 refine wpAny_Slice ?_
 rw [evalPart_none]
 refine wpAny_pure (wpAny_pure ?_)
 refine bK (hk pins s1 σ H1 _ I1 q1) λvk s3 ⟨o,H3,I3,pk,eo,a,xs,ex,hx,q3⟩=>?_
 subst eo
 subst ex
 cases r1
 have I4:Inv X pins σ H3 { s3 with heap:=s3.heap.push { cls:=.type "slice",data:=.fields #[.none,.none,vk] } }:=I3.kept (t':=s3.toks) λb ob q=>Heap.get?_push_of_some _ q
 obtain⟨its,r,ht,hz⟩:=I4.tuple hx
 have hlen:=r.length
 show wpAny (model X.prog X.w) X.A (subscriptTail e (.Slice none none (some k) p2) (.ref a) (.ref s3.heap.objs.size)) (EP X pins σ Q) X.xe { s3 with heap:=s3.heap.push { cls:=.type "slice",data:=.fields #[.none,.none,vk] } }
 obtain⟨ops,hops⟩:=hs a s3.heap.objs.size
 refine tail_any (ops:=ops) ht.typeIs slot_tuple_getitem.lookup ?_ hops
 refine Tsl.qu ht (Heap.IsSliceOf.new ..) pk (by rw [List.size_toArray]<;>omega) ?_
 refine⟨.ref _,_,I4.laid (t':=s3.toks) (o:=.tup xs.reverse) (λb ob q=>Heap.get?_push_of_some _ q) (Nat.le_refl _) ?_,rfl,q3 _ (I4.hok.fresh (Nat.le_refl _))⟩
 exact⟨by rw [List.length_reverse];exact hz,_,r.rev,IsTup.new _ _⟩
end
end L2
namespace L2
open PySem PySem.Spec PyProof.Rows
section
variable {prog:Program} {w:World} {K:Type} [DecidableEq K] {knd:HeapKind prog w K} {A:Around} {E:Value->Shared->Prop} {s:Shared}
end
end L2
namespace L2
open PySem PySem.Spec PyProof.Rows PySem.W
def A0 (h:Heap) (d:Addr) (es:Array DictEntry) (ep:Nat):Prop:=∃ o,h.get? d=some o/\o.ExactDict/\o.data=.dict es ep
section
variable {P:Program} {w:World} {A:Around} {E:Value->Shared->Prop} {s:Shared} {d:Addr} {es:Array DictEntry} {ep:Nat}
theorem A0.type (x:A0 s.heap d es ep):s.TypeIs (.ref d) "dict":=by obtain⟨o,a,c,_⟩:=x;exact⟨o,a,c.1⟩
end
section
variable {X:Cx} {pins:List (Addr × Obj)} {σ:St} {H:Hp} {s:Shared} {A:Around} {E:Value->Shared->Prop}
def AE (td ty:TE):TE:=λσ H Q=>td σ H λx H1=>∃ a,x=.ref a/\Dy H1 a/\ty σ H1 λy H2=>∃ kvs k b v,H2 a=some (.dT kvs)/\y=.ref b/\H2 b=some (.tup (k.map kV))/\iM kvs k=some v/\Q v (upd H2 a (.dT (Bm kvs k)))
theorem kU:∀{ns:List Int} {us:List Value},Vals (ns.map V.int) us->IntsAre us ns
 | [],_,.nil=>.nil
 | n::ns,_,.cons ⟨t,e⟩ r=>by subst e;exact .cons _ t (kU r)
end
section
variable {P:Program} {w:World} {K:PySem.W.Frag} {mg:Str->Option Value} {base:Heap} {CX:jI} {k:Nat} {C:Addr} {m qual x:Str} {ps:List Str} {sp:Sp} {st:Stmt}
structure Cr (P:Program) (w:World) (K:PySem.W.Frag) (mg:Str->Option Value) (base:Heap) (CX:jI) (k:Nat) (C:Addr) (m:Str) (ps:List Str) (sp:Sp):Prop where
 ex:∃ f fd,Meth K C m f/\dJ P w K mg base CX k f fd ps sp/\Binds K fd ps []
variable {X:Cx} {E:XK} {o e:Expr} {es:List Expr} {ta:TE} {t:TA} {p apos pos:Pos}
structure Dx (K:PySem.W.Frag) (x qual:Str) (st:Stmt) (f:Addr) (fd:FuncData) (ds:Array Value):Prop where
 ex:∃(oc:Value) (od:Option Addr) (T:Addr) (o:Obj) (n:Nat) (kV doc pm:Value) (an:Option Addr) (cdv ct:Value) (osl:Array (Option Value)),
  fd=fnOf x qual (cK st) (bG st) (au st) (.ref T) kV doc pm an cdv ct/\K.lookup f=some ⟨oc,od,.func fd,osl⟩/\codeIn K cdv qual=true/\K.lookup T=some o/\o.data=.seq ds n
 kp:keepIn K (.ref f)=true
end
end L2
namespace L2
open PySem PySem.Spec PyProof.Rows
def Dp (q:Nat):Nat->Nat->Nat
 | 0,m=>m
 | f+1,m=>if q<=m*m then m else Dp q f (m+1)
def rt (q:Nat):Nat:=Dp q q 0
def Dd (p w:Int) (m:Nat):List (Key × V):=(List.range m).map λi:Nat=>(Sum.inl (w^i%p),V.int (i:Int))
end L2
namespace Num
theorem Ord.co {n a:Int} {m:Nat} (o:Ord n a m):Co a n:=by
 obtain⟨k,hk⟩:∃ k,m=k+1:=⟨m-1,by have:=o.pos;omega⟩
 exact Co.Aa (m:=k) (by rw [<- hk];exact o.one)
theorem jB {n b:Int} {e q:Nat} (o:Ord n b e) (hd:q∣e):Ord n (b^(e/q)) q:=by
 obtain⟨f,hf⟩:=hd
 have e0:=o.pos
 have q0:0<q:=by rcases Nat.eq_zero_or_pos q with z | z;rw [z,Nat.zero_mul] at hf;omega;exact z
 have f0:0<f:=by rcases Nat.eq_zero_or_pos f with z | z;rw [z,Nat.mul_zero] at hf;omega;exact z
 have ef:e/q=f:=by rw [hf];exact Nat.mul_div_cancel_left f q0
 rw [ef]
 refine⟨q0,?_,λj hj=>?_⟩
 ·rw [cu,Nat.mul_comm,<- hf];exact o.one
 ·rw [cu] at hj
  have:=o.dv _ hj
  rw [hf,Nat.mul_comm q f] at this
  exact Nat.dvd_of_mul_dvd_mul_left f0 this
theorem oi {p a b:Int} {e:Nat} (hp:Pm p) (o:Ord p b e) (h:Al p (a^e) 1):∃ x,x<e/\Al p a (b^x):=by
 rcases Classical.em (∃ x,x<e/\Al p a (b^x)) with z | z
 ·exact z
 ·exfalso
  have no:∀ x,x<e->¬Al p a (b^x):=λx hx hh=>z ⟨x,hx,hh⟩
  obtain⟨m,hm⟩:∃ m,e=m+1:=⟨e-1,by have:=o.pos;omega⟩
  have hlen:(List.replicate m (0:Int)++[-1]).length=e:=by simp [hm]
  have key:=roots hp e (List.replicate m 0++[-1]) 1 hlen (λhd=>hp.jA (by
   obtain⟨c,hc⟩:=hd
   exact⟨-c,by rw [Int.mul_neg,<- hc];omega⟩)) (a::(List.range e).map λi=>b^i) ?_ ?_
  ·simp at key
   omega
  ·refine List.pairwise_cons.mpr ⟨λy hy=>?_,?_⟩
   ·obtain⟨i,hi,rfl⟩:=List.mem_map.mp hy
    exact no i (List.mem_range.mp hi)
   ·rw [List.pairwise_map]
    refine List.Pairwise.imp_of_mem ?_ List.pairwise_lt_range
    intro i j hi hj lt hh
    have:=o.inj o.co (List.mem_range.mp hi) (List.mem_range.mp hj) hh
    omega
  ·intro r hr
   rw [um,Int.one_mul,<- hm]
   rcases List.mem_cons.mp hr with rfl | hr
   ·exact h
   ·obtain⟨i,_,rfl⟩:=List.mem_map.mp hr
    have:=aX (k:=i) o.one
    rw [cu,Nat.mul_comm]
    exact this
end Num
namespace L2
open PySem PySem.Spec PyProof.Rows
def wG (a d:Addr) (H H':Hp):Prop:=∀ b o,b≠a->b≠d->H b=some o->H' b=some o
theorem wG.trans {a d:Addr} {H H1 H2:Hp} (h:wG a d H H1) (h':wG a d H1 H2):wG a d H H2:=λb o x y e=>h' b o x y (h b o x y e)
theorem wG.of {a d:Addr} {H H':Hp} (h:aG H H'):wG a d H H':=λb o _ _ e=>h b o e
structure KH where
 a:Addr
 dx:Addr
 d:Addr
 most:Int
 c:Int
 ks:List (Int × Int × Int)
def k3 (x:Int × Int × Int):List Key:=[.inl x.1,.inl x.2.1,.inl x.2.2]
def DK (k:KH):List (Str × V):=[("most",.int k.most),("counted",.int k.c),("laid",.ref k.d)]
def KTab (H:Hp) (x:Int × Int × Int) (v:V):Prop:=∃ t,v=.ref t/\H t=some (.dK (Dd x.1 x.2.2 (rt x.2.1.toNat)))
structure CG (H:Hp) (k:KH) (kvs:List (List Key × V)):Prop where
 dict:H k.d=some (.dT kvs)
 keys:kvs.map (·.1)=k.ks.map k3
 nd:k.ks.Nodup
 tab:∀ x v,iM kvs (k3 x)=some v->KTab H x v
structure kq (C:Addr) (k:KH) (H:Hp):Prop where
 ins:H k.a=some (.ins C k.dx (DK k))
 ex:∃ kvs,CG H k kvs
 m0:0<=k.most
 m1:k.most<=10^6
section
variable {C:Addr} {k:KH} {H H':Hp} {kvs:List (List Key × V)}
theorem CG.len (h:CG H k kvs):kvs.length=k.ks.length:=by have:=congrArg List.length h.keys;simpa using this
theorem kq.ne (h:kq C k H):k.a≠k.d:=by
 obtain⟨kvs,z⟩:=h.ex
 exact kZ h.ins z.dict (by intro z;cases z)
theorem kq.apart (h:kq C k H) {b:Addr} {o:HO} (e:H b=some o) (h1:∀ C dx fs,o≠.ins C dx fs) (h2:∀ kvs,o≠.dT kvs):b≠k.a/\b≠k.d:=by
 obtain⟨kvs,z⟩:=h.ex
 exact⟨kZ e h.ins (h1 _ _ _),kZ e z.dict (h2 _)⟩
theorem kq.keep (h:kq C k H) (bt:wG k.a k.d H H') {b:Addr} {o:HO} (e:H b=some o) (h1:∀ C dx fs,o≠.ins C dx fs:=by intro _ _ _ z;cases z) (h2:∀ kvs,o≠.dT kvs:=by intro _ z;cases z):H' b=some o :=
 let ⟨x,y⟩:=h.apart e h1 h2;bt b o x y e
theorem kq.gG (h:kq C k H) (bt:wG k.a k.d H H'):∀ a xs,Rd H a (.tup xs)->Rd H' a (.tup xs):=by
 intro a xs z
 rcases z with z | ⟨o,z⟩
 ·exact .inl (h.keep bt z)
 ·exact .inr ⟨o,h.keep bt z⟩
theorem kq.dv {K:PySem.W.Frag} (h:kq C k H) (bt:wG k.a k.d H H') {d:PyData} {v:V} (nl:z9 d=true) (x:dv K H d v):dv K H' d v:=dv.gG (h.gG bt) d nl x
end
section
variable {K:PySem.W.Frag} {H H':Hp}
mutual
theorem dv.fj (kt:∀ a xs,aL K H a xs->aL K H' a xs) (kl:∀ a xs,aS K H a xs->aS K H' a xs):∀(d:PyData) {v:V},dv K H d v->dv K H' d v
 | .none,_,h=>h
 | .bool _,_,h=>h
 | .int _,_,h=>h
 | .str _,_,h=>h
 | .list ds,_,⟨q,xs,e,h,t⟩=>⟨q,xs,e,kl _ _ h,bD.fj kt kl ds t⟩
 | .tuple ds,_,⟨q,xs,e,h,t⟩=>⟨q,xs,e,kt _ _ h,bD.fj kt kl ds t⟩
 | .dict _,_,h=>h.elim
theorem bD.fj (kt:∀ a xs,aL K H a xs->aL K H' a xs) (kl:∀ a xs,aS K H a xs->aS K H' a xs):∀(ds:List PyData) {xs:List V},bD K H ds xs->bD K H' ds xs
 | [],_,h=>h
 | d::ds,_,⟨x,r,e,h,t⟩=>⟨x,r,e,dv.fj kt kl d h,bD.fj kt kl ds t⟩
end
mutual
def gd:PyData->Prop
 | .none=>True
 | .bool _=>True
 | .int i => -(10^90)<=i/\i<=10^90
 | .str x=>PyData.canLay0 (.str x)=true
 | .list ds=>cw ds
 | .tuple ds=>cw ds
 | _=>False
def cw:List PyData->Prop
 | []=>True
 | d::ds=>gd d/\cw ds
end
theorem fe:∀{ds:List PyData},cw ds↔∀ d∈ds,gd d
 | []=>⟨λ_ d h=>(List.not_mem_nil h).elim,λ_=>by simp only [cw]⟩
 | d::ds=>by
  simp only [cw]
  rw [fe,List.forall_mem_cons]
mutual
theorem gd.lay:∀(d:PyData),gd d->d.canLay0=true
 | .none,_=>rfl
 | .bool _,_=>rfl
 | .int _,_=>rfl
 | .str x,h=>by simp only [gd] at h;exact h
 | .list ds,h=>by simp only [gd] at h;simp only [PyData.canLay0];exact cw.lay ds h
 | .tuple ds,h=>by simp only [gd] at h;simp only [PyData.canLay0];exact cw.lay ds h
 | .dict _,h=>by simp only [gd] at h
theorem cw.lay:∀(ds:List PyData),cw ds->PyData.canLayAll0 ds=true
 | [],_=>rfl
 | d::ds,h=>by
  simp only [cw] at h
  simp only [PyData.canLayAll0]
  rw [gd.lay d h.1,cw.lay ds h.2]
  rfl
end
def GV (K:PySem.W.Frag) (H:Hp) (x:V):Prop:=∃ d,dv K H d x/\gd d
def oU (K:PySem.W.Frag) (H:Hp) (xs:List V):Prop:=∃ ds,bD K H ds xs/\cw ds
theorem GV.keep (kt:∀ a xs,aL K H a xs->aL K H' a xs) (kl:∀ a xs,aS K H a xs->aS K H' a xs) {x:V} (h:GV K H x):GV K H' x:=by
 obtain⟨d,h1,h2⟩:=h
 exact⟨d,dv.fj kt kl d h1,h2⟩
theorem oU.keep (kt:∀ a xs,aL K H a xs->aL K H' a xs) (kl:∀ a xs,aS K H a xs->aS K H' a xs) {xs:List V} (h:oU K H xs):oU K H' xs:=by
 obtain⟨d,h1,h2⟩:=h
 exact⟨d,bD.fj kt kl d h1,h2⟩
theorem oU.nil:oU K H []:=⟨[],rfl,by simp only [cw]⟩
theorem oU.cons {x:V} {xs:List V} (h:GV K H x) (g:oU K H xs):oU K H (x::xs):=by
 obtain⟨d,h1,h2⟩:=h
 obtain⟨ds,g1,g2⟩:=g
 exact⟨d::ds,⟨x,xs,rfl,h1,g1⟩,by simp only [cw];exact⟨h2,g2⟩⟩
theorem oU.of:∀{xs:List V},(∀ x∈xs,GV K H x)->oU K H xs
 | [],_=>oU.nil
 | x::xs,h=>oU.cons (h x (List.mem_cons_self ..)) (oU.of λy hy=>h y (List.mem_cons_of_mem _ hy))
theorem GV.tup {p:Addr} {xs:List V} (hS:aL K H p xs) (h:oU K H xs):GV K H (.ref p):=by
 obtain⟨ds,h1,h2⟩:=h
 exact⟨.tuple ds,⟨p,xs,rfl,hS,h1⟩,by simp only [gd];exact h2⟩
theorem GV.lst {p:Addr} {xs:List V} (hS:aS K H p xs) (h:oU K H xs):GV K H (.ref p):=by
 obtain⟨ds,h1,h2⟩:=h
 exact⟨.list ds,⟨p,xs,rfl,hS,h1⟩,by simp only [gd];exact h2⟩
theorem GV.int {i:Int} (h0:-(10^90)<=i) (h1:i<=10^90):GV K H (.int i):=⟨.int i,rfl,by simp only [gd];exact⟨h0,h1⟩⟩
theorem GV.cj:GV K H .cj:=⟨.none,rfl,by simp only [gd]⟩
theorem GV.bl {b:Bool}:GV K H (.bl b):=⟨.bool b,rfl,by simp only [gd]⟩
theorem GV.str {x:Str} (h:PyData.canLay0 (.str x)=true):GV K H (.str x):=⟨.str x,rfl,by simp only [gd];exact h⟩
end
section
variable {X:Cx}
end
end L2
namespace Num
def Pz (N a z:Int):Int:=a^(z%N).toNat
section
variable {p a N:Int}
theorem mB (n0:0<N) (h:Al p (a^N.toNat) 1) {z:Int} (z0:0<=z):Al p (Pz N a z) (a^z.toNat):=by
 unfold Pz
 have e:=Int.mul_ediv_add_emod z N
 have m0:=Int.emod_nonneg z (show N≠0 by omega)
 have d0:0<=z/N:=Int.ediv_nonneg z0 (by omega)
 have e2:z.toNat=N.toNat*(z/N).toNat+(z%N).toNat:=by
  have h1:((N.toNat*(z/N).toNat:Nat):Int)=N*(z/N):=by
   rw [Int.natCast_mul,Int.toNat_of_nonneg (by omega),Int.toNat_of_nonneg d0]
  omega
 rw [e2,Int.pow_add]
 have:=(aX (k:=(z/N).toNat) h).mul (Al.refl p (a^(z%N).toNat))
 rw [Int.one_mul] at this
 exact this.symm
theorem iB {z y:Int} (h:N∣z-y):Pz N a z=Pz N a y:=by
 unfold Pz
 rw [Int.emod_eq_emod_iff_emod_sub_eq_zero.mpr (Int.emod_eq_zero_of_dvd h)]
theorem C2 (n0:0<N) (h:Al p (a^N.toNat) 1) (z y:Int):Al p (Pz N a z*Pz N a y) (Pz N a (z+y)):=by
 have m0:=Int.emod_nonneg z (show N≠0 by omega)
 have m1:=Int.emod_nonneg y (show N≠0 by omega)
 have e:Pz N a z*Pz N a y=a^(z%N+y%N).toNat:=by
  unfold Pz
  rw [<- Int.pow_add]
  congr 1
  omega
 rw [e,show Pz N a (z+y)=Pz N a (z%N+y%N) from iB ⟨z/N+y/N,by
  have e1:=Int.mul_ediv_add_emod z N
  have e2:=Int.mul_ediv_add_emod y N
  rw [Int.mul_add];omega⟩]
 exact (mB n0 h (by omega)).symm
theorem vO (n0:0<N) (h:Al p (a^N.toNat) 1) (z:Int) (k:Nat):Al p (Pz N a z^k) (Pz N a (z*k)):=by
 have m0:=Int.emod_nonneg z (show N≠0 by omega)
 have e:Pz N a z^k=a^(z%N*k).toNat:=by
  unfold Pz
  rw [<- Int.pow_mul]
  congr 1
  have:(((z%N).toNat*k:Nat):Int)=z%N*k:=by rw [Int.natCast_mul,Int.toNat_of_nonneg m0]
  omega
 rw [e,show Pz N a (z*k)=Pz N a (z%N*k) from iB ⟨z/N*k,by
  have e1:=Int.mul_ediv_add_emod z N
  have:z*k-z%N*k=(z-z%N)*k:=(Int.sub_mul ..).symm
  rw [this,show z-z%N=N*(z/N) by omega,Int.mul_assoc]⟩]
 exact (mB n0 h (Int.mul_nonneg m0 (by omega))).symm
end
structure Rt (p g k a:Int) (d inner outer:Int):Prop where
 d0:0<d
 dk:d∣k
 di:d∣inner
 i0:0<inner
 o0:0<outer
 io:inner*outer=p-1
 cdo:Co d outer
 cko:Co k outer
 cki:Co (k/d) (inner/d)
 cio:Co inner outer
section
variable {p g k a d inner outer:Int}
theorem wV {a b:Int} (h:Co a b):Co b a:=by obtain⟨u,v,e⟩:=h;exact⟨v,u,by omega⟩
theorem Rt.of {d inner outer u v:Int} (k0:0<k) (hd:0<d) (dk:d∣k) (lin:u*k+v*(p-1)=d) (i0:0<inner) (o0:0<outer) (io:inner*outer=p-1) (cio:Co inner outer) (di:d∣inner):Rt p g k a d inner outer:=by
 obtain⟨y,hy⟩:=id di
 obtain⟨k',hk⟩:=id dk
 obtain⟨s,t,e⟩:=cio
 have cdo:Co d outer:=⟨s*y,t,by rw [<- e,hy];grind⟩
 refine⟨hd,dk,di,i0,o0,io,cdo,?_,?_,⟨s,t,e⟩⟩
 ·obtain⟨s',t',e'⟩:=cdo
  refine⟨s'*u,s'*v*inner+t',?_⟩
  rw [<- e',<- lin,<- io]
  grind
 ·have e1:k/d=k':=by rw [hk,Int.mul_ediv_cancel_left _ (by omega)]
  have e2:inner/d=y:=by rw [hy,Int.mul_ediv_cancel_left _ (by omega)]
  rw [e1,e2]
  refine⟨u,v*outer,?_⟩
  have h1:d*(u*k'+v*outer*y)=d*1:=by
   rw [Int.mul_one]
   conv=>rhs;rw [<- lin,<- io,hk,hy]
   grind
  exact Int.eq_of_mul_eq_mul_left (by omega) h1
theorem uL (pm:Pm p) (na:¬p∣a):0<p-1/\Al p (a^(p-1).toNat) 1:=⟨by have:=pm.two;omega,iU pm na⟩
theorem Rt.base (R:Rt p g k a d inner outer) (og:Ord p g (p-1).toNat) {b:Int} (hb:Al p b (g^outer.toNat)):Ord p b inner.toNat:=by
 have i0:=R.i0
 have o0:=R.o0
 have e:(p-1).toNat=inner.toNat*outer.toNat:=by
  have:((inner.toNat*outer.toNat:Nat):Int)=p-1:=by rw [Int.natCast_mul,Int.toNat_of_nonneg (by omega),Int.toNat_of_nonneg (by omega),R.io]
  omega
 have:=jB og (q:=inner.toNat) ⟨outer.toNat,e⟩
 rw [e,Nat.mul_div_cancel_left _ (by omega)] at this
 exact qc hb.symm this
theorem Rt.dx (R:Rt p g k a d inner outer) (pm:Pm p) (na:¬p∣a) (og:Ord p g (p-1).toNat) (h1:Al p (a^((p-1)/d).toNat) 1) {b c v:Int} {x:Nat} (hb:Al p b (g^outer.toNat)) (hc:Al p c (Pz (p-1) a (v*outer))) (hx:Al p c (b^x)):d∣(x:Int):=by
 obtain⟨n0,hf⟩:=uL pm na
 have i0:=R.i0
 have o0:=R.o0
 have d0:=R.d0
 obtain⟨y,hy⟩:=id R.di
 have hN:p-1=d*(y*outer):=by rw [<- R.io,hy];grind
 have eN:(p-1)/d=y*outer:=by rw [hN,Int.mul_ediv_cancel_left _ (by omega)]
 have y0:0<y:=by
  rcases Int.lt_trichotomy y 0 with z | z | z
  ·have:=Int.mul_neg_of_pos_of_neg d0 z;omega
  ·rw [z,Int.mul_zero] at hy;omega
  ·exact z
 have m0:0<y*outer:=Int.mul_pos y0 o0
 rw [eN] at h1
 -- c to N/d is 1
 have c1:Al p (c^(y*outer).toNat) 1:=by
  have:=(hc.pow (y*outer).toNat).trans (vO n0 hf (v*outer) _)
  refine this.trans ?_
  rw [Int.toNat_of_nonneg (by omega)]
  have s0:=Int.emod_nonneg (v*outer) (show p-1≠0 by omega)
  rw [show Pz (p-1) a (v*outer*(y*outer))=Pz (p-1) a (v*outer%(p-1)*(y*outer)) from iB ⟨v*outer/(p-1)*(y*outer),by
   have e1:=Int.mul_ediv_add_emod (v*outer) (p-1)
   rw [<- Int.sub_mul,show v*outer-v*outer%(p-1)=(p-1)*(v*outer/(p-1)) by omega,Int.mul_assoc]⟩]
  refine (mB n0 hf (Int.mul_nonneg s0 (by omega))).trans ?_
  rw [show (v*outer%(p-1)*(y*outer)).toNat=(y*outer).toNat*(v*outer%(p-1)).toNat by
   have:(((y*outer).toNat*(v*outer%(p-1)).toNat:Nat):Int)=v*outer%(p-1)*(y*outer):=by rw [Int.natCast_mul,Int.toNat_of_nonneg (by omega),Int.toNat_of_nonneg s0,Int.mul_comm]
   omega]
  exact aX h1
 have c2:Al p (g^(outer.toNat*x*(y*outer).toNat)) 1:=by
  have:=((hx.trans (hb.pow x)).pow (y*outer).toNat).symm.trans c1
  rw [cu,cu,<- Nat.mul_assoc] at this
  exact this
 have h3:=Int.natCast_dvd_natCast.mpr (og.dv _ c2)
 rw [Int.toNat_of_nonneg (by omega),Int.natCast_mul,Int.natCast_mul,Int.toNat_of_nonneg (show 0<=outer by omega),Int.toNat_of_nonneg (show 0<=y*outer by omega),hN] at h3
 obtain⟨t,ht⟩:=h3
 have h4:outer*x=d*t:=by
  have:(y*outer)*(outer*x)=(y*outer)*(d*t):=by rw [Int.mul_comm,ht];grind
  exact Int.eq_of_mul_eq_mul_left (by omega) this
 exact (wV R.cdo).dvd ⟨t,h4⟩
theorem uf (pm:Pm p) {r t a:Int} {k m:Nat} (ot:Ord p t m) (mk:m∣k) (hr:Al p (r^k) a) (i:Nat):Al p ((r*t^i)^k) a:=by
 rw [Int.mul_pow,cu]
 obtain⟨s,rfl⟩:=mk
 rw [show i*(m*s)=m*(i*s) by grind]
 have:=hr.mul (aX (k:=i*s) ot.one)
 rw [Int.mul_one] at this
 exact this
theorem ue (pm:Pm p) {r t:Int} {m i j:Nat} (ot:Ord p t m) (nr:¬p∣r) (hi:i<m) (hj:j<m) (h:Al p (r*t^i) (r*t^j)):i=j:=ot.inj ot.co hi hj ((pm.co nr).cancel h)
end
end Num
namespace L2
open PySem PySem.Spec PyProof.Rows
section
variable {X:Cx}
def BK (K:PySem.W.Frag):List V->Hp->VK->Prop:=λxs H Q=>∃(a:Addr) (ns:List Int),xs=[.ref a]/\aS K H a (ns.map V.int)/\ns≠[]/\∀ m,m∈ns->(∀ n∈ns,m<=n)->Q (.int m) H
theorem sf (hc:X.calm=true):dW X (.builtin "min") (BK X.K):=by
 intro pins s σ H xs us Q I r h
 obtain⟨a,ns,rfl,hq,ne,q⟩:=h
 obtain⟨u,rfl,ru⟩:=vals1 r
 cases ru
 obtain⟨its,rv,p,hz⟩:=I.list hq
 have hi:=kU rv
 have hl:=p.isList
 obtain⟨ys,e⟩:=hi.allInts.items
 have hns:ns=ys.toList.map (·.1):=by rw [<- hi.numsOf,<- nums_intItems,<- e]
 have hl0:0<ns.length:=List.length_pos_iff.mpr ne
 have hsz:0<ys.size:=by rw [hns,List.length_map,Array.length_toList] at hl0;exact hl0
 rw [e] at hl
 refine min_intList (I.ok.hd hc) hl hsz λv h' tk hv hk=>?_
 obtain⟨t,rfl⟩:=intItems_at hv
 obtain⟨b1,b2⟩:=argBest_lt (numAt ys) (ys.size-1)
 refine⟨.int _,H,I.kept hk,⟨t,rfl⟩,q _ ?_ λn hn=>?_⟩
 ·rw [hns,numAt_eq]
  exact getD_mem (by rw [List.length_map,Array.length_toList];omega)
 ·rw [hns] at hn
  obtain⟨j,hj,rfl⟩:=mem_getD hn
  rw [List.length_map,Array.length_toList] at hj
  rw [<- numAt_eq]
  exact b2 j (by omega)
end
def yz (J:It) (g:TG) (tt:TT) (te:TE) (ys:List V) (σ:St) (N:List V->Hp->Prop) (H1:Hp):Prop:=∃ W:Nat->Nat->List V->Hp->Prop,(∃ m,W 0 m ys H1)/\∀ i m zs H,W i m zs H ->
 (J.stop i H/\N zs H) ∨
 (J.go i H/\zs.length<sizeLine/\∃ N2:List V->Hp->Prop,(∀ zs' H',N2 zs' H'->∃ m',m'<m/\W (i+1) m' zs' H') /\
  ∀ x H',J.yld i H x H'->g x σ H' λσ2 H2=>bL σ σ2/\tt σ2 H2 λb H3=>if b=true then te σ2 H3 λv H4=>N2 (zs++[v]) H4 else N2 zs H3)
theorem zB {wi:TI} {g:TG} {tt:TT} {te:TE} {ys:List V} {σ:St} {H:Hp} {N:List V->Hp->Prop}:AQ wi g tt te ys σ H N=wi σ H λJ H1=>yz J g tt te ys σ N H1:=rfl
def uj (J:It) (js:List (Option Nat)) (g1:TG) (tt1:TT) (wi2:TI) (g2:TG) (tt2:TT) (te:TE) (σ:St) (Q:VK) (H1:Hp):Prop:=∃ W:Nat->Nat->List V->Hp->Prop,(∃ m,W 0 m [] H1)/\∀ i m ys H,W i m ys H ->
 (J.stop i H/\ys.length<=sizeLine/\∀ p,H p=none->Q (.ref p) (upd H p (.lst ys))) ∨
 (J.go i H/\True/\∃ N:List V->Hp->Prop,(∀ ys' H',N ys' H'->∃ m',m'<m/\W (i+1) m' ys' H') /\
  ∀ x H',J.yld i H x H'->g1 x (cG js σ) H' λσ2 H2=>bL (cG js σ) σ2/\tt1 σ2 H2 λb H3=>if b=true then AQ wi2 g2 tt2 te ys σ2 H3 N else N ys H3)
theorem yt {js:List (Option Nat)} {wi1 wi2:TI} {g1 g2:TG} {tt1 tt2:TT} {te:TE} {σ:St} {H:Hp} {Q:VK}:B0 js wi1 g1 tt1 wi2 g2 tt2 te σ H Q=wi1 σ H λJ H1=>uj J js g1 tt1 wi2 g2 tt2 te σ Q H1:=rfl
theorem pJ {K:PySem.W.Frag} {a:Addr} {xs ys:List V} {g:TG} {tt:TT} {te:TE} {σ:St} {N:List V->Hp->Prop} {H1:Hp} (Pv:Nat->List V->Hp->Prop) (h0:Pv 0 ys H1) (hl:∀ i zs H,i<=xs.length->Pv i zs H->aS K H a xs/\zs.length<sizeLine)
  (hs:∀ i x zs H,xs[i]?=some x->Pv i zs H->g x σ H λσ2 H2=>bL σ σ2/\tt σ2 H2 λb H3=>if b=true then te σ2 H3 λv H4=>Pv (i+1) (zs++[v]) H4 else Pv (i+1) zs H3)
  (hd:∀ zs H,Pv xs.length zs H->N zs H):yz (wH K a) g tt te ys σ N H1:=by
 refine⟨λi m zs H=>m=xs.length-i/\i<=xs.length/\Pv i zs H,⟨xs.length,by simp,Nat.zero_le _,h0⟩,?_⟩
 rintro i m zs H ⟨rfl,hi,p⟩
 obtain⟨q,z⟩:=hl i zs H hi p
 by_cases hlt:i<xs.length
 ·refine .inr ⟨⟨xs,xs[i],q,by simp [hlt]⟩,z,Pv (i+1),λzs' H' p'=>⟨xs.length-(i+1),by omega,rfl,hlt,p'⟩,λx H' y=>?_⟩
  obtain⟨e,y⟩:=y
  subst e
  exact hs i x zs _ (y xs q) p
 ·have e:i=xs.length:=by omega
  subst e
  exact .inl ⟨⟨xs,q,Nat.le_refl _⟩,hd zs H p⟩
theorem nc {K:PySem.W.Frag} {a:Addr} {xs:List V} {js:List (Option Nat)} {g1 g2:TG} {tt1 tt2:TT} {wi2:TI} {te:TE} {σ:St} {Q:VK} {H1:Hp} (Pv:Nat->List V->Hp->Prop) (h0:Pv 0 [] H1) (hl:∀ i ys H,i<=xs.length->Pv i ys H->aS K H a xs/\ys.length<=sizeLine)
  (hs:∀ i x ys H,xs[i]?=some x->Pv i ys H->g1 x (cG js σ) H λσ2 H2=>bL (cG js σ) σ2/\tt1 σ2 H2 λb H3=>if b=true then AQ wi2 g2 tt2 te ys σ2 H3 (Pv (i+1)) else Pv (i+1) ys H3)
  (hd:∀ ys H p,Pv xs.length ys H->H p=none->Q (.ref p) (upd H p (.lst ys))):uj (wH K a) js g1 tt1 wi2 g2 tt2 te σ Q H1:=by
 refine⟨λi m ys H=>m=xs.length-i/\i<=xs.length/\Pv i ys H,⟨xs.length,by simp,Nat.zero_le _,h0⟩,?_⟩
 rintro i m ys H ⟨rfl,hi,p⟩
 obtain⟨q,z⟩:=hl i ys H hi p
 by_cases hlt:i<xs.length
 ·refine .inr ⟨⟨xs,xs[i],q,by simp [hlt]⟩,True.intro,Pv (i+1),λys' H' p'=>⟨xs.length-(i+1),by omega,rfl,hlt,p'⟩,λx H' y=>?_⟩
  obtain⟨e,y⟩:=y
  subst e
  exact hs i x ys _ (y xs q) p
 ·have e:i=xs.length:=by omega
  subst e
  exact .inl ⟨⟨xs,q,Nat.le_refl _⟩,z,λq hq=>hd ys H q p hq⟩
theorem vI {X:Cx} {tg l:Expr} {tl:TE} {K:PySem.W.Frag} (hK:X.K=K) (hl:PE X l tl):PI X tg l (uR K tl):=hK▸dF hl
theorem boot_repr:bootBuiltins "repr"=some (.builtin "repr"):=by rfl
def yZ (K:PySem.W.Frag):List V->Hp->VK->Prop:=λxs H Q=>∃(v:V) (d:PyData),xs=[v]/\dv K H d v/\d.showable=true/\d.hasDict=false/\d.depth<=60/\d.shown.length<=sizeLine/\Q (.str d.shown) H
theorem kO {X:Cx} (hg:X.A.guards=some []) (hu:X.A.units+64<cLine):dW X (.builtin "repr") (yZ X.K):=by
 intro pins s σ H xs us Q I r h
 obtain⟨v,d,rfl,hd,hs,hn,hdp,hz,q⟩:=h
 obtain⟨u,rfl,ru⟩:=vals1 r
 have gp:∀ a as,Reads s.heap (.ref a) d as->u=.ref a->wpAny (model X.prog X.w) X.A (call (.builtin "repr") [u]) (EP X pins σ Q) X.xe s:=by
  rintro a as rd rfl
  exact repr_of_reads' rd hs (λz=>absurd (hn.symm.trans z) (by decide)) hg (by omega) (λ_ _ z=>z) (λh' t tk hk=>⟨.str d.shown,H,I.kept (t':=tk) hk,⟨t,rfl⟩,q⟩) hz
 cases d with
 | none =>
  cases hd
  cases ru
  exact PySem.P.repr_of_none ⟨.str "None",H,I.kept (t':=s.toks+1) λ_ _ z=>z,⟨_,rfl⟩,q⟩
 | bool b =>
  cases hd
  cases ru
  exact PySem.P.repr_of_bool ⟨.str (if b then "True" else "False"),H,I.kept (t':=s.toks+1) λ_ _ z=>z,⟨_,rfl⟩,q⟩
 | int i =>
  cases hd
  obtain⟨t,rfl⟩:=ru
  exact PySem.P.repr_of_int (by simpa [PyData.showable] using hs) ⟨.str (toString i),H,I.kept (t':=s.toks+1) λ_ _ z=>z,⟨_,rfl⟩,q⟩
 | str x =>
  cases hd
  obtain⟨t,rfl⟩:=ru
  exact PySem.P.repr_of_str ⟨.str (reprText x),H,I.kept (t':=s.toks+1) λ_ _ z=>z,⟨_,rfl⟩,q⟩ hz
 | list ds =>
  obtain⟨as,rd⟩:=dY I _ hd ru
  obtain⟨p,ys,rfl,_⟩:=hd
  cases ru
  exact gp _ as rd rfl
 | tuple ds =>
  obtain⟨as,rd⟩:=dY I _ hd ru
  obtain⟨p,ys,rfl,_⟩:=hd
  cases ru
  exact gp _ as rd rfl
 | dict _=>exact absurd hn (by simp [PyData.hasDict])
structure Z0 (d:PyData):Prop where
 g:gd d
 s:d.showable=true
 n:d.hasDict=false
 dp:d.depth<=3
 ln:d.shown.length<=100
def gz:Nat->PyData->Prop
 | 0,d=>Z0 d
 | n+1,d=>gz n d∨∃ ds,(d=.list ds∨d=.tuple ds)/\ds.length<=54/\∀ e∈ds,gz n e
def zl:Nat->Nat
 | 0=>100
 | n+1=>54*(zl n+2)+3
theorem Cn:∀ n,zl n<=zl (n+1):=λn=>by show zl n<=54*(zl n+2)+3;omega
theorem gz.up {n:Nat} {d:PyData} (h:gz n d):gz (n+1) d:=.inl h
theorem gz.gd:∀{n:Nat} {d:PyData},gz n d->L2.gd d
 | 0,_,h=>Z0.g h
 | n+1,_,h=>by
  rcases h with h | ⟨ds,rfl | rfl,_,h⟩
  ·exact gz.gd h
  ·simp only [L2.gd];exact fe.mpr λd hd=>gz.gd (h d hd)
  ·simp only [L2.gd];exact fe.mpr λd hd=>gz.gd (h d hd)
theorem rB:∀{ds:List PyData},(∀ d∈ds,d.showable=true)->PyData.showableAll ds=true
 | [],_=>rfl
 | d::ds,h=>by
  simp only [PyData.showableAll]
  rw [h d (List.mem_cons_self ..),rB λx hx=>h x (List.mem_cons_of_mem _ hx)]
  rfl
theorem k6:∀{ds:List PyData},(∀ d∈ds,d.hasDict=false)->PyData.hasDictAll ds=false
 | [],_=>rfl
 | d::ds,h=>by
  simp only [PyData.hasDictAll]
  rw [h d (List.mem_cons_self ..),k6 λx hx=>h x (List.mem_cons_of_mem _ hx)]
  rfl
theorem uC {m:Nat}:∀{ds:List PyData},(∀ d∈ds,d.depth<=m)->PyData.depthAll ds<=m
 | [],_=>by simp only [PyData.depthAll];omega
 | d::ds,h=>by
  simp only [PyData.depthAll]
  have h1:=h d (List.mem_cons_self ..)
  have h2:=uC λx hx=>h x (List.mem_cons_of_mem _ hx)
  omega
theorem uW {m:Nat}:∀{ds:List PyData},(∀ d∈ds,d.shown.length<=m)->((PyData.shownAll ds).map (·.length)).sum<=ds.length*m/\(PyData.shownAll ds).length=ds.length
 | [],_=>by simp only [PyData.shownAll];exact⟨by simp,rfl⟩
 | d::ds,h=>by
  simp only [PyData.shownAll,List.map_cons,List.sum_cons,List.length_cons]
  have h1:=h d (List.mem_cons_self ..)
  obtain⟨h2,h3⟩:=uW λx hx=>h x (List.mem_cons_of_mem _ hx)
  refine⟨?_,by omega⟩
  rw [Nat.succ_mul]
  omega
theorem gz.sh:∀{n:Nat} {d:PyData},gz n d->d.showable=true/\d.hasDict=false/\d.depth<=3+n/\d.shown.length<=zl n
 | 0,_,h=>⟨Z0.s h,Z0.n h,Z0.dp h,Z0.ln h⟩
 | n+1,_,h=>by
  have up:=Cn n
  rcases h with h | ⟨ds,e,l,h⟩
  ·obtain⟨h1,h2,h3,h4⟩:=gz.sh h
   exact⟨h1,h2,by omega,by omega⟩
  ·have a1:=rB λd hd=>(gz.sh (h d hd)).1
   have a2:=k6 λd hd=>(gz.sh (h d hd)).2.1
   have a3:=uC λd hd=>(gz.sh (h d hd)).2.2.1
   obtain⟨a4,a5⟩:=uW λd hd=>(gz.sh (h d hd)).2.2.2
   have a6:ds.length*zl n<=54*zl n:=Nat.mul_le_mul_right _ l
   have l1:=listText_len_le (PyData.shownAll ds)
   have l2:=tupleText_len_le (PyData.shownAll ds)
   rcases e with rfl | rfl
   ·refine⟨by simp only [PyData.showable];exact a1,by simp only [PyData.hasDict];exact a2,by simp only [PyData.depth];omega,?_⟩
    show (listText (PyData.shownAll ds)).length<=54*(zl n+2)+3
    omega
   ·refine⟨by simp only [PyData.showable];exact a1,by simp only [PyData.hasDict];exact a2,by simp only [PyData.depth];omega,?_⟩
    show (tupleText (PyData.shownAll ds)).length<=54*(zl n+2)+3
    omega
mutual
def kQ (K:PySem.W.Frag) (H:Hp):PyData->V->Prop
 | .none,v=>v=.cj
 | .bool b,v=>v=.bl b
 | .int i,v=>v=.int i
 | .str x,v=>v=.str x
 | .list ds,v=>∃ p xs,v=.ref p/\H p=some (.lst xs)/\eE K H ds xs
 | .tuple ds,v=>∃ p xs,v=.ref p/\aL K H p xs/\eE K H ds xs
 | .dict _,_=>False
def eE (K:PySem.W.Frag) (H:Hp):List PyData->List V->Prop
 | [],xs=>xs=[]
 | d::ds,xs=>∃ x r,xs=x::r/\kQ K H d x/\eE K H ds r
end
section
variable {K:PySem.W.Frag} {H H':Hp}
mutual
theorem kQ.dv:∀{d:PyData} {v:V},kQ K H d v->L2.dv K H d v
 | .none,_,h=>h
 | .bool _,_,h=>h
 | .int _,_,h=>h
 | .str _,_,h=>h
 | .list ds,_,⟨p,xs,e,h1,h2⟩=>⟨p,xs,e,aS.of h1,eE.bD h2⟩
 | .tuple ds,_,⟨p,xs,e,h1,h2⟩=>⟨p,xs,e,h1,eE.bD h2⟩
 | .dict _,_,h=>h.elim
theorem eE.bD:∀{ds:List PyData} {xs:List V},eE K H ds xs->L2.bD K H ds xs
 | [],_,h=>h
 | d::ds,_,⟨x,r,e,h1,h2⟩=>⟨x,r,e,kQ.dv h1,eE.bD h2⟩
end
mutual
theorem kQ.keep (kt:∀ a xs,aL K H a xs->aL K H' a xs) (kl:∀(a:Addr) (xs:List V),H a=some (.lst xs)->H' a=some (.lst xs)):∀{d:PyData} {v:V},kQ K H d v->kQ K H' d v
 | .none,_,h=>h
 | .bool _,_,h=>h
 | .int _,_,h=>h
 | .str _,_,h=>h
 | .list ds,_,⟨p,xs,e,h1,h2⟩=>⟨p,xs,e,kl _ _ h1,eE.keep kt kl h2⟩
 | .tuple ds,_,⟨p,xs,e,h1,h2⟩=>⟨p,xs,e,kt _ _ h1,eE.keep kt kl h2⟩
 | .dict _,_,h=>h.elim
theorem eE.keep (kt:∀ a xs,aL K H a xs->aL K H' a xs) (kl:∀(a:Addr) (xs:List V),H a=some (.lst xs)->H' a=some (.lst xs)):∀{ds:List PyData} {xs:List V},eE K H ds xs->eE K H' ds xs
 | [],_,h=>h
 | d::ds,_,⟨x,r,e,h1,h2⟩=>⟨x,r,e,kQ.keep kt kl h1,eE.keep kt kl h2⟩
end
theorem kQ.same {d:PyData} {v:V} (h:kQ K H d v) (s:aG H H'):kQ K H' d v:=h.keep (λ_ _ z=>z.same s) λ_ _ z=>s _ _ z
theorem eE.same {ds:List PyData} {xs:List V} (h:eE K H ds xs) (s:aG H H'):eE K H' ds xs:=h.keep (λ_ _ z=>z.same s) λ_ _ z=>s _ _ z
theorem eE.get:∀{ds:List PyData} {xs:List V} {i:Nat} {x:V},eE K H ds xs->xs[i]?=some x->∃ d,ds[i]?=some d/\kQ K H d x
 | [],_,i,x,h,e=>by cases h;simp at e
 | d::ds,_,0,x,⟨y,r,h0,h1,h2⟩,e=>by
  subst h0
  cases e
  exact⟨d,rfl,h1⟩
 | d::ds,_,i+1,x,⟨y,r,h0,h1,h2⟩,e=>by
  subst h0
  exact eE.get (ds:=ds) (i:=i) h2 (by simpa using e)
end
def GZ (K:PySem.W.Frag) (n:Nat) (H:Hp) (x:V):Prop:=∃ d,kQ K H d x/\gz n d
def cH (K:PySem.W.Frag) (n:Nat) (H:Hp) (xs:List V):Prop:=∃ ds,eE K H ds xs/\∀ d∈ds,gz n d
section
variable {K:PySem.W.Frag} {n:Nat} {H H':Hp}
theorem GZ.up {x:V} (h:GZ K n H x):GZ K (n+1) H x:=by
 obtain⟨d,h1,h2⟩:=h
 exact⟨d,h1,h2.up⟩
theorem GZ.keep (kt:∀ a xs,aL K H a xs->aL K H' a xs) (kl:∀(a:Addr) (xs:List V),H a=some (.lst xs)->H' a=some (.lst xs)) {x:V} (h:GZ K n H x):GZ K n H' x:=by
 obtain⟨d,h1,h2⟩:=h
 exact⟨d,h1.keep kt kl,h2⟩
theorem GZ.same {x:V} (h:GZ K n H x) (s:aG H H'):GZ K n H' x:=by
 obtain⟨d,h1,h2⟩:=h
 exact⟨d,h1.same s,h2⟩
theorem cH.same {xs:List V} (h:cH K n H xs) (s:aG H H'):cH K n H' xs:=by
 obtain⟨d,h1,h2⟩:=h
 exact⟨d,h1.same s,h2⟩
theorem cH.keep (kt:∀ a xs,aL K H a xs->aL K H' a xs) (kl:∀(a:Addr) (xs:List V),H a=some (.lst xs)->H' a=some (.lst xs)) {xs:List V} (h:cH K n H xs):cH K n H' xs:=by
 obtain⟨d,h1,h2⟩:=h
 exact⟨d,h1.keep kt kl,h2⟩
theorem cH.nil:cH K n H []:=⟨[],rfl,by simp⟩
theorem cH.cons {x:V} {xs:List V} (h:GZ K n H x) (g:cH K n H xs):cH K n H (x::xs):=by
 obtain⟨d,h1,h2⟩:=h
 obtain⟨ds,g1,g2⟩:=g
 exact⟨d::ds,⟨x,xs,rfl,h1,g1⟩,λe he=>(List.mem_cons.mp he).elim (λz=>z▸h2) (g2 e)⟩
theorem cH.all {xs:List V} (h:cH K n H xs):∀ x∈xs,GZ K n H x:=by
 obtain⟨ds,h1,h2⟩:=h
 intro x hx
 obtain⟨i,hi,e⟩:=List.mem_iff_getElem.mp hx
 have hx':xs[i]?=some x:=by rw [<- e];exact List.getElem?_eq_getElem hi
 obtain⟨d,e1,hv⟩:=h1.get hx'
 exact⟨d,hv,h2 d (List.mem_of_getElem? e1)⟩
theorem cH.of:∀{xs:List V},(∀ x∈xs,GZ K n H x)->cH K n H xs
 | [],_=>cH.nil
 | x::xs,h=>cH.cons (h x (List.mem_cons_self ..)) (cH.of λy hy=>h y (List.mem_cons_of_mem _ hy))
theorem cH.app {xs ys:List V} (h:cH K n H xs) (g:cH K n H ys):cH K n H (xs++ys):=cH.of λx hx=>(List.mem_append.mp hx).elim (h.all x) (g.all x)
theorem cH.cut {xs:List V} (lo hi:Option Int) (h:cH K n H xs):cH K n H (bE xs lo hi):=cH.of λx hx=>by
 unfold bE at hx
 exact h.all x (List.mem_of_mem_drop (List.mem_of_mem_take hx))
theorem cH.rev {xs:List V} (h:cH K n H xs):cH K n H xs.reverse:=cH.of λx hx=>h.all x (List.mem_reverse.mp hx)
theorem cH.len {xs:List V} {ds:List PyData} (h:L2.bD K H ds xs):ds.length=xs.length:=by
 induction ds generalizing xs with
 | nil=>cases h;rfl
 | cons d ds ih =>
  obtain⟨x,r,rfl,_,h2⟩:=h
  rw [List.length_cons,List.length_cons,ih h2]
theorem GZ.tup {p:Addr} {xs:List V} (hS:aL K H p xs) (l:xs.length<=54) (h:cH K n H xs):GZ K (n+1) H (.ref p):=by
 obtain⟨ds,h1,h2⟩:=h
 exact⟨.tuple ds,⟨p,xs,rfl,hS,h1⟩,.inr ⟨ds,.inr rfl,by rw [cH.len h1.bD];exact l,h2⟩⟩
theorem GZ.lst {p:Addr} {xs:List V} (hS:H p=some (.lst xs)) (l:xs.length<=54) (h:cH K n H xs):GZ K (n+1) H (.ref p):=by
 obtain⟨ds,h1,h2⟩:=h
 exact⟨.list ds,⟨p,xs,rfl,hS,h1⟩,.inr ⟨ds,.inl rfl,by rw [cH.len h1.bD];exact l,h2⟩⟩
theorem AN {i:Int} (h0:-(10^90)<=i) (h1:i<=10^90):Z0 (.int i):=by
 have hb:i.natAbs<10^91:=by
  have e:(10:Nat)^91=10*10^90:=by decide
  have e1:((10^90:Nat):Int)=10^90:=by decide
  omega
 refine⟨by simp only [gd];exact⟨h0,h1⟩,?_,rfl,by simp only [PyData.depth];omega,?_⟩
 ·simp only [PyData.showable,decide_eq_true_eq]
  by_cases z:i.natAbs=0
  ·rw [z];decide
  ·rw [Nat.log2_lt z]
   exact Nat.lt_trans hb (by decide +kernel)
 ·show (Str.ofString (toString i)).length<=100
  rw [PySem.ofString_length]
  exact Nat.le_trans (int_text_length_le10 (by decide) hb) (by decide)
theorem GZ.int {i:Int} (h0:-(10^90)<=i) (h1:i<=10^90):GZ K 0 H (.int i):=⟨.int i,rfl,AN h0 h1⟩
theorem GZ.cj:GZ K 0 H .cj:=⟨.none,rfl,by simp only [gd],rfl,rfl,by decide,by decide +kernel⟩
theorem GZ.bl {b:Bool}:GZ K 0 H (.bl b):=⟨.bool b,rfl,by simp only [gd],rfl,rfl,by simp only [PyData.depth];omega,by cases b<;>decide +kernel⟩
theorem GZ.str {x:Str} (h:PyData.canLay0 (.str x)=true) (l:(reprText x).length<=100):GZ K 0 H (.str x):=⟨.str x,rfl,by simp only [gd];exact h,rfl,rfl,by simp only [PyData.depth];omega,l⟩
theorem gz.repr {d:PyData} {x:V} {Q:VK} (hn:n<=3) (h1:dv K H d x) (h2:gz n d) (q:Q (.str d.shown) H):yZ K [x] H Q:=by
 obtain⟨a1,a2,a3,a4⟩:=h2.sh
 have zz:zl n<=sizeLine:=by
  rcases (by omega:n=0∨n=1∨n=2∨n=3) with rfl | rfl | rfl | rfl<;>decide +kernel
 exact⟨x,d,rfl,h1,a1,a2,by omega,Nat.le_trans a4 zz,q⟩
theorem gz.le {m:Nat}:∀{n:Nat} {d:PyData},m<=n->gz m d->gz n d
 | 0,_,l,h=>by
  obtain rfl:m=0:=by omega
  exact h
 | n+1,_,l,h=>by
  rcases (by omega:m=n+1∨m<=n) with rfl | z
  ·exact h
  ·exact (gz.le z h).up
theorem GZ.le {m n:Nat} {H:Hp} {x:V} (h:GZ K m H x) (l:m<=n):GZ K n H x:=by
 obtain⟨d,h1,h2⟩:=h
 exact⟨d,h1,h2.le l⟩
end
end L2
set_option maxHeartbeats 8000000
namespace K
open PySem PySem.Spec PyProof.Rows L2
def top (i:Nat):Stmt:=PySem.Challenge.pw_rootprime_k54_whole_only_right_roots_are.main.body.getD i (.Pass ⟨0,0,0,0⟩)
theorem yP {us:List Value} (h:us.length=1):∃ a,us=[a]:=match us,h with | [a],_=>⟨a,rfl⟩
theorem yQ {us:List Value} (h:us.length=2):∃ a b,us=[a,b]:=match us,h with | [a,b],_=>⟨a,b,rfl⟩
theorem yR {us:List Value} (h:us.length=3):∃ a b c,us=[a,b,c]:=match us,h with | [a,b,c],_=>⟨a,b,c,rfl⟩
theorem yS {us:List Value} (h:us.length=4):∃ a b c d,us=[a,b,c,d]:=match us,h with | [a,b,c,d],_=>⟨a,b,c,d,rfl⟩
theorem yT {us:List Value} (h:us.length=5):∃ a b c d e,us=[a,b,c,d,e]:=match us,h with | [a,b,c,d,e],_=>⟨a,b,c,d,e,rfl⟩
theorem yU {us:List Value} (h:us.length=6):∃ a b c d e f,us=[a,b,c,d,e,f]:=match us,h with | [a,b,c,d,e,f],_=>⟨a,b,c,d,e,f,rfl⟩
theorem dI {N P:List Str} {sc:Scope} (a:sc.kind=.function:=by exact rfl) (b:sc.isCoroutine=false:=by exact rfl) (c:sc.isGenerator=false:=by exact rfl) (d:N.Nodup:=by decide +kernel) (e:N.take P.length=P:=by exact rfl) (f:∀ x∈P,sc.names.lookup x=some .local∨sc.names.lookup x=some .cell:=by decide +kernel) (g:∀ y∈sc.names,y.2≠.free:=by decide +kernel):aE N P sc:=⟨a,b,c,d,e,f,g⟩
theorem dH {F:PySem.W.Frag} {mg:Str->Option Value} {x:Str} {h:Heap} {f:Addr} {st:Stmt} {oc:Value} {od an:Option Addr} {osl:Array (Option Value)} {kV doc pm cdv ct:Value} (X:F.In h) (G:h.Ns mainGlobals mg) (a:PySem.W.nsIn F mainGlobals x=some (some (.ref f)):=by k_is) (l:F.lookup f=some ⟨oc,od,.func (PySem.W.fnOf x x (cK st) (bG st) (au st) .none kV doc pm an cdv ct),osl⟩:=by k_is) (c:PySem.W.codeIn F cdv x=true:=by k_is) (kk:PySem.W.keepIn F (.ref f)=true:=by k_is):aC (dz X) mg x st:=uB X G a l c kk
theorem oQ {X:Cx} {N':List Str} {js:List (Option Nat)} {scope:Scope} {cl:List (Str × Addr)} (clos:closureFor scope X.env=pure cl) (kind:scope.kind=.function) (nocell:∀ y∈scope.names,y.2=.cell->scope.names.lookup y.1=some .cell/\∀ p∈js.zip N',p.1.isSome=true->p.2≠y.1:=by decide +kernel) (names:∀ y∈scope.names,y.2=.local->scope.names.lookup y.1=some .local:=by decide +kernel) (sub:AllIn X.env cl:=by repeat (first | exact True.intro | refine⟨rfl,?_⟩)) (has:iP cl scope.names:=by repeat (first | exact True.intro | refine⟨rfl,?_⟩ | refine⟨True.intro,?_⟩)) (j:hJ X scope cl js N':=by repeat (first | exact True.intro | refine⟨⟨rfl,rfl,.inl rfl,.inl rfl⟩,?_⟩)):ft X N' js scope cl:=zP clos kind nocell names sub has j
theorem dc {X:Cx} {pos:Pos} {i:Nat} {x:Str} {e:Expr} {te:TE} {pos':Pos} (hN:X.N.Nodup) (he:PE X e te) (hi:X.N[i]?=some x:=by exact rfl) (hx:Loc X.env.scope x:=by exact Or.inl rfl) (hs:swapsWith e (some (.Name x pos')) pos.line X.env=pure false:=by rfl) (hf:X.fn x=true∨X.env.scope.names.lookup x=some .local:=by first | exact .inl rfl | exact .inr rfl | assumption):PS X (.Assign [.Name x pos'] e pos) (ub te (eQ i)):=bF hN hi hx he hs hf
theorem bT {X:Cx} {CX:jI} {k n:Nat} {x:Str} {ps:List Str} {sp:Sp} {E:XK} {e:Expr} {es:List Expr} {t:TA} {p pos:Pos} (C:Callee X.prog X.w X.K X.mg X.base CX k x ps sp) (hr:c6 n X.A) (hx:Passes CX X E) (ha:PA X (e::es) t) (hm:k<=n:=by decide) (hg:Gl X x:=by exact rfl) (hdb:(x==("__debug__":Str))=false:=by decide) (he:starEach (e::es) X.env=(false,eval e X.env)::starEach es X.env:=by rfl) (hpl:(backTo pos (starEach es X.env)).any (·.1)=false:=by rfl):PE X (.Call (.Name x p) (e::es) [] pos) (oH sp [] E t):=aH C (hr.mono hm) hg hx ha hdb he hpl
theorem cO {P:Program} {w:World} {F:PySem.W.Frag} {mg:Str->Option Value} {base:Heap} {k:Nat} {x:Str} {ps:List Str} {sp:Sp} {st:Stmt} {N:List Str} (D:aC F mg x st) (S:aE N ps (au st))
  (hbody:∀(f:Addr) (cdv:Value) (A:Around) (outer:List Env) (s:Shared) (H:Hp) (vs:List V) (Q:VK) (E:XK),c6 k (A.deeper (envOfC x (au st) s.heap.objs.size f cdv))->sp vs H Q E->∃ t,jv (fc aT P w F mg base N x (au st) f cdv A outer s H E).oR (bG st) t/\t { nx:=λ_ H'=>Q .cj H',rt:=Q } (start N vs) H)
  (hb:∀(kV doc pm:Value) (an:Option Addr) (cdv ct:Value) (us:List Value),us.length=ps.length->bindArgs (PySem.W.fnOf x x (cK st) (bG st) (au st) .none kV doc pm an cdv ct) ⟨us,[]⟩=pure (ps.zip us):=by
    intro _ _ _ _ _ _ us hl
    first | (obtain⟨_,rfl⟩:=yP hl;exact rfl) | (obtain⟨_,_,rfl⟩:=yQ hl;exact rfl) | (obtain⟨_,_,_,rfl⟩:=yR hl;exact rfl) | (obtain⟨_,_,_,_,rfl⟩:=yS hl;exact rfl) | (obtain⟨_,_,_,_,_,rfl⟩:=yT hl;exact rfl) | (obtain⟨_,_,_,_,_,_,rfl⟩:=yU hl;exact rfl))
  (len:∀ vs H Q E,sp vs H Q E->vs.length=ps.length:=by
    intro _ _ _ _ h
    first | (obtain⟨_,rfl,_⟩:=h;rfl) | (obtain⟨_,_,rfl,_⟩:=h;rfl) | (obtain⟨_,_,_,rfl,_⟩:=h;rfl) | (obtain⟨_,_,_,_,rfl,_⟩:=h;rfl) | (obtain⟨_,_,_,_,_,rfl,_⟩:=h;rfl) | (obtain⟨_,_,_,_,_,_,rfl,_⟩:=h;rfl) | (obtain⟨_,_,_,_,_,_,_,rfl,_⟩:=h;rfl) | (obtain⟨_,_,_,_,_,_,_,_,rfl,_⟩:=h;rfl) | (obtain⟨_,_,_,_,_,_,_,_,_,rfl,_⟩:=h;rfl) | (obtain⟨_,_,_,_,_,_,_,_,_,_,rfl,_⟩:=h;rfl) | (obtain⟨_,_,_,_,_,_,_,_,_,_,_,rfl,_⟩:=h;rfl) | (obtain⟨_,_,_,_,_,_,_,_,_,_,_,_,rfl,_⟩:=h;rfl) | (obtain⟨_,_,_,_,_,_,_,_,_,_,_,_,_,rfl,_⟩:=h;rfl) | (obtain⟨_,_,_,_,_,_,_,_,_,_,_,_,_,_,rfl,_⟩:=h;rfl) | (obtain⟨_,_,_,_,_,_,_,_,_,_,_,_,_,_,_,rfl,_⟩:=h;rfl)):Callee P w F mg base aT (k+1) x ps sp:=sg D hb S len hbody
theorem cX {P:Program} {w:World} {F:PySem.W.Frag} {mg:Str->Option Value} {base:Heap} {k:Nat} {x:Str} {ps:List Str} {sp:Sp} {st:Stmt} {N:List Str} (D:aC F mg x st) (S:aE N ps (au st))
  (hbody:∀(f:Addr) (cdv:Value) (A:Around) (outer:List Env) (s:Shared) (H:Hp) (vs:List V) (Q:VK) (E:XK),c6 k (A.deeper (envOfC x (au st) s.heap.objs.size f cdv))->sp vs H Q E->∃ t,jv (fc (gk P w) P w F mg base N x (au st) f cdv A outer s H E) (bG st) t/\t { nx:=λ_ H'=>Q .cj H',rt:=Q } (start N vs) H)
  (hb:∀(kV doc pm:Value) (an:Option Addr) (cdv ct:Value) (us:List Value),us.length=ps.length->bindArgs (PySem.W.fnOf x x (cK st) (bG st) (au st) .none kV doc pm an cdv ct) ⟨us,[]⟩=pure (ps.zip us):=by
    intro _ _ _ _ _ _ us hl
    first | (obtain⟨_,rfl⟩:=yP hl;exact rfl) | (obtain⟨_,_,rfl⟩:=yQ hl;exact rfl) | (obtain⟨_,_,_,rfl⟩:=yR hl;exact rfl) | (obtain⟨_,_,_,_,rfl⟩:=yS hl;exact rfl) | (obtain⟨_,_,_,_,_,rfl⟩:=yT hl;exact rfl) | (obtain⟨_,_,_,_,_,_,rfl⟩:=yU hl;exact rfl))
  (len:∀ vs H Q E,sp vs H Q E->vs.length=ps.length:=by
    intro _ _ _ _ h
    first | (obtain⟨_,rfl,_⟩:=h;rfl) | (obtain⟨_,_,rfl,_⟩:=h;rfl) | (obtain⟨_,_,_,rfl,_⟩:=h;rfl) | (obtain⟨_,_,_,_,rfl,_⟩:=h;rfl) | (obtain⟨_,_,_,_,_,rfl,_⟩:=h;rfl) | (obtain⟨_,_,_,_,_,_,rfl,_⟩:=h;rfl) | (obtain⟨_,_,_,_,_,_,_,rfl,_⟩:=h;rfl) | (obtain⟨_,_,_,_,_,_,_,_,rfl,_⟩:=h;rfl) | (obtain⟨_,_,_,_,_,_,_,_,_,rfl,_⟩:=h;rfl) | (obtain⟨_,_,_,_,_,_,_,_,_,_,rfl,_⟩:=h;rfl) | (obtain⟨_,_,_,_,_,_,_,_,_,_,_,rfl,_⟩:=h;rfl) | (obtain⟨_,_,_,_,_,_,_,_,_,_,_,_,rfl,_⟩:=h;rfl) | (obtain⟨_,_,_,_,_,_,_,_,_,_,_,_,_,rfl,_⟩:=h;rfl) | (obtain⟨_,_,_,_,_,_,_,_,_,_,_,_,_,_,rfl,_⟩:=h;rfl) | (obtain⟨_,_,_,_,_,_,_,_,_,_,_,_,_,_,_,rfl,_⟩:=h;rfl)):Callee P w F mg base (gk P w) (k+1) x ps sp:=oZ D hb S len hbody
end K
local macro_rules | `(tactic| k_data) => `(tactic| (iterate 2 ((try dsimp only [L2.bZ, L2.Cf, L2.zt, L2.rO, L2.AG, L2.C6, L2.uc, L2.tC, L2.Ce, L2.rI, L2.ui, L2.rU, L2.Dv, L2.zy, L2.ub, L2.eQ, L2.iK, L2.Cg, L2.Ck, L2.B1, L2.Ds, L2.BZ, L2.zp, L2.BU, L2.Dt, L2.Cd, L2.y9, L2.C9, L2.zq, L2.tB, L2.BV, L2.zo, L2.qK, L2.zT, L2.oH, L2.yr, L2.AF, L2.yM, L2.yN, L2.Bt, L2.uR, L2.Bu, L2.Du, L2.Ci, L2.zu, L2.rP, L2.wd, L2.Dl, L2.Dm, L2.Dr, L2.BW, L2.DM, L2.Br, L2.zh, L2.y4, L2.zj, L2.mM, L2.Bs, L2.zU, L2.Bv, L2.yO, L2.we, L2.AI, L2.AH, L2.DN, L2.Dc, L2.Cj, L2.xf, L2.qL, L2.Cb, L2.Ca, L2.C8, L2.C5, L2.yf, L2.C7, L2.yq, L2.AE, L2.AD, L2.AB, L2.yt, List.getElem?_cons_zero, List.getElem?_cons_succ, List.set_cons_zero, List.set_cons_succ, List.nil_append, List.cons_append, L2.AZ, L2.DH, L2.Bl]); (try simp only [Option.some.injEq, exists_eq_left', exists_and_left, List.cons.injEq, L2.V.int.injEq, L2.V.bl.injEq, and_true, true_and, and_assoc, decide_eq_true_eq, List.append_nil, Int.reduceToNat, Int.reducePow, Int.reduceLT, Int.reduceLE, Int.reduceNeg, Int.zero_add, Nat.reducePow, Nat.reduceLT, Int.reduceAdd, Int.reduceSub, Int.reduceMul, L2.V.ref.injEq, L2.aK, L2.wm, exists_eq_left, exists_eq', exists_eq, exists_const, L2.jG, L2.yh, L2.yj, L2.yk, L2.ym, L2.yi, L2.yn, reduceIte, reduceCtorEq, Bool.not_eq_true', decide_eq_false_iff_not, Int.reduceAbs, Bool.not_true, Bool.not_false, if_true, Bool.false_eq_true, if_false, L2.zB]))))
namespace K
open PySem PySem.Spec PyProof.Rows L2
section
variable {P:Program} {w:World} {K:PySem.W.Frag} {mg:Str->Option Value} {base:Heap}
theorem uh {i:Int} (h:(decide (i.natAbs<10^250))=true):Bd i:=Nat.lt_of_lt_of_le (of_decide_eq_true h) ur
def rQ (l:Addr) (i j:Int):HO:=.dK [(Sum.inr "cells",.ref l),(Sum.inr "spot",.int i),(Sum.inr "left",.int j)]
def Tp (p:Addr) (n:Nat) (H:Hp):Prop:=∃(l:Addr) (i j:Int) (ns:List Int),H p=some (rQ l i j)/\H l=some (.lst (ns.map V.int))/\ns.length<=63/\0<=i/\i<=n
def Off (p:Addr) (H H':Hp):Prop:=∀ b,b≠p->H' b=H b
def bN (p:Addr) (H H':Hp):Prop:=∀ b o,b≠p->H b=some o->H' b=some o
theorem Off.bJ {p:Addr} {H H':Hp} (h:Off p H H'):bN p H H':=λb o n e=>by rw [h b n];exact e
theorem bN.trans {p:Addr} {H H1 H2:Hp} (h:bN p H H1) (h':bN p H1 H2):bN p H H2:=λb o n e=>h' b o n (h b o n e)
theorem Off.trans {p:Addr} {H H1 H2:Hp} (h:Off p H H1) (h':Off p H1 H2):Off p H H2:=λb n=>(h' b n).trans (h b n)
theorem bN.of {p:Addr} {H H':Hp} (h:aG H H'):bN p H H':=λb o _ e=>h b o e
theorem Off.AL {p:Addr} {H:Hp} {o:HO}:Off p H (upd H p o):=λb n=>aA n
theorem Tp.same {p:Addr} {n:Nat} {H H':Hp} (h:Tp p n H) (s:aG H H'):Tp p n H':=by
 obtain⟨l,i,j,ns,a,b,c⟩:=h
 exact⟨l,i,j,ns,s _ _ a,s _ _ b,c⟩
theorem Tp.ne {p b:Addr} {n:Nat} {H:Hp} {o:HO} (h:Tp p n H) (e:H b=some o) (z:∀ kvs,o≠.dK kvs):b≠p:=by
 obtain⟨l,i,j,ns,a,_⟩:=h
 exact kZ e a (z _)
theorem qV:∀{L:List V},(∀ x∈L,∃ c,x=V.int c)->∃ ns:List Int,L=ns.map V.int
 | [],_=>⟨[],rfl⟩
 | x::L,h=>by
  obtain⟨c,e⟩:=h x (List.mem_cons_self ..)
  obtain⟨ns,z⟩:=qV (L:=L) λy hy=>h y (List.mem_cons_of_mem _ hy)
  exact⟨c::ns,by rw [e,z];rfl⟩
theorem uz {ns:List Int} {lo hi:Option Int}:∃ ns':List Int,bE (ns.map V.int) lo hi=ns'.map V.int/\ns'.length<=ns.length:=by
 obtain⟨ns',e⟩:=qV (L:=bE (ns.map V.int) lo hi) λx hx=>by
  unfold bE at hx
  obtain⟨c,_,e⟩:=List.mem_map.mp (List.mem_of_mem_drop (List.mem_of_mem_take hx))
  exact⟨c,e.symm⟩
 refine⟨ns',e,?_⟩
 have:=bV (ns.map V.int) lo hi
 rw [e,List.length_map,List.length_map] at this
 exact this
def v7 (K:PySem.W.Frag):Sp:=λvs H Q _=>∃(a:Addr) (ns:List Int),vs=[.ref a]/\aS K H a (ns.map V.int)/\ns.length<=63/\∀ p H',aG H H'->H p=none->Tp p 0 H'->Q (.ref p) H'
theorem iD:aE ["_law_script"] ["_law_script"] (au (top 49)):=dI
theorem xK (D:aC K mg "_law_tape" (top 49)):Callee P w K mg base aT 1 "_law_tape" ["_law_script"] (v7 K):=by
 refine cO D iD (λf cdv A outer s H vs Q E hr h=>?_)
 obtain⟨a,ns,rfl,hS,h63,q⟩:=h
 have nd:=iD.nd
 refine⟨_,(ao (ay (xT (j3 br (aY eC (pv 0) bz (bh ah)) (j3 br ah (j3 br ah xV))) rfl rfl (by intro z;cases z) (by decide)))),?_⟩
 show iK _ _ [some (.ref a)] H
 k_data
 intro p hp
 have s1:=ak (o:=.dK []) hp
 refine⟨a,_,rfl,hS.same s1,λpl hpl=>⟨?_,[(Sum.inr "cells",.ref pl),(Sum.inr "spot",.int 0),(Sum.inr "left",.int 0)],rfl,by show 3<=15;decide,?_⟩⟩
 ·rw [aA (bH ag hpl),ag]
 ·obtain⟨ns',e1,e2⟩:=uz (ns:=ns) (lo:=none) (hi:=some 63)
  have nep:pl≠p:=λz=>by rw [z,ag] at hpl;cases hpl
  rw [e1]
  exact q p _ ((s1.trans (ak hpl)).upd hp) hp ⟨pl,0,0,ns',ag,by rw [aA nep,ag],by omega,by decide,by decide⟩
section
variable {H:Hp} {p l:Addr} {i j i' j':Int}
theorem mO (h:H p=some (rQ l i j)):gS H p (.str "left") (some (.int j)):=gS.k (k:=Sum.inr "left") h
theorem yu (h:H p=some (rQ l i j)):gS H p (.str "spot") (some (.int i)):=gS.k (k:=Sum.inr "spot") h
theorem wj (h:H p=some (rQ l i j)):gS H p (.str "cells") (some (.ref l)):=gS.k (k:=Sum.inr "cells") h
theorem oI (h:H p=some (rQ l i j)):mR H p (.str "left") (.int j') (upd H p (rQ l i j')):=.inl ⟨_,Sum.inr "left",h,rfl,by show 3<sizeLine;decide,rfl⟩
theorem wk (h:H p=some (rQ l i j)):mR H p (.str "spot") (.int i') (upd H p (rQ l i' j)):=.inl ⟨_,Sum.inr "spot",h,rfl,by show 3<sizeLine;decide,rfl⟩
end
def dO:Sp:=λvs H Q _=>∃(p:Addr) (m:Int) (n:Nat),vs=[.ref p,.int m]/\Tp p n H/\n<=10^60/\0<m/\m<10^200/\∀ r H',0<=r->r<m->Off p H H'->Tp p (n+1) H'->Q (.int r) H'
theorem iC:aE ["_law_tape_here","_law_many","_law_found","_law_spot","_law_cells","_law_cell","_law_seed"] ["_law_tape_here","_law_many"] (au (top 50)):=dI
end
end K
namespace K
open PySem PySem.Spec PyProof.Rows L2
section
variable {P:Program} {w:World} {K:PySem.W.Frag} {mg:Str->Option Value} {base:Heap}
def i5 (a:Int):Prop := -(10^240)<=a/\a<=10^240
theorem i5.bd {a:Int} (h:i5 a):Bd a:=Bd.of (by have:=h.1;omega) (by have:=h.2;omega)
def i3:Sp:=λvs H Q _=>∃ a b:Int,vs=[.int a,.int b]/\i5 a/\i5 b/\∀ g u v p H',Gcd.AX a b g u v->aG H H'->H' p=some (.tup [.int g,.int u,.int v])->Q (.ref p) H'
theorem j9:aE ["a","b","g","u","v","next_g","next_u","next_v","times"] ["a","b"] (au (top 7)):=dI
structure DS where
 (g u v ng nu nv:Int)
 t:Option V
theorem pT (D:aC K mg "divisor" (top 7)) (n_abs:mg "abs"=none):Callee P w K mg base aT 1 "divisor" ["a","b"] i3:=by
 refine cO D j9 (λf cdv A outer s H vs Q E hr h=>?_)
 obtain⟨a,b,rfl,ha,hb,q⟩:=h
 have nd:=j9.nd
 refine⟨_,(aj (rg (i:=2) (j:=3) (k:=4) rfl nd rfl rfl rfl (by decide) (by decide) (by decide) rfl rfl rfl (aa (aB jK rfl n_abs L2.boot_abs (aa (pv 0) af)) (aa ah (aa ah af))) rfl) (aj (rg (i:=5) (j:=6) (k:=7) rfl nd rfl rfl rfl (by decide) (by decide) (by decide) rfl rfl rfl (aa (aB jK rfl n_abs L2.boot_abs (aa (pv 1) af)) (aa ah (aa ah af))) rfl) (aj (bY PassesOwn.never (aw c8 (pv 5) ah (ax _)) (aj (dc (i:=8) nd (av cT (pv 2) (pv 5))) (aj (iZ (i:=2) (j:=5) rfl nd rfl rfl (by decide) rfl rfl (aa (pv 5) (aa (av bR (pv 2) (av bo (pv 8) (pv 5))) af)) rfl) (aj (iZ (i:=3) (j:=6) rfl nd rfl rfl (by decide) rfl rfl (aa (pv 6) (aa (av bR (pv 3) (av bo (pv 8) (pv 6))) af)) rfl) (ao (iZ (i:=4) (j:=7) rfl nd rfl rfl (by decide) rfl rfl (aa (pv 7) (aa (av bR (pv 4) (av bo (pv 8) (pv 7))) af)) rfl)))))) (ao (ay (aD (aa (pv 2) (aa (dX (aw dQ (pv 0) ah (ax _)) (fo dP (pv 3)) (pv 3)) (aa (dX (aw dQ (pv 1) ah (ax _)) (fo dP (pv 4)) (pv 4)) af))))))))),?_⟩
 show bZ _ _ _ [some (.int a),some (.int b),none,none,none,none,none,none,none] H
 k_data
 have hA:0<=(if a<0 then -a else a)/\(if a<0 then -a else a)<=10^240:=by have:=ha.1;have:=ha.2;split<;>omega
 have hB:0<=(if b<0 then -b else b)/\(if b<0 then -b else b)<=10^240:=by have:=hb.1;have:=hb.2;split<;>omega
 refine cf (α:=DS) (λx=>[some (.int a),some (.int b),some (.int x.g),some (.int x.u),some (.int x.v),some (.int x.ng),some (.int x.nu),some (.int x.nv),x.t])
  (λx H'=>H'=H/\Gcd.J (if a<0 then -a else a) (if b<0 then -b else b) x.g x.u x.v x.ng x.nu x.nv/\x.g<=10^240/\x.ng<=10^240) (λx=>x.ng.toNat)
  ⟨_,1,0,_,0,1,none⟩ rfl ⟨rfl,Gcd.J.start hA.1 hB.1,hA.2,hB.2⟩ ?_
 rintro x H1 ⟨rfl,j,hg,hng⟩
 k_data
 refine aJ (λc=>?_) (λc=>?_)
 ·refine⟨_,λ_ _ z=>z,?_⟩
  obtain⟨s1,s2,s3,s4⟩:=j.small hA.1 hB.1 hA.2 hB.2 (by omega)
  obtain⟨j',l,q0,ql⟩:=j.turn c
  have bg:i5 x.ng:=⟨by omega,hng⟩
  have bq:i5 (x.g/x.ng):=⟨by omega,by omega⟩
  refine⟨c,bg.bd,bq.bd,bg.bd,bq.bd,i5.bd s3,bq.bd,i5.bd s4,⟨x.ng,x.nu,x.nv,x.g-x.g/x.ng*x.ng,x.u-x.g/x.ng*x.nu,x.v-x.g/x.ng*x.nv,some (.int (x.g/x.ng))⟩,rfl,rfl,j',hng,by show (x.g-x.g/x.ng*x.ng)<=_;omega,by show (x.g-x.g/x.ng*x.ng).toNat<x.ng.toNat;omega⟩
 ·have e:x.ng=0:=by have:=j.n0;omega
  rw [e] at j
  have z:=j.done
  refine aJ (λca=>?_) (λca=>?_)<;>simp only [ca,if_true,if_false] at z ⊢<;>refine aJ (λcb=>?_) (λcb=>?_)<;>simp only [cb,if_true,if_false] at z ⊢ <;>
   exact⟨by show 3<=sizeLine;decide,λp hp=>q _ _ _ p _ z (ak hp) ag⟩
end
end K
namespace K
open PySem PySem.Spec PyProof.Rows L2
structure Gd (n a g:Int):Prop where
 pos:0<g
 dn:g∣n
 da:g∣a
 gr:∀ d:Int,d∣n->d∣a->d∣g
theorem Gd.one {n a g g':Int} (h:Gd n a g) (h':Gd n a g'):g=g' :=
 Int.le_antisymm (Int.le_of_dvd h'.pos (h'.gr g h.dn h.da)) (Int.le_of_dvd h.pos (h.gr g' h'.dn h'.da))
theorem ny {n a g:Int} (dn:g∣n):g∣a%n↔g∣a:=by
 have e:=Int.mul_ediv_add_emod a n
 constructor
 ·intro h
  rw [<- e]
  exact Int.dvd_add (Int.dvd_mul_of_dvd_left dn) h
 ·intro h
  have:a%n=a-n*(a/n):=by omega
  rw [this]
  exact Int.dvd_sub h (Int.dvd_mul_of_dvd_left dn)
theorem Gd.of {n a g u v:Int} (hn:0<n) (z:Gcd.AX (a%n) n g u v):Gd n a g:=by
 refine⟨?_,z.db,(ny z.db).mp z.da,λd h1 h2=>?_⟩
 ·have:=z.g0
  rcases (by omega:g=0∨0<g) with e | e
  ·have:=z.db
   rw [e] at this
   have:=Int.zero_dvd.mp this
   omega
  ·exact e
 ·rw [<- z.lin]
  exact Int.dvd_add (Int.dvd_mul_of_dvd_right ((ny h1).mpr h2)) (Int.dvd_mul_of_dvd_right h1)
theorem zV {n a u v:Int} (hn:0<n) (z:Gcd.AX (a%n) n 1 u v):n∣u%n*a-1:=by
 have e:=z.lin
 have e1:=Int.mul_ediv_add_emod a n
 have e2:=Int.mul_ediv_add_emod u n
 refine⟨u*(a/n)-v-u/n*a,?_⟩
 generalize a%n=x at *
 generalize u%n=y at *
 generalize a/n=s at *
 generalize u/n=t at *
 grind
section
variable {P:Program} {w:World} {K:PySem.W.Frag} {mg:Str->Option Value} {base:Heap}
def lu (C:Addr):Sp:=λvs H Q E=>∃ n a:Int,vs=[.int n,.int a]/\0<n/\n<=10^240/\∀ g,Gd n a g ->
 (g=1->∀ r H',0<=r->r<n->n∣r*a-1->aG H H'->Q (.int r) H') /\
 (1<g->∀ x dx H',aG H H'->H x=none->H' x=some (XO x C (some dx))->H' dx=some (.xd [("divisor",.int g)])->E (.ref C) (some x) H')
theorem kd:aE ["n","a","g","u","v"] ["n","a"] (au (top 8)):=dI
theorem pU {C:Addr} (D:aC K mg "inverse" (top 8)) (c_divisor:Callee P w K mg base aT 1 "divisor" ["a","b"] i3) (x_NoInverse:oX P w K mg base "NoInverse" C "divisor"):Callee P w K mg base (gk P w) 3 "inverse" ["n","a"] (lu C):=by
 refine cX D kd (λf cdv A outer s H vs Q E hr h=>?_)
 obtain⟨n,a,rfl,hn,hn1,q⟩:=h
 have nd:=kd.nd
 refine⟨_,(aj (eG (bT c_divisor hr az (aa (av aO (pv 1) (pv 0)) (aa (pv 0) af))) (eF (n:=3) rfl (aM (aI (i:=2) nd rfl (Or.inl rfl) (.inr rfl)) (aM (aI (i:=3) nd rfl (Or.inl rfl) (.inr rfl)) (aM (aI (i:=4) nd rfl (Or.inl rfl) (.inr rfl)) cU))))) (aj (aQ (aw c8 (pv 2) ah (ax _)) (ao (eR (mq x_NoInverse (hr.mono (by decide)) rfl (aa (pv 2) af)))) aF) (jv.oR (ao (ay (av aO (pv 3) (pv 0))))))),?_⟩
 show bZ _ _ _ [some (.int n),some (.int a),none,none,none] H
 k_data
 have r0:=Int.emod_nonneg a (show n≠0 by omega)
 have r1:=Int.emod_lt_of_pos a hn
 refine⟨hn,a%n,n,rfl,⟨by omega,by omega⟩,⟨by omega,by omega⟩,λg u v p H1 z hs hh=>?_⟩
 have G:=Gd.of hn z
 obtain⟨q1,q2⟩:=q g G
 refine⟨p,_,rfl,aL.of hh,rfl,?_⟩
 k_data
 refine aJ (λc=>?_) (λc=>?_)
 ·intro x dx hx hdx ne
  have ne':dx≠x:=ne
  refine⟨C,some dx,ag,x_NoInverse.cls,?_,?_⟩
  ·cases e:H x with
   | none=>rfl
   | some o=>rw [hs _ _ e] at hx;cases hx
  ·refine q2 c x dx _ ?_ ?_ ag ?_
   ·intro b o e
    have e1:=hs _ _ e
    have bx:b≠x:=λy=>by rw [y,hx] at e1;cases e1
    have bd:b≠dx:=λy=>by rw [y,hdx] at e1;cases e1
    rw [aA bx,aA bx,aA bd,aA bx]
    exact e1
   ·cases e:H x with
    | none=>rfl
    | some o=>rw [hs _ _ e] at hx;cases hx
   ·rw [aA ne',aA ne',ag]
 ·have g1:g=1:=by have:=G.pos;omega
  subst g1
  exact⟨hn,q1 rfl _ _ (Int.emod_nonneg _ (by omega)) (Int.emod_lt_of_pos _ hn) (zV hn z) hs⟩
end
end K
namespace K
open PySem PySem.Spec PyProof.Rows L2
section
variable {P:Program} {w:World} {K:PySem.W.Frag} {mg:Str->Option Value} {base:Heap}
def jH (C:Addr):Sp:=λvs H Q E=>∃ n a e:Int,vs=[.int n,.int a,.int e]/\0<n/\n<=10^120 /\
 (0<=e->∀ H',aG H H'->Q (.int (a^e.toNat%n)) H') /\
 (e<0->∀ g,Gd n a g ->
  (g=1->∀ b H',0<=b->b<n->n∣b*a-1->aG H H'->Q (.int (b^(-e).toNat%n)) H') /\
  (1<g->∀ x dx H',aG H H'->H x=none->H' x=some (XO x C (some dx))->H' dx=some (.xd [("divisor",.int g)])->E (.ref C) (some x) H'))
theorem oA:aE ["n","a","e","base","left","rest"] ["n","a","e"] (au (top 18)):=dI
theorem vj {C:Addr} (D:aC K mg "power" (top 18)) (c_inverse:Callee P w K mg base (gk P w) 3 "inverse" ["n","a"] (lu C)) (n_abs:mg "abs"=none):Callee P w K mg base (gk P w) 4 "power" ["n","a","e"] (jH C):=by
 refine cX D oA (λf cdv A outer s H vs Q E hr h=>?_)
 obtain⟨n,a,e,rfl,hn,hn1,q1,q2⟩:=h
 have nd:=oA.nd
 refine⟨_,(aj (dc (i:=3) nd (av aO (pv 1) (pv 0))) (aj (cS (aQ (aw dQ (pv 2) ah (ax _)) (ao (dc (i:=3) nd (bT c_inverse hr vE (aa (pv 0) (aa (pv 1) af))))) aF)) (jv.oR (aj (dc (i:=4) nd (aB jK rfl n_abs L2.boot_abs (aa (pv 2) af))) (aj (dc (i:=5) nd (av aO ah (pv 0))) (aj (bY PassesOwn.never (aw c8 (pv 4) ah (ax _)) (aj (cS (aQ (aw bp (av aO (pv 4) ah) ah (ax _)) (ao (dc (i:=5) nd (av aO (av bo (pv 5) (pv 3)) (pv 0)))) aF)) (aj (dc (i:=3) nd (av aO (av bo (pv 3) (pv 3)) (pv 0))) (ao (fH (i:=4) nd rfl (Or.inl rfl) ah (i7 jO)))))) (ao (ay (pv 5))))))))),?_⟩
 show bZ _ _ _ [some (.int n),some (.int a),some (.int e),none,none,none] H
 k_data
 refine⟨hn,λσ' H'=>aG H H'/\∃ b:Int,σ'=[some (.int n),some (.int a),some (.int e),some (.int b),none,none]/\0<=b/\b<n/\Q (.int (b^e.natAbs%n)) H',?_,?_⟩
 ·k_data
  refine aJ (λc=>?_) (λc=>?_)
  ·refine⟨n,a,rfl,hn,by omega,λg G=>⟨λe1 r H' r0 r1 r2 hs=>?_,λg1 x dx H' hs hx hX hd=>?_⟩⟩
   ·have:=(q2 c g G).1 e1 r H' r0 r1 r2 hs
    rw [show (-e).toNat=e.natAbs by omega] at this
    exact⟨hs,r,rfl,r0,r1,this⟩
   ·exact (q2 c g G).2 g1 x dx H' hs hx hX hd
  ·have:=q1 (by omega) H (aG.refl _)
   rw [show e.toNat=e.natAbs by omega,<- Pw.jZ] at this
   exact⟨aG.refl _,Int.emod_nonneg _ (by omega),Int.emod_lt_of_pos _ hn,this⟩
 ·rintro σ' H' ⟨hs,b,rfl,hb0,hb1,q⟩
  k_data
  refine⟨hn,?_⟩
  have ee:(if e<0 then -e else e)=(e.natAbs:Int):=by split<;>omega
  rw [ee]
  refine cf (α:=Int × Nat × Int) (λx=>[some (.int n),some (.int a),some (.int e),some (.int x.1),some (.int x.2.1),some (.int x.2.2)]) (λx H1=>H1=H'/\0<=x.1/\x.1<n/\0<=x.2.2/\x.2.2<n/\x.2.2*x.1^x.2.1%n=b^e.natAbs%n) (λx=>x.2.1) (b,e.natAbs,1%n) rfl ⟨rfl,hb0,hb1,Int.emod_nonneg _ (by omega),Int.emod_lt_of_pos _ hn,?_⟩ ?_
  ·show 1%n*b^e.natAbs%n=_
   rw [Pw.uZ,Int.one_mul]
  rintro⟨b',l,r⟩ H1 ⟨rfl,h1,h2,h3,h4,h5⟩
  replace h1:0<=b':=h1
  replace h2:b'<n:=h2
  replace h3:0<=r:=h3
  replace h4:r<n:=h4
  replace h5:r*b'^l%n=b^e.natAbs%n:=h5
  k_data
  refine aJ (λc=>?_) (λc=>?_)
  ·refine⟨_,λ_ _ z=>z,λσ' H2=>H2=H1/\σ'=[some (.int n),some (.int a),some (.int e),some (.int b'),some (.int l),some (.int (if l%2=1 then r*b'%n else r))],?_,?_⟩
   ·k_data
    refine aJ (λc=>?_) (λc=>?_)
    ·exact⟨Bd.of (by omega) (by omega),Bd.of (by omega) (by omega),hn,by rw [if_pos (by omega)]⟩
    ·rw [if_neg (by omega)]
   rintro σ' H2 ⟨rfl,rfl⟩
   k_data
   have r0:0<=(if l%2=1 then r*b'%n else r)/\(if l%2=1 then r*b'%n else r)<n:=by
    split
    ·exact⟨Int.emod_nonneg _ (by omega),Int.emod_lt_of_pos _ hn⟩
    ·exact⟨h3,h4⟩
   refine⟨Bd.of (by omega) (by omega),Bd.of (by omega) (by omega),hn,uh (by decide),(b'*b'%n,l/2,if l%2=1 then r*b'%n else r),rfl,(by show (l:Int)/2=((l/2:Nat):Int);omega),rfl,Int.emod_nonneg _ (by omega),Int.emod_lt_of_pos _ hn,r0.1,r0.2,?_,?_⟩
   ·show (if l%2=1 then r*b'%n else r)*(b'*b'%n)^(l/2)%n=_
    rw [Pw.step]
    exact h5
   ·show l/2<l
    omega
  ·have l0:l=0:=by omega
   subst l0
   rw [Int.pow_zero,Int.mul_one] at h5
   have h6:r%n=r:=Int.emod_eq_of_lt h3 h4
   rw [<- h5,h6] at q
   exact q
def qj:Sp:=λvs H Q _=>∃ n k:Int,vs=[.int n,.int k]/\2<=n/\n<=10^120/\k<=10^120/\Ld.Inv n k/\∀ r,Ld.fv n r->Q (.int r) H
theorem dy:aE ["n","start","number"] ["n","start"] (au (top 40)):=dI
theorem xD (D:aC K mg "least_divisor_from" (top 40)):Callee P w K mg base aT 1 "least_divisor_from" ["n","start"] qj:=by
 refine cO D dy (λf cdv A outer s H vs Q E hr h=>?_)
 obtain⟨n,k,rfl,hn,hn1,hk1,hk,q⟩:=h
 have nd:=dy.nd
 refine⟨_,(aj (dc (i:=2) nd (pv 1)) (aj (bY PassesOwn.never (aw nZ (av bo (pv 2) (pv 2)) (pv 0) (ax _)) (aj (aQ (aw bp (av aO (pv 0) (pv 2)) ah (ax _)) (ao (ay (pv 2))) aF) (ao (fH (i:=2) nd rfl (Or.inl rfl) (dX (aw bp (pv 2) ah (ax _)) ah ah) (i7 lX))))) (ao (ay (pv 0))))),?_⟩
 show bZ _ _ _ [some (.int n),some (.int k),none] H
 k_data
 refine cf (α:=Int) (λx=>[some (.int n),some (.int k),some (.int x)]) (λx H1=>H1=H/\Ld.Inv n x/\x<=10^120+2) (λx=>(n+2-x).toNat) k rfl ⟨rfl,hk,by omega⟩ ?_
 rintro x H1 ⟨rfl,hx,hx1⟩
 have x2:=hx.two
 k_data
 refine⟨Bd.of (by omega) (by omega),Bd.of (by omega) (by omega),?_⟩
 refine aJ (λc=>?_) (λc=>?_)
 ·have xn:x<=n:=by
   have:=Int.mul_le_mul_of_nonneg_left (show 1<=x by omega) (show 0<=x by omega)
   omega
  have st:=λz=>hx.step (k:=x) z
  refine⟨λσ' H'=>H'=H1/\∃ y,y=(x+if x=2 then 1 else 2)/\¬x∣n/\σ'=[some (V.int n),some (V.int k),some (V.int y)],?_,by omega,?_⟩
  ·rintro σ' H' ⟨rfl,y,hy,nd',rfl⟩
   refine⟨y,rfl,rfl,by rw [hy];exact st nd',?_,?_⟩
   ·split at hy<;>omega
   ·split at hy<;>omega
  refine aJ (λc2=>?_) (λc2=>?_)
  ·exact q x (hx.found (Int.dvd_of_emod_eq_zero c2))
  have nd':¬x∣n:=λz=>c2 (Int.emod_eq_zero_of_dvd z)
  refine aJ (λc3=>?_) (λc3=>?_)
  ·exact⟨rfl,_,by rw [if_pos c3],nd',rfl⟩
  ·exact⟨rfl,_,by rw [if_neg c3],nd',rfl⟩
 ·exact q n (hx.done hn (by omega))
def mJ (c1 c2:Addr):Sp:=λvs H Q E=>∃ n:Int,vs=[.int n]/\(n<2->CA c1 H E)/\(10^9<n->CB c2 "part" (.int n) H E)/\(2<=n->n<=10^9->∀ r,Ld.fv n r->Q (.int r) H)
theorem eW:aE ["n"] ["n"] (au (top 39)):=dI
theorem ve {c1 c2:Addr} (D:aC K mg "least_divisor" (top 39)) (c_least_divisor_from:Callee P w K mg base aT 1 "least_divisor_from" ["n","start"] qj) (x_NoNumber:wN K mg "NoNumber" c1) (x_TooFar:oX P w K mg base "TooFar" c2 "part")
  (g_GREATEST:∃ t,mg "GREATEST"=some (.int 1000000000 t)):Callee P w K mg base (gk P w) 3 "least_divisor" ["n"] (mJ c1 c2):=by
 refine cX D eW (λf cdv A outer s H vs Q E hr h=>?_)
 obtain⟨n,rfl,q1,q2,q3⟩:=h
 obtain⟨tk,g_GREATEST⟩:=g_GREATEST
 have nd:=eW.nd
 refine⟨_,(aj (aQ (aw dQ (pv 0) ah (ax _)) (ao (eR (vH x_NoNumber rfl))) aF) (aj (aQ (aw c8 (pv 0) (mj (v:=.int 1000000000) rfl g_GREATEST ⟨_,rfl⟩) (ax _)) (ao (eR (mq x_TooFar (hr.mono (by decide)) rfl (aa (pv 0) af)))) aF) (jv.oR (ao (ay (bT c_least_divisor_from hr az (aa (pv 0) (aa ah af)))))))),?_⟩
 show bZ _ _ _ [some (.int n)] H
 k_data
 refine aJ (λc=>?_) (λc=>?_)
 ·exact λx hx=>kS x_NoNumber.cls (aG.refl _) hx (q1 c)
 refine aJ (λc'=>?_) (λc'=>?_)
 ·exact λx dx hx hdx ne=>kT x_TooFar.cls (aG.refl _) hx hdx ne (q2 (by omega))
 exact⟨n,2,rfl,by omega,by omega,by omega,⟨by omega,.inl rfl,λd d0 d1=>by omega⟩,q3 (by omega) (by omega)⟩
def C1 (p:Int × Int):PyData:=.tuple [.int p.1,.int p.2]
def kh (K:PySem.W.Frag) (c1 c2:Addr):Sp:=λvs H Q E=>∃ n:Int,vs=[.int n]/\(n<1->CA c1 H E)/\(10^9<n->CB c2 "part" (.int n) H E)/\(1<=n->n<=10^9->∀ ps us p H',Num.Part n ps->ps.length<=29->aG H H'->H p=none->H' p=some (.lst us)->bD K H' (ps.map C1) us->Q (.ref p) H')
theorem lq:aE ["n","parting","left","prime","many"] ["n"] (au (top 41)):=dI
theorem tq {c1 c2:Addr} (D:aC K mg "parted" (top 41)) (c_least_divisor_from:Callee P w K mg base aT 1 "least_divisor_from" ["n","start"] qj) (x_NoNumber:wN K mg "NoNumber" c1) (x_TooFar:oX P w K mg base "TooFar" c2 "part")
  (g_GREATEST:∃ t,mg "GREATEST"=some (.int 1000000000 t)):Callee P w K mg base (gk P w) 3 "parted" ["n"] (kh K c1 c2):=by
 refine cX D lq (λf cdv A outer s H vs Q E hr h=>?_)
 obtain⟨n,rfl,q1,q2,q3⟩:=h
 obtain⟨tk,g_GREATEST⟩:=g_GREATEST
 have nd:=lq.nd
 refine⟨_,(aj (aQ (aw dQ (pv 0) ah (ax _)) (ao (eR (vH x_NoNumber rfl))) aF) (aj (aQ (aw c8 (pv 0) (mj (v:=.int 1000000000) rfl g_GREATEST ⟨_,rfl⟩) (ax _)) (ao (eR (mq x_TooFar (hr.mono (by decide)) rfl (aa (pv 0) af)))) aF) (jv.oR (aj (dc (i:=1) nd (aW af)) (aj (dc (i:=2) nd (pv 0)) (aj (dc (i:=3) nd ah) (aj (bY PassesOwn.never (aw c8 (pv 2) ah (ax _)) (aj (dc (i:=3) nd (bT c_least_divisor_from hr az (aa (pv 2) (aa (pv 3) af)))) (aj (dc (i:=4) nd ah) (aj (bY PassesOwn.never (aw bp (av aO (pv 2) (pv 3)) ah (ax _)) (aj (fH (i:=2) nd rfl (Or.inl rfl) (pv 3) (i7 jO)) (ao (fH (i:=4) nd rfl (Or.inl rfl) ah (i7 lX))))) (ao (jE (qY PySem.F.plainAttrs_list PySem.F.slot_list_append PySem.F.type_list_append iV (pv 1) (aa (aD (aa (pv 3) (aa (pv 4) af))) af)))))))) (ao (ay (pv 1)))))))))),?_⟩
 show bZ _ _ _ [some (.int n),none,none,none,none] H
 k_data
 refine aJ (λc=>?_) (λc=>?_)
 ·exact λx hx=>kS x_NoNumber.cls (aG.refl _) hx (q1 c)
 refine aJ (λc'=>?_) (λc'=>?_)
 ·exact λx dx hx hdx ne=>kT x_TooFar.cls (aG.refl _) hx hdx ne (q2 (by omega))
 refine⟨by decide,λpp hpp=>?_⟩
 have n1:n<=10^9:=by omega
 refine cf (α:=Int × Int × Option V) (λx=>[some (.int n),some (.ref pp),some (.int x.1),some (.int x.2.1),x.2.2]) (λx H1=>aG H H1/\∃(ps:List (Int × Int)) (us:List V),H1 pp=some (.lst us)/\bD K H1 (ps.map C1) us/\Num.Way n ps x.1 x.2.1) (λx=>x.1.toNat) (n,2,none) rfl ⟨ak hpp,[],[],ag,rfl,.start (by omega)⟩ ?_
 rintro⟨left,prime,o⟩ H1 ⟨hs,ps,us,epp,hd,W⟩
 replace W:Num.Way n ps left prime:=W
 have l1:=W.pos
 have ln:left<=n:=by
  have z:=W.two
  have p0:=Num.bC (show (0:Int)<2 by decide) ps.length
  have:=Int.mul_le_mul_of_nonneg_right (show (1:Int)<=2^ps.length by omega) (show 0<=left by omega)
  omega
 k_data
 refine aJ (λc3=>?_) (λc3=>?_)
 ·have pl:prime<=10^120:=by
   rcases (by omega:prime<=left∨left<prime) with z | z
   ·omega
   ·exact absurd (Int.dvd_refl left) (W.inv.no left (by omega) z)
  refine⟨_,λ_ _ z=>z,left,prime,rfl,by omega,by omega,pl,W.inv,λr hL=>?_⟩
  have r2:=hL.two
  have rl:=hL.le (by omega)
  refine cf (α:=Int × Nat) (λx=>[some (.int n),some (.ref pp),some (.int x.1),some (.int r),some (.int (x.2:Int))]) (λx H2=>H2=H1/\left=r^x.2*x.1/\1<=x.1/\x.1<=left) (λx=>x.1.toNat) (left,0) rfl ⟨rfl,by rw [Int.pow_zero,Int.one_mul],by omega,Int.le_refl _⟩ ?_
  rintro⟨lf,k⟩ H2 ⟨rfl,e1,e2,e3⟩
  replace e1:left=r^k*lf:=e1
  replace e2:1<=lf:=e2
  replace e3:lf<=left:=e3
  k_data
  refine⟨by omega,?_⟩
  refine aJ (λc4=>?_) (λc4=>?_)
  ·obtain⟨q,hq⟩:=Int.dvd_of_emod_eq_zero c4
   have ed:lf/r=q:=by rw [hq];exact Int.mul_ediv_cancel_left _ (by omega)
   have q1':1<=q:=by
    rcases (by omega:q<=0∨1<=q) with z | z
    ·have:=Int.mul_nonpos_of_nonneg_of_nonpos (show 0<=r by omega) z
     omega
    ·exact z
   have ql:q<lf:=by
    rw [hq]
    have:=Int.mul_le_mul_of_nonneg_right r2 (show 0<=q by omega)
    omega
   refine⟨_,λ_ _ z=>z,by omega,Bd.of (by omega) (by omega),(q,k+1),?_,rfl,?_,q1',?_,?_⟩
   ·rw [ed];rfl
   ·rw [e1,hq,Int.pow_succ,Int.mul_assoc]
   ·show q<=left
    omega
   ·show q.toNat<lf.toNat
    omega
  ·have ng:¬r∣lf:=λz=>c4 (Int.emod_eq_zero_of_dvd z)
   have k1:1<=k:=by
    cases k with
    | zero=>rw [Int.pow_zero,Int.one_mul] at e1;exact absurd (e1▸hL.dv) ng
    | succ k=>omega
   have W2:=W.step n1 c3 hL e1 e2 k1 ng
   have len:=W.len n1
   have ul:us.length=ps.length:=by rw [hd.length,List.length_map]
   have lt:lf<left:=by
    obtain⟨k',rfl⟩:∃ k',k=k'+1:=⟨k-1,by omega⟩
    have p0:=Num.bC (show 0<r by omega) k'
    have h1:r<=r^(k'+1):=by
     rw [Int.pow_succ]
     have:=Int.mul_le_mul_of_nonneg_right (show 1<=r^k' by omega) (show 0<=r by omega)
     omega
    have:=Int.mul_le_mul_of_nonneg_right (show 2<=r^(k'+1) by omega) (show 0<=lf by omega)
    omega
   refine⟨.inl ⟨rfl,_,aS.of epp⟩,by show 2<=sizeLine;decide,λpt hpt=>?_⟩
   have s2:=ak (o:=.tup [V.int r,V.int (k:Int)]) hpt
   have npt:pp≠pt:=λz=>by rw [<- z,epp] at hpt;cases hpt
   have el:=s2 _ _ epp
   have et:upd H2 pt (.tup [V.int r,V.int (k:Int)]) pt=some (.tup [V.int r,V.int (k:Int)]):=ag
   have hd2:=bD.same s2 _ hd
   have S2:=hs.trans s2
   generalize upd H2 pt _=H3 at *
   refine⟨pp,us,.ref pt,rfl,rfl,el,Nat.lt_of_le_of_lt (show us.length<=29 by omega) (by decide),(lf,r,some (.int (k:Int))),rfl,rfl,rfl,S2.upd hpp,⟨ps++[(r,(k:Int))],us++[.ref pt],ag,?_,W2⟩,?_⟩
   ·rw [List.map_append]
    refine bD.append (bD.but el (λb o ne h=>by rw [aA ne];exact h) _ (nR (λ_=>rfl) ps) hd2) (.one (dv.tup (xs:=[V.int r,V.int (k:Int)]) ?_ ⟨_,_,rfl,rfl,.one rfl⟩))
    rw [aA (Ne.symm npt)]
    exact et
   ·show lf.toNat<left.toNat
    omega
 ·have z:left=1:=by omega
  subst z
  exact q3 (by omega) n1 ps us pp H1 W.done (W.len n1) hs hpp epp hd
end
end K
namespace L2
open PySem PySem.Spec PyProof.Rows
theorem lZ {X:Cx} (K:PySem.W.Frag) (h:X.K=K):Cq X (x6 K):=h▸aZ
theorem jD {X:Cx} {pos:Pos} {es:List Expr} {k:Nat} {t:yA} {n:Nat} (K:PySem.W.Frag) (e:X.K=K) (hc:X.calm=true) (h:Bh X es t)
  (hn:(assignEach es X.env).length=n:=by rfl) (hst:(assignEach es X.env).findIdx? (·.1)=none:=by rfl):PG X (.Tuple es k pos) (sy K n t):=e▸eF hc h hn hst
end L2
namespace K
open PySem PySem.Spec PyProof.Rows L2
section
variable {P:Program} {w:World} {K:PySem.W.Frag} {mg:Str->Option Value} {base:Heap}
theorem cQ {X:Cx}:Passes (gk P w) X E0:=by
 intro pins σ H1 s1 e s' I hq
 obtain⟨x,C,T,dd,H',_,_,_,_,_,_,_,_,_,_,z⟩:=hq
 exact z.elim
theorem cY {H:Hp} {q:Addr} {xs:List V} {k:Int} {v:V} {Q:VK} (t:aL K H q xs) (e:oP xs k=some v) (h:Q v H):x6 K (.ref q) (.int k) H Q:=⟨q,xs,k,v,rfl,rfl,t,e,h⟩
theorem mU {x:V} {r:List V}:oP (x::r) 0=some x:=by
 unfold oP qP
 simp
def DI (row:PyData) (q:Int):Prop:=∃ ds es,row=.tuple (.tuple (.int q::ds)::es)
def Cp (rows:List PyData) (qs:List Int):Prop:=rows.length=qs.length/\∀(i:Nat) (row:PyData),rows[i]?=some row->∃ q,qs[i]?=some q/\DI row q
def d6 (K:PySem.W.Frag):Sp:=λvs H Q _=>∃ v rows qs,vs=[v]/\dv K H (.tuple rows) v/\Cp rows qs/\rows.length<=10^6/\∀ p H',aG H H'->H p=none->H' p=some (.lst (qs.map V.int))->Q (.ref p) H'
theorem iF:aE ["parts"] ["parts"] (au (top 16)):=dI
theorem nX (D:aC K mg "primes_in" (top 16)):Callee P w K mg base aT 1 "primes_in" ["parts"] (d6 K):=by
 refine cO D iF (λf cdv A outer s H vs Q E hr h=>?_)
 obtain⟨v,rows,qs,rfl,hd,⟨hl,hq⟩,h6,q⟩:=h
 have nd:=iF.nd
 refine⟨_,(ao (ay (fk rfl (oQ (N':=["row"]) (js:=[none]) rfl rfl) (qf (pv 0)) (λ_ _ _ _=>(aI (i:=0) (show List.Nodup [("row":Str)] from by decide +kernel) rfl (Or.inl rfl) (.inr rfl))) (λ_ _ _ _=>cE) (λ_ _ _ _=>(aP (lZ K rfl) (aP (lZ K rfl) (pv 0) ah (λ_ _=>rfl)) ah (λ_ _=>rfl)))))),?_⟩
 show iK _ _ [some v] H
 obtain⟨p,xs,rfl,hS,ht⟩:=hd
 k_data
 have xl:=ht.length
 refine⟨⟨_,hS⟩,?_⟩
 refine kP (xs:=xs) (λi zs H3=>H3=H/\zs=(qs.take i).map V.int) ⟨rfl,rfl⟩ (Nat.le_trans (by omega) (show 10^6<=sizeLine by decide)) (λi zs H3 hi ⟨e1,e2⟩=>⟨by rw [e1];exact hS,by rw [e2];simp;omega⟩) ?_ ?_
 ·rintro i x zs H3 hx ⟨rfl,rfl⟩
  obtain⟨d,hd,hv⟩:=ht.get hx
  obtain⟨q',hq',ds,es,rfl⟩:=hq i d hd
  obtain⟨p1,x1,rfl,t1,u,r1,rfl,hv2,_⟩:=hv
  obtain⟨p2,x2,rfl,t2,u',r2,rfl,hv3,_⟩:=hv2
  cases hv3
  show eQ 0 _ [none] _ _
  k_data
  refine⟨True.intro,cY t1 mU (cY t2 mU ⟨rfl,?_⟩)⟩
  rw [List.take_add_one,hq',List.map_append]
  rfl
 ·rintro zs H3 p3 ⟨rfl,rfl⟩ hp3
  rw [show xs.length=qs.length by omega,List.take_length]
  exact q p3 _ (ak hp3) hp3 ag
def Be (n a e:Int) (qs:List Int):Prop:=a^e.toNat%n=1/\∀ q∈qs,a^(e/q).toNat%n≠1
def gi (K:PySem.W.Frag):Sp:=λvs H Q _=>∃(n a e:Int) (p:Addr) (qs:List Int),vs=[.int n,.int a,.int e,.ref p]/\0<n/\n<=10^120/\0<=e/\e<=10^120/\aS K H p (qs.map V.int)/\(∀ q∈qs,0<q/\q<=10^120)/\qs.length<=10^6/\∀ b H',(b=true↔Be n a e qs)->aG H H'->Q (.bl b) H'
theorem jg:aE ["n","a","e","primes"] ["n","a","e","primes"] (au (top 19)):=dI
theorem pV {C:Addr} (D:aC K mg "is_least" (top 19)) (c_power:Callee P w K mg base (gk P w) 4 "power" ["n","a","e"] (jH C)) (n_all:mg "all"=none):Callee P w K mg base aT 5 "is_least" ["n","a","e","primes"] (gi K):=by
 refine cO D jg (λf cdv A outer s H vs Q E hr h=>?_)
 obtain⟨n,a,e,p,qs,rfl,hn,hn1,he,he1,hS,hq,hl,q⟩:=h
 have nd:=jg.nd
 refine⟨_,(ao (ay (bS (bI bp (bT c_power hr cQ (aa (pv 0) (aa (pv 1) (aa (pv 2) af)))) ah (ax _)) (cR (aB (eK rfl) rfl n_all L2.boot_all (aa (fk rfl (oQ (N':=["prime","n","a","e"]) (js:=[none,some 0,some 1,some 2]) rfl rfl) (dF (pv 3)) (λ_ _ _ _=>(aI (i:=0) (show List.Nodup [("prime":Str),("n":Str),("a":Str),("e":Str)] from by decide +kernel) rfl (Or.inl rfl) (.inr rfl))) (λ_ _ _ _=>cE) (λ_ _ _ _=>(bI iy (bT c_power hr cQ (aa (pv 1) (aa (pv 2) (aa (av cT (pv 3) (pv 0)) af)))) ah (ax _)))) af)))))),?_⟩
 show iK _ _ [some (.int n),some (.int a),some (.int e),some (.ref p)] H
 k_data
 refine⟨n,a,e,rfl,hn,hn1,λ_ H1 s1=>?_,λz=>absurd z (by omega)⟩
 have hS1:=hS.same s1
 k_data
 refine aJ (λc=>?_) (λc=>?_)
 ·refine⟨⟨_,hS1⟩,?_⟩
  refine c7 (xs:=qs.map V.int) (λi zs H3=>aG H H3/\zs=((qs.take i).map λq=>decide (a^(e/q).toNat%n≠1)).map V.bl) ⟨s1,rfl⟩ (by rw [List.length_map];exact Nat.le_trans hl (show 10^6<=sizeLine by decide)) (λi zs H3 hi ⟨e1,e2⟩=>⟨hS.same e1,by rw [e2];simp;omega⟩) ?_ ?_
  ·rintro i x zs H3 hx ⟨s3,rfl⟩
   rw [List.getElem?_map] at hx
   obtain⟨y,hy,rfl⟩:=Option.map_eq_some_iff.mp hx
   have my:=hq y (List.mem_of_getElem? hy)
   show eQ 0 _ [none,some (.int n),some (.int a),some (.int e)] _ _
   k_data
   refine⟨⟨rfl,rfl,rfl,True.intro⟩,my.1,Bd.of (by omega) (by omega),n,a,e/y,rfl,hn,hn1,λ_ H4 s4=>⟨jG,?_⟩,λz=>absurd (Int.ediv_nonneg he (show 0<=y by omega)) (by omega)⟩
   refine⟨s3.trans s4,?_⟩
   rw [List.take_add_one,hy,List.map_append,List.map_append]
   simp
  ·rintro zs H3 p3 ⟨s3,rfl⟩ hp3
   rw [List.length_map,List.take_length]
   refine iQ (bs:=qs.map λq=>decide (a^(e/q).toNat%n≠1)) (aS.of ag) ?_
   refine q _ _ ?_ (s3.trans (ak hp3))
   rw [List.all_eq_true]
   constructor
   ·intro h
    refine⟨c,λy hy=>?_⟩
    have:=h _ (List.mem_map.mpr ⟨y,hy,rfl⟩)
    simpa using this
   ·intro h b hb
    obtain⟨y,hy,rfl⟩:=List.mem_map.mp hb
    simpa using h.2 y hy
 ·exact q false _ ⟨λz=>(by cases z),λz=>absurd z.1 c⟩ s1
theorem gT {n x:Int} (hn:2<=n):x%n=1↔Num.Al n x 1:=by
 constructor
 ·intro h
  refine⟨x/n,?_⟩
  have:=Int.emod_add_mul_ediv x n
  omega
 ·rintro⟨k,hk⟩
  rw [show x=1+n*k by omega,Int.add_mul_emod_self_left]
  exact Int.emod_eq_of_lt (by omega) (by omega)
theorem l6 {n a e:Int} {ps:List (Int × Int)} (hn:2<=n) (h:Num.Part e ps) (he:1<=e):Be n a e (ps.map (·.1))↔Num.Ord n a e.toNat:=by
 rw [<- Num.vD h he]
 unfold Be
 rw [gT hn]
 constructor
 ·exact fun⟨h1,h2⟩=>⟨h1,λq hq z=>h2 q hq ((gT hn).mpr z)⟩
 ·exact fun⟨h1,h2⟩=>⟨h1,λq hq z=>h2 q hq ((gT hn).mp z)⟩
theorem fD (P:Int->Prop) {g:Int} (h1:1<=g) (h:P g):∃ m,1<=m/\m<=g/\P m/\∀ a,1<=a->a<m->¬P a:=by
 have:∀(k:Nat) (g:Int),g.toNat=k->1<=g->P g->∃ m,1<=m/\m<=g/\P m/\∀ a,1<=a->a<m->¬P a:=by
  intro k
  induction k using Nat.strongRecOn with
  | ind k ih =>
   intro g hk h1 hg
   by_cases c:∃ a,1<=a/\a<g/\P a
   ·obtain⟨a,a1,a2,a3⟩:=c
    obtain⟨m,m1,m2,m3,m4⟩:=ih a.toNat (by omega) a rfl a1 a3
    exact⟨m,m1,by omega,m3,m4⟩
   ·exact⟨g,h1,Int.le_refl _,hg,λa a1 a2 a3=>c ⟨a,a1,a2,a3⟩⟩
 exact this _ g rfl h1 h
theorem By {p:Int} (hp:Num.Pm p):∃ g,Num.LF p g:=by
 obtain⟨g,g1,g2,g3⟩:=Num.xc hp
 obtain⟨m,m1,m2,m3,m4⟩:=fD (λa=>Num.Ord p a (p-1).toNat) g1 g3
 exact⟨m,m1,by omega,m3,m4⟩
def fP (K:PySem.W.Frag):Sp:=λvs H Q _=>∃(n:Int) (p:Addr) (ps:List (Int × Int)),vs=[.int n,.ref p]/\Num.Pm n/\n<=10^9/\Num.Part (n-1) ps/\ps.length<=29/\aS K H p (ps.map λx=>V.int x.1)/\∀ g H',Num.LF n g->aG H H'->Q (.int g) H'
theorem mi {n:Int} {ps:List (Int × Int)} (h:Num.Part n ps) (hn:1<=n):∀ q∈ps.map (·.1),2<=q/\q<=n:=λq hq=>by
 obtain⟨x,hx,rfl⟩:=List.mem_map.mp hq
 obtain⟨o1,o2,_⟩:=h.ok x hx
 have:=Num.eP hx o2
 rw [h.prod] at this
 exact⟨o1.two,Int.le_of_dvd (by omega) this⟩
theorem gO:aE ["p","primes","full"] ["p","primes"] (au (top 45)):=dI
theorem md (D:aC K mg "least_full" (top 45)) (c_is_least:Callee P w K mg base aT 5 "is_least" ["n","a","e","primes"] (gi K)):Callee P w K mg base aT 6 "least_full" ["p","primes"] (fP K):=by
 refine cO D gO (λf cdv A outer s H vs Q E hr h=>?_)
 obtain⟨n,p,ps,rfl,hp,hn,hP,hl,hS,q⟩:=h
 have n2:=hp.two
 obtain⟨g,G⟩:=By hp
 have g1:=G.one
 have g2:=G.lt
 have nd:=gO.nd
 refine⟨_,(aj (dc (i:=2) nd ah) (aj (bY PassesOwn.never (cI (aR (bT c_is_least hr az (aa (pv 0) (aa (pv 2) (aa (av bR (pv 0) ah) (aa (pv 1) af))))) (λ_=>rfl))) (ao (fH (i:=2) nd rfl (Or.inl rfl) ah (i7 lX)))) (ao (ay (pv 2))))),?_⟩
 show bZ _ _ _ [some (.int n),some (.ref p),none] H
 k_data
 refine cf (α:=Int) (λx=>[some (.int n),some (.ref p),some (.int x)]) (λx H1=>aG H H1/\1<=x/\x<=g) (λx=>(g-x).toNat) 1 rfl ⟨aG.refl _,Int.le_refl _,g1⟩ ?_
 rintro x H1 ⟨s1,x1,x2⟩
 replace x1:1<=x:=x1
 replace x2:x<=g:=x2
 k_data
 refine⟨n,x,n-1,p,ps.map (·.1),rfl,by omega,by omega,by omega,by omega,?_,λy hy=>?_,?_,λb H2 hb s2=>?_⟩
 ·rw [List.map_map];exact hS.same s1
 ·have:=mi hP (by omega) y hy
  omega
 ·rw [List.length_map];exact Nat.le_trans hl (by decide)
 rw [l6 n2 hP (by omega)] at hb
 refine⟨b,aK.mpr rfl,?_⟩
 cases b
 ·have nx:¬Num.Ord n x (n-1).toNat:=λz=>by have:=hb.mpr z;cases this
  have ne:x≠g:=λz=>nx (z▸G.ord)
  refine⟨_,λ_ _ z=>z,x+1,rfl,s1.trans s2,by omega,by omega,by omega⟩
 ·have hx:=hb.mp rfl
  have xg:x=g:=by
   rcases (by omega:x=g∨x<g) with z | z
   ·exact z
   ·exact absurd hx (G.no x x1 z)
  rw [xg]
  exact q g H2 G (s1.trans s2)
theorem ow {ps:List (Int × Int)} {p:Int × Int} {ds ds':Nat->PyData} (h:∀ j,j<ps.length->ds' j=ds j):Num.rowsOf (ps++[p]) ds'=Num.rowsOf ps ds++[.tuple [ds' ps.length,.int p.2]]:=by
 unfold Num.rowsOf
 rw [List.length_append,List.length_singleton,List.range_succ,List.map_append]
 congr 1
 ·refine List.map_congr_left λj hj=>?_
  have:=List.mem_range.mp hj
  rw [h j this,List.getD_eq_getElem?_getD,List.getD_eq_getElem?_getD,List.getElem?_append_left this]
 ·simp
theorem nL {ps:List (Int × Int)} {ds:Nat->PyData} (h:∀ i q k,ps[i]?=some (q,k)->Num.hW q (ds i)):Cp (Num.rowsOf ps ds) (ps.map (·.1)):=by
 refine⟨by rw [Num.dD,List.length_map],λi row hi=>?_⟩
 have hl:=(List.getElem?_eq_some_iff.mp hi).1
 rw [Num.dD] at hl
 have hg:=List.getElem?_eq_getElem hl
 rw [Num.qh hg] at hi
 obtain⟨g,rows,e⟩:=(h i _ _ hg).head
 exact⟨ps[i].1,by rw [List.getElem?_map,hg];rfl,[.int g,.tuple rows],[.int ps[i].2],by rw [<- Option.some.inj hi,e];rfl⟩
theorem zR {H:Hp} {q k:Int} {v:V} (h:dv K H (C1 (q,k)) v):∃ p,v=.ref p/\aL K H p [.int q,.int k]:=by
 obtain⟨p,xs,rfl,h1,x,r,rfl,d1,y,r',rfl,d2,h4⟩:=h
 cases h4
 cases d1
 cases d2
 exact⟨p,rfl,h1⟩
def gj (K:PySem.W.Frag) (L:Nat):Sp:=λvs H Q _=>∃ n:Int,vs=[.int n]/\Num.Pm n/\n<=10^9/\Num.Ht L n/\∀ d v H',Num.hW n d->aG H H'->dv K H' d v->Q v H'
def i4 (K:PySem.W.Frag) (L:Nat):Sp:=λvs H Q _=>∃ n:Int,vs=[.int n]/\1<=n/\n<=10^9/\(∀ q,Num.Pm q->q∣n->Num.Ht L q)/\∀ ps ds v H',Num.Part n ps->ps.length<=29->(∀ i q k,ps[i]?=some (q,k)->Num.hW q (ds i))->aG H H'->dv K H' (.tuple (Num.rowsOf ps ds)) v->Q v H'
theorem d5:aE ["n","least","parts"] ["n"] (au (top 43)):=dI
theorem tj {L:Nat} {c1 c2 c3:Addr} (D:aC K mg "prime_paper" (top 43)) (c_least_divisor:Callee P w K mg base (gk P w) 3 "least_divisor" ["n"] (mJ c1 c2)) (c_parting_paper:Callee P w K mg base aT (2*L+8) "parting_paper" ["n"] (i4 K L)) (c_least_full:Callee P w K mg base aT 6 "least_full" ["p","primes"] (fP K)) (c_primes_in:Callee P w K mg base aT 1 "primes_in" ["parts"] (d6 K)) (x_NoPrime:oX P w K mg base "NoPrime" c3 "divisor"):Callee P w K mg base (gk P w) (2*L+9) "prime_paper" ["n"] (gj K (L+1)):=by
 refine cX D d5 (λf cdv A outer s H vs Q E hr h=>?_)
 obtain⟨n,rfl,hp,hn,hH,q⟩:=h
 have n2:=hp.two
 have nd:=d5.nd
 refine⟨_,(aj (dc (i:=1) nd (aH c_least_divisor (hr.mono (by omega)) rfl cQ (aa (pv 0) af))) (aj (aQ (aw dQ (pv 1) (pv 0) (ax _)) (ao (eR (mq x_NoPrime (hr.mono (by omega)) rfl (aa (pv 1) af)))) aF) (jv.oR (aj (dc (i:=2) nd (aH c_parting_paper (hr.mono (by omega)) rfl az (aa (av bR (pv 0) ah) af))) (ao (ay (aD (aa (pv 0) (aa (aH c_least_full (hr.mono (by omega)) rfl az (aa (pv 0) (aa (aH c_primes_in (hr.mono (by omega)) rfl az (aa (pv 2) af)) af))) (aa (pv 2) af)))))))))),?_⟩
 show bZ _ _ _ [some (.int n),none,none] H
 k_data
 refine⟨n,rfl,λz=>absurd z (by omega),λz=>absurd z (by omega),λ_ _ r hL=>⟨r,rfl,?_⟩⟩
 have rn:r=n:=by
  have:=hL.le (by omega)
  rcases (by omega:r<n∨r=n) with z | z
  ·exact absurd hL.dv (hp.no r hL.two z)
  ·exact z
 rw [if_neg (by omega)]
 refine⟨n-1,rfl,by omega,by omega,hH,λps ds v H1 hP hl hds s1 hv=>?_⟩
 refine⟨v,Num.rowsOf ps ds,ps.map (·.1),rfl,hv,nL hds,by rw [Num.dD];exact Nat.le_trans hl (by decide),λp H2 s2 f2 h2=>?_⟩
 rw [List.map_map] at h2
 refine⟨n,p,ps,rfl,hp,hn,hP,hl,aS.of h2,λg H3 hg s3=>⟨by show 3<=sizeLine;decide,λp3 hp3=>?_⟩⟩
 have s4:=ak (o:=.tup [V.int n,V.int g,v]) hp3
 exact q _ _ _ (.mk n g ps ds hp hn hg hP hl hds) (((s1.trans s2).trans s3).trans s4) (dv.tup ag ⟨_,_,rfl,rfl,_,_,rfl,rfl,.one (dv.same ((s2.trans s3).trans s4) _ hv)⟩)
theorem eX:aE ["n"] ["n"] (au (top 44)):=dI
theorem i9 {L:Nat} {c1 c2:Addr} (D:aC K mg "parting_paper" (top 44)) (c_parted:Callee P w K mg base (gk P w) 3 "parted" ["n"] (kh K c1 c2)) (c_prime_paper:Callee P w K mg base (gk P w) (2*L+7) "prime_paper" ["n"] (gj K L)) (n_tuple:mg "tuple"=none):Callee P w K mg base aT (2*L+8) "parting_paper" ["n"] (i4 K L):=by
 refine cO D eX (λf cdv A outer s H vs Q E hr h=>?_)
 obtain⟨n,rfl,n1,n9,hH,q⟩:=h
 have nd:=eX.nd
 refine⟨_,(ao (ay (c9 gB rfl n_tuple L2.boot_tuple (aa (fk rfl (oQ (N':=["prime","many"]) (js:=[none,none]) rfl rfl) (dF (aH c_parted (hr.mono (by omega)) rfl cQ (aa (pv 0) af))) (λ_ _ _ _=>(jD K rfl (n:=2) rfl (aM (aI (i:=0) (show List.Nodup [("prime":Str),("many":Str)] from by decide +kernel) rfl (Or.inl rfl) (.inr rfl)) (aM (aI (i:=1) (show List.Nodup [("prime":Str),("many":Str)] from by decide +kernel) rfl (Or.inl rfl) (.inr rfl)) cU)))) (λ_ _ _ _=>cE) (λ_ _ _ _=>(aD (aa (aH c_prime_paper (hr.mono (by omega)) rfl cQ (aa (pv 0) af)) (aa (pv 1) af))))) af)))),?_⟩
 show iK _ _ [some (.int n)] H
 k_data
 refine⟨n,rfl,λz=>absurd z (by omega),λz=>absurd z (by omega),λ_ _ ps us p H1 hP hl s1 f1 h1 hd=>⟨p,rfl,⟨_,aS.of h1⟩,?_⟩⟩
 have ul:us.length=ps.length:=by rw [hd.length,List.length_map]
 refine c7 (xs:=us) (λi zs H3=>aG H1 H3/\∃ ds,(∀ j q k,(ps.take i)[j]?=some (q,k)->Num.hW q (ds j))/\bD K H3 (Num.rowsOf (ps.take i) ds) zs) ⟨aG.refl _,λ_=>.none,λj q k z=>by simp at z,rfl⟩ (by rw [ul];exact Nat.le_trans hl (by decide)) (λi zs H3 hi ⟨e1,ds,e2,e3⟩=>⟨aS.of (e1 _ _ h1),by rw [e3.length,Num.dD,List.length_take];omega⟩) ?_ ?_
 ·rintro i x zs H3 hx ⟨s3,ds,hds,hz⟩
  obtain⟨d,hd',hv⟩:=hd.get hx
  rw [List.getElem?_map] at hd'
  obtain⟨⟨q',k'⟩,hy,rfl⟩:=Option.map_eq_some_iff.mp hd'
  obtain⟨pt,rfl,tt⟩:=zR hv
  have hok:=hP.ok _ (List.mem_of_getElem? hy)
  have hdv:q'∣n:=by
   have:=Num.eP (List.mem_of_getElem? hy) hok.2.1
   rwa [hP.prod] at this
  have ql:q'<=n:=Int.le_of_dvd (by omega) hdv
  show sy K 2 _ _ [none,none] _ _
  refine⟨pt,_,rfl,tt.same s3,rfl,?_⟩
  k_data
  refine⟨True.intro,q',rfl,hok.1,by omega,hH q' hok.1 hdv,λd v H4 hp4 s4 hv4=>⟨by show 2<=sizeLine;decide,λp5 hp5=>?_⟩⟩
  have s5:=ak (o:=.tup [v,V.int k']) hp5
  have tk:ps.take (i+1)=ps.take i++[(q',k')]:=by rw [List.take_add_one,hy];rfl
  have il:i<ps.length:=(List.getElem?_eq_some_iff.mp hy).1
  have tl:(ps.take i).length=i:=by rw [List.length_take];omega
  refine⟨(s3.trans s4).trans s5,λj=>if j=i then d else ds j,λj q k hj=>?_,?_⟩
  ·rw [tk] at hj
   rcases (by omega:j<i∨j=i∨i<j) with z | z | z
   ·rw [List.getElem?_append_left (by omega)] at hj
    show Num.hW q (if j=i then d else ds j)
    rw [if_neg (by omega)]
    exact hds j q k hj
   ·subst z
    rw [List.getElem?_append_right (by omega),tl,Nat.sub_self] at hj
    show Num.hW q (if j=j then d else ds j)
    rw [if_pos rfl]
    cases hj
    exact hp4
   ·rw [List.getElem?_eq_none (by simp;omega)] at hj
    cases hj
  ·rw [tk,ow (ds:=ds) (λj hj=>if_neg (by omega)),tl,if_pos rfl]
   exact bD.append (bD.same (s4.trans s5) _ hz) (.one (dv.tup ag ⟨_,_,rfl,dv.same s5 _ hv4,.one rfl⟩))
 ·rintro zs H3 p3 ⟨s3,ds,hds,hz⟩ hp3
  rw [ul,List.take_length] at hds hz
  have s4:=ak (o:=.lst zs) hp3
  refine⟨p3,rfl,zs,.inl ⟨aS.of ag,λl hl'=>?_⟩⟩
  generalize upd H3 p3 _=H4 at *
  have s5:=ak (o:=.tup zs) hl'
  exact q ps ds _ _ hP hl hds (((s1.trans s3).trans s4).trans s5) (dv.tup ag (bD.same (s4.trans s5) _ hz))
theorem la {L:Nat} (D:aC K mg "prime_paper" (top 43)):Callee P w K mg base (gk P w) 7 "prime_paper" ["n"] (gj K 0):=by
 refine cX D d5 (λf cdv A outer s H vs Q E hr h=>?_)
 obtain⟨n,rfl,hp,hn,hH,q⟩:=h
 exact hH.elim
theorem lb {c1 c2 c3:Addr} (D1:aC K mg "prime_paper" (top 43)) (D2:aC K mg "parting_paper" (top 44)) (c_least_divisor:Callee P w K mg base (gk P w) 3 "least_divisor" ["n"] (mJ c1 c2)) (c_parted:Callee P w K mg base (gk P w) 3 "parted" ["n"] (kh K c1 c2)) (c_least_full:Callee P w K mg base aT 6 "least_full" ["p","primes"] (fP K)) (c_primes_in:Callee P w K mg base aT 1 "primes_in" ["parts"] (d6 K)) (x_NoPrime:oX P w K mg base "NoPrime" c3 "divisor") (n_tuple:mg "tuple"=none):∀ L:Nat,Callee P w K mg base (gk P w) (2*L+7) "prime_paper" ["n"] (gj K L)/\Callee P w K mg base aT (2*L+8) "parting_paper" ["n"] (i4 K L)
 | 0=>⟨la (L:=0) D1,i9 (L:=0) D2 c_parted (la (L:=0) D1) n_tuple⟩
 | L+1=>by
  have h:=lb D1 D2 c_least_divisor c_parted c_least_full c_primes_in x_NoPrime n_tuple L
  have a:=tj D1 c_least_divisor h.2 c_least_full c_primes_in x_NoPrime
  have a':Callee P w K mg base (gk P w) (2*(L+1)+7) "prime_paper" ["n"] (gj K (L+1)):=a.mono (by omega)
  exact⟨a',i9 D2 c_parted a' n_tuple⟩
def oF (K:PySem.W.Frag):Sp:=λvs H Q _=>∃ n:Int,vs=[.int n]/\Num.Pm n/\n<=10^9/\∀ d v H',Num.hW n d->aG H H'->dv K H' d v->Q v H'
theorem Aj (h:Callee P w K mg base (gk P w) (2*30+7) "prime_paper" ["n"] (gj K 30)):Callee P w K mg base (gk P w) 67 "prime_paper" ["n"] (oF K) :=
 Callee.imp h λvs H Q E z=>by
  obtain⟨n,h1,h2,h3,q⟩:=z
  exact⟨n,h1,h2,h3,Num.uQ h2 h3,q⟩
theorem jC {n:Int} {d:PyData} (h:Num.hW n d):∃ g ps ds,d=.tuple [.int n,.int g,.tuple (Num.rowsOf ps ds)]/\Num.LF n g/\Num.Part (n-1) ps/\ps.length<=29/\∀ i q k,ps[i]?=some (q,k)->Num.hW q (ds i):=by
 cases h with
 | mk _ g ps ds h1 h2 h3 h4 h5 h6=>exact⟨g,ps,ds,rfl,h3,h4,h5,h6⟩
theorem lg {n:Int} {d:PyData} (h:Num.hW n d):Num.Pm n/\n<=10^9:=by
 cases h with
 | mk _ _ _ _ a b=>exact⟨a,b⟩
theorem lR {H:Hp} {d1 d2 d3:PyData} {v:V} (h:dv K H (.tuple [d1,d2,d3]) v):∃ p x1 x2 x3,v=.ref p/\aL K H p [x1,x2,x3]/\dv K H d1 x1/\dv K H d2 x2/\dv K H d3 x3:=by
 obtain⟨p,xs,rfl,h1,x1,r1,rfl,e1,x2,r2,rfl,e2,x3,r3,rfl,e3,z⟩:=h
 cases z
 exact⟨p,x1,x2,x3,rfl,h1,e1,e2,e3⟩
def yo (K:PySem.W.Frag):Sp:=λvs H Q _=>∃ d v,vs=[v]/\dv K H d v/\Q (.bl (jx d)) H
theorem ji:aE ["thing"] ["thing"] (au (top 11)):=dI
theorem C0 (D:aC K mg "is_whole" (top 11)) (n_isinstance:mg "isinstance"=none) (n_int:mg "int"=none) (n_bool:mg "bool"=none):Callee P w K mg base aT 1 "is_whole" ["thing"] (yo K):=by
 refine cO D ji (λf cdv A outer s H vs Q E hr h=>?_)
 obtain⟨d,v,rfl,hd,q⟩:=h
 have nd:=ji.nd
 refine⟨_,(ao (ay (bS (aB aV rfl n_isinstance PyProof.Rows.boot_isinstance (aa (pv 0) (aa (bB (v:=.ty "int") rfl n_int L2.boot_int rfl) af))) (cR (vF (aB aV rfl n_isinstance PyProof.Rows.boot_isinstance (aa (pv 0) (aa (bB (v:=.ty "bool") rfl n_bool L2.boot_bool rfl) af)))))))),?_⟩
 show iK _ _ [some v] H
 k_data
 refine qO hd ?_
 k_data
 refine aJ (λc=>?_) (λc=>?_)
 ·refine ir hd ?_
  k_data
  cases d<;>first | exact q | simp [jx,wD] at c
 ·cases d<;>first | exact q | exact absurd rfl c
def fC:PyData->Nat->Bool
 | .tuple ds,m=>decide (ds.length=m)
 | _,_=>false
def lB (K:PySem.W.Frag):Sp:=λvs H Q _=>∃ d v,∃ m:Nat,vs=[v,.int m]/\dv K H d v/\Q (.bl (fC d m)) H
theorem fO:aE ["thing","many"] ["thing","many"] (au (top 12)):=dI
theorem Ae (D:aC K mg "is_tuple_of" (top 12)) (n_isinstance:mg "isinstance"=none) (n_tuple:mg "tuple"=none) (n_len:mg "len"=none):Callee P w K mg base aT 1 "is_tuple_of" ["thing","many"] (lB K):=by
 refine cO D fO (λf cdv A outer s H vs Q E hr h=>?_)
 obtain⟨d,v,m,rfl,hd,q⟩:=h
 have nd:=fO.nd
 refine⟨_,(ao (ay (bS (aB aV rfl n_isinstance PyProof.Rows.boot_isinstance (aa (pv 0) (aa (bB (v:=.ty "tuple") rfl n_tuple L2.boot_tuple rfl) af))) (cR (bI bp (aB aU rfl n_len PySem.boot_len (aa (pv 0) af)) (pv 1) (ax _)))))),?_⟩
 show iK _ _ [some v,some (.int m)] H
 k_data
 refine bM hd ?_
 k_data
 refine aJ (λc=>?_) (λc=>?_)
 ·cases d with
  | tuple ds =>
   obtain⟨p,xs,rfl,hS,ht⟩:=hd
   refine dE hS ⟨jG,?_⟩
   have:decide (V.int (xs.length:Int)=V.int (m:Int))=fC (.tuple ds) m:=by
    show _=decide (ds.length=m)
    rw [ht.length]
    refine decide_eq_decide.mpr ⟨λz=>?_,λz=>by rw [z]⟩
    have:=V.int.inj z
    omega
   rw [this]
   exact q
  | _=>exact absurd c (by simp [zW])
 ·cases d<;>first | exact q | exact absurd rfl c
theorem lY {d:PyData} (h:jx d=true):∃ i,d=.int i:=by
 cases d<;>first | exact⟨_,rfl⟩ | cases h
theorem qM {d:PyData} (h:zW d=true):∃ i,d=.tuple i:=by
 cases d<;>first | exact⟨_,rfl⟩ | cases h
def PF (d:PyData):Prop:=∃(p g:Int) (rows:List PyData),d=.tuple [.int p,.int g,.tuple rows]/\2<=p
def Ax (K:PySem.W.Frag):Sp:=λvs H Q _=>∃ d v,vs=[v]/\dv K H d v/\∀ b:Bool,(b=true↔PF d)->Q (.bl b) H
theorem Cv {H:Hp} {d1 d2 d3:PyData} {v:V} (h:dv K H (.tuple [d1,d2,d3]) v):∃ p x1 x2 x3,v=.ref p/\aL K H p [x1,x2,x3]/\dv K H d1 x1/\dv K H d2 x2/\dv K H d3 x3:=by
 obtain⟨p,xs,rfl,h1,x1,r1,rfl,e1,x2,r2,rfl,e2,x3,r3,rfl,e3,z⟩:=h
 cases z
 exact⟨p,x1,x2,x3,rfl,h1,e1,e2,e3⟩
theorem CU {ds:List PyData} (h:ds.length=3):∃ a b c,ds=[a,b,c]:=by
 match ds,h with
 | [a,b,c],_=>exact⟨a,b,c,rfl⟩
theorem eV:aE ["thing","p","full","parts"] ["thing"] (au (top 25)):=dI
theorem BC (D:aC K mg "is_paper_form" (top 25)) (c_is_whole:Callee P w K mg base aT 1 "is_whole" ["thing"] (yo K)) (c_is_tuple_of:Callee P w K mg base aT 1 "is_tuple_of" ["thing","many"] (lB K)) (n_isinstance:mg "isinstance"=none) (n_tuple:mg "tuple"=none):Callee P w K mg base aT 2 "is_paper_form" ["thing"] (Ax K):=by
 refine cO D eV (λf cdv A outer s H vs Q E hr h=>?_)
 obtain⟨d,v,rfl,hd,q⟩:=h
 have nd:=eV.nd
 refine⟨_,(aj (aQ (cI (aR (bT c_is_tuple_of hr az (aa (pv 0) (aa ah af))) (λ_=>rfl))) (ao (ay cD)) aF) (aj (eG (pv 0) (eF (n:=3) rfl (aM (aI (i:=1) nd rfl (Or.inl rfl) (.inr rfl)) (aM (aI (i:=2) nd rfl (Or.inl rfl) (.inr rfl)) (aM (aI (i:=3) nd rfl (Or.inl rfl) (.inr rfl)) cU))))) (ao (ay (bS (bT c_is_whole hr az (aa (pv 1) af)) (bS (bI yX (pv 1) ah (ax _)) (bS (bT c_is_whole hr az (aa (pv 2) af)) (cR (aB aV rfl n_isinstance PyProof.Rows.boot_isinstance (aa (pv 3) (aa (bB (v:=.ty "tuple") rfl n_tuple L2.boot_tuple rfl) af))))))))))),?_⟩
 show bZ _ _ _ [some v,none,none,none] H
 k_data
 refine⟨d,v,3,rfl,hd,fC d 3,aK.mpr rfl,?_⟩
 refine aJ (λc=>?_) (λc=>?_)
 ·refine q false ⟨λz=>(by cases z),fun⟨p,g,rows,e,_⟩=>?_⟩
  rw [e] at c
  cases c
 ·cases d with
  | tuple ds =>
   obtain⟨d1,d2,d3,rfl⟩:=CU (ds:=ds) (by simpa [fC] using c)
   obtain⟨p,x1,x2,x3,rfl,hS,e1,e2,e3⟩:=Cv hd
   refine⟨p,_,rfl,hS,rfl,?_⟩
   k_data
   refine⟨d1,x1,rfl,e1,jx d1,rfl,?_⟩
   refine aJ (λc1=>?_) (λc1=>?_)
   ·obtain⟨i,rfl⟩:=lY c1
    cases e1
    refine⟨i,rfl,?_⟩
    refine aJ (λc2=>?_) (λc2=>?_)
    ·refine⟨d2,x2,rfl,e2,jx d2,rfl,?_⟩
     refine aJ (λc3=>?_) (λc3=>?_)
     ·obtain⟨j,rfl⟩:=lY c3
      refine bM e3 (q _ ⟨λz=>?_,λz=>?_⟩)
      ·obtain⟨rows,rfl⟩:=qM z
       exact⟨i,j,rows,rfl,c2⟩
      ·obtain⟨p,g,rows,e,_⟩:=z
       cases e
       rfl
     ·refine q false ⟨λz=>(by cases z),fun⟨p,g,rows,e,_⟩=>?_⟩
      cases e
      exact absurd rfl c3
    ·refine q false ⟨λz=>(by cases z),fun⟨p,g,rows,e,h2⟩=>?_⟩
     cases e
     exact absurd h2 c2
   ·refine q false ⟨λz=>(by cases z),fun⟨p,g,rows,e,_⟩=>?_⟩
    cases e
    exact absurd rfl c1
  | _=>exact absurd rfl c
def RF (width:Nat) (d:PyData):Prop:=∃(pd:PyData) (k:Int) (more:List PyData),d=.tuple (pd::.int k::more)/\more.length+2=width/\PF pd/\1<=k
def BP (K:PySem.W.Frag):Sp:=λvs H Q _=>∃ d v,∃ m:Nat,vs=[v,.int m]/\2<=m/\dv K H d v/\∀ b:Bool,(b=true↔RF m d)->Q (.bl b) H
theorem Bj {x y:V} {r:List V}:oP (x::y::r) 1=some y:=by
 unfold oP qP
 simp
 rw [if_pos (by omega)]
 rfl
theorem fM:aE ["thing","width"] ["thing","width"] (au (top 27)):=dI
theorem BF (D:aC K mg "is_row_form" (top 27)) (c_is_whole:Callee P w K mg base aT 1 "is_whole" ["thing"] (yo K)) (c_is_tuple_of:Callee P w K mg base aT 1 "is_tuple_of" ["thing","many"] (lB K)) (c_is_paper_form:Callee P w K mg base aT 2 "is_paper_form" ["thing"] (Ax K)):Callee P w K mg base aT 3 "is_row_form" ["thing","width"] (BP K):=by
 refine cO D fM (λf cdv A outer s H vs Q E hr h=>?_)
 obtain⟨d,v,m,rfl,hm,hd,q⟩:=h
 have nd:=fM.nd
 refine⟨_,(ao (ay (bS (bT c_is_tuple_of hr az (aa (pv 0) (aa (pv 1) af))) (bS (bT c_is_paper_form hr az (aa (aP aZ (pv 0) ah (λ_ _=>rfl)) af)) (bS (bT c_is_whole hr az (aa (aP aZ (pv 0) ah (λ_ _=>rfl)) af)) (cR (bI yX (aP aZ (pv 0) ah (λ_ _=>rfl)) ah (ax _)))))))),?_⟩
 show iK _ _ [some v,some (.int m)] H
 k_data
 refine⟨d,v,m,rfl,hd,fC d m,rfl,?_⟩
 refine aJ (λc=>?_) (λc=>?_)
 ·cases d with
  | tuple ds =>
   have hl:ds.length=m:=by simpa [fC] using c
   obtain⟨d1,d2,more,rfl⟩:∃ a b c,ds=a::b::c:=by
    match ds,hl with
    | [],h=>exact absurd h (by simp;omega)
    | [a],h=>exact absurd h (by simp;omega)
    | a::b::c,_=>exact⟨a,b,c,rfl⟩
   obtain⟨p,xs,rfl,hS,x1,r1,rfl,e1,x2,r2,rfl,e2,e3⟩:=hd
   refine cY hS mU ⟨d1,x1,rfl,e1,λb hb=>⟨b,rfl,?_⟩⟩
   refine aJ (λc1=>?_) (λc1=>?_)
   ·have hPF:=hb.mp c1
    refine cY hS Bj ⟨d2,x2,rfl,e2,jx d2,rfl,?_⟩
    refine aJ (λc2=>?_) (λc2=>?_)
    ·obtain⟨k,rfl⟩:=lY c2
     cases e2
     refine cY hS Bj ⟨k,rfl,?_⟩
     refine q _ ⟨λz=>⟨d1,k,more,rfl,by simpa using hl,hPF,of_decide_eq_true z⟩,fun⟨pd,k',more',e,_,_,hk⟩=>?_⟩
     cases e
     exact decide_eq_true hk
    ·refine q false ⟨λz=>(by cases z),fun⟨pd,k,more',e,_⟩=>?_⟩
     cases e
     exact absurd rfl c2
   ·refine q false ⟨λz=>(by cases z),fun⟨pd,k,more',e,_,h3,_⟩=>?_⟩
    cases e
    exact absurd (hb.mpr h3) c1
  | _=>exact absurd c (by simp [fC])
 ·refine q false ⟨λz=>(by cases z),fun⟨pd,k,more,e,h2,_⟩=>?_⟩
  rw [e] at c
  exact absurd (decide_eq_true (by simpa using h2)) c
def Wo (n q k r:Int):Prop:=(q^k.toNat∣n/\n=q^k.toNat*r)∨(¬q^k.toNat∣n/\r=0)
def BQ:Sp:=λvs H Q _=>∃ n q k:Int,vs=[.int n,.int q,.int k]/\1<=n/\n<=10^110/\2<=q/\q<=10^110/\1<=k/\∀ r,Wo n q k r->0<=r->r<=n->Q (.int r) H
theorem kg:aE ["whole","prime","many","left","missing"] ["whole","prime","many"] (au (top 28)):=dI
theorem BG (D:aC K mg "without" (top 28)):Callee P w K mg base aT 1 "without" ["whole","prime","many"] BQ:=by
 refine cO D kg (λf cdv A outer s H vs Q E hr h=>?_)
 obtain⟨n,q,k,rfl,n1,n9,q2,q9,k1,Qr⟩:=h
 have nd:=kg.nd
 refine⟨_,(aj (dc (i:=3) nd (pv 0)) (aj (dc (i:=4) nd (pv 2)) (aj (bY PassesOwn.never (PW.pt (dN (aw c8 (pv 4) ah (ax _)) (d9 (aw bp (av aO (pv 3) (pv 1)) ah (ax _))))) (aj (fH (i:=3) nd rfl (Or.inl rfl) (pv 1) (i7 jO)) (ao (fH (i:=4) nd rfl (Or.inl rfl) ah (i7 xj))))) (ao (ay (dX (aw bp (pv 4) ah (ax _)) (pv 3) ah)))))),?_⟩
 show bZ _ _ _ [some (.int n),some (.int q),some (.int k),none,none] H
 k_data
 refine cf (α:=Int × Int) (λx=>[some (.int n),some (.int q),some (.int k),some (.int x.1),some (.int x.2)]) (λx H1=>H1=H/\1<=x.1/\x.1<=n/\0<=x.2/\x.2<=k/\n=q^(k-x.2).toNat*x.1) (λx=>x.1.toNat) (n,k) rfl ⟨rfl,n1,Int.le_refl _,by show 0<=k;omega,Int.le_refl _,by show n=q^(k-k).toNat*n;rw [Int.sub_self];show n=q^0*n;rw [Int.pow_zero,Int.one_mul]⟩ ?_
 rintro⟨l,m⟩ H1 ⟨rfl,l1,l2,m0,m1,e⟩
 replace l1:1<=l:=l1
 replace l2:l<=n:=l2
 replace m0:0<=m:=m0
 replace m1:m<=k:=m1
 replace e:n=q^(k-m).toNat*l:=e
 k_data
 refine aJ (λc=>?_) (λc=>?_)
 ·refine⟨by omega,?_⟩
  refine aJ (λc2=>?_) (λc2=>?_)
  ·obtain⟨y,hy⟩:=Int.dvd_of_emod_eq_zero c2
   have ey:l/q=y:=by rw [hy];exact Int.mul_ediv_cancel_left _ (by omega)
   have y1:1<=y:=by
    rcases (by omega:y<=0∨1<=y) with z | z
    ·have:=Int.mul_nonpos_of_nonneg_of_nonpos (show 0<=q by omega) z
     omega
    ·exact z
   have yl:y<l:=by
    rw [hy]
    have:=Int.mul_le_mul_of_nonneg_right q2 (show 0<=y by omega)
    omega
   refine⟨_,λ_ _ z=>z,by omega,Bd.of (by omega) (by omega),(y,m-1),by rw [ey],rfl,y1,by show y<=n;omega,by show 0<=m-1;omega,by show m-1<=k;omega,?_,by show y.toNat<l.toNat;omega⟩
   show n=q^(k-(m-1)).toNat*y
   rw [show (k-(m-1)).toNat=(k-m).toNat+1 by omega,Int.pow_succ,Int.mul_assoc,<- hy]
   exact e
  ·rw [if_neg (by omega)]
   refine Qr 0 (.inr ⟨λz=>?_,rfl⟩) (Int.le_refl _) (by omega)
   have pp:=Num.bC (show 0<q by omega) (k-m).toNat
   obtain⟨t,ht⟩:=z
   have e3:q^k.toNat=q^(k-m).toNat*q^m.toNat:=by rw [<- Pw.pow_add];congr 1;omega
   rw [e,e3,Int.mul_assoc] at ht
   have ht2:=Int.eq_of_mul_eq_mul_left (by omega) ht
   obtain⟨j,hj⟩:∃ j,m.toNat=j+1:=⟨m.toNat-1,by omega⟩
   rw [hj,Int.pow_succ,Int.mul_comm (q^j) q,Int.mul_assoc] at ht2
   exact c2 (Int.emod_eq_zero_of_dvd ⟨_,ht2⟩)
 ·have mz:m=0:=by omega
  rw [if_pos mz]
  rw [mz,Int.sub_zero] at e
  exact Qr l (.inl ⟨⟨l,e⟩,e⟩) (by omega) l2
def CT (width:Nat):Int->Int->List PyData->Prop
 | left,_,[]=>left=1
 | left,last,d::ds=>1<=left/\∃(p g k:Int) (rows more:List PyData),d=.tuple (.tuple [.int p,.int g,.tuple rows]::.int k::more)/\more.length+2=width/\2<=p/\1<=k/\last<p/\∃ r,Wo left p k r/\CT width r p ds
def BN (K:PySem.W.Frag):Sp:=λvs H Q _=>∃(n:Int) (rows:List PyData) (v:V) (m:Nat),vs=[.int n,v,.int m]/\2<=m/\n<=10^110/\dv K H (.tuple rows) v/\(∀(p g k:Int) (rs more:List PyData),.tuple (.tuple [.int p,.int g,.tuple rs]::.int k::more)∈rows->p<=10^110)/\∀ b:Bool,(b=true↔CT m n 1 rows)->Q (.bl b) H
theorem Wo.one {n q k r r':Int} (h2:2<=q) (h:Wo n q k r) (h':Wo n q k r'):r=r':=by
 have pp:=Num.bC (show 0<q by omega) k.toNat
 rcases h with⟨h1,h2⟩|⟨h1,h2⟩<;>rcases h' with⟨h3,h4⟩|⟨h3,h4⟩
 ·exact Int.eq_of_mul_eq_mul_left (by omega) (h2.symm.trans h4)
 ·exact absurd h1 h3
 ·exact absurd h3 h1
 ·rw [h2,h4]
theorem j8:aE ["n","rows","width","left","last","row"] ["n","rows","width"] (au (top 26)):=dI
theorem BB (D:aC K mg "come_to" (top 26)) (c_is_row_form:Callee P w K mg base aT 3 "is_row_form" ["thing","width"] (BP K)) (c_without:Callee P w K mg base aT 1 "without" ["whole","prime","many"] BQ):Callee P w K mg base aT 4 "come_to" ["n","rows","width"] (BN K):=by
 refine cO D j8 (λf cdv A outer s H vs Q E hr h=>?_)
 obtain⟨n,rows,v,m,rfl,hm,n9,hd,hb9,q⟩:=h
 obtain⟨p,xs,rfl,hS,ht⟩:=hd
 have nd:=j8.nd
 refine⟨_,(aj (dc (i:=3) nd (pv 0)) (aj (dc (i:=4) nd ah) (aj (mw PassesOwn.never rfl (qf (pv 1)) (aI (i:=5) nd rfl (Or.inl rfl) (.inr rfl)) (aj (aQ (PW.pt (eS (aw dQ (pv 3) ah (ax _)) (eS (cI (aR (bT c_is_row_form hr az (aa (pv 5) (aa (pv 2) af))) (λ_=>rfl))) (ff (aw nZ (aP aZ (aP aZ (pv 5) ah (λ_ _=>rfl)) ah (λ_ _=>rfl)) (pv 4) (ax _)))))) (ao (ay cD)) aF) (aj (dc (i:=4) nd (aP aZ (aP aZ (pv 5) ah (λ_ _=>rfl)) ah (λ_ _=>rfl))) (ao (dc (i:=3) nd (bT c_without hr az (aa (pv 3) (aa (pv 4) (aa (aP aZ (pv 5) ah (λ_ _=>rfl)) af))))))))) (ao (ay (bI bp (pv 3) ah (ax _))))))),?_⟩
 show bZ _ _ _ [some (.int n),some (.ref p),some (.int m),none,none,none] H
 k_data
 refine⟨⟨_,hS⟩,?_⟩
 refine uX (xs:=xs) (λi σ' H'=>H'=H/\∃(l t:Int) (o:Option V),σ'=[some (.int n),some (.ref p),some (.int m),some (.int l),some (.int t),o]/\l<=10^110/\(CT m n 1 rows↔CT m l t (rows.drop i))) ⟨rfl,n,1,none,rfl,n9,by rw [List.drop_zero]⟩ (λi σ' H' _ h=>by rw [h.1];exact hS) ?_ ?_
 ·rintro i x σ' H' hx ⟨rfl,l,t,o,rfl,l9,hc⟩
  obtain⟨d,hd,hv⟩:=ht.get hx
  have dr:rows.drop i=d::rows.drop (i+1):=by
   obtain⟨hi,e⟩:=List.getElem?_eq_some_iff.mp hd
   rw [List.drop_eq_getElem_cons hi,e]
  rw [dr] at hc
  k_data
  refine aJ (λc=>?_) (λc=>?_)
  ·exact q false ⟨λz=>(by cases z),λz=>absurd (hc.mp z).1 (by omega)⟩
  refine⟨d,x,m,rfl,hm,hv,λb hb=>⟨b,aK.mpr rfl,?_⟩⟩
  refine aJ (λc1=>?_) (λc1=>?_)
  ·refine q false ⟨λz=>(by cases z),λz=>?_⟩
   obtain⟨_,p',g',k',rs',more',e1,e2,e3,e4,_⟩:=hc.mp z
   have:=hb.mpr ⟨_,k',more',e1,e2,⟨p',g',rs',rfl,e3⟩,e4⟩
   rw [c1] at this
   cases this
  ·obtain⟨pd,k,more,rfl,f2,⟨p',g,rs,rfl,f3⟩,f4⟩:=hb.mp (by simpa using c1)
   obtain⟨a1,y1,rfl,t1,u1,r1,rfl,hv2,u2,r2,rfl,hk,hmr⟩:=hv
   obtain⟨a2,x1,x2,x3,rfl,t2,w1,w2,w3⟩:=Cv hv2
   cases w1
   cases hk
   refine cY t1 mU (cY t2 mU ⟨p',rfl,?_⟩)
   refine aJ (λc2=>?_) (λc2=>?_)
   ·refine q false ⟨λz=>(by cases z),λz=>?_⟩
    obtain⟨_,p2,g2,k2,rs2,more2,e1,e2,e3,e4,e5,_⟩:=hc.mp z
    cases e1
    omega
   ·have p9:=hb9 p' g k rs more (List.mem_of_getElem? hd)
    refine cY t1 mU (cY t2 mU (cY t1 Bj ⟨l,p',k,rfl,by omega,l9,f3,p9,f4,λr hr' r0 r1=>⟨rfl,r,rfl,p',rfl,by omega,?_⟩⟩))
    rw [hc]
    constructor
    ·rintro⟨_,p2,g2,k2,rs2,more2,e1,e2,e3,e4,e5,r',e6,e7⟩
     cases e1
     rw [hr'.one f3 e6]
     exact e7
    ·intro z
     exact⟨by omega,p',g,k,rs,more,rfl,f2,f3,f4,by omega,r,hr',z⟩
 ·rintro σ' H' ⟨rfl,l,t,o,rfl,l9,hc⟩
  k_data
  rw [ht.length,List.drop_length] at hc
  refine q _ ?_
  rw [hc]
  exact decide_eq_true_iff
end
end K
namespace K
open PySem PySem.Spec PyProof.Rows L2
mutual
def jt:PyData->Prop
 | .int i=>i<=10^110
 | .tuple ds=>eZ ds
 | .list ds=>eZ ds
 | _=>True
def eZ:List PyData->Prop
 | []=>True
 | d::ds=>jt d/\eZ ds
end
mutual
def bO:PyData->Nat
 | .tuple ds=>1+aN ds
 | .list ds=>1+aN ds
 | _=>1
def aN:List PyData->Nat
 | []=>0
 | d::ds=>bO d+aN ds
end
theorem fb:∀{ds:List PyData} {d:PyData},eZ ds->d∈ds->jt d
 | a::r,d,⟨h1,h2⟩,h=>by
  rcases List.mem_cons.mp h with z | z
  ·rw [z];exact h1
  ·exact fb h2 z
theorem mE:∀{ds:List PyData},(∀ d∈ds,jt d)->eZ ds
 | [],_=>True.intro
 | a::r,h=>⟨h a (by simp),mE λd hd=>h d (List.mem_cons_of_mem _ hd)⟩
theorem bw:∀(xs ys:List PyData),aN (xs++ys)=aN xs+aN ys
 | [],ys=>by simp [aN]
 | a::r,ys=>by
  show bO a+aN (r++ys)=bO a+aN r+aN ys
  rw [bw r ys]
  omega
theorem mL:∀ d:PyData,1<=bO d
 | .tuple _=>by simp [bO]
 | .list _=>by simp [bO]
 | .none=>Nat.le_refl _
 | .bool _=>Nat.le_refl _
 | .int _=>Nat.le_refl _
 | .str _=>Nat.le_refl _
 | .dict _=>by simp [bO]
theorem fS:∀ ds:List PyData,ds.length<=aN ds
 | []=>Nat.le_refl _
 | a::r=>by
  have:=mL a
  have:=fS r
  show r.length+1<=bO a+aN r
  omega
def jk:PyData->PyData
 | .tuple (x::_)=>x
 | _=>.none
def qD:PyData->Int
 | .tuple (.tuple (.int q::_)::_)=>q
 | _=>0
def RA (d:PyData):Prop:=∃(p g:Int) (rows:List PyData),d=.tuple [.int p,.int g,.tuple rows]/\2<=p/\1<=g/\g<p/\CT 2 (p-1) 1 rows/\Be p g (p-1) (rows.map qD)
inductive PP:PyData->Prop
 | mk (p g:Int) (rows:List PyData):RA (.tuple [.int p,.int g,.tuple rows])->(∀ r∈rows,PP (jk r))->PP (.tuple [.int p,.int g,.tuple rows])
theorem fW {w:Nat}:∀{rows:List PyData} {l t:Int},CT w l t rows->∀ r∈rows,∃(p g k:Int) (rs more:List PyData),r=.tuple (.tuple [.int p,.int g,.tuple rs]::.int k::more)/\2<=p/\1<=k/\more.length+2=w
 | d::ds,l,t,⟨_,p,g,k,rs,more,e1,e2,e3,e4,e5,r',e6,e7⟩,r,hr=>by
  rcases List.mem_cons.mp hr with z | z
  ·rw [z];exact⟨p,g,k,rs,more,e1,e3,e4,e2⟩
  ·exact fW e7 r z
theorem zQ {w:Nat} {rows:List PyData} {l t:Int} (h:CT w l t rows):Cp rows (rows.map qD):=by
 refine⟨by rw [List.length_map],λi row hi=>?_⟩
 obtain⟨p,g,k,rs,more,e,_⟩:=fW h row (List.mem_of_getElem? hi)
 exact⟨p,by rw [List.getElem?_map,hi,e];rfl,[.int g,.tuple rs],.int k::more,e⟩
section
variable {P:Program} {w:World} {K:PySem.W.Frag} {mg:Str->Option Value} {base:Heap}
def BO (K:PySem.W.Frag):Sp:=λvs H Q _=>∃ d v,vs=[v]/\dv K H d v/\jt d/\bO d<=10^6/\∀ b H',(b=true↔RA d)->aG H H'->Q (.bl b) H'
theorem eB:aE ["thing","p","full","parts"] ["thing"] (au (top 24)):=dI
theorem BE (D:aC K mg "is_right_above" (top 24)) (c_is_paper_form:Callee P w K mg base aT 2 "is_paper_form" ["thing"] (Ax K)) (c_come_to:Callee P w K mg base aT 4 "come_to" ["n","rows","width"] (BN K)) (c_is_least:Callee P w K mg base aT 5 "is_least" ["n","a","e","primes"] (gi K)) (c_primes_in:Callee P w K mg base aT 1 "primes_in" ["parts"] (d6 K)):Callee P w K mg base aT 6 "is_right_above" ["thing"] (BO K):=by
 refine cO D eB (λf cdv A outer s H vs Q E hr h=>?_)
 obtain⟨d,v,rfl,hd,hs,hz,q⟩:=h
 have nd:=eB.nd
 refine⟨_,(aj (aQ (cI (aR (bT c_is_paper_form hr az (aa (pv 0) af)) (λ_=>rfl))) (ao (ay cD)) aF) (aj (eG (pv 0) (eF (n:=3) rfl (aM (aI (i:=1) nd rfl (Or.inl rfl) (.inr rfl)) (aM (aI (i:=2) nd rfl (Or.inl rfl) (.inr rfl)) (aM (aI (i:=3) nd rfl (Or.inl rfl) (.inr rfl)) cU))))) (ao (ay (bS (oh nZ dQ ah (pv 2) (pv 1)) (bS (bT c_come_to hr az (aa (av bR (pv 1) ah) (aa (pv 3) (aa ah af)))) (cR (bT c_is_least hr az (aa (pv 1) (aa (pv 2) (aa (av bR (pv 1) ah) (aa (bT c_primes_in hr az (aa (pv 3) af)) af)))))))))))),?_⟩
 show bZ _ _ _ [some v,none,none,none] H
 k_data
 refine⟨d,v,rfl,hd,λb hb=>⟨b,aK.mpr rfl,?_⟩⟩
 refine aJ (λc=>?_) (λc=>?_)
 ·refine q false _ ⟨λz=>(by cases z),fun⟨p,g,rows,e,p2,_⟩=>?_⟩ (aG.refl _)
  have:=hb.mpr ⟨p,g,rows,e,p2⟩
  rw [c] at this
  cases this
 ·obtain⟨p,g,rows,rfl,p2⟩:=hb.mp (by simpa using c)
  obtain⟨pa,x1,x2,x3,rfl,hS,e1,e2,e3⟩:=Cv hd
  cases e1
  cases e2
  refine⟨pa,_,rfl,hS,rfl,?_⟩
  k_data
  simp only [qt,uc,tC,ui,List.getElem?_cons_zero,List.getElem?_cons_succ,Option.some.injEq,exists_eq_left',V.int.injEq,exists_and_left,V.bl.injEq]
  obtain⟨hp9,hrows⟩:p<=10^110/\eZ rows:=by
   simp only [jt,eZ,and_true] at hs
   exact⟨hs.1,hs.2.2⟩
  have hzr:aN rows<=10^6:=by
   simp only [bO,aN] at hz
   omega
  have no:∀{b:Bool},b=false->¬RA (.tuple [.int p,.int g,.tuple rows])->(b=true↔RA (.tuple [.int p,.int g,.tuple rows])):=λe n=>⟨λz=>(by rw [e] at z;cases z),λz=>absurd z n⟩
  refine aJ (λc1=>?_) (λc1=>?_)
  ·refine aJ (λc2=>?_) (λc2=>?_)
   ·have g1:1<=g:=of_decide_eq_true c1
    have g2:g<p:=of_decide_eq_true c2
    refine⟨p-1,rows,x3,2,rfl,by decide,by omega,e3,λp' g' k' rs more hm=>?_,λb1 hb1=>⟨b1,rfl,?_⟩⟩
    ·have:=fb hrows hm
     simp only [jt,eZ] at this
     exact this.1.1
    refine aJ (λc3=>?_) (λc3=>?_)
    ·have hct:=hb1.mp c3
     have hh:=zQ hct
     have rl:rows.length<=10^6:=Nat.le_trans (fS rows) hzr
     refine⟨x3,rows,rows.map qD,rfl,e3,hh,rl,λpq H1 s1 f1 h1=>?_⟩
     refine⟨p,g,p-1,pq,rows.map qD,rfl,by omega,by omega,by omega,by omega,aS.of h1,λy hy=>?_,by rw [List.length_map];exact rl,λb2 H2 hb2 s2=>?_⟩
     ·obtain⟨r,hr',rfl⟩:=List.mem_map.mp hy
      obtain⟨p',g',k',rs,more,e,h2,_⟩:=fW hct r hr'
      have:=fb hrows hr'
      rw [e] at this ⊢
      simp only [jt,eZ] at this
      show 0<p'/\p'<=_
      omega
     ·refine q b2 H2 (hb2.trans ⟨λz=>⟨p,g,rows,rfl,p2,g1,g2,hct,z⟩,fun⟨p',g',rows',e,_,_,_,_,z⟩=>?_⟩) (s1.trans s2)
      cases e
      exact z
    ·refine q false _ (no rfl fun⟨p',g',rows',e,_,_,_,z,_⟩=>?_) (aG.refl _)
     cases e
     exact c3 (hb1.mpr z)
   ·refine q false _ (no rfl fun⟨p',g',rows',e,_,_,z,_⟩=>?_) (aG.refl _)
    cases e
    exact c2 (decide_eq_true z)
  ·refine q false _ (no rfl fun⟨p',g',rows',e,_,z,_⟩=>?_) (aG.refl _)
   cases e
   exact c1 (decide_eq_true z)
theorem nB {H:Hp}:∀{ds:List PyData} {us:List V},bD K H ds us->ds≠[]->∃ ds' d us' u,ds=ds'++[d]/\us=us'++[u]/\bD K H ds' us'/\dv K H d u
 | [d],us,⟨x,r,e,h,t⟩,_=>by
  cases t
  exact⟨[],d,[],x,rfl,e,rfl,h⟩
 | d::d2::ds,us,⟨x,r,e,h,t⟩,_=>by
  obtain⟨ds',d',us',u,e1,e2,h1,h2⟩:=nB t (by simp)
  exact⟨d::ds',d',x::us',u,by rw [e1];rfl,by rw [e,e2];rfl,⟨x,us',rfl,h,h1⟩,h2⟩
theorem kj:∀ rows:List PyData,aN (rows.map jk)<=aN rows
 | []=>Nat.le_refl _
 | a::r=>by
  have h1:=kj r
  have h2:bO (jk a)<=bO a:=by
   match a with
   | .tuple (x::xs) =>
    show bO x<=1+(bO x+aN xs)
    omega
   | .tuple []=>exact Nat.le_refl _
   | .list ds=>exact mL (.list ds)
   | .none=>exact Nat.le_refl _
   | .bool _=>exact Nat.le_refl _
   | .int _=>exact Nat.le_refl _
   | .str _=>exact Nat.le_refl _
   | .dict ds=>exact mL (.dict ds)
  show bO (jk a)+aN (r.map jk)<=bO a+aN r
  omega
def y8 (K:PySem.W.Frag):Sp:=λvs H Q _=>∃(p:Addr) (ds:List PyData) (us:List V),vs=[.ref p]/\(aS K H p us∨aL K H p us)/\bD K H ds us/\eZ ds/\aN ds<=10^6/\∀ b H',(b=true↔∀ d∈ds,PP d)->aG H H'->Q (.bl b) H'
theorem dR:aE ["things","waiting","paper"] ["things"] (au (top 23)):=dI
theorem Ad (D:aC K mg "are_prime_papers" (top 23)) (c_is_right_above:Callee P w K mg base aT 6 "is_right_above" ["thing"] (BO K)) (n_list:mg "list"=none):Callee P w K mg base aT 7 "are_prime_papers" ["things"] (y8 K):=by
 refine cO D dR (λf cdv A outer s H vs Q E hr h=>?_)
 obtain⟨p,ds0,us0,rfl,hS,hd0,hsm0,hsz0,q⟩:=h
 have nd:=dR.nd
 refine⟨_,(aj (dc (i:=1) nd (c9 dU rfl n_list L2.boot_list (aa (pv 0) af))) (aj (bY PassesOwn.never (aR (pv 1) (λ_=>rfl)) (aj (dc (i:=2) nd (Ak PySem.F.plainAttrs_list PySem.F.slot_list_pop PySem.F.type_list_pop z8 (pv 1))) (aj (aQ (cI (aR (bT c_is_right_above hr az (aa (pv 2) af)) (λ_=>rfl))) (ao (ay cD)) aF) (ao (jE (qY PySem.F.plainAttrs_list PySem.F.slot_list_extend PySem.F.type_list_extend sS (pv 1) (aa (fk rfl (oQ (N':=["row"]) (js:=[none]) rfl rfl) (qf (aP aZ (pv 2) ah (λ_ _=>rfl))) (λ_ _ _ _=>(aI (i:=0) (show List.Nodup [("row":Str)] from by decide +kernel) rfl (Or.inl rfl) (.inr rfl))) (λ_ _ _ _=>cE) (λ_ _ _ _=>(aP (lZ K rfl) (pv 0) ah (λ_ _=>rfl)))) af))))))) (ao (ay cD)))),?_⟩
 show bZ _ _ _ [some (.ref p),none,none] H
 k_data
 refine⟨us0,hS,λpw hpw=>?_⟩
 refine cf (α:=List PyData × List V × Option V) (λx=>[some (.ref p),some (.ref pw),x.2.2]) (λx H1=>aG H H1/\H1 pw=some (.lst x.2.1)/\bD K H x.1 x.2.1/\eZ x.1/\aN x.1<=10^6/\((∀ d∈ds0,PP d)↔∀ d∈x.1,PP d)) (λx=>aN x.1) (ds0,us0,none) rfl ⟨ak hpw,ag,hd0,hsm0,hsz0,Iff.rfl⟩ ?_
 rintro⟨ds,us,o⟩ H1 ⟨s1,h1,hd,hsm,hsz,hPP⟩
 replace h1:H1 pw=some (.lst us):=h1
 replace hd:bD K H ds us:=hd
 replace hsm:eZ ds:=hsm
 replace hsz:aN ds<=10^6:=hsz
 replace hPP:(∀ d∈ds0,PP d)↔∀ d∈ds,PP d:=hPP
 k_data
 refine⟨!us.isEmpty,.inl ⟨us,aS.of h1,rfl⟩,?_⟩
 by_cases hne:ds=[]
 ·subst hne
  have hu:us=[]:=hd
  subst hu
  rw [if_neg (by simp)]
  exact q true H1 ⟨λ_=>hPP.mpr λd z=>by simp at z,λ_=>rfl⟩ s1
 obtain⟨ds',d,us',u,rfl,rfl,hd',hdu⟩:=nB hd hne
 rw [if_pos (by simp)]
 have smd:jt d:=fb hsm (by simp)
 have szd:aN (ds'++[d])=aN ds'+bO d:=by
  rw [bw]
  show aN ds'+(bO d+0)=_
  omega
 refine⟨_,λ_ _ z=>z,.inl ⟨rfl,_,aS.of h1⟩,pw,us'++[u],u,rfl,rfl,h1,by simp,?_⟩
 rw [List.dropLast_concat]
 have S2:=s1.upd (o:=.lst us') hpw
 have e2:upd H1 pw (.lst us') pw=some (.lst us'):=ag
 generalize upd H1 pw _=H2 at *
 refine⟨d,u,rfl,dv.same S2 _ hdu,smd,by omega,λb H3 hb s3=>⟨b,aK.mpr rfl,?_⟩⟩
 have S3:=S2.trans s3
 have e3:=s3 _ _ e2
 refine aJ (λc=>?_) (λc=>?_)
 ·refine q false H3 ⟨λz=>(by cases z),λz=>?_⟩ S3
  have hp:=hPP.mp z d (by simp)
  cases hp with
  | mk _ _ _ hra _ =>
   have:=hb.mpr hra
   rw [c] at this
   cases this
 ·have hra:=hb.mp (by simpa using c)
  obtain⟨p',g,rows,rfl,p2,g1,g2,hct,hlst⟩:=hra
  have hra:=hb.mp (by simpa using c)
  obtain⟨pa,x1,x2,x3,rfl,hSu,f1,f2,f3⟩:=Cv hdu
  obtain⟨pr,xs,rfl,hSr,hdr⟩:=f3
  have xl:=hdr.length
  have szr:aN rows<bO (.tuple [.int p',.int g,.tuple rows]):=by
   simp only [bO,aN]
   omega
  have rl:=fS rows
  refine⟨.inl ⟨rfl,_,aS.of e3⟩,cY (hSu.same S3) rfl ⟨pr,rfl,⟨_,hSr.same S3⟩,?_⟩⟩
  refine kP (xs:=xs) (λi zs H4=>H4=H3/\bD K H ((rows.take i).map jk) zs) ⟨rfl,rfl⟩ (Nat.le_trans (show xs.length<=10^6 by omega) (by decide)) (λi zs H4 hi ⟨z1,z2⟩=>⟨by rw [z1];exact hSr.same S3,by rw [z2.length,List.length_map,List.length_take];omega⟩) ?_ ?_
  ·rintro i x zs H4 hx ⟨rfl,hz⟩
   obtain⟨r,hr',hv⟩:=hdr.get hx
   obtain⟨p4,g4,k4,rs,more,rfl,_⟩:=fW hct r (List.mem_of_getElem? hr')
   obtain⟨a1,y1,rfl,t1,u1,r1,rfl,hv2,_⟩:=hv
   show eQ 0 _ [none] _ _
   k_data
   refine⟨True.intro,cY (t1.same S3) mU ⟨rfl,?_⟩⟩
   rw [List.take_add_one,hr',List.map_append]
   exact bD.append hz (.one hv2)
  ·rintro zs H4 p4 ⟨rfl,hz⟩ hp4
   rw [show xs.length=rows.length by omega,List.take_length] at hz
   have zl:zs.length=rows.length:=by rw [hz.length,List.length_map]
   have s5:=ak (o:=.lst zs) hp4
   have e5:upd H4 p4 (.lst zs) p4=some (.lst zs):=ag
   have e6:=s5 _ _ e3
   have S5:=S3.trans s5
   generalize upd H4 p4 _=H5 at *
   have ul:=hd'.length
   have dl:=fS ds'
   refine⟨pw,p4,us',zs,rfl,rfl,e6,e5,Nat.le_trans (show us'.length+zs.length<=10^6 by omega) (by decide),(ds'++rows.map jk,us'++zs,some (.ref pa)),rfl,S5.upd hpw,ag,bD.append hd' hz,?_,?_,?_,?_⟩
   ·refine mE λx hx=>?_
    rcases List.mem_append.mp hx with z | z
    ·exact fb hsm (List.mem_append.mpr (.inl z))
    ·obtain⟨r,hr',rfl⟩:=List.mem_map.mp z
     obtain⟨p4,g4,k4,rs,more,rfl,_⟩:=fW hct r hr'
     simp only [jt,eZ] at smd
     have:=fb smd.2.2.1 hr'
     simp only [jt,eZ] at this
     simp only [jk,jt,eZ]
     exact this.1
   ·show aN (ds'++rows.map jk)<=_
    rw [bw]
    have:=kj rows
    omega
   ·rw [hPP]
    constructor
    ·intro z x hx
     rcases List.mem_append.mp hx with y | y
     ·exact z x (List.mem_append.mpr (.inl y))
     ·obtain⟨r,hr',rfl⟩:=List.mem_map.mp y
      have hp:=z (.tuple [.int p',.int g,.tuple rows]) (by simp)
      cases hp with
      | mk _ _ _ _ h=>exact h r hr'
    ·intro z x hx
     rcases List.mem_append.mp hx with y | y
     ·exact z x (List.mem_append.mpr (.inl y))
     ·rw [List.mem_singleton.mp y]
      exact .mk p' g rows hra λr hr'=>z _ (List.mem_append.mpr (.inr (List.mem_map.mpr ⟨r,hr',rfl⟩)))
   ·show aN (ds'++rows.map jk)<_
    rw [bw,szd]
    have:=kj rows
    omega
def Ay (K:PySem.W.Frag):Sp:=λvs H Q _=>∃ d v,vs=[v]/\dv K H d v/\jt d/\bO d<=10^6/\∀ b H',(b=true↔PP d)->aG H H'->Q (.bl b) H'
theorem eA:aE ["thing"] ["thing"] (au (top 21)):=dI
theorem BD (D:aC K mg "is_prime_paper" (top 21)) (c_are_prime_papers:Callee P w K mg base aT 7 "are_prime_papers" ["things"] (y8 K)):Callee P w K mg base aT 8 "is_prime_paper" ["thing"] (Ay K):=by
 refine cO D eA (λf cdv A outer s H vs Q E hr h=>?_)
 obtain⟨d,v,rfl,hd,hs,hz,q⟩:=h
 have nd:=eA.nd
 refine⟨_,(ao (ay (bT c_are_prime_papers hr az (aa (aW (aa (pv 0) af)) af)))),?_⟩
 show iK _ _ [some v] H
 k_data
 refine⟨by show 1<=sizeLine;decide,λpl hpl=>?_⟩
 have s1:=ak (o:=.lst [v]) hpl
 refine⟨pl,[d],[v],rfl,.inl (aS.of ag),.one (dv.same s1 _ hd),⟨hs,True.intro⟩,by show bO d+0<=_;omega,λb H' hb s2=>?_⟩
 exact q b H' (hb.trans ⟨λz=>z d (by simp),λz x hx=>by rw [List.mem_singleton.mp hx];exact z⟩) (s1.trans s2)
end
end K
namespace K
open PySem PySem.Spec PyProof.Rows L2
theorem eh {p:Int × Int} {ps:List (Int × Int)} {ds:Nat->PyData}:Num.rowsOf (p::ps) ds=.tuple [ds 0,.int p.2]::Num.rowsOf ps (λi=>ds (i+1)):=by
 unfold Num.rowsOf
 rw [List.length_cons,List.range_succ_eq_map,List.map_cons,List.map_map]
 rfl
theorem oj:∀{ps:List (Int × Int)},(∀ p∈ps,2<=p.1)->1<=Num.cF ps
 | [],_=>Int.le_refl _
 | p::ps,h=>by
  have h1:=oj (ps:=ps) λq hq=>h q (List.mem_cons_of_mem _ hq)
  have h2:=Num.bC (show 0<p.1 by have:=h p (by simp);omega) p.2.toNat
  have:=Int.mul_pos h2 (show 0<Num.cF ps by omega)
  show 1<=p.1^p.2.toNat*Num.cF ps
  omega
theorem yE:∀{ps:List (Int × Int)} {ds:Nat->PyData} {t:Int},(∀ p∈ps,2<=p.1/\1<=p.2/\t<p.1)->ps.Pairwise (λa b=>a.1<b.1)->(∀ i q k,ps[i]?=some (q,k)->∃ g rows,ds i=.tuple [.int q,.int g,.tuple rows])->CT 2 (Num.cF ps) t (Num.rowsOf ps ds)
 | [],_,_,_,_,_=>rfl
 | p::ps,ds,t,h,hw,hd=>by
  rw [eh]
  obtain⟨g,rows,e⟩:=hd 0 p.1 p.2 rfl
  obtain⟨p2,k1,tp⟩:=h p (by simp)
  obtain⟨w1,w2⟩:=List.pairwise_cons.mp hw
  refine⟨oj λq hq=>(h q hq).1,p.1,g,p.2,rows,[],by rw [e],rfl,p2,k1,tp,Num.cF ps,.inl ⟨⟨_,rfl⟩,rfl⟩,?_⟩
  exact yE (λq hq=>⟨(h q (List.mem_cons_of_mem _ hq)).1,(h q (List.mem_cons_of_mem _ hq)).2.1,w1 q hq⟩) w2 λi q k hi=>hd (i+1) q k (by simpa using hi)
theorem xR {n:Int} {ps:List (Int × Int)} {ds:Nat->PyData} (h:Num.Part n ps) (hd:∀ i q k,ps[i]?=some (q,k)->Num.hW q (ds i)):CT 2 n 1 (Num.rowsOf ps ds):=by
 have:=yE (t:=1) (ds:=ds) (λp hp=>⟨(h.ok p hp).1.two,(h.ok p hp).2.1,by have:=(h.ok p hp).1.two;omega⟩) h.rise λi q k hi=>(hd i q k hi).head
 rwa [h.prod] at this
theorem vT:∀{ps:List (Int × Int)} {ds:Nat->PyData},(∀ i q k,ps[i]?=some (q,k)->∃ g rows,ds i=.tuple [.int q,.int g,.tuple rows])->(Num.rowsOf ps ds).map qD=ps.map (·.1)
 | [],_,_=>rfl
 | p::ps,ds,hd=>by
  rw [eh]
  obtain⟨g,rows,e⟩:=hd 0 p.1 p.2 rfl
  rw [List.map_cons,List.map_cons,vT λi q k hi=>hd (i+1) q k (by simpa using hi),e]
  rfl
theorem fJ {ps:List (Int × Int)} {ds:Nat->PyData} {r:PyData} (h:r∈Num.rowsOf ps ds):∃ i q k,ps[i]?=some (q,k)/\r=.tuple [ds i,.int k]:=by
 unfold Num.rowsOf at h
 obtain⟨i,hi,e⟩:=List.mem_map.mp h
 have hi':=List.mem_range.mp hi
 have g:=List.getElem?_eq_getElem hi'
 refine⟨i,ps[i].1,ps[i].2,g,?_⟩
 rw [<- e,List.getD_eq_getElem?_getD,g]
 rfl
theorem vR {n a:Int} {ps:List (Int × Int)} {ds:Nat->PyData} (n2:2<=n) (h:Num.Part (n-1) ps) (hd:∀ i q k,ps[i]?=some (q,k)->Num.hW q (ds i)):RA (.tuple [.int n,.int a,.tuple (Num.rowsOf ps ds)])↔1<=a/\a<n/\Num.Ord n a (n-1).toNat:=by
 have hq:=vT (ps:=ps) (ds:=ds) λi q k hi=>(hd i q k hi).head
 constructor
 ·rintro⟨p,g,rows,e,p2,g1,g2,c,l⟩
  cases e
  rw [hq,l6 n2 h (by omega)] at l
  exact⟨g1,g2,l⟩
 ·rintro⟨a1,a2,o⟩
  exact⟨n,a,_,rfl,n2,a1,a2,xR h hd,by rw [hq,l6 n2 h (by omega)];exact o⟩
theorem Ag {n:Int} {d:PyData} (h:Num.hW n d):PP d:=by
 induction h with
 | mk p g ps ds hp h9 hl hP hn hds ih =>
  refine .mk p g _ ((vR hp.two hP hds).mpr ⟨hl.one,hl.lt,hl.ord⟩) λr hr=>?_
  obtain⟨i,q,k,hi,rfl⟩:=fJ hr
  exact ih i q k hi
theorem mr {n a:Int} {ps:List (Int × Int)} {ds:Nat->PyData} (n2:2<=n) (h:Num.Part (n-1) ps) (hd:∀ i q k,ps[i]?=some (q,k)->Num.hW q (ds i)):PP (.tuple [.int n,.int a,.tuple (Num.rowsOf ps ds)])↔1<=a/\a<n/\Num.Ord n a (n-1).toNat:=by
 rw [<- vR n2 h hd]
 constructor
 ·intro z
  cases z with
  | mk _ _ _ h1 _=>exact h1
 ·intro z
  refine .mk n a _ z λr hr=>?_
  obtain⟨i,q,k,hi,rfl⟩:=fJ hr
  exact Ag (hd i q k hi)
theorem Ah {n:Int} {d:PyData} (h:Num.hW n d):jt d:=by
 induction h with
 | mk p g ps ds hp h9 hl hP hn hds ih =>
  have:=hl.lt
  simp only [jt,eZ,and_true]
  refine⟨by omega,by omega,mE λr hr=>?_⟩
  obtain⟨i,q,k,hi,rfl⟩:=fJ hr
  have hk:=(hP.ok _ (List.mem_of_getElem? hi)).2.2
  simp only [jt,eZ,and_true]
  exact⟨ih i q k hi,by show k<=_;have:k<=30:=hk;omega⟩
theorem rq:∀{ps:List (Int × Int)} {ds:Nat->PyData},(∀ p∈ps,2<=p.1/\1<=p.2)->(∀ i q k,ps[i]?=some (q,k)->2^(bO (ds i)+2)<=q.natAbs^12)->2^aN (Num.rowsOf ps ds)<=(Num.cF ps).natAbs^12
 | [],_,_,_=>by show 2^0<=1^12;decide
 | p::ps,ds,h,hd=>by
  rw [eh]
  have h1:=hd 0 p.1 p.2 rfl
  have h2:=rq (ps:=ps) (ds:=λi=>ds (i+1)) (λq hq=>h q (List.mem_cons_of_mem _ hq)) λi q k hi=>hd (i+1) q k (by simpa using hi)
  obtain⟨p2,k1⟩:=h p (by simp)
  have e:aN (.tuple [ds 0,.int p.2]::Num.rowsOf ps (λi=>ds (i+1)))=(bO (ds 0)+2)+aN (Num.rowsOf ps (λi=>ds (i+1))):=by
   simp only [aN,bO]
   omega
  rw [e,Nat.pow_add]
  have h3:=Nat.mul_le_mul h1 h2
  rw [<- Nat.mul_pow] at h3
  refine Nat.le_trans h3 (Nat.pow_le_pow_left ?_ 12)
  show _<=(p.1^p.2.toNat*Num.cF ps).natAbs
  rw [Int.natAbs_mul,Int.natAbs_pow]
  exact Nat.mul_le_mul_right _ (Nat.le_self_pow (by omega) _)
theorem Ai {n:Int} {d:PyData} (h:Num.hW n d):2^(bO d+2)<=n.natAbs^12/\(n=2->bO d=4):=by
 induction h with
 | mk p g ps ds hp h9 hl hP hn hds ih =>
  have p2:=hp.two
  have esz:bO (.tuple [.int p,.int g,.tuple (Num.rowsOf ps ds)])=4+aN (Num.rowsOf ps ds):=by
   simp only [bO,aN]
   omega
  have nil2:p=2->ps=[]:=λe=>by
   cases ps with
   | nil=>rfl
   | cons x r =>
    exfalso
    obtain⟨o1,o2,_⟩:=hP.ok x (by simp)
    have:=Num.eP (ps:=x::r) (p:=x) (by simp) o2
    rw [hP.prod,e] at this
    have:=Int.le_of_dvd (by decide) this
    have:=o1.two
    omega
  refine⟨?_,λe=>by rw [esz,nil2 e];rfl⟩
  rw [esz]
  by_cases c:p=2
  ·rw [nil2 c,c]
   show 2^(4+0+2)<=2^12
   decide
  ·have podd:p%2=1:=by
    rcases (by omega:p%2=1∨p%2=0) with z | z
    ·exact z
    ·exact absurd (Int.dvd_of_emod_eq_zero z) (hp.no 2 (by decide) (by omega))
   have pm2:Num.Pm 2:=⟨by decide,λd d2 dn=>by omega⟩
   obtain⟨x,hx,ex⟩:=Num.fF pm2 (λx z=>(hP.ok x z).1) (by rw [hP.prod];exact⟨(p-1)/2,by omega⟩)
   cases ps with
   | nil=>simp at hx
   | cons y r =>
    have ey:y.1=2:=by
     have:=(hP.ok y (by simp)).1.two
     rcases List.mem_cons.mp hx with z | z
     ·rw [<- z];exact ex
     ·have:=(List.pairwise_cons.mp hP.rise).1 x z
      omega
    have s0:=(ih 0 y.1 y.2 rfl).2 ey
    have hr:=rq (ps:=r) (ds:=λi=>ds (i+1)) (λq hq=>⟨(hP.ok q (List.mem_cons_of_mem _ hq)).1.two,(hP.ok q (List.mem_cons_of_mem _ hq)).2.1⟩) λi q k hi=>(ih (i+1) q k (by simpa using hi)).1
    rw [eh]
    have e:4+aN (.tuple [ds 0,.int y.2]::Num.rowsOf r (λi=>ds (i+1)))+2=12+aN (Num.rowsOf r (λi=>ds (i+1))):=by
     simp only [aN,bO,s0]
     omega
    rw [e,Nat.pow_add]
    have h3:=Nat.mul_le_mul_left (2^12) hr
    rw [<- Nat.mul_pow] at h3
    refine Nat.le_trans h3 (Nat.pow_le_pow_left ?_ 12)
    have hpr:Num.cF (y::r)=p-1:=hP.prod
    have k1:=(hP.ok y (by simp)).2.1
    have:(Num.cF (y::r)).natAbs=2^y.2.toNat*(Num.cF r).natAbs:=by
     show (y.1^y.2.toNat*Num.cF r).natAbs=_
     rw [Int.natAbs_mul,Int.natAbs_pow,ey]
     rfl
    rw [hpr] at this
    have h5:2*(Num.cF r).natAbs<=2^y.2.toNat*(Num.cF r).natAbs:=Nat.mul_le_mul_right _ (Nat.le_self_pow (by omega) _)
    omega
theorem fZ {n:Int} {d:PyData} (h:Num.hW n d):bO d<=358:=by
 have h1:=(Ai h).1
 have h9:n<=10^9/\2<=n:=by
  cases h with
  | mk _ _ _ _ a b=>exact⟨b,a.two⟩
 have e30:(2:Nat)^30=1073741824:=by decide
 have h2:n.natAbs^12<=(2^30)^12:=Nat.pow_le_pow_left (show n.natAbs<=2^30 by omega) 12
 rw [<- Nat.pow_mul] at h2
 have:=(Nat.pow_le_pow_iff_right (by decide:1<2)).mp (Nat.le_trans h1 h2)
 omega
end K
namespace K
open PySem PySem.Spec PyProof.Rows L2
section
variable {P:Program} {w:World} {K:PySem.W.Frag} {mg:Str->Option Value} {base:Heap}
theorem wK {p a:Int} {e:Nat} (hp:Num.Pm p) (h:Num.Ord p a e):e∣(p-1).toNat:=by
 refine h.dv _ (Num.iU hp λz=>?_)
 have h0:Num.Al p (a^e) 0:=by
  obtain⟨k,hk⟩:∃ k,e=k+1:=⟨e-1,by have:=h.pos;omega⟩
  rw [hk,Int.pow_succ]
  show p∣a^k*a-0
  rw [Int.sub_zero]
  exact Int.dvd_mul_of_dvd_right z
 exact hp.jA (h0.symm.trans h.one)
theorem uY {p a e:Int} {ps:List (Int × Int)} (hp:Num.Pm p) (h:Num.Part (p-1) ps) (he:1<=e) (hd:e∣p-1):Be p a e ((ps.map (·.1)).filter λq=>decide (e%q=0))↔Num.Ord p a e.toNat:=by
 have p2:=hp.two
 constructor
 ·rintro⟨h1,h2⟩
  refine Num.vA (by omega) ((gT p2).mp h1) λq hq hq' z=>?_
  have hd':(q:Int)∣e:=by
   have:=Int.natCast_dvd_natCast.mpr hq'
   rwa [show (e.toNat:Int)=e by omega] at this
  obtain⟨x,hx,ex⟩:=Num.fF (Num.yY hq) (λx z=>(h.ok x z).1) (by rw [h.prod];exact Int.dvd_trans hd' hd)
  refine h2 q (List.mem_filter.mpr ⟨List.mem_map.mpr ⟨x,hx,ex⟩,decide_eq_true (Int.emod_eq_zero_of_dvd hd')⟩) ((gT p2).mpr ?_)
  rwa [show (e/(q:Int)).toNat=e.toNat/q by
   have:e/(q:Int)=((e.toNat/q:Nat):Int):=by rw [Int.natCast_ediv];congr 1;omega
   rw [this,Int.toNat_natCast]]
 ·intro h1
  refine⟨(gT p2).mpr h1.one,λq hq z=>?_⟩
  obtain⟨m1,m2⟩:=List.mem_filter.mp hq
  obtain⟨x,hx,rfl⟩:=List.mem_map.mp m1
  obtain⟨o1,o2,_⟩:=h.ok x hx
  have d:x.1∣e:=Int.dvd_of_emod_eq_zero (of_decide_eq_true m2)
  have t:=o1.two
  refine h1.Di (Num.qT o1) (by
   have:(x.1.toNat:Int)∣(e.toNat:Int):=by rw [show (x.1.toNat:Int)=x.1 by omega,show (e.toNat:Int)=e by omega];exact d
   exact Int.natCast_dvd_natCast.mp this) ?_
  rw [show e.toNat/x.1.toNat=(e/x.1).toNat by
   have:e/x.1=((e.toNat/x.1.toNat:Nat):Int):=by rw [Int.natCast_ediv];congr 1<;>omega
   rw [this,Int.toNat_natCast]]
  exact (gT p2).mp z
def lx (K:PySem.W.Frag):Sp:=λvs H Q _=>∃(v:V) (p a e:Int) (g:PyData) (rows:List PyData) (ps:List (Int × Int)),vs=[v,.int a,.int e]/\dv K H (.tuple [.int p,g,.tuple rows]) v/\Cp rows (ps.map (·.1))/\Num.Pm p/\Num.Part (p-1) ps/\p<=10^100/\ps.length<=10^5 /\ -(10^100)<=e/\e<=10^100/\∀ b H',(b=true↔1<=e/\Num.Ord p a e.toNat)->aG H H'->Q (.bl b) H'
theorem jh:aE ["paper","a","e","p","full","parts"] ["paper","a","e"] (au (top 22)):=dI
theorem pW (D:aC K mg "is_order" (top 22)) (c_is_least:Callee P w K mg base aT 5 "is_least" ["n","a","e","primes"] (gi K)) (c_primes_in:Callee P w K mg base aT 1 "primes_in" ["parts"] (d6 K)):Callee P w K mg base aT 6 "is_order" ["paper","a","e"] (lx K):=by
 refine cO D jh (λf cdv A outer s H vs Q E hr h=>?_)
 obtain⟨v,p,a,e,g,rows,ps,rfl,hd,hq,hp,hP,p1,hl,e0,e1,q⟩:=h
 have p2:=hp.two
 obtain⟨pa,xs,rfl,hS,x0,r0,rfl,d0,vg,r1,rfl,dg,vr,r2,rfl,dr,z⟩:=hd
 cases z
 cases d0
 have nd:=jh.nd
 refine⟨_,(aj (eG (pv 0) (eF (n:=3) rfl (aM (aI (i:=3) nd rfl (Or.inl rfl) (.inr rfl)) (aM (aI (i:=4) nd rfl (Or.inl rfl) (.inr rfl)) (aM (aI (i:=5) nd rfl (Or.inl rfl) (.inr rfl)) cU))))) (aj (aQ (PW.pt (eS (aw dQ (pv 2) ah (ax _)) (ff (aw iy (av aO (av bR (pv 3) ah) (pv 2)) ah (ax _))))) (ao (ay cD)) aF) (ao (ay (bT c_is_least hr az (aa (pv 3) (aa (pv 1) (aa (pv 2) (aa (fk rfl (oQ (N':=["prime","e"]) (js:=[none,some 2]) rfl rfl) (dF (bT c_primes_in hr az (aa (pv 5) af))) (λ_ _ _ _=>(aI (i:=0) (show List.Nodup [("prime":Str),("e":Str)] from by decide +kernel) rfl (Or.inl rfl) (.inr rfl))) (λ_ _ _ _=>(iA (aw bp (av aO (pv 1) (pv 0)) ah (ax _)))) (λ_ _ _ _=>(pv 0))) af))))))))),?_⟩
 show bZ _ _ _ [some (.ref pa),some (.int a),some (.int e),none,none,none] H
 k_data
 refine⟨pa,_,rfl,hS,rfl,?_⟩
 k_data
 refine aJ (λc=>?_) (λc=>?_)
 ·exact q false _ ⟨λz=>(by cases z),λz=>absurd z.1 (by omega)⟩ (aG.refl _)
 refine⟨by omega,?_⟩
 refine aJ (λc2=>?_) (λc2=>?_)
 ·refine q false _ ⟨λz=>(by cases z),λz=>?_⟩ (aG.refl _)
  have h1:=Int.natCast_dvd_natCast.mpr (wK hp z.2)
  rw [show (e.toNat:Int)=e by omega,show ((p-1).toNat:Int)=p-1 by omega] at h1
  exact absurd (Int.emod_eq_zero_of_dvd h1) (by simpa using c2)
 refine⟨vr,rows,ps.map (·.1),rfl,dr,hq,by rw [hq.1,List.length_map];omega,λpq H1 s1 f1 h1=>⟨pq,rfl,⟨_,aS.of h1⟩,?_⟩⟩
 have d0:e∣p-1:=Int.dvd_of_emod_eq_zero (by simpa using c2)
 refine c7 (xs:=(ps.map (·.1)).map V.int) (λi zs H3=>H3=H1/\zs=(((ps.map (·.1)).take i).filter λq=>decide (e%q=0)).map V.int) ⟨rfl,rfl⟩ (by rw [List.length_map,List.length_map];exact Nat.le_trans hl (by decide)) (λi zs H3 hi ⟨z1,z2⟩=>⟨by rw [z1];exact aS.of h1,by rw [z2,List.length_map];exact Nat.le_trans (List.length_filter_le _ _) (by rw [List.length_take];omega)⟩) ?_ ?_
 ·rintro i x zs H3 hx ⟨rfl,rfl⟩
  rw [List.getElem?_map] at hx
  obtain⟨y,hy,rfl⟩:=Option.map_eq_some_iff.mp hx
  have my:=mi hP (by omega) y (List.mem_of_getElem? hy)
  show eQ 0 _ [none,some (.int e)] _ _
  k_data
  refine⟨⟨rfl,True.intro⟩,by omega,?_⟩
  rw [List.take_add_one,hy,List.filter_append]
  refine aJ (λc3=>?_) (λc3=>?_)
  ·simp [c3]
  ·simp [c3]
 ·rintro zs H3 p3 ⟨rfl,rfl⟩ hp3
  rw [List.length_map,List.take_length]
  refine⟨p,a,e,p3,_,rfl,by omega,by omega,by omega,by omega,aS.of ag,λy hy=>?_,?_,λb H4 hb s4=>?_⟩
  ·have:=mi hP (by omega) y (List.mem_filter.mp hy).1
   omega
  ·exact Nat.le_trans (List.length_filter_le _ _) (by rw [List.length_map];omega)
  ·rw [uY hp hP (by omega) d0] at hb
   exact q b H4 (hb.trans ⟨λz=>⟨by omega,z⟩,λz=>z.2⟩) ((s1.trans (ak hp3)).trans s4)
mutual
def rD:Nat->PyData->Prop
 | 0,_=>False
 | _+1,.int _=>True
 | _+1,.str x=>PyData.canLay0 (.str x)=true
 | L+1,.list ds=>ds.length<=10^6/\wF L ds
 | L+1,.tuple ds=>ds.length<=10^6/\wF L ds
 | _+1,_=>False
def wF:Nat->List PyData->Prop
 | _,[]=>True
 | L,d::ds=>rD L d/\wF L ds
end
theorem vP:∀{L:Nat} {ds:List PyData} {i:Nat} {d:PyData},wF L ds->ds[i]?=some d->rD L d
 | L,[],i,d,_,h=>by simp at h
 | L,e::ds,0,d,h,z=>by
  simp only [wF] at h
  cases z
  exact h.1
 | L,e::ds,i+1,d,h,z=>by
  simp only [wF] at h
  exact vP h.2 (by simpa using z)
theorem fV:∀{ds:List PyData} {i:Nat} {d:PyData},PyData.canLayAll0 ds=true->ds[i]?=some d->d.canLay0=true
 | [],i,d,_,h=>by simp at h
 | e::ds,0,d,h,z=>by
  cases z
  have h':e.canLay0=true/\PyData.canLayAll0 ds=true:=by simpa [PyData.canLayAll0] using h
  exact h'.1
 | e::ds,i+1,d,h,z=>by
  have h':e.canLay0=true/\PyData.canLayAll0 ds=true:=by simpa [PyData.canLayAll0] using h
  exact fV h'.2 (by simpa using z)
def hG (K:PySem.W.Frag) (L:Nat):Sp:=λvs H Q _=>∃(u v:V) (d r:PyData),vs=[u,v]/\dv K H d u/\dv K H r v/\d.canLay0=true/\rD L r/\∀ b H',(b=true↔d=r)->aG H H'->Q (.bl b) H'
def rF (K:PySem.W.Frag) (L:Nat):Sp:=λvs H Q _=>∃(k:Sd) (a c:Addr) (us vs':List V) (ds rs:List PyData),vs=[.ref a,.ref c]/\jJ k K H a us/\jJ k K H c vs'/\bD K H ds us/\bD K H rs vs'/\PyData.canLayAll0 ds=true/\wF L rs/\rs.length<=10^6/\∀ b H',(b=true↔ds=rs)->aG H H'->Q (.bl b) H'
theorem kH {k:Sd} {H H':Hp} {a:Addr} {xs:List V} (h:jJ k K H a xs) (s:aG H H'):jJ k K H' a xs:=by
 cases k
 ·exact aS.same h s
 ·exact aL.same h s
theorem Bx {k:Sd} {H:Hp} {a:Addr} {xs:List V} {Q:VK} (h:jJ k K H a xs) (q:Q (.int xs.length) H):x8 K [.ref a] H Q:=by
 cases k
 ·exact cp h q
 ·exact dE h q
theorem jf:aE ["things","rights"] ["things","rights"] (au (top 14)):=dI
theorem vd {L:Nat} (D:aC K mg "are_just" (top 14)) (c_is_just:Callee P w K mg base aT (2*L+1) "is_just" ["thing","right"] (hG K L)) (n_len:mg "len"=none) (n_zip:mg "zip"=none) (n_all:mg "all"=none):Callee P w K mg base aT (2*L+2) "are_just" ["things","rights"] (rF K L):=by
 refine cO D jf (λf cdv A outer s H vs Q E hr h=>?_)
 obtain⟨k,a,c,us,vs',ds,rs,rfl,hS,hR,dd,dr,cl,hr',hl,q⟩:=h
 have nd:=jf.nd
 refine⟨_,(ao (ay (bS (bI bp (aB aU rfl n_len PySem.boot_len (aa (pv 0) af)) (aB aU rfl n_len PySem.boot_len (aa (pv 1) af)) (ax _)) (cR (aB (eK rfl) rfl n_all L2.boot_all (aa (fk rfl (oQ (N':=["thing","right"]) (js:=[none,none]) rfl rfl) (qZ rfl n_zip (aa (pv 0) (aa (pv 1) af))) (λ_ _ _ _=>(jD K rfl (n:=2) rfl (aM (aI (i:=0) (show List.Nodup [("thing":Str),("right":Str)] from by decide +kernel) rfl (Or.inl rfl) (.inr rfl)) (aM (aI (i:=1) (show List.Nodup [("thing":Str),("right":Str)] from by decide +kernel) rfl (Or.inl rfl) (.inr rfl)) cU)))) (λ_ _ _ _=>cE) (λ_ _ _ _=>(aH c_is_just (hr.mono (by omega)) rfl az (aa (pv 0) (aa (pv 1) af))))) af)))))),?_⟩
 show iK _ _ [some (.ref a),some (.ref c)] H
 have ul:=dd.length
 have vl:=dr.length
 k_data
 refine Bx hS (Bx hR ⟨jG,?_⟩)
 by_cases ln:us.length=vs'.length
 ·rw [if_pos (by rw [ln])]
  refine⟨k,⟨_,hS⟩,k,⟨_,hR⟩,?_⟩
  refine iR (xs:=us) (ys:=vs') (λi zs H3=>aG H H3/\∃ bs:List Bool,zs=bs.map V.bl/\bs.length=i/\(bs.all id=true↔ds.take i=rs.take i)) ⟨aG.refl _,[],rfl,rfl,by simp⟩ (by omega) (Nat.le_trans (by omega) (show 10^6<=sizeLine by decide)) (λi zs H3 hi ⟨z1,bs,z2,z3,_⟩=>⟨kH hS z1,kH hR z1,by rw [z2,List.length_map,z3];exact Nat.le_refl _⟩) ?_ ?_
  ·rintro i x y zs H3 p3 hx hy ⟨s3,bs,rfl,bl,hb⟩ hp3
   obtain⟨d1,e1,v1⟩:=dd.get hx
   obtain⟨r1,e2,v2⟩:=dr.get hy
   have s4:=ak (o:=.tup [x,y]) hp3
   show sy K 2 _ _ [none,none] _ _
   refine⟨p3,_,rfl,aL.of ag,rfl,?_⟩
   generalize upd H3 p3 _=H4 at *
   k_data
   refine⟨True.intro,x,y,d1,r1,rfl,dv.same (s3.trans s4) _ v1,dv.same (s3.trans s4) _ v2,fV cl e1,vP hr' e2,λb H5 hb1 s5=>⟨(s3.trans s4).trans s5,bs++[b],by rw [List.map_append];rfl,by rw [List.length_append,bl];rfl,?_⟩⟩
   rw [List.all_append,Bool.and_eq_true,hb,List.take_add_one,List.take_add_one,e1,e2]
   have l1:(ds.take i).length=(rs.take i).length:=by
    have:=(List.getElem?_eq_some_iff.mp e1).1
    have:=(List.getElem?_eq_some_iff.mp e2).1
    rw [List.length_take,List.length_take]
    omega
   constructor
   ·rintro⟨h1,h2⟩
    have:b=true:=by simpa using h2
    rw [h1,hb1.mp this]
   ·intro h
    obtain⟨h1,h2⟩:=List.append_inj h l1
    have:d1=r1:=by simpa using h2
    exact⟨h1,by simp [hb1.mpr this]⟩
  ·rintro zs H3 p3 ⟨s3,bs,rfl,bl,hb⟩ hp3
   refine iQ (bs:=bs) (aS.of ag) ?_
   rw [show us.length=ds.length from ul,List.take_length,show ds.length=rs.length by omega,List.take_length] at hb
   exact q _ _ hb (s3.trans (ak hp3))
 ·rw [if_neg (by intro z;have:=V.int.inj z;omega)]
  exact q false H ⟨(λz=>by cases z),λz=>by rw [z] at ul;omega⟩ (aG.refl _)
theorem kR {d:PyData} {i:Int}:(PyData.eqv d (.int i)=true/\jx d=true)↔d=.int i:=by
 constructor
 ·rintro⟨h1,h2⟩
  cases d with
  | int j =>
   have:j=i:=by simpa [PyData.eqv] using h1
   rw [this]
  | _=>simp [jx] at h2
 ·rintro rfl
  exact⟨by simp [PyData.eqv],rfl⟩
theorem gY:aE ["thing","right"] ["thing","right"] (au (top 13)):=dI
theorem vb (D:aC K mg "is_just" (top 13)):Callee P w K mg base aT 1 "is_just" ["thing","right"] (hG K 0):=by
 refine cO D gY (λf cdv A outer s H vs Q E hr h=>?_)
 obtain⟨u,v,d,r,rfl,hu,hv,cl,hs,q⟩:=h
 simp only [rD] at hs
theorem vc {L:Nat} (D:aC K mg "is_just" (top 13)) (c_are_just:Callee P w K mg base aT (2*L+2) "are_just" ["things","rights"] (rF K L)) (c_is_whole:Callee P w K mg base aT 1 "is_whole" ["thing"] (yo K)) (n_isinstance:mg "isinstance"=none) (n_list:mg "list"=none) (n_tuple:mg "tuple"=none):Callee P w K mg base aT (2*L+3) "is_just" ["thing","right"] (hG K (L+1)):=by
 refine cO D gY (λf cdv A outer s H vs Q E hr h=>?_)
 obtain⟨u,v,d,r,rfl,hu,hv,cl,hs,q⟩:=h
 have nd:=gY.nd
 refine⟨_,(aj (aQ (aR (aB aV rfl n_isinstance PyProof.Rows.boot_isinstance (aa (pv 1) (aa (bB (v:=.ty "tuple") rfl n_tuple L2.boot_tuple rfl) af))) (λ_=>rfl)) (ao (ay (bS (aB aV rfl n_isinstance PyProof.Rows.boot_isinstance (aa (pv 0) (aa (bB (v:=.ty "tuple") rfl n_tuple L2.boot_tuple rfl) af))) (cR (aH c_are_just (hr.mono (by omega)) rfl az (aa (pv 0) (aa (pv 1) af))))))) aF) (aj (aQ (aR (aB aV rfl n_isinstance PyProof.Rows.boot_isinstance (aa (pv 1) (aa (bB (v:=.ty "list") rfl n_list L2.boot_list rfl) af))) (λ_=>rfl)) (ao (ay (bS (aB aV rfl n_isinstance PyProof.Rows.boot_isinstance (aa (pv 0) (aa (bB (v:=.ty "list") rfl n_list L2.boot_list rfl) af))) (cR (aH c_are_just (hr.mono (by omega)) rfl az (aa (pv 0) (aa (pv 1) af))))))) aF) (ao (ay (bS (bI (jX hr.units) (pv 0) (pv 1) (ax _)) (cR (bI bp (aH c_is_whole (hr.mono (by omega)) rfl az (aa (pv 0) af)) (aH c_is_whole (hr.mono (by omega)) rfl az (aa (pv 1) af)) (ax _)))))))),?_⟩
 show bZ _ _ _ [some u,some v] H
 k_data
 cases r with
 | tuple rs =>
  simp only [rD] at hs
  refine bM hv ⟨true,aK.mpr rfl,?_⟩
  rw [if_pos rfl]
  refine bM hu ⟨_,rfl,?_⟩
  cases d with
  | tuple ds =>
   rw [if_pos (show zW (.tuple ds)=true from rfl)]
   obtain⟨a,us,rfl,hS,dd⟩:=hu
   obtain⟨c,vs',rfl,hR,dr⟩:=hv
   exact⟨.t,a,c,us,vs',ds,rs,rfl,hS,hR,dd,dr,cl,hs.2,hs.1,λb H' hb s'=>q b H' (hb.trans (by rw [PyData.tuple.injEq])) s'⟩
  | _ =>
   rw [if_neg (by simp [zW])]
   exact q false H ⟨(λz=>by cases z),λz=>by cases z⟩ (aG.refl _)
 | list rs =>
  simp only [rD] at hs
  refine bM hv ⟨false,aK.mpr rfl,?_⟩
  rw [if_neg (by decide)]
  refine cn hv ⟨true,aK.mpr rfl,?_⟩
  rw [if_pos rfl]
  refine cn hu ⟨_,rfl,?_⟩
  cases d with
  | list ds =>
   rw [if_pos (show Bw (.list ds)=true from rfl)]
   obtain⟨a,us,rfl,hS,dd⟩:=hu
   obtain⟨c,vs',rfl,hR,dr⟩:=hv
   exact⟨.l,a,c,us,vs',ds,rs,rfl,hS,hR,dd,dr,cl,hs.2,hs.1,λb H' hb s'=>q b H' (hb.trans (by rw [PyData.list.injEq])) s'⟩
  | _ =>
   rw [if_neg (by simp [Bw])]
   exact q false H ⟨(λz=>by cases z),λz=>by cases z⟩ (aG.refl _)
 | int i =>
  refine bM hv ⟨false,aK.mpr rfl,?_⟩
  rw [if_neg (by decide)]
  refine cn hv ⟨false,aK.mpr rfl,?_⟩
  rw [if_neg (by decide)]
  refine⟨d,.int i,hu,hv,cl,rfl,by simp [PyData.depth],⟨_,rfl,?_⟩⟩
  refine aJ (λc=>?_) (λc=>?_)
  ·refine⟨d,u,rfl,hu,⟨.int i,v,rfl,hv,⟨rfl,?_⟩⟩⟩
   refine q _ H ?_ (aG.refl _)
   rw [<- kR]
   have c':PyData.eqv d (.int i)=true:=by simpa using c
   rw [c']
   cases hw:jx d<;>simp [jx]
  ·refine q false H ⟨(λz=>by cases z),λz=>?_⟩ (aG.refl _)
   have:=(kR.mpr z).1
   exact absurd this (by simpa using c)
 | str z =>
  refine bM hv ⟨false,aK.mpr rfl,?_⟩
  rw [if_neg (by decide)]
  refine cn hv ⟨false,aK.mpr rfl,?_⟩
  rw [if_neg (by decide)]
  simp only [rD] at hs
  refine⟨d,.str z,hu,hv,cl,hs,by simp [PyData.depth],⟨_,rfl,?_⟩⟩
  have es:PyData.eqv d (.str z)=true↔d=.str z:=by cases d<;>simp [PyData.eqv]
  refine aJ (λc=>?_) (λc=>?_)
  ·refine⟨d,u,rfl,hu,⟨.str z,v,rfl,hv,⟨rfl,?_⟩⟩⟩
   refine q _ H ?_ (aG.refl _)
   have c':d=.str z:=es.mp (by simpa using c)
   rw [c']
   simp
  ·exact q false H ⟨(λz=>by cases z),λz=>absurd (es.mpr z) (by simpa using c)⟩ (aG.refl _)
 | _=>simp only [rD] at hs
theorem qW {fi:Addr} (D:aC K mg "is_just" (top 13)) (D2:aC K mg "are_just" (top 14)) (c_is_whole:Callee P w K mg base aT 1 "is_whole" ["thing"] (yo K)) (n_isinstance:mg "isinstance"=none) (n_list:mg "list"=none) (n_tuple:mg "tuple"=none) (n_len:mg "len"=none) (n_zip:mg "zip"=none) (n_all:mg "all"=none):∀ L:Nat,Callee P w K mg base aT (2*L+1) "is_just" ["thing","right"] (hG K L)
 | 0=>vb D
 | L+1=>vc D (vd D2 (qW (fi:=fi) D D2 c_is_whole n_isinstance n_list n_tuple n_len n_zip n_all L) n_len n_zip n_all) c_is_whole n_isinstance n_list n_tuple
theorem BI {n d:Int} (hn:1<n) (d2:2<=d) (no:∀ k,2<=k->k<d->¬k∣n) (h:n<d*d):Num.Pm n:=⟨by omega,λe e2 en hd=>by
 rcases (by omega:e<d∨d<=e) with z | z
 ·exact no e e2 z hd
 ·obtain⟨c,hc⟩:=hd
  have c2:2<=c:=by
   rcases (by omega:c<=0∨c=1∨2<=c) with y | y | y
   ·have:=Int.mul_nonpos_of_nonneg_of_nonpos (show 0<=e by omega) y
    omega
   ·rw [y] at hc
    omega
   ·exact y
  have cd:c<d:=by
   rcases (by omega:c<d∨d<=c) with y | y
   ·exact y
   ·have:=Int.mul_le_mul z y (by omega) (by omega)
    omega
  exact no c c2 cd ⟨e,by rw [hc,Int.mul_comm]⟩⟩
def ly:Sp:=λvs H Q _=>∃ n:Int,vs=[.int n]/\0<=n/\n<=10^60/\∀ b:Bool,(b=true↔Num.Pm n)->Q (.bl b) H
theorem eT:aE ["_law_n","_law_d"] ["_law_n"] (au (top 47)):=dI
theorem sY (D:aC K mg "_law_is_prime" (top 47)) (n_int:mg "int"=none):Callee P w K mg base aT 1 "_law_is_prime" ["_law_n"] ly:=by
 refine cO D eT (λf cdv A outer s H vs Q E hr h=>?_)
 obtain⟨n,rfl,n0,hn,q⟩:=h
 have nd:=eT.nd
 refine⟨_,(aj (dc (i:=1) nd ah) (aj (bY PassesOwn.never (aw nZ (av bo (pv 1) (pv 1)) (pv 0) (ax _)) (aj (aQ (aw bp (av aO (pv 0) (pv 1)) ah (ax _)) (ao (ay cD)) aF) (ao (dc (i:=1) nd (av bf (av bf (pv 1) ah) (c9 rY rfl n_int L2.boot_int (aa (bI c8 (pv 1) ah (ax _)) af))))))) (ao (ay (bI c8 (pv 0) ah (ax _)))))),?_⟩
 show bZ _ _ _ [some (.int n),none] H
 k_data
 refine cf (α:=Int) (λx=>[some (.int n),some (.int x)]) (λx H1=>H1=H/\2<=x/\x<=10^60+3/\(x=2∨x%2=1)/\∀ k,2<=k->k<x->¬k∣n) (λx=>(n+3-x).toNat) 2 rfl ⟨rfl,by decide,by decide,.inl rfl,λk k1 (k2:k<2) hk=>by omega⟩ ?_
 rintro x H1 ⟨rfl,x2,x9,xo,no⟩
 replace x2:2<=x:=x2
 replace x9:x<=10^60+3:=x9
 replace xo:x=2∨x%2=1:=xo
 replace no:∀ k,2<=k->k<x->¬k∣n:=no
 k_data
 refine⟨Bd.of (by omega) (by omega),Bd.of (by omega) (by omega),aJ (λc=>?_) (λc=>?_)⟩
 ·have xx:x*2<=x*x:=Int.mul_le_mul_of_nonneg_left x2 (by omega)
  refine⟨_,λ_ _ z=>z,by omega,aJ (λc1=>?_) (λc1=>?_)⟩
  ·refine q false ⟨λz=>(by cases z),λz=>absurd (Int.dvd_of_emod_eq_zero c1) (z.no x x2 (by omega))⟩
  ·have nx:¬x∣n:=λz=>c1 (Int.emod_eq_zero_of_dvd z)
   rcases xo with rfl | xo
   ·refine⟨3,rfl,rfl,by decide,by decide,.inr (by decide),λk k2 (k3:k<3)=>?_,by omega⟩
    rw [show k=2 by omega]
    exact nx
   ·have x3:2<x:=by omega
    rw [if_pos x3]
    refine⟨x+2,by rw [Int.add_assoc];rfl,rfl,by omega,by omega,.inr (by omega),λk k2 k3=>?_,by omega⟩
    rcases (by omega:k<x∨k=x∨k=x+1) with z | z | z
    ·exact no k k2 z
    ·rw [z];exact nx
    ·intro hk
     exact no 2 (by decide) x3 (Int.dvd_trans (show (2:Int)∣k by omega) hk)
 ·refine q _ ?_
  rw [decide_eq_true_iff]
  exact⟨λz=>BI z x2 no (by omega),λz=>by have:=z.two;omega⟩
def oG:Sp:=λvs H Q _=>∃ n p0:Int,vs=[.int n]/\0<=n/\n<=p0/\Num.Pm p0/\p0<=10^60/\∀ r,Num.Pm r->n<=r->r<=p0->(∀ k,n<=k->k<r->¬Num.Pm k)->Q (.int r) H
theorem gK:aE ["_law_n"] ["_law_n"] (au (top 48)):=dI
theorem tu (D:aC K mg "_law_prime" (top 48)) (c__law_is_prime:Callee P w K mg base aT 1 "_law_is_prime" ["_law_n"] ly):Callee P w K mg base aT 2 "_law_prime" ["_law_n"] oG:=by
 refine cO D gK (λf cdv A outer s H vs Q E hr h=>?_)
 obtain⟨n,p0,rfl,n0,np,pm,p9,q⟩:=h
 have nd:=gK.nd
 refine⟨_,(aj (bY PassesOwn.never (cI (aR (bT c__law_is_prime hr az (aa (pv 0) af)) (λ_=>rfl))) (ao (dc (i:=0) nd (av bf (pv 0) ah)))) (ao (ay (pv 0)))),?_⟩
 show bZ _ _ _ [some (.int n)] H
 k_data
 refine cf (α:=Int) (λx=>[some (.int x)]) (λx H1=>H1=H/\n<=x/\x<=p0/\∀ k,n<=k->k<x->¬Num.Pm k) (λx=>(p0-x).toNat) n rfl ⟨rfl,Int.le_refl _,np,λk k1 k2=>by omega⟩ ?_
 rintro x H1 ⟨rfl,x1,x2,no⟩
 replace x1:n<=x:=x1
 replace x2:x<=p0:=x2
 replace no:∀ k,n<=k->k<x->¬Num.Pm k:=no
 k_data
 refine⟨x,rfl,by omega,by omega,λb hb=>⟨b,aK.mpr rfl,?_⟩⟩
 cases b with
 | true=>exact q x (hb.mp rfl) x1 x2 no
 | false =>
  have nx:¬Num.Pm x:=λz=>by cases hb.mpr z
  have ne:x≠p0:=λz=>nx (z▸pm)
  refine⟨_,λ_ _ z=>z,x+1,rfl,rfl,by omega,by omega,λk k1 k2=>?_,by omega⟩
  rcases (by omega:k<x∨k=x) with z | z
  ·exact no k k1 z
  ·rw [z];exact nx
theorem Tp.more {p:Addr} {n m:Nat} {H:Hp} (h:Tp p n H) (l:n<=m):Tp p m H:=by
 obtain⟨l',i,j,ns,a,b,c,d,e⟩:=h
 exact⟨l',i,j,ns,a,b,c,d,by omega⟩
def vY:Sp:=λvs H Q _=>∃(p:Addr) (m:Int) (n:Nat),vs=[.ref p,.int m]/\Tp p n H/\n<=10^50/\0<m/\∀ r H',0<=r->r<m->Off p H H'->Tp p (n+2) H'->Q (.int r) H'
theorem jc:aE ["_law_tape_here","_law_many"] ["_law_tape_here","_law_many"] (au (top 51)):=dI
theorem xC (D:aC K mg "_law_far" (top 51)) (c__law_draw:Callee P w K mg base aT 1 "_law_draw" ["_law_tape_here","_law_many"] dO):Callee P w K mg base aT 2 "_law_far" ["_law_tape_here","_law_many"] vY:=by
 refine cO D jc (λf cdv A outer s H vs Q E hr h=>?_)
 obtain⟨p,m,n,rfl,tp,n9,m0,q⟩:=h
 have nd:=jc.nd
 refine⟨_,(ao (ay (av aO (av bf (av bo (bT c__law_draw hr az (aa (pv 0) (aa ah af))) ah) (bT c__law_draw hr az (aa (pv 0) (aa ah af)))) (pv 1)))),?_⟩
 show iK _ _ [some (.ref p),some (.int m)] H
 k_data
 refine⟨p,31623,n,rfl,tp,by omega,by decide,by decide,λr1 H1 r10 r11 o1 t1=>⟨_,rfl,Bd.of (by omega) (by omega),uh (by decide),p,31623,n+1,rfl,t1,by omega,by decide,by decide,λr2 H2 r20 r21 o2 t2=>⟨_,rfl,m0,?_⟩⟩⟩
 exact q _ _ (Int.emod_nonneg _ (by omega)) (Int.emod_lt_of_pos _ m0) (o1.trans o2) t2
def iH:Sp:=λvs H Q _=>∃ a b:Nat,vs=[.int a,.int b]/\Q (.int (Nat.gcd a b:Nat)) H
theorem fK:aE ["_law_one","_law_other"] ["_law_one","_law_other"] (au (top 55)):=dI
theorem sW (D:aC K mg "_law_common" (top 55)):Callee P w K mg base aT 1 "_law_common" ["_law_one","_law_other"] iH:=by
 refine cO D fK (λf cdv A outer s H vs Q E hr h=>?_)
 obtain⟨a,b,rfl,q⟩:=h
 have nd:=fK.nd
 refine⟨_,(aj (bY PassesOwn.never (aw c8 (pv 1) ah (ax _)) (ao (iZ (i:=0) (j:=1) rfl nd rfl rfl (by decide) rfl rfl (aa (pv 1) (aa (av aO (pv 0) (pv 1)) af)) rfl))) (ao (ay (pv 0)))),?_⟩
 show bZ _ _ _ [some (.int (a:Int)),some (.int (b:Int))] H
 k_data
 refine cf (α:=Nat × Nat) (λx=>[some (.int (x.1:Int)),some (.int (x.2:Int))]) (λx H'=>H'=H/\Nat.gcd x.1 x.2=Nat.gcd a b) (λx=>x.2) (a,b) rfl ⟨rfl,rfl⟩ ?_
 rintro⟨x,y⟩ H1 ⟨rfl,hg⟩
 replace hg:Nat.gcd x y=Nat.gcd a b:=hg
 k_data
 refine aJ (λc=>?_) (λc=>?_)
 ·have y0:0<y:=by omega
  refine⟨_,λ_ _ z=>z,by omega,(y,x%y),by rw [Int.natCast_emod],rfl,?_,Nat.mod_lt _ y0⟩
  show Nat.gcd y (x%y)=_
  rw [<- hg,Nat.gcd_comm x y,Nat.gcd_rec y x,Nat.gcd_comm]
 ·have y0:y=0:=by omega
  subst y0
  rw [Nat.gcd_zero_right] at hg
  rw [hg]
  exact q
def mI:Sp:=λvs H Q _=>∃(n a:Int) (e:Int),vs=[.int n,.int a,.int e]/\0<n/\n<=10^100 /\ -(10^100)<=a/\a<=10^100/\0<=e/\Q (.int (a^e.toNat%n)) H
theorem gJ:aE ["_law_n","_law_a","_law_e","_law_found"] ["_law_n","_law_a","_law_e"] (au (top 54)):=dI
theorem xE (D:aC K mg "_law_power" (top 54)):Callee P w K mg base aT 1 "_law_power" ["_law_n","_law_a","_law_e"] mI:=by
 refine cO D gJ (λf cdv A outer s H vs Q E hr h=>?_)
 obtain⟨n,a,e,rfl,hn,hn1,a0,a1,he,q⟩:=h
 have nd:=gJ.nd
 refine⟨_,(aj (dc (i:=3) nd (av aO ah (pv 0))) (aj (bY PassesOwn.never (aw c8 (pv 2) ah (ax _)) (aj (cS (aQ (aw bp (av aO (pv 2) ah) ah (ax _)) (ao (dc (i:=3) nd (av aO (av bo (pv 3) (pv 1)) (pv 0)))) aF)) (aj (dc (i:=1) nd (av aO (av bo (pv 1) (pv 1)) (pv 0))) (ao (dc (i:=2) nd (av cT (pv 2) ah)))))) (ao (ay (pv 3))))),?_⟩
 show bZ _ _ _ [some (.int n),some (.int a),some (.int e),none] H
 k_data
 refine⟨hn,?_⟩
 have r0:=λx:Int=>Int.emod_nonneg x (show n≠0 by omega)
 have r1:=λx:Int=>Int.emod_lt_of_pos x hn
 refine cf (α:=Nat × Int × Int) (λx=>[some (.int n),some (.int x.2.2),some (.int (x.1:Int)),some (.int x.2.1)]) (λx H1=>H1=H /\ -(10^100)<=x.2.2/\x.2.2<=10^100/\0<=x.2.1/\x.2.1<n/\x.2.1*x.2.2^x.1%n=a^e.toNat%n) (λx=>x.1) (e.toNat,1%n,a) (by rw [show ((e.toNat:Nat):Int)=e by omega]) ⟨rfl,a0,a1,r0 1,r1 1,?_⟩ ?_
 ·show 1%n*a^e.toNat%n=_
  rw [Pw.uZ,Int.one_mul]
 rintro⟨l,r,b⟩ H1 ⟨rfl,h1,h2,h3,h4,h5⟩
 replace h1:-(10^100)<=b:=h1
 replace h2:b<=10^100:=h2
 replace h3:0<=r:=h3
 replace h4:r<n:=h4
 replace h5:r*b^l%n=a^e.toNat%n:=h5
 k_data
 refine aJ (λc=>?_) (λc=>?_)
 ·refine⟨_,λ_ _ z=>z,λσ' H2=>H2=H1/\σ'=[some (.int n),some (.int b),some (.int (l:Int)),some (.int (if l%2=1 then r*b%n else r))],?_,?_⟩
  ·k_data
   refine aJ (λc=>?_) (λc=>?_)
   ·exact⟨Bd.of (by omega) (by omega),Bd.of (by omega) (by omega),hn,by rw [if_pos (by omega)]⟩
   ·rw [if_neg (by omega)]
  rintro σ' H2 ⟨rfl,rfl⟩
  k_data
  have z0:0<=(if l%2=1 then r*b%n else r)/\(if l%2=1 then r*b%n else r)<n:=by
   split
   ·exact⟨r0 _,r1 _⟩
   ·exact⟨h3,h4⟩
  have b0:=r0 (b*b)
  have b1:=r1 (b*b)
  refine⟨Bd.of (by omega) (by omega),Bd.of (by omega) (by omega),hn,uh (by decide),(l/2,(if l%2=1 then r*b%n else r),b*b%n),rfl,(by show (l:Int)/2=((l/2:Nat):Int);omega),rfl,by show -(10^100)<=b*b%n;omega,by show b*b%n<=10^100;omega,z0.1,z0.2,?_,?_⟩
  ·show (if l%2=1 then r*b%n else r)*(b*b%n)^(l/2)%n=_
   rw [Pw.step]
   exact h5
  ·show l/2<l
   omega
 ·have l0:l=0:=by omega
  subst l0
  rw [Int.pow_zero,Int.mul_one,Int.emod_eq_of_lt h3 h4] at h5
  rw [h5]
  exact q
def rG:Sp:=λvs H Q _=>∃(p0:Addr) (p:Int) (n:Nat),vs=[.ref p0,.int p]/\Tp p0 n H/\n<=10^40/\2<=p/\p<=10^9/\∀ r H',-(10^60)<=r->r<=10^60->bN p0 H H'->Tp p0 (n+5) H'->Q (.int r) H'
theorem fL:aE ["_law_tape_here","_law_p","_law_a"] ["_law_tape_here","_law_p"] (au (top 53)):=dI
theorem vh (D:aC K mg "_law_number" (top 53)) (c__law_draw:Callee P w K mg base aT 1 "_law_draw" ["_law_tape_here","_law_many"] dO) (n_int:mg "int"=none):Callee P w K mg base aT 2 "_law_number" ["_law_tape_here","_law_p"] rG:=by
 refine cO D fL (λf cdv A outer s H vs Q E hr h=>?_)
 obtain⟨p0,p,n,rfl,tp,n9,p2,p9,q⟩:=h
 have nd:=fL.nd
 refine⟨_,(aj (dc (i:=2) nd (av bo (bT c__law_draw hr az (aa (pv 0) (aa (pv 1) af))) (c9 kN rfl n_int L2.boot_int (aa (bI c8 (bT c__law_draw hr az (aa (pv 0) (aa ah af))) ah (ax _)) af)))) (ao (ay (av bf (pv 2) (av bo (pv 1) (aP bA (aW (aa ah (aa ah (aa (av bf ah (bT c__law_draw hr az (aa (pv 0) (aa ah af)))) (aa (av bR (fo dP ah) (bT c__law_draw hr az (aa (pv 0) (aa ah af)))) (aa (av mf ah ah) (aa (fo dP (av mf ah ah)) af))))))) (bT c__law_draw hr az (aa (pv 0) (aa ah af))) (λ_ _=>rfl))))))),?_⟩
 show bZ _ _ _ [some (.ref p0),some (.int p),none] H
 k_data
 refine⟨p0,p,n,rfl,tp,by omega,by omega,by omega,λr1 H1 r10 r11 o1 t1=>⟨p0,8,n+1,rfl,t1,by omega,by decide,by decide,λr2 H2 r20 r21 o2 t2=>?_⟩⟩
 refine⟨r2,rfl,.inr ⟨r1,rfl,Bd.of (by omega) (by omega),?_⟩⟩
 generalize hz:(if 0<r2 then (1:Int) else 0)=z
 have z0:0<=z/\z<=1:=by subst hz;split<;>omega
 have rz0:0<=r1*z:=Int.mul_nonneg r10 z0.1
 have rz1:r1*z<=r1*1:=Int.mul_le_mul_of_nonneg_left z0.2 r10
 refine⟨Bd.of (by omega) (by omega),p0,50,n+2,rfl,t2,by omega,by decide,by decide,λx H3 x0 x1 o3 t3=>⟨x,rfl,p0,50,n+3,rfl,t3,by omega,by decide,by decide,λy H4 y0 y1 o4 t4=>⟨y,rfl,by show 6<=sizeLine;decide,λpl hpl=>?_⟩⟩⟩
 have s5:=ak (o:=.lst [V.int 0,V.int 0,V.int (1+x),V.int (-1-y),V.int 10000000000000000000000000000000000000000000000000,V.int (-10000000000000000000000000000000000000000000000000)]) hpl
 have e5:upd H4 pl (.lst [V.int 0,V.int 0,V.int (1+x),V.int (-1-y),V.int 10000000000000000000000000000000000000000000000000,V.int (-10000000000000000000000000000000000000000000000000)]) pl=some (.lst [V.int 0,V.int 0,V.int (1+x),V.int (-1-y),V.int 10000000000000000000000000000000000000000000000000,V.int (-10000000000000000000000000000000000000000000000000)]):=ag
 generalize upd H4 pl _=H5 at *
 have t5:=t4.same s5
 refine⟨p0,6,n+4,rfl,t5,by omega,by decide,by decide,λj H6 j0 j1 o6 t6=>?_⟩
 have e6:=o6.bJ _ _ (t5.ne e5 (by intro _ z;cases z)) e5
 refine bW (aS.of e6) j0 j1 λv hv=>?_
 have of:bN p0 H H6:=(((o1.trans o2).trans (o3.trans o4)).bJ.trans (.of s5)).trans o6.bJ
 have fin:∀ c:Int,-(10^50)<=c->c<=10^50->∃ x_3,V.int c=V.int x_3/\Bd p/\Bd x_3/\Q (V.int (r1*z+p*x_3)) H6:=λc c0 c1=>by
  have h1:p*c<=p*10^50:=Int.mul_le_mul_of_nonneg_left c1 (by omega)
  have h2:p * -(10^50)<=p*c:=Int.mul_le_mul_of_nonneg_left c0 (by omega)
  exact⟨c,rfl,Bd.of (by omega) (by omega),Bd.of (by omega) (by omega),q _ _ (by omega) (by omega) of t6⟩
 simp only [List.mem_cons,List.not_mem_nil,or_false] at hv
 rcases hv with rfl | rfl | rfl | rfl | rfl | rfl
 ·exact fin _ (by omega) (by omega)
 ·exact fin _ (by omega) (by omega)
 ·exact fin _ (by omega) (by omega)
 ·exact fin _ (by omega) (by omega)
 ·exact fin _ (by omega) (by omega)
 ·exact fin _ (by omega) (by omega)
theorem xX {a d L:Int} (hd:0<d) (h0:-L<=a) (h1:a<=L):-L<=a/d/\a/d<=L:=by
 have L0:0<=L:=by omega
 have h2:L*1<=L*d:=Int.mul_le_mul_of_nonneg_left (show 1<=d by omega) L0
 refine⟨Int.le_ediv_of_mul_le hd (by rw [Int.neg_mul];omega),Int.ediv_le_of_le_mul hd (by omega)⟩
def y7 (K:PySem.W.Frag):Sp:=λvs H Q _=>∃(a:Addr) (ns:List Int),vs=[.ref a]/\aS K H a (ns.map V.int)/\ns.length<=63/\∀ H',Q (.bl true) H'
end
end K
namespace K
open PySem PySem.Spec PyProof.Rows L2
section
variable {P:Program} {w:World} {K:PySem.W.Frag} {mg:Str->Option Value} {base:Heap} {C:Addr}
theorem bN.kt {p:Addr} {n:Nat} {H H':Hp} (h:bN p H H') (t:Tp p n H):∀ a xs,aL K H a xs->aL K H' a xs:=by
 intro a xs z
 rcases z with (z | ⟨o,z⟩) | z
 ·exact .inl (.inl (h _ _ (t.ne z (by intro kvs c;cases c)) z))
 ·exact .inl (.inr ⟨o,h _ _ (t.ne z (by intro kvs c;cases c)) z⟩)
 ·exact .inr z
theorem bN.kl {p:Addr} {n:Nat} {H H':Hp} (h:bN p H H') (t:Tp p n H):∀ a xs,aS K H a xs->aS K H' a xs:=by
 intro a xs z
 rcases z with (z | ⟨o,z⟩) | z
 ·exact .inl (.inl (h _ _ (t.ne z (by intro kvs c;cases c)) z))
 ·exact .inl (.inr ⟨o,h _ _ (t.ne z (by intro kvs c;cases c)) z⟩)
 ·exact .inr z
theorem CO {H:Hp} {d1 d2:PyData} {v:V} (h:dv K H (.tuple [d1,d2]) v):∃ p x1 x2,v=.ref p/\aL K H p [x1,x2]/\dv K H d1 x1/\dv K H d2 x2:=by
 obtain⟨p,xs,rfl,h1,x1,r1,rfl,e1,x2,r2,rfl,e2,z⟩:=h
 cases z
 exact⟨p,x1,x2,rfl,h1,e1,e2⟩
theorem iq {H:Hp}:∀{ns:List Int} {ds:List V},bD K H (ns.map PyData.int) ds->ds=ns.map V.int
 | [],_,h=>h
 | n::ns,_,⟨x,r,e,h,t⟩=>by
  subst e
  rw [iq t,show x=V.int n from h]
  rfl
theorem Tp.mono {p:Addr} {n m:Nat} {H:Hp} (h:Tp p n H) (l:n<=m):Tp p m H:=by
 obtain⟨a,i,j,ns,h1,h2,h3,h4,h5⟩:=h
 exact⟨a,i,j,ns,h1,h2,h3,h4,by omega⟩
theorem dv.bJ {p:Addr} {n:Nat} {H H':Hp} {d:PyData} {x:V} (h:dv K H d x) (o:bN p H H') (t:Tp p n H):dv K H' d x:=dv.fj (o.kt t) (o.kl t) d h
theorem vB {p a:Int} {m:Nat} (hp:Num.Pm p) (o:Num.Ord p a m):¬p∣a:=λz=>by
 have h0:Num.Al p (a^m) 0:=by
  obtain⟨k,hk⟩:∃ k,m=k+1:=⟨m-1,by have:=o.pos;omega⟩
  rw [hk,Int.pow_succ]
  show p∣a^k*a-0
  rw [Int.sub_zero]
  exact Int.dvd_mul_of_dvd_right z
 exact hp.jA (h0.symm.trans o.one)
theorem jY {p a:Int} (hp:Num.Pm p) (na:¬p∣a):∃ m,Num.Ord p a m/\m<=(p-1).toNat:=Num.iY (by have:=hp.two;omega) (Num.iU hp na)
theorem lO {us:List V} {at' lo:Int} (h0:0<=at') (h1:at'<=us.length) (h2:at'<=lo):(bE us none (some at')).length+(bE us (some lo) none).length<=us.length:=by
 unfold bE
 simp only [HT.c5,List.length_take,List.length_drop]
 split<;>split<;>omega
theorem bN.kp {p:Addr} {n:Nat} {H H':Hp} (h:bN p H H') (t:Tp p n H):∀(a:Addr) (xs:List V),H a=some (.lst xs)->H' a=some (.lst xs):=λa xs z=>h _ _ (t.ne z (by intro kvs c;cases c)) z
theorem kQ.bJ {p:Addr} {n:Nat} {H H':Hp} {d:PyData} {x:V} (g:kQ K H d x) (h:bN p H H') (t:Tp p n H):kQ K H' d x:=g.keep (h.kt t) (h.kp t)
theorem GZ.bJ {p:Addr} {n m:Nat} {H H':Hp} {x:V} (g:GZ K m H x) (h:bN p H H') (t:Tp p n H):GZ K m H' x:=g.keep (h.kt t) (h.kp t)
theorem cH.bJ {p:Addr} {n m:Nat} {H H':Hp} {x:List V} (g:cH K m H x) (h:bN p H H') (t:Tp p n H):cH K m H' x:=g.keep (h.kt t) (h.kp t)
theorem PP.ra {d:PyData} (h:PP d):RA d:=by
 cases h with
 | mk p g rows h1 h2=>exact h1
theorem PP.DJ {p g:Int} {rows:List PyData} (h:PP (.tuple [.int p,.int g,.tuple rows])):∀ r∈rows,PP (jk r):=by
 cases h with
 | mk p g rows h1 h2=>exact h2
theorem PP.CP {d:PyData} (h:PP d):∃(p g:Int) (rows:List PyData),d=.tuple [.int p,.int g,.tuple rows]:=by
 cases h with
 | mk p g rows h1 h2=>exact⟨p,g,rows,rfl⟩
theorem xr {p g g':Int} {ps:List (Int × Int)} {ds:Nat->PyData} (p2:2<=p) (hP:Num.Part (p-1) ps) (hds:∀ i q k,ps[i]?=some (q,k)->Num.hW q (ds i)) (h:g'<1∨p<=g'∨¬Num.Ord p g' (p-1).toNat):¬PP (.tuple [.int p,.int g',.tuple (Num.rowsOf ps ds)]):=λz=>by
 obtain⟨h1,h2,h3⟩:=(mr p2 hP hds).mp z
 rcases h with y | y | y
 ·omega
 ·omega
 ·exact y h3
theorem BR {p g:Int} (pm:Num.Pm p) (p3:2<p) (ng:¬p∣g):¬Num.Ord p (g*g%p) (p-1).toNat:=λo=>by
 have podd:(p-1)%2=0:=by
  rcases (by omega:p%2=0∨p%2=1) with z | z
  ·exact absurd (Int.dvd_of_emod_eq_zero z) (pm.no 2 (by decide) p3)
  ·omega
 have fm:=Num.iU pm ng
 have h1:Num.Al p ((g*g%p)^((p-1)/2).toNat) 1:=by
  have e1:Num.Al p (g*g%p) (g*g):=Num.Al.iff.mpr (Int.emod_emod _ _)
  refine (e1.pow _).trans ?_
  have:g*g=g^2:=by rw [Int.pow_succ,Int.pow_succ,Int.pow_zero,Int.one_mul]
  rw [this,<- Int.pow_mul,show 2*((p-1)/2).toNat=(p-1).toNat by omega]
  exact fm
 have:=Nat.le_of_dvd (by omega) (o.dv _ h1)
 omega
theorem ux {m:Nat}:∀{rows:List PyData} {e t:Int},CT m e t rows->1<=e
 | [],e,t,h=>by
  have h1:e=1:=h
  omega
 | d::ds,e,t,h=>h.1
theorem qC:∀{rows:List PyData} {l l' t:Int},CT 2 l t rows->CT 2 l' t rows->l=l'
 | [],l,l',t,h,h'=>by
  have h1:l=1:=h
  have h2:l'=1:=h'
  omega
 | d::ds,l,l',t,⟨_,p,g,k,rs,more,e1,e2,e3,e4,e5,r,e6,e7⟩,⟨_,p',g',k',rs',more',f1,f2,f3,f4,f5,r',f6,f7⟩=>by
  rw [e1] at f1
  simp only [PyData.tuple.injEq,List.cons.injEq,PyData.int.injEq] at f1
  obtain⟨⟨rfl,rfl,rfl,_⟩,rfl,rfl⟩:=f1
  obtain rfl:=qC e7 f7
  have r1:=ux e7
  have h1:l=p^k.toNat*r:=by
   rcases e6 with⟨_,z⟩|⟨_,z⟩
   ·exact z
   ·omega
  have h2:l'=p^k.toNat*r:=by
   rcases f6 with⟨_,z⟩|⟨_,z⟩
   ·exact z
   ·omega
  rw [h1,h2]
theorem eO {p g:Int} {rows:List PyData} (h:PP (.tuple [.int p,.int g,.tuple rows])):CT 2 (p-1) 1 rows:=by
 obtain⟨p',g',rows',e,_,_,_,h1,_⟩:=h.ra
 simp only [PyData.tuple.injEq,List.cons.injEq,PyData.int.injEq] at e
 obtain⟨rfl,rfl,rfl,_⟩:=e
 exact h1
theorem nU {p p' g g':Int} {rows:List PyData} (h:CT 2 (p-1) 1 rows) (ne:p'≠p):¬PP (.tuple [.int p',.int g',.tuple rows]):=λz=>ne (by have:=qC h (eO z);omega)
theorem rm {q:Int} (h:2<=q) {m n:Nat} (l:m<n):q^m<q^n:=by
 obtain⟨j,rfl⟩:∃ j,n=m+1+j:=⟨n-m-1,by omega⟩
 clear l
 induction j with
 | zero =>
  rw [Nat.add_zero,Int.pow_succ]
  have h1:=Num.bC (show 0<q by omega) m
  have h2:q^m*2<=q^m*q:=Int.mul_le_mul_of_nonneg_left h (by omega)
  omega
 | succ j ih =>
  rw [show m+1+(j+1)=m+1+j+1 by omega,Int.pow_succ]
  have h1:=Num.bC (show 0<q by omega) (m+1+j)
  have h2:q^(m+1+j)*2<=q^(m+1+j)*q:=Int.mul_le_mul_of_nonneg_left h (by omega)
  omega
theorem rh {q:Int} (h:1<=q):∀{k:Nat},1<=k->q^k<(q+1)^k
 | 0,z=>by omega
 | 1,_=>by
  rw [Int.pow_succ,Int.pow_zero,Int.pow_succ,Int.pow_zero]
  omega
 | k+2,_=>by
  have ih:=rh h (k:=k+1) (by omega)
  rw [Int.pow_succ q,Int.pow_succ (q+1)]
  have h1:=Num.bC (show 0<q by omega) (k+1)
  have h2:q^(k+1)*q<=(q+1)^(k+1)*q:=Int.mul_le_mul_of_nonneg_right (by omega) (by omega)
  have h3:(q+1)^(k+1)*(q+1)=(q+1)^(k+1)*q+(q+1)^(k+1):=by rw [Int.mul_add,Int.mul_one]
  omega
theorem dh {l t:Int} {d:PyData} {ds:List PyData} (h:CT 2 l t (d::ds)):∃(p g k r:Int) (rs:List PyData),d=.tuple [.tuple [.int p,.int g,.tuple rs],.int k]/\2<=p/\1<=k/\t<p/\1<=r/\l=p^k.toNat*r/\CT 2 r p ds:=by
 obtain⟨_,p,g,k,rs,more,e1,e2,e3,e4,e5,r,e6,e7⟩:=h
 have m0:more=[]:=List.length_eq_zero_iff.mp (by omega)
 subst m0
 have r1:=ux e7
 refine⟨p,g,k,r,rs,e1,e3,e4,e5,r1,?_,e7⟩
 rcases e6 with⟨_,z⟩|⟨_,z⟩
 ·exact z
 ·omega
theorem dG {p g k p' g' k':Int} {rs rs':List PyData} (h:PyData.tuple [.tuple [.int p,.int g,.tuple rs],.int k]=.tuple [.tuple [.int p',.int g',.tuple rs'],.int k']):p=p'/\g=g'/\k=k'/\rs=rs':=by
 simp only [PyData.tuple.injEq,List.cons.injEq,PyData.int.injEq,and_true] at h
 obtain⟨⟨rfl,rfl,rfl⟩,rfl⟩:=h
 exact⟨rfl,rfl,rfl,rfl⟩
theorem lN:∀{rows:List PyData} {l l' t t':Int},CT 2 l t rows->CT 2 l' t' rows->l=l'
 | [],l,l',t,t',h,h'=>by
  have h1:l=1:=h
  have h2:l'=1:=h'
  omega
 | d::ds,l,l',t,t',h,h'=>by
  obtain⟨p,g,k,r,rs,e1,p2,k1,tp,r1,el,hc⟩:=dh h
  obtain⟨p',g',k',r',rs',e1',p2',k1',tp',r1',el',hc'⟩:=dh h'
  rw [e1] at e1'
  obtain⟨rfl,rfl,rfl,rfl⟩:=dG e1'
  rw [el,el',lN hc hc']
theorem uw:∀{l1 m m':List PyData} {l t:Int},CT 2 l t (l1++m)->CT 2 l t (l1++m')->∃ l' t',CT 2 l' t' m/\CT 2 l' t' m'
 | [],m,m',l,t,h,h'=>⟨l,t,h,h'⟩
 | d::l1,m,m',l,t,h,h'=>by
  obtain⟨p,g,k,r,rs,e1,p2,k1,tp,r1,el,hc⟩:=dh h
  obtain⟨p',g',k',r',rs',e1',p2',k1',tp',r1',el',hc'⟩:=dh h'
  rw [e1] at e1'
  obtain⟨rfl,rfl,rfl,rfl⟩:=dG e1'
  have pp:=Num.bC (show 0<p by omega) k.toNat
  have:r=r':=Int.eq_of_mul_eq_mul_left (show p^k.toNat≠0 by omega) (by rw [<- el,el'])
  subst this
  exact uw hc hc'
section
variable {q g k l t:Int} {rs l2:List PyData}
theorem nV (h:CT 2 l t (.tuple [.tuple [.int q,.int g,.tuple rs],.int k]::l2)) {k':Int} (ne:k'≠k):¬CT 2 l t (.tuple [.tuple [.int q,.int g,.tuple rs],.int k']::l2):=λh'=>by
 obtain⟨p,g1,k1,r,rs1,e1,p2,kp,tp,r1,el,hc⟩:=dh h
 obtain⟨p',g1',k1',r',rs1',e1',p2',kp',tp',r1',el',hc'⟩:=dh h'
 obtain⟨rfl,rfl,rfl,rfl⟩:=dG e1
 obtain⟨rfl,rfl,rfl,_⟩:=dG e1'
 have:=lN hc hc'
 subst this
 have hp:q^k.toNat=q^k'.toNat:=Int.eq_of_mul_eq_mul_right (show r≠0 by omega) (by rw [<- el,el'])
 have:k.toNat=k'.toNat:=by
  rcases Nat.lt_trichotomy k.toNat k'.toNat with z | z | z
  ·have:=rm (show 2<=q by omega) z;omega
  ·exact z
  ·have:=rm (show 2<=q by omega) z;omega
 omega
theorem xt (h:CT 2 l t (.tuple [.tuple [.int q,.int g,.tuple rs],.int k]::l2)):¬CT 2 l t l2:=λh'=>by
 obtain⟨p,g1,k1,r,rs1,e1,p2,kp,tp,r1,el,hc⟩:=dh h
 obtain⟨rfl,rfl,rfl,rfl⟩:=dG e1
 have:=lN hc h'
 subst this
 have h1:q^0<q^k.toNat:=rm (show 2<=q by omega) (show 0<k.toNat by omega)
 rw [Int.pow_zero] at h1
 have h2:2*r<=q^k.toNat*r:=Int.mul_le_mul_of_nonneg_right (by omega) (by omega)
 omega
theorem u5 (h:CT 2 l t (.tuple [.tuple [.int q,.int g,.tuple rs],.int k]::l2)):¬CT 2 l t (.tuple [.tuple [.int q,.int g,.tuple rs],.int k]::.tuple [.tuple [.int q,.int g,.tuple rs],.int k]::l2):=λh'=>by
 obtain⟨p',g1',k1',r',rs1',e1',p2',kp',tp',r1',el',hc'⟩:=dh h'
 obtain⟨rfl,rfl,rfl,rfl⟩:=dG e1'
 obtain⟨p,g1,k1,r,rs1,e1,p2,kp,tp,r1,el,hc⟩:=dh hc'
 obtain⟨rfl,rfl,rfl,rfl⟩:=dG e1
 omega
theorem xu (h:CT 2 l t (.tuple [.tuple [.int q,.int g,.tuple rs],.int k]::l2)):¬CT 2 l t (.tuple [.tuple [.int (q+1),.int g,.tuple rs],.int k]::l2):=λh'=>by
 obtain⟨p,g1,k1,r,rs1,e1,p2,kp,tp,r1,el,hc⟩:=dh h
 obtain⟨p',g1',k1',r',rs1',e1',p2',kp',tp',r1',el',hc'⟩:=dh h'
 obtain⟨rfl,rfl,rfl,rfl⟩:=dG e1
 obtain⟨rfl,rfl,rfl,_⟩:=dG e1'
 have:=lN hc hc'
 subst this
 have hp:q^k.toNat=(q+1)^k.toNat:=Int.eq_of_mul_eq_mul_right (show r≠0 by omega) (by rw [<- el,el'])
 have:=rh (show 1<=q by omega) (show 1<=k.toNat by omega)
 omega
end
end
end K
namespace K
open PySem PySem.Spec PyProof.Rows L2
section
variable {P:Program} {w:World} {K:PySem.W.Frag} {mg:Str->Option Value} {base:Heap} {C:Addr}
theorem iw {p g:Int} {l1 l2 m:List PyData} {row:PyData} (hc:CT 2 (p-1) 1 (l1++row::l2)) (hno:∀ l t,CT 2 l t (row::l2)->¬CT 2 l t (m++l2)):¬PP (.tuple [.int p,.int g,.tuple (l1++m++l2)]):=λz=>by
 have h1:=eO z
 rw [List.append_assoc] at h1
 obtain⟨l,t,h2,h3⟩:=uw hc h1
 exact hno l t h2 h3
theorem nS {p g:Int} {rows:List PyData} {row:PyData} (hr:row∈rows) (hn:¬PP (jk row)):¬PP (.tuple [.int p,.int g,.tuple rows]):=λz=>hn (z.DJ row hr)
theorem qU {p g:Int} {rows:List PyData} {row:PyData} (hr:row∈rows) (hn:∀ q g' k rs,row≠.tuple [.tuple [.int q,.int g',.tuple rs],.int k]):¬PP (.tuple [.int p,.int g,.tuple rows]):=λz=>by
 obtain⟨q,g',k,rs,more,e,_,_,hm⟩:=fW (eO z) row hr
 have m0:more=[]:=List.length_eq_zero_iff.mp (by omega)
 subst m0
 exact hn q g' k rs e
theorem u4 {p g:Int} {rows:List PyData} (h:g<1∨p<=g):¬PP (.tuple [.int p,.int g,.tuple rows]):=λz=>by
 obtain⟨p',g',rows',e,_,h1,h2,_⟩:=z.ra
 simp only [PyData.tuple.injEq,List.cons.injEq,PyData.int.injEq] at e
 obtain⟨rfl,rfl,_⟩:=e
 omega
theorem ba {d:PyData} (h:∀ p g rows,d≠.tuple [.int p,.int g,.tuple rows]):¬PP d:=λz=>by
 obtain⟨p,g,rows,e⟩:=z.CP
 exact h p g rows e
theorem qB:∀{l1:List PyData} {l l' t t':Int} {row:PyData},CT 2 l t l1->CT 2 l' t' (l1++[row])->l<l'
 | [],l,l',t,t',row,h,h'=>by
  have h1:l=1:=h
  obtain⟨p,g,k,r,rs,e1,p2,k1,tp,r1,el,hc⟩:=dh h'
  have h3:p^0<p^k.toNat:=rm p2 (show 0<k.toNat by omega)
  rw [Int.pow_zero] at h3
  have h4:r=1:=hc
  rw [el,h4,Int.mul_one]
  omega
 | d::ds,l,l',t,t',row,h,h'=>by
  obtain⟨p,g,k,r,rs,e1,p2,k1,tp,r1,el,hc⟩:=dh h
  obtain⟨p',g',k',r',rs',e1',p2',k1',tp',r1',el',hc'⟩:=dh h'
  rw [e1] at e1'
  obtain⟨rfl,rfl,rfl,rfl⟩:=dG e1'
  have ih:=qB hc hc'
  have pp:=Num.bC (show 0<p by omega) k.toNat
  rw [el,el']
  exact Int.mul_lt_mul_of_pos_left ih pp
theorem sU {p g:Int} {rows:List PyData} {row:PyData} (h:CT 2 (p-1) 1 rows):¬PP (.tuple [.int p,.int g,.tuple (rows++[row])]):=λz=>by
 have:=qB h (eO z)
 omega
end
end K
namespace K
open PySem PySem.Spec PyProof.Rows L2
mutual
theorem yK:∀(d:PyData),gd d->jt d
 | .none,_=>by simp only [jt]
 | .bool _,_=>by simp only [jt]
 | .int i,h=>by
  simp only [gd] at h
  simp only [jt]
  omega
 | .str _,_=>by simp only [jt]
 | .list ds,h=>by
  simp only [gd] at h
  simp only [jt]
  exact pI ds h
 | .tuple ds,h=>by
  simp only [gd] at h
  simp only [jt]
  exact pI ds h
 | .dict _,_=>by simp only [jt]
theorem pI:∀(ds:List PyData),cw ds->eZ ds
 | [],_=>by simp only [eZ]
 | d::ds,h=>by
  simp only [cw] at h
  simp only [eZ]
  exact⟨yK d h.1,pI ds h.2⟩
end
theorem vC {n:Int} {d:PyData} (h:Num.hW n d):gd d:=by
 induction h with
 | mk n g ps ds h1 h2 h3 h4 h5 h6 ih =>
  have n2:=h1.two
  have g1:=h3.one
  have gn:=h3.lt
  simp only [gd,cw,and_true]
  refine⟨⟨by omega,by omega⟩,⟨by omega,by omega⟩,fe.mpr λr hr=>?_⟩
  obtain⟨i,q,k,h,rfl⟩:=fJ hr
  have h8:=h4.ok _ (List.mem_of_getElem? h)
  simp only [gd,cw,and_true]
  refine⟨ih i q k h,?_,?_⟩
  ·have:1<=k:=h8.2.1
   omega
  ·have:k<=30:=h8.2.2
   omega
theorem vS {rows:List PyData} {i:Nat} {row:PyData} (h:rows[i]?=some row):rows=rows.take i++row::rows.drop (i+1):=by
 have hi:=(List.getElem?_eq_some_iff.mp h)
 obtain⟨h1,h2⟩:=hi
 rw [<- h2]
 simp
theorem jw {l m:List PyData}:cw (l++m)↔cw l/\cw m:=by
 rw [fe,fe,fe]
 constructor
 ·exact λh=>⟨λd hd=>h d (List.mem_append_left _ hd),λd hd=>h d (List.mem_append_right _ hd)⟩
 ·rintro⟨h1,h2⟩ d hd
  rcases List.mem_append.mp hd with z | z
  ·exact h1 d z
  ·exact h2 d z
end K
namespace K
open PySem PySem.Spec PyProof.Rows L2
section
variable {K:PySem.W.Frag}
def Op (K:PySem.W.Frag) (H:Hp) (p g:Int) (l1 l2:List PyData) (N:Nat) (v:V):Prop:=∃ m,dv K H (.tuple m) v/\cw m/\aN m<=N/\¬PP (.tuple [.int p,.int g,.tuple (l1++m++l2)])
theorem Op.same {H H':Hp} {p g:Int} {l1 l2:List PyData} {N:Nat} {v:V} (h:Op K H p g l1 l2 N v) (s:aG H H'):Op K H' p g l1 l2 N v:=by
 obtain⟨m,h1,h2⟩:=h
 exact⟨m,dv.same s _ h1,h2⟩
theorem Op.bJ {t:Addr} {n:Nat} {H H':Hp} {p g:Int} {l1 l2:List PyData} {N:Nat} {v:V} (h:Op K H p g l1 l2 N v) (o:bN t H H') (tt:Tp t n H):Op K H' p g l1 l2 N v:=by
 obtain⟨m,h1,h2⟩:=h
 exact⟨m,dv.bJ h1 o tt,h2⟩
section
variable {J:Hp} {p g q g' k:Int} {rs l1 l2:List PyData} {N:Nat}
theorem uI {a:Addr} {x:V} {d:PyData} (h:aL K J a [x]) (hx:dv K J d x):dv K J (.tuple [d]) (.ref a):=⟨a,[x],rfl,h,x,[],rfl,hx,rfl⟩
theorem fB {a:Addr} {x y:V} {d e:PyData} (h:aL K J a [x,y]) (hx:dv K J d x) (hy:dv K J e y):dv K J (.tuple [d,e]) (.ref a):=⟨a,[x,y],rfl,h,x,[y],rfl,hx,y,[],rfl,hy,rfl⟩
theorem bQ {a:Addr} {x y z:V} {d e f:PyData} (h:aL K J a [x,y,z]) (hx:dv K J d x) (hy:dv K J e y) (hz:dv K J f z):dv K J (.tuple [d,e,f]) (.ref a):=⟨a,[x,y,z],rfl,h,x,[y,z],rfl,hx,y,[z],rfl,hy,z,[],rfl,hz,rfl⟩
theorem wX {a:Addr} {x y:V} {d e:PyData} (h:aS K J a [x,y]) (hx:dv K J d x) (hy:dv K J e y):dv K J (.list [d,e]) (.ref a):=⟨a,[x,y],rfl,h,x,[y],rfl,hx,y,[],rfl,hy,rfl⟩
theorem iX {a:Addr} {x:V} {d:PyData} (h:aL K J a [x]) (hd:dv K J d x) (gdd:gd d) (sz:bO d<=N) (np:¬PP (.tuple [.int p,.int g,.tuple (l1++[d]++l2)])):Op K J p g l1 l2 N (.ref a):=⟨[d],uI h hd,by simp only [cw,and_true];exact gdd,by simp only [aN];omega,np⟩
theorem Af (hc:CT 2 (p-1) 1 (l1++.tuple [.tuple [.int q,.int g',.tuple rs],.int k]::l2)) (gr:gd (.tuple [.tuple [.int q,.int g',.tuple rs],.int k])) (q9:q<=10^9) (k0:1<=k) (k9:k<=10^9) {pi a1 a2 a3 a4 a5 a6 a7 a8 a9 a10 b3 b4 b5 b6 b7 b8:Addr} {vr vw:V} (hi:dv K J (.tuple [.int q,.int g',.tuple rs]) (.ref pi)) (hr:dv K J (.tuple rs) vr) (hw:dv K J (.tuple [.tuple [.int q,.int g',.tuple rs],.int k]) vw)
  (A1:aL K J a1 [.ref pi,.int (k+1)]) (A2:aL K J a2 [.ref a1]) (A3:aL K J a3 []) (A4:aL K J a4 [.ref pi,.int (k-1)]) (A5:aL K J a5 [.ref a4]) (A6:aL K J a6 [.int q,.int 0,vr]) (A7:aL K J a7 [.ref a6,.int k]) (A8:aL K J a8 [.ref a7]) (A9:aL K J a9 [.cj,.int k]) (A10:aL K J a10 [.ref a9]) (B3:aL K J b3 [.int (q+1),.int g',vr]) (B4:aL K J b4 [.ref b3,.int k]) (B5:aL K J b5 [.ref b4]) (B6:aL K J b6 [vw,vw]) (B7:aS K J b7 [.ref pi,.int k]) (B8:aL K J b8 [.ref b7]) :
  ∀ x∈[V.ref a2,.ref a3,.ref a5,.ref a8,.ref a10,.ref b5,.ref b6,.ref b8],Op K J p g l1 l2 (2*bO (.tuple [.tuple [.int q,.int g',.tuple rs],.int k])+18) x:=by
 have gr':=gr
 simp only [gd,cw,and_true] at gr'
 obtain⟨⟨⟨gq0,gq1⟩,⟨gg0,gg1⟩,grs⟩,gk0,gk1⟩:=gr'
 have zi:∀ i:Int,bO (.int i)=1:=λi=>by simp only [bO]
 have hz:bO (.tuple [.tuple [.int q,.int g',.tuple rs],.int k])=1+(1+(1+(1+(1+aN rs+0)))+(1+0)):=by simp only [bO,aN]
 have I:∀ i:Int,dv K J (.int i) (.int i):=λi=>rfl
 intro x hx
 simp only [List.mem_cons,List.not_mem_nil,or_false] at hx
 rcases hx with rfl | rfl | rfl | rfl | rfl | rfl | rfl | rfl
 ·refine iX A2 (fB A1 hi (I _)) ?_ ?_ (iw hc λl t h=>nV h (k':=k+1) (by omega))
  ·simp only [gd,cw,and_true];exact⟨⟨⟨gq0,gq1⟩,⟨gg0,gg1⟩,grs⟩,by omega,by omega⟩
  ·rw [hz];simp only [bO,aN];omega
 ·exact⟨[],⟨a3,[],rfl,A3,rfl⟩,by simp only [cw],by simp only [aN];omega,iw hc λl t h=>xt h⟩
 ·refine iX A5 (fB A4 hi (I _)) ?_ ?_ (iw hc λl t h=>nV h (k':=k-1) (by omega))
  ·simp only [gd,cw,and_true];exact⟨⟨⟨gq0,gq1⟩,⟨gg0,gg1⟩,grs⟩,by omega,by omega⟩
  ·rw [hz];simp only [bO,aN];omega
 ·refine iX A8 (fB A7 (bQ A6 (I _) (I _) hr) (I _)) ?_ ?_ (nS (row:=.tuple [.tuple [.int q,.int 0,.tuple rs],.int k]) (by simp) (u4 (.inl (by decide))))
  ·simp only [gd,cw,and_true];exact⟨⟨⟨gq0,gq1⟩,by decide,grs⟩,by omega,by omega⟩
  ·rw [hz];simp only [bO,aN];omega
 ·refine iX A10 (fB A9 (show dv K J .none .cj from rfl) (I _)) ?_ ?_ (qU (row:=.tuple [.none,.int k]) (by simp) (λq g k rs h=>by simp at h))
  ·simp only [gd,cw,and_true,true_and];exact⟨by omega,by omega⟩
  ·rw [hz];simp only [bO,aN];omega
 ·refine iX B5 (fB B4 (bQ B3 (I _) (I _) hr) (I _)) ?_ ?_ (iw hc λl t h=>xu h)
  ·simp only [gd,cw,and_true];exact⟨⟨⟨by omega,by omega⟩,⟨gg0,gg1⟩,grs⟩,by omega,by omega⟩
  ·rw [hz];simp only [bO,aN];omega
 ·refine⟨_,fB B6 hw hw,by simp only [cw,and_true];exact⟨gr,gr⟩,by rw [hz];simp only [bO,aN];omega,iw hc λl t h=>u5 h⟩
 ·refine iX B8 (wX B7 hi (I _)) ?_ ?_ (qU (row:=.list [.tuple [.int q,.int g',.tuple rs],.int k]) (by simp) (λq g k rs h=>by simp at h))
  ·simp only [gd,cw,and_true];exact⟨⟨⟨gq0,gq1⟩,⟨gg0,gg1⟩,grs⟩,by omega,by omega⟩
  ·rw [hz];simp only [bO,aN];omega
end
end
end K
namespace K
open PySem PySem.Spec PyProof.Rows L2
section
variable {K:PySem.W.Frag}
theorem nh {us:List V} {m:Nat} (h:m<=us.length):bE us none (some (m:Int))=us.take m:=by
 unfold bE
 have e1:HT.c5 us.length 0 none=0:=rfl
 have e2:HT.c5 us.length us.length (some (m:Int))=m:=by
  simp only [HT.c5]
  split<;>omega
 rw [e1,e2,List.drop_zero,Nat.sub_zero]
theorem uy {us:List V} {m:Nat} (h:m<=us.length):bE us (some (m:Int)) none=us.drop m:=by
 unfold bE
 have e1:HT.c5 us.length us.length none=us.length:=rfl
 have e2:HT.c5 us.length 0 (some (m:Int))=m:=by
  simp only [HT.c5]
  split<;>omega
 rw [e1,e2]
 exact List.take_of_length_le (by rw [List.length_drop];omega)
theorem nE {H:Hp}:∀{ds:List PyData} {us:List V} (n:Nat),bD K H ds us->bD K H (ds.take n) (us.take n)
 | _,_,0,_=>by rw [List.take_zero,List.take_zero];rfl
 | [],_,n+1,h=>by cases h;rfl
 | d::ds,_,n+1,⟨x,r,e,h,t⟩=>by subst e;exact⟨x,_,rfl,h,nE n t⟩
theorem nA {H:Hp}:∀{ds:List PyData} {us:List V} (n:Nat),bD K H ds us->bD K H (ds.drop n) (us.drop n)
 | _,_,0,h=>h
 | [],_,n+1,h=>by cases h;rfl
 | d::ds,_,n+1,⟨x,r,e,h,t⟩=>by subst e;exact nA n t
theorem put3 {H8:Hp} {pr c1 cm:Addr} {us zs:List V} {an:Nat} {p g:Int} {rows m:List PyData} {Q:VK} (hS:aL K H8 pr us) (hd:bD K H8 rows us) (hc:aL K H8 c1 (us.take an)) (hm:aL K H8 cm zs) (dm:bD K H8 m zs) (ul:us.length<=1000) (zl:zs.length<=1000) (al:an<us.length) (q:∀ y H',aG H8 H'->dv K H' (.tuple [.int p,.int g,.tuple (rows.take an++m++rows.drop (an+1))]) y->Q y H'):lj K (.ref c1) (.ref cm) H8 λx H1=>vQ K (.ref pr) (some ((an:Int)+1)) none H1 λy H2=>lj K x y H2 λz H3=>[V.int p,V.int g,z].length<=sizeLine/\∀ a,H3 a=none->Q (.ref a) (upd H3 a (.tup [.int p,.int g,z])):=by
 have sz:3000<=sizeLine:=by decide
 have l1:(us.take an).length<=1000:=Nat.le_trans (List.length_take_le' ..) ul
 refine⟨c1,cm,_,_,rfl,rfl,hc,hm,by omega,λp3 H3 s3 h3=>⟨pr,us,rfl,hS.same s3,λp4 H4 s4 h4=>?_⟩⟩
 rw [show ((an:Int)+1)=((an+1:Nat):Int) by omega,uy (by omega)] at h4
 have l4:(us.drop (an+1)).length<=1000:=by rw [List.length_drop];omega
 refine⟨p3,p4,_,_,rfl,rfl,h3.same s4,h4,by rw [List.length_append];omega,λp5 H5 s5 h5=>⟨by show 3<=sizeLine;decide,λp6 hp6=>?_⟩⟩
 have s6:=ak (o:=.tup [V.int p,V.int g,V.ref p5]) hp6
 have S:=s3.trans (s4.trans (s5.trans s6))
 refine q _ _ S (bQ (aL.of ag) rfl rfl ⟨p5,_,rfl,h5.same s6,?_⟩)
 exact ((nE _ (bD.same S _ hd)).append (bD.same S _ dm)).append (nA _ (bD.same S _ hd))
end
end K
namespace K
open PySem PySem.Spec PyProof.Rows L2
section
variable {P:Program} {w:World} {K:PySem.W.Frag} {mg:Str->Option Value} {base:Heap} {C:Addr}
def fQ (K:PySem.W.Frag) (L:Nat):Sp:=λvs H Q _=>∃(t:Addr) (n:Nat) (v:V) (p:Int) (d:PyData),vs=[.ref t,v]/\Tp t n H/\n+2*L<=10^46/\dv K H d v/\Num.hW p d/\Num.Ht L p/\∀ d' y H',¬PP d'->gd d'->bO d'<=2*bO d+20->bN t H H'->Tp t (n+2*L) H'->dv K H' d' y->Q y H'
def DD (H:Hp) (t pv pr:Addr) (p g:Int) (n:Nat) (σ':L2.St) (H':Hp):Prop:=σ'=[some (.ref t),some (.ref pv),some (.int p),some (.int g),some (.ref pr),none,none,none,none,none]/\bN t H H'/\Tp t n H'
def DE (H3:Hp) (way:Int) (s0:L2.St) (σ':L2.St) (H':Hp):Prop:=σ'=s0/\H'=H3/\way<=7
theorem cW:aE ["_law_tape_here","_law_paper","_law_p","_law_full","_law_parts","_law_at","_law_inner","_law_many","_law_some","_law_way"] ["_law_tape_here","_law_paper"] (au (top 63)):=dI
theorem qa {L:Nat} (lL:L<=40) (D:aC K mg "_law_bent_within" (top 63)) (c__law_draw:Callee P w K mg base aT 1 "_law_draw" ["_law_tape_here","_law_many"] dO) (c__law_bent_within:Callee P w K mg base aT (L+2) "_law_bent_within" ["_law_tape_here","_law_paper"] (fQ K L)) (n_len:mg "len"=none):Callee P w K mg base aT (L+3) "_law_bent_within" ["_law_tape_here","_law_paper"] (fQ K (L+1)):=by
 refine cO D cW (λf cdv A outer s H vs Q E hr h=>?_)
 obtain⟨t,n,v,p,d,rfl,tt,n9,hv,hp,hH,q⟩:=h
 obtain⟨pm,p9⟩:=lg hp
 have p2:=pm.two
 have gdd:=vC hp
 obtain⟨g,ps,ds,rfl,hg,hP,l29,hds⟩:=jC hp
 have g1:=hg.one
 have gp:=hg.lt
 have hct:CT 2 (p-1) 1 (Num.rowsOf ps ds):=eO ((mr p2 hP hds).mpr ⟨hg.one,hg.lt,hg.ord⟩)
 have grw:cw (Num.rowsOf ps ds):=by
  simp only [gd,cw,and_true] at gdd
  exact gdd.2.2
 have nd:=cW.nd
 refine⟨_,(@aj _ _ _ _ _ (eG (pv 1) (eF (n:=3) rfl (aM (aI (i:=2) nd rfl (Or.inl rfl) (.inr rfl)) (aM (aI (i:=3) nd rfl (Or.inl rfl) (.inr rfl)) (aM (aI (i:=4) nd rfl (Or.inl rfl) (.inr rfl)) cU))))) (@aj _ _ _ _ _ (cS (@aQ _ _ _ _ _ _ _ _ (@aw _ _ _ _ _ _ _ _ (jX hr.units) (pv 4) (@aD _ _ _ _ _ af) (ax _)) (@ao _ _ _ (@ay _ _ _ _ (@aD _ _ _ _ _ (@aa _ _ _ _ _ (pv 2) (@aa _ _ _ _ _ ah (@aa _ _ _ _ _ (@aD _ _ _ _ _ af) af (by rfl)) (by rfl)) (by rfl))))) aF)) (@aj _ _ _ _ _ (@bF _ _ 5 _ _ _ _ nd rfl (Or.inl rfl) (@aH _ _ _ _ _ _ _ _ _ _ _ _ c__law_draw (hr.mono (by omega)) rfl az (@aa _ _ _ _ _ (pv 0) (@aa _ _ _ _ _ (@aB _ _ _ _ _ _ _ _ _ aU rfl n_len PySem.boot_len (@aa _ _ _ _ _ (pv 4) af (by rfl)) (by decide) (by decide) (by rfl) (by rfl)) af (by rfl)) (by rfl)) (by decide) (by rfl) (by rfl)) (by rfl) (by first | exact .inl rfl | exact .inr rfl | assumption)) (@aj _ _ _ _ _ (eG (@aP _ _ _ _ _ _ _ aZ (pv 4) (pv 5) (λ_ _=>rfl)) (eF (n:=2) rfl (aM (aI (i:=6) nd rfl (Or.inl rfl) (.inr rfl)) (aM (aI (i:=7) nd rfl (Or.inl rfl) (.inr rfl)) cU)))) (@aj _ _ _ _ _ (@bF _ _ 8 _ _ _ _ nd rfl (Or.inl rfl) (@aW _ _ _ _ (@aa _ _ _ _ _ (@aD _ _ _ _ _ (@aa _ _ _ _ _ (@aD _ _ _ _ _ (@aa _ _ _ _ _ (pv 6) (@aa _ _ _ _ _ (@av _ _ _ _ _ _ _ _ bf (pv 7) ah) af (by rfl)) (by rfl))) af (by rfl))) (@aa _ _ _ _ _ (@aD _ _ _ _ _ af) (@aa _ _ _ _ _ (@aD _ _ _ _ _ (@aa _ _ _ _ _ (@aD _ _ _ _ _ (@aa _ _ _ _ _ (pv 6) (@aa _ _ _ _ _ (@av _ _ _ _ _ _ _ _ bR (pv 7) ah) af (by rfl)) (by rfl))) af (by rfl))) (@aa _ _ _ _ _ (@aD _ _ _ _ _ (@aa _ _ _ _ _ (@aD _ _ _ _ _ (@aa _ _ _ _ _ (@aD _ _ _ _ _ (@aa _ _ _ _ _ (@aP _ _ _ _ _ _ _ aZ (pv 6) ah (λ_ _=>rfl)) (@aa _ _ _ _ _ ah (@aa _ _ _ _ _ (@aP _ _ _ _ _ _ _ aZ (pv 6) ah (λ_ _=>rfl)) af (by rfl)) (by rfl)) (by rfl))) (@aa _ _ _ _ _ (pv 7) af (by rfl)) (by rfl))) af (by rfl))) (@aa _ _ _ _ _ (@aD _ _ _ _ _ (@aa _ _ _ _ _ (@aD _ _ _ _ _ (@aa _ _ _ _ _ gX (@aa _ _ _ _ _ (pv 7) af (by rfl)) (by rfl))) af (by rfl))) af (by rfl)) (by rfl)) (by rfl)) (by rfl)) (by rfl))) (by rfl) (by first | exact .inl rfl | exact .inr rfl | assumption)) (@aj _ _ _ _ _ (@bF _ _ 8 _ _ _ _ nd rfl (Or.inl rfl) (@av _ _ _ _ _ _ _ _ dB (pv 8) (@aW _ _ _ _ (@aa _ _ _ _ _ (@aD _ _ _ _ _ (@aa _ _ _ _ _ (@aD _ _ _ _ _ (@aa _ _ _ _ _ (@av _ _ _ _ _ _ _ _ cL (@aD _ _ _ _ _ (@aa _ _ _ _ _ (@av _ _ _ _ _ _ _ _ bf (@aP _ _ _ _ _ _ _ aZ (pv 6) ah (λ_ _=>rfl)) ah) af (by rfl))) (aY cM (pv 6) (bh ah) bz)) (@aa _ _ _ _ _ (pv 7) af (by rfl)) (by rfl))) af (by rfl))) (@aa _ _ _ _ _ (@aD _ _ _ _ _ (@aa _ _ _ _ _ (@aP _ _ _ _ _ _ _ aZ (pv 4) (pv 5) (λ_ _=>rfl)) (@aa _ _ _ _ _ (@aP _ _ _ _ _ _ _ aZ (pv 4) (pv 5) (λ_ _=>rfl)) af (by rfl)) (by rfl))) (@aa _ _ _ _ _ (@aD _ _ _ _ _ (@aa _ _ _ _ _ (@aW _ _ _ _ (@aa _ _ _ _ _ (pv 6) (@aa _ _ _ _ _ (pv 7) af (by rfl)) (by rfl))) af (by rfl))) af (by rfl)) (by rfl)) (by rfl)))) (by rfl) (by first | exact .inl rfl | exact .inr rfl | assumption)) (@aj _ _ _ _ _ (@bF _ _ 9 _ _ _ _ nd rfl (Or.inl rfl) (@aH _ _ _ _ _ _ _ _ _ _ _ _ c__law_draw (hr.mono (by omega)) rfl az (@aa _ _ _ _ _ (pv 0) (@aa _ _ _ _ _ ah af (by rfl)) (by rfl)) (by decide) (by rfl) (by rfl)) (by rfl) (by first | exact .inl rfl | exact .inr rfl | assumption)) (@aj _ _ _ _ _ (cS (@aQ _ _ _ _ _ _ _ _ (@aw _ _ _ _ _ _ _ _ c8 (pv 9) ah (ax _)) (@ao _ _ _ (@ay _ _ _ _ (@aD _ _ _ _ _ (@aa _ _ _ _ _ (pv 2) (@aa _ _ _ _ _ (pv 3) (@aa _ _ _ _ _ (@av _ _ _ _ _ _ _ _ cL (@av _ _ _ _ _ _ _ _ cL (aY cM (pv 4) bz (bh (pv 5))) (@aD _ _ _ _ _ (@aa _ _ _ _ _ (@aD _ _ _ _ _ (@aa _ _ _ _ _ (@aH _ _ _ _ _ _ _ _ _ _ _ _ c__law_bent_within (hr.mono (by omega)) rfl az (@aa _ _ _ _ _ (pv 0) (@aa _ _ _ _ _ (pv 6) af (by rfl)) (by rfl)) (by decide) (by rfl) (by rfl)) (@aa _ _ _ _ _ (pv 7) af (by rfl)) (by rfl))) af (by rfl)))) (aY cM (pv 4) (bh (@av _ _ _ _ _ _ _ _ bf (pv 5) ah)) bz)) af (by rfl)) (by rfl)) (by rfl))))) aF)) (@ao _ _ _ (@ay _ _ _ _ (@aD _ _ _ _ _ (@aa _ _ _ _ _ (pv 2) (@aa _ _ _ _ _ (pv 3) (@aa _ _ _ _ _ (@av _ _ _ _ _ _ _ _ cL (@av _ _ _ _ _ _ _ _ cL (aY cM (pv 4) bz (bh (pv 5))) (@aP _ _ _ _ _ _ _ bA (pv 8) (pv 9) (λ_ _=>rfl))) (aY cM (pv 4) (bh (@av _ _ _ _ _ _ _ _ bf (pv 5) ah)) bz)) af (by rfl)) (by rfl)) (by rfl))))))))))))),?_⟩
 show bZ _ _ _ [some (.ref t),some v,none,none,none,none,none,none,none,none] H
 obtain⟨pv,y1,y2,vr,rfl,tS,z0,zg,dr⟩:=lR hv
 cases z0
 cases zg
 obtain⟨pr,us,rfl,tR,hd⟩:=dr
 have ul:us.length=(Num.rowsOf ps ds).length:=hd.length
 have rl:(Num.rowsOf ps ds).length=ps.length:=Num.dD ..
 k_data
 refine⟨pv,_,rfl,tS,rfl,?_⟩
 k_data
 refine⟨λσ' H'=>DD H t pv pr p g n σ' H'/\0<us.length,?_,?_⟩
 ·k_data
  refine⟨by show 0<=sizeLine;decide,λp1 hp1=>?_⟩
  have s1:=ak (o:=.tup []) hp1
  have hR:dv K H (.tuple (Num.rowsOf ps ds)) (.ref pr):=⟨pr,us,rfl,tR,hd⟩
  refine⟨_,_,dv.same s1 _ hR,dv.tup (ds:=[]) ag rfl,cw.lay _ grw,rfl,Nat.le_trans (Nat.min_le_right _ _) (by decide),_,rfl,?_⟩
  generalize upd H p1 _=H1 at *
  have t1:=tt.same s1
  refine aJ (λ_=>?_) (λne=>⟨⟨rfl,bN.of s1,t1⟩,?_⟩)
  ·refine⟨by show 0<=sizeLine;decide,λp2 hp2=>⟨by show 3<=sizeLine;decide,λp3 hp3=>?_⟩⟩
   have s2:=ak (o:=.tup []) hp2
   have s3:=ak (o:=.tup [V.int p,V.int 0,V.ref p2]) hp3
   have S:=s1.trans (s2.trans s3)
   exact q (.tuple [.int p,.int 0,.tuple []]) _ _ (u4 (.inl (by decide))) (by simp only [gd,cw,and_true];omega) (by simp only [bO,aN];omega) (bN.of S) ((tt.same S).mono (by omega)) (bQ (aL.of ag) rfl rfl ⟨p2,[],rfl,aL.of (s3 _ _ ag),rfl⟩)
  ·rcases Nat.eq_zero_or_pos us.length with z | z
   ·refine absurd ?_ ne
    rw [List.length_eq_zero_iff.mp (show (Num.rowsOf ps ds).length=0 by omega)]
    rfl
   ·exact z
 rintro σ' H1 ⟨⟨rfl,O1,t1⟩,u0⟩
 k_data
 refine dE (O1.kt tt _ _ tR) ⟨t,_,n,rfl,t1,by omega,by omega,by omega,λat' H2 a0 a1 o2 t2=>?_⟩
 have O2:=O1.trans o2.bJ
 obtain⟨an,rfl⟩:∃ k:Nat,at'=k:=⟨at'.toNat,by omega⟩
 have al:an<us.length:=by omega
 have hx:us[an]?=some us[an]:=List.getElem?_eq_getElem al
 obtain⟨row,er,hw⟩:=hd.get hx
 obtain⟨i,q',k,hi,rfl⟩:=fJ (List.mem_of_getElem? er)
 obtain⟨pm',k1,k30⟩:=hP.ok _ (List.mem_of_getElem? hi)
 have hdv:q'∣p-1:=by
  have:=Num.eP (List.mem_of_getElem? hi) k1
  rwa [hP.prod] at this
 have hHq:=hH q' pm' hdv
 have hpi:=hds i q' k hi
 have q9:=(lg hpi).2
 have k1:1<=k:=k1
 have k30:k<=30:=k30
 obtain⟨g',ps',ds',eI,_,_,_,_⟩:=jC hpi
 rw [eI] at hw er hpi
 generalize Num.rowsOf ps' ds'=rs at *
 generalize us[an]=vw at *
 have hcut:=vS er
 have zrow:aN (Num.rowsOf ps ds)=aN ((Num.rowsOf ps ds).take an)+(bO (.tuple [.tuple [.int q',.int g',.tuple rs],.int k])+aN ((Num.rowsOf ps ds).drop (an+1))):=by
  conv=>lhs;rw [hcut]
  rw [bw]
  simp only [aN]
 rw [hcut] at hct grw
 obtain⟨gl1,grw2⟩:=jw.mp grw
 simp only [cw] at grw2
 obtain⟨grow,gl2⟩:=grw2
 have zd:bO (.tuple [.int p,.int g,.tuple (Num.rowsOf ps ds)])=4+aN (Num.rowsOf ps ds):=by
  simp only [bO,aN];omega
 have zr:bO (.tuple [.tuple [.int q',.int g',.tuple rs],.int k])=2+bO (.tuple [.int q',.int g',.tuple rs]):=by
  simp only [bO,aN];omega
 generalize hrows:Num.rowsOf ps ds=rows at *
 clear hcut
 have hw':=hw
 obtain⟨pw,vi,vk,rfl,tW,hvi,zk⟩:=CO hw
 cases zk
 have hvi':=hvi
 obtain⟨pi,w1,w2,vr,rfl,tI,z1,z2,hvr⟩:=lR hvi
 cases z1
 cases z2
 have KT:∀{H':Hp} {a:Addr} {xs:List V},bN t H H'->aL K H a xs->aL K H' a xs:=λO h=>O.kt tt _ _ h
 have done:∀{H':Hp} {n2:Nat} {y:V} {m:List PyData},bN t H H'->Tp t n2 H'->n2<=n+2*(L+1)->cw m->aN m<=2*bO (.tuple [.tuple [.int q',.int g',.tuple rs],.int k])+18->¬PP (.tuple [.int p,.int g,.tuple (rows.take an++m++rows.drop (an+1))])->dv K H' (.tuple [.int p,.int g,.tuple (rows.take an++m++rows.drop (an+1))]) y->Q y H':=λO' t' hn gm zm np hy=>q _ _ _ np (by simp only [gd,cw,and_true];exact⟨by omega,by omega,jw.mpr ⟨jw.mpr ⟨gl1,gm⟩,gl2⟩⟩) (by
  simp only [bO,aN]
  rw [bw,bw]
  simp only [bO,aN] at zd zm zrow ⊢
  omega) O' (t'.mono hn) hy
 refine⟨pr,us,_,_,rfl,rfl,KT O2 tR,ic hx,?_⟩
 refine⟨pw,_,rfl,KT O2 tW,rfl,?_⟩
 k_data
 refine⟨by show 2<=sizeLine;decide,λa1 h1=>?_⟩
 have b1:=ak (o:=.tup [V.ref pi,V.int (k+1)]) h1
 have e1:upd H2 a1 (.tup [V.ref pi,V.int (k+1)]) a1=some (.tup [V.ref pi,V.int (k+1)]):=ag
 generalize upd H2 a1 _=J1 at *
 refine⟨by show 1<=sizeLine;decide,λa2 h2=>?_⟩
 have b2:=ak (o:=.tup [V.ref a1]) h2
 have e2:upd J1 a2 (.tup [V.ref a1]) a2=some (.tup [V.ref a1]):=ag
 generalize upd J1 a2 _=J2 at *
 refine⟨by show 0<=sizeLine;decide,λa3 h3=>?_⟩
 have b3:=ak (o:=.tup []) h3
 have e3:upd J2 a3 (.tup []) a3=some (.tup []):=ag
 generalize upd J2 a3 _=J3 at *
 refine⟨by show 2<=sizeLine;decide,λa4 h4=>?_⟩
 have b4:=ak (o:=.tup [V.ref pi,V.int (k-1)]) h4
 have e4:upd J3 a4 (.tup [V.ref pi,V.int (k-1)]) a4=some (.tup [V.ref pi,V.int (k-1)]):=ag
 generalize upd J3 a4 _=J4 at *
 refine⟨by show 1<=sizeLine;decide,λa5 h5=>?_⟩
 have b5:=ak (o:=.tup [V.ref a4]) h5
 have e5:upd J4 a5 (.tup [V.ref a4]) a5=some (.tup [V.ref a4]):=ag
 generalize upd J4 a5 _=J5 at *
 have tI5:aL K J5 pi [.int q',.int g',vr]:=(KT O2 tI).same (b1.trans (b2.trans (b3.trans (b4.trans b5))))
 refine cY tI5 mU (cY tI5 rfl ?_)
 refine⟨by show 3<=sizeLine;decide,λa6 h6=>?_⟩
 have b6:=ak (o:=.tup [V.int q',V.int 0,vr]) h6
 have e6:upd J5 a6 (.tup [V.int q',V.int 0,vr]) a6=some (.tup [V.int q',V.int 0,vr]):=ag
 generalize upd J5 a6 _=J6 at *
 refine⟨by show 2<=sizeLine;decide,λa7 h7=>?_⟩
 have b7:=ak (o:=.tup [V.ref a6,V.int k]) h7
 have e7:upd J6 a7 (.tup [V.ref a6,V.int k]) a7=some (.tup [V.ref a6,V.int k]):=ag
 generalize upd J6 a7 _=J7 at *
 refine⟨by show 1<=sizeLine;decide,λa8 h8=>?_⟩
 have b8:=ak (o:=.tup [V.ref a7]) h8
 have e8:upd J7 a8 (.tup [V.ref a7]) a8=some (.tup [V.ref a7]):=ag
 generalize upd J7 a8 _=J8 at *
 refine⟨by show 2<=sizeLine;decide,λa9 h9=>?_⟩
 have b9:=ak (o:=.tup [V.cj,V.int k]) h9
 have e9:upd J8 a9 (.tup [V.cj,V.int k]) a9=some (.tup [V.cj,V.int k]):=ag
 generalize upd J8 a9 _=J9 at *
 refine⟨by show 1<=sizeLine;decide,λa10 h10=>?_⟩
 have b10:=ak (o:=.tup [V.ref a9]) h10
 have e10:upd J9 a10 (.tup [V.ref a9]) a10=some (.tup [V.ref a9]):=ag
 generalize upd J9 a10 _=J10 at *
 refine⟨by show 5<=sizeLine;decide,λa11 h11=>?_⟩
 have b11:=ak (o:=.lst [V.ref a2,V.ref a3,V.ref a5,V.ref a8,V.ref a10]) h11
 have e11:upd J10 a11 (.lst [V.ref a2,V.ref a3,V.ref a5,V.ref a8,V.ref a10]) a11=some (.lst [V.ref a2,V.ref a3,V.ref a5,V.ref a8,V.ref a10]):=ag
 generalize upd J10 a11 _=J11 at *
 have tI11:=tI5.same (b6.trans (b7.trans (b8.trans (b9.trans (b10.trans b11)))))
 refine cY tI11 mU ⟨_,rfl,?_⟩
 refine⟨by show 1<=sizeLine;decide,λa12 h12=>?_⟩
 have b12:=ak (o:=.tup [V.int (q'+1)]) h12
 have e12:upd J11 a12 (.tup [V.int (q'+1)]) a12=some (.tup [V.int (q'+1)]):=ag
 generalize upd J11 a12 _=J12 at *
 refine⟨pi,_,rfl,tI11.same b12,λc2 Jc bc tc=>?_⟩
 have tc:aL K Jc c2 [V.int g',vr]:=tc
 refine⟨a12,c2,_,_,rfl,rfl,aL.of (bc _ _ e12),tc,by show 3<=sizeLine;decide,λc3 Jd bd td=>?_⟩
 have td:aL K Jd c3 [V.int (q'+1),V.int g',vr]:=td
 refine⟨by show 2<=sizeLine;decide,λa13 h13=>?_⟩
 have b13:=ak (o:=.tup [V.ref c3,V.int k]) h13
 have e13:upd Jd a13 (.tup [V.ref c3,V.int k]) a13=some (.tup [V.ref c3,V.int k]):=ag
 generalize upd Jd a13 _=J13 at *
 refine⟨by show 1<=sizeLine;decide,λa14 h14=>?_⟩
 have b14:=ak (o:=.tup [V.ref a13]) h14
 have e14:upd J13 a14 (.tup [V.ref a13]) a14=some (.tup [V.ref a13]):=ag
 generalize upd J13 a14 _=J14 at *
 have S14:=b1.trans (b2.trans (b3.trans (b4.trans (b5.trans (b6.trans (b7.trans (b8.trans (b9.trans (b10.trans (b11.trans (b12.trans (bc.trans (bd.trans (b13.trans b14))))))))))))))
 have tR14:=(KT O2 tR).same S14
 refine⟨pr,us,_,_,rfl,rfl,tR14,ic hx,⟨pr,us,_,_,rfl,rfl,tR14,ic hx,?_⟩⟩
 refine⟨by show 2<=sizeLine;decide,λa15 h15=>?_⟩
 have b15:=ak (o:=.tup [V.ref pw,V.ref pw]) h15
 have e15:upd J14 a15 (.tup [V.ref pw,V.ref pw]) a15=some (.tup [V.ref pw,V.ref pw]):=ag
 generalize upd J14 a15 _=J15 at *
 refine⟨by show 2<=sizeLine;decide,λa16 h16=>?_⟩
 have b16:=ak (o:=.lst [V.ref pi,V.int k]) h16
 have e16:upd J15 a16 (.lst [V.ref pi,V.int k]) a16=some (.lst [V.ref pi,V.int k]):=ag
 generalize upd J15 a16 _=J16 at *
 refine⟨by show 1<=sizeLine;decide,λa17 h17=>?_⟩
 have b17:=ak (o:=.tup [V.ref a16]) h17
 have e17:upd J16 a17 (.tup [V.ref a16]) a17=some (.tup [V.ref a16]):=ag
 generalize upd J16 a17 _=J17 at *
 refine⟨by show 3<=sizeLine;decide,λa18 h18=>?_⟩
 have b18:=ak (o:=.lst [V.ref a14,V.ref a15,V.ref a17]) h18
 have e18:upd J17 a18 (.lst [V.ref a14,V.ref a15,V.ref a17]) a18=some (.lst [V.ref a14,V.ref a15,V.ref a17]):=ag
 generalize upd J17 a18 _=J18 at *
 refine⟨a11,a18,_,_,rfl,rfl,(b12.trans (bc.trans (bd.trans (b13.trans (b14.trans (b15.trans (b16.trans (b17.trans b18)))))))) _ _ e11,e18,by show 8<=sizeLine;decide,λa19 h19=>?_⟩
 have b19:=ak (o:=.lst ([V.ref a2,V.ref a3,V.ref a5,V.ref a8,V.ref a10]++[V.ref a14,V.ref a15,V.ref a17])) h19
 have e19:upd J18 a19 (.lst ([V.ref a2,V.ref a3,V.ref a5,V.ref a8,V.ref a10]++[V.ref a14,V.ref a15,V.ref a17])) a19=some (.lst ([V.ref a2,V.ref a3,V.ref a5,V.ref a8,V.ref a10]++[V.ref a14,V.ref a15,V.ref a17])):=ag
 generalize upd J18 a19 _=J19 at *
 have Rb18:=b19
 have Rb17:=b18.trans Rb18
 have Rb16:=b17.trans Rb17
 have Rb15:=b16.trans Rb16
 have Rb14:=b15.trans Rb15
 have Rb13:=b14.trans Rb14
 have Rbd:=b13.trans Rb13
 have Rbc:=bd.trans Rbd
 have Rb12:=bc.trans Rbc
 have Rb11:=b12.trans Rb12
 have Rb10:=b11.trans Rb11
 have Rb9:=b10.trans Rb10
 have Rb8:=b9.trans Rb9
 have Rb7:=b8.trans Rb8
 have Rb6:=b7.trans Rb7
 have Rb5:=b6.trans Rb6
 have Rb4:=b5.trans Rb5
 have Rb3:=b4.trans Rb4
 have Rb2:=b3.trans Rb3
 have Rb1:=b2.trans Rb2
 have S19:=b1.trans Rb1
 have ops:=Af (g:=g) (J:=J19) hct grow q9 k1 (by omega) (dv.same S19 _ (dv.bJ hvi' O2 tt)) (dv.same S19 _ (dv.bJ hvr O2 tt)) (dv.same S19 _ (dv.bJ hw' O2 tt)) (aL.of (Rb1 _ _ e1)) (aL.of (Rb2 _ _ e2)) (aL.of (Rb3 _ _ e3)) (aL.of (Rb4 _ _ e4)) (aL.of (Rb5 _ _ e5)) (aL.of (Rb6 _ _ e6)) (aL.of (Rb7 _ _ e7)) (aL.of (Rb8 _ _ e8)) (aL.of (Rb9 _ _ e9)) (aL.of (Rb10 _ _ e10)) (td.same Rbd) (aL.of (Rb13 _ _ e13)) (aL.of (Rb14 _ _ e14)) (aL.of (Rb15 _ _ e15)) (aS.of (Rb16 _ _ e16)) (aL.of (Rb17 _ _ e17))
 have O19:=O2.trans (bN.of S19)
 have t19:=t2.same S19
 clear Rb1 Rb2 Rb3 Rb4 Rb5 Rb6 Rb7 Rb8 Rb9 Rb10 Rb11 Rb12 Rbc Rbd Rb13 Rb14 Rb15 Rb16 Rb17 Rb18
 refine⟨t,12,n+1,rfl,t19,by omega,by decide,by decide,λway H3 w0 w1 o3 t3=>?_⟩
 have O3:=O19.trans o3.bJ
 have f3:H3 a19=_:=(o3 a19 (t19.ne e19 (by intro kvs c;cases c))).trans e19
 refine⟨λσ' H'=>DE H3 way [some (V.ref t),some (V.ref pv),some (V.int p),some (V.int g),some (V.ref pr),some (V.int (an:Int)),some (V.ref pi),some (V.int k),some (V.ref a19),some (V.int way)] σ' H',?_,?_⟩
 ·k_data
  refine aJ (λ_=>?_) (λc=>⟨rfl,rfl,by omega⟩)
  refine⟨pr,us,rfl,KT O3 tR,λc1 HA sA tA=>?_⟩
  rw [nh (by omega)] at tA
  have O4:=O3.trans (bN.of sA)
  refine⟨t,n+2,_,q',_,rfl,(t3.same sA),by omega,dv.bJ hvi' O4 tt,hpi,hHq,λd' y H5 np gd' sz' O5' t5 hy=>?_⟩
  have O5:=O4.trans O5'
  have tA5:=O5'.kt (t3.same sA) _ _ tA
  refine⟨by show 2<=sizeLine;decide,λa20 h20=>⟨by show 1<=sizeLine;decide,λa21 h21=>?_⟩⟩
  have b20:=ak (o:=.tup [y,V.int k]) h20
  have e20:upd H5 a20 (.tup [y,V.int k]) a20=_:=ag
  generalize upd H5 a20 _=J20 at *
  have b21:=ak (o:=.tup [V.ref a20]) h21
  have e21:upd J20 a21 (.tup [V.ref a20]) a21=_:=ag
  generalize upd J20 a21 _=J21 at *
  have B:=b20.trans b21
  have O6:=O5.trans (bN.of B)
  exact put3 (m:=[.tuple [d',.int k]]) (KT O6 tR) (bD.fj (O6.kt tt) (O6.kl tt) _ hd) (tA5.same B) (aL.of e21) ⟨_,_,rfl,fB (aL.of (b21 _ _ e20)) (dv.same B _ hy) rfl,rfl⟩ (by omega) (by show 1<=1000;decide) al λz H' s' hz=>done (O6.trans (bN.of s')) ((t5.same B).same s') (by omega) (by simp only [gd,cw,and_true];exact⟨gd',by omega,by omega⟩) (by simp only [aN,bO] at zr sz' ⊢;omega) (nS (row:=.tuple [d',.int k]) (by simp) np) hz
 rintro σ' H' ⟨rfl,rfl,w7⟩
 k_data
 refine⟨pr,us,rfl,KT O3 tR,λc1 HA sA tA=>?_⟩
 rw [nh (by omega)] at tA
 refine bW (aS.of (sA _ _ f3)) w0 (by show way<(8:Int);omega) λv hv=>?_
 obtain⟨m,hm,gm,zm,np⟩:=((ops v hv).bJ o3.bJ t19).same sA
 obtain⟨cm,zs,rfl,tm,dm⟩:=hm
 have O6:=O3.trans (bN.of sA)
 have zl:zs.length<=1000:=by
  have h1:=fS m
  have h2:=fZ hpi
  rw [dm.length]
  omega
 exact put3 (KT O6 tR) (bD.fj (O6.kt tt) (O6.kl tt) _ hd) tA tm dm (by omega) zl al λz H' s' hz=>done (O6.trans (bN.of s')) ((t3.same sA).same s') (by omega) gm zm np hz
def OD (K:PySem.W.Frag) (H:Hp) (x:V):Prop:=∃ d,kQ K H d x/\Z0 d/\bO d<=10/\¬PP d
theorem OD.bJ {t:Addr} {n:Nat} {H H':Hp} {x:V} (h:OD K H x) (o:bN t H H') (tt:Tp t n H):OD K H' x:=by
 obtain⟨d,h1,h2⟩:=h
 exact⟨d,kQ.bJ h1 o tt,h2⟩
theorem OD.gz {H:Hp} {x:V} (h:OD K H x):GZ K 0 H x:=by
 obtain⟨d,h1,h2,_⟩:=h
 exact⟨d,h1,h2⟩
theorem u7 {J:Hp} {a1 a2 a3 a4 a5 a6 a7 a8 a9:Addr} (A1:aL K J a1 []) (A2:J a2=some (.lst [])) (A3:aL K J a3 [.int 1]) (A4:J a4=some (.lst [.int 0])) (A5:aL K J a5 [.str "nought"]) (A6:aL K J a6 []) (A7:aL K J a7 []) (A8:aL K J a8 [.ref a6,.ref a7]) (A9:aL K J a9 [.int 0,.int 0]):∀ x∈[V.cj,V.bl true,V.bl false,V.int 0,V.int 1,V.int (-1),V.int 100000000000000000000000000000000000000000000000000000000000,V.str "none",V.str "",V.ref a1,V.ref a2,V.ref a3,V.ref a4,V.ref a5,V.ref a8,V.ref a9],OD K J x:=by
 intro x hx
 simp only [List.mem_cons,List.not_mem_nil,or_false] at hx
 rcases hx with rfl | rfl | rfl | rfl | rfl | rfl | rfl | rfl | rfl | rfl | rfl | rfl | rfl | rfl | rfl | rfl
 ·exact⟨.none,rfl,⟨by simp only [gd,cw,and_true,true_and],by decide +kernel,by decide +kernel,by decide +kernel,by decide +kernel⟩,by simp only [bO,aN];omega,ba λp g rows h=>by simp at h⟩
 ·exact⟨.bool true,rfl,⟨by simp only [gd,cw,and_true,true_and],by decide +kernel,by decide +kernel,by decide +kernel,by decide +kernel⟩,by simp only [bO,aN];omega,ba λp g rows h=>by simp at h⟩
 ·exact⟨.bool false,rfl,⟨by simp only [gd,cw,and_true,true_and],by decide +kernel,by decide +kernel,by decide +kernel,by decide +kernel⟩,by simp only [bO,aN];omega,ba λp g rows h=>by simp at h⟩
 ·exact⟨.int 0,rfl,⟨by simp only [gd,cw,and_true,true_and];decide,by decide +kernel,by decide +kernel,by decide +kernel,by decide +kernel⟩,by simp only [bO,aN];omega,ba λp g rows h=>by simp at h⟩
 ·exact⟨.int 1,rfl,⟨by simp only [gd,cw,and_true,true_and];decide,by decide +kernel,by decide +kernel,by decide +kernel,by decide +kernel⟩,by simp only [bO,aN];omega,ba λp g rows h=>by simp at h⟩
 ·exact⟨.int (-1),rfl,⟨by simp only [gd,cw,and_true,true_and];decide,by decide +kernel,by decide +kernel,by decide +kernel,by decide +kernel⟩,by simp only [bO,aN];omega,ba λp g rows h=>by simp at h⟩
 ·exact⟨.int 100000000000000000000000000000000000000000000000000000000000,rfl,⟨by simp only [gd,cw,and_true,true_and];decide,by decide +kernel,by decide +kernel,by decide +kernel,by decide +kernel⟩,by simp only [bO,aN];omega,ba λp g rows h=>by simp at h⟩
 ·exact⟨.str "none",rfl,⟨by simp only [gd,cw,and_true,true_and];decide +kernel,by decide +kernel,by decide +kernel,by decide +kernel,by decide +kernel⟩,by simp only [bO,aN];omega,ba λp g rows h=>by simp at h⟩
 ·exact⟨.str "",rfl,⟨by simp only [gd,cw,and_true,true_and];decide +kernel,by decide +kernel,by decide +kernel,by decide +kernel,by decide +kernel⟩,by simp only [bO,aN];omega,ba λp g rows h=>by simp at h⟩
 ·exact⟨.tuple [],⟨a1,[],rfl,A1,rfl⟩,⟨by simp only [gd,cw,and_true,true_and],by decide +kernel,by decide +kernel,by decide +kernel,by decide +kernel⟩,by simp only [bO,aN];omega,ba λp g rows h=>by simp at h⟩
 ·exact⟨.list [],⟨a2,[],rfl,A2,rfl⟩,⟨by simp only [gd,cw,and_true,true_and],by decide +kernel,by decide +kernel,by decide +kernel,by decide +kernel⟩,by simp only [bO,aN];omega,ba λp g rows h=>by simp at h⟩
 ·exact⟨.tuple [.int 1],⟨a3,_,rfl,A3,_,_,rfl,rfl,rfl⟩,⟨by simp only [gd,cw,and_true,true_and];decide,by decide +kernel,by decide +kernel,by decide +kernel,by decide +kernel⟩,by simp only [bO,aN];omega,ba λp g rows h=>by simp at h⟩
 ·exact⟨.list [.int 0],⟨a4,_,rfl,A4,_,_,rfl,rfl,rfl⟩,⟨by simp only [gd,cw,and_true,true_and];decide,by decide +kernel,by decide +kernel,by decide +kernel,by decide +kernel⟩,by simp only [bO,aN];omega,ba λp g rows h=>by simp at h⟩
 ·exact⟨.tuple [.str "nought"],⟨a5,_,rfl,A5,_,_,rfl,rfl,rfl⟩,⟨by simp only [gd,cw,and_true,true_and];decide +kernel,by decide +kernel,by decide +kernel,by decide +kernel,by decide +kernel⟩,by simp only [bO,aN];omega,ba λp g rows h=>by simp at h⟩
 ·exact⟨.tuple [.tuple [],.tuple []],⟨a8,_,rfl,A8,_,_,rfl,⟨a6,[],rfl,A6,rfl⟩,_,_,rfl,⟨a7,[],rfl,A7,rfl⟩,rfl⟩,⟨by simp only [gd,cw,and_true,true_and],by decide +kernel,by decide +kernel,by decide +kernel,by decide +kernel⟩,by simp only [bO,aN];omega,ba λp g rows h=>by simp at h⟩
 ·exact⟨.tuple [.int 0,.int 0],⟨a9,_,rfl,A9,_,_,rfl,rfl,_,_,rfl,rfl,rfl⟩,⟨by simp only [gd,cw,and_true,true_and];decide,by decide +kernel,by decide +kernel,by decide +kernel,by decide +kernel⟩,by simp only [bO,aN];omega,ba λp g rows h=>by simp at h⟩
def mK (K:PySem.W.Frag):Sp:=λvs H Q _=>∃(p:Addr) (n:Nat),vs=[.ref p]/\Tp p n H/\n<=10^50/\∀ x H',bN p H H'->Tp p (n+1) H'->OD K H' x->Q x H'
theorem je:aE ["_law_tape_here","_law_some"] ["_law_tape_here"] (au (top 62)):=dI
theorem xG (D:aC K mg "_law_odd" (top 62)) (c__law_draw:Callee P w K mg base aT 1 "_law_draw" ["_law_tape_here","_law_many"] dO) (n_len:mg "len"=none):Callee P w K mg base aT 2 "_law_odd" ["_law_tape_here"] (mK K):=by
 refine cO D je (λf cdv A outer s H vs Q E hr h=>?_)
 obtain⟨p,n,rfl,t,n9,q⟩:=h
 have nd:=je.nd
 refine⟨_,(@aj _ _ _ _ _ (@bF _ _ 1 _ _ _ _ nd rfl (Or.inl rfl) (@aW _ _ _ _ (@aa _ _ _ _ _ gX (@aa _ _ _ _ _ cD (@aa _ _ _ _ _ cD (@aa _ _ _ _ _ ah (@aa _ _ _ _ _ ah (@aa _ _ _ _ _ (fo dP ah) (@aa _ _ _ _ _ (@av _ _ _ _ _ _ _ _ mf ah ah) (@aa _ _ _ _ _ br (@aa _ _ _ _ _ br (@aa _ _ _ _ _ (@aD _ _ _ _ _ af) (@aa _ _ _ _ _ (@aW _ _ _ _ af) (@aa _ _ _ _ _ (@aD _ _ _ _ _ (@aa _ _ _ _ _ ah af (by rfl))) (@aa _ _ _ _ _ (@aW _ _ _ _ (@aa _ _ _ _ _ ah af (by rfl))) (@aa _ _ _ _ _ (@aD _ _ _ _ _ (@aa _ _ _ _ _ br af (by rfl))) (@aa _ _ _ _ _ (@aD _ _ _ _ _ (@aa _ _ _ _ _ (@aD _ _ _ _ _ af) (@aa _ _ _ _ _ (@aD _ _ _ _ _ af) af (by rfl)) (by rfl))) (@aa _ _ _ _ _ (@aD _ _ _ _ _ (@aa _ _ _ _ _ ah (@aa _ _ _ _ _ ah af (by rfl)) (by rfl))) af (by rfl)) (by rfl)) (by rfl)) (by rfl)) (by rfl)) (by rfl)) (by rfl)) (by rfl)) (by rfl)) (by rfl)) (by rfl)) (by rfl)) (by rfl)) (by rfl)) (by rfl)) (by rfl))) (by rfl) (by first | exact .inl rfl | exact .inr rfl | assumption)) (@ao _ _ _ (@ay _ _ _ _ (@aP _ _ _ _ _ _ _ bA (pv 1) (@aH _ _ _ _ _ _ _ _ _ _ _ _ c__law_draw (hr.mono (by decide)) rfl az (@aa _ _ _ _ _ (pv 0) (@aa _ _ _ _ _ (@aB _ _ _ _ _ _ _ _ _ aU rfl n_len PySem.boot_len (@aa _ _ _ _ _ (pv 1) af (by rfl)) (by decide) (by decide) (by rfl) (by rfl)) af (by rfl)) (by rfl)) (by decide) (by rfl) (by rfl)) (λ_ _=>rfl))))),?_⟩
 show bZ _ _ _ [some (.ref p),none] H
 k_data
 refine⟨by show 0<=sizeLine;decide,λa1 h1=>?_⟩
 have b1:=ak (o:=.tup []) h1
 have e1:upd H a1 (.tup []) a1=some (.tup []):=ag
 generalize upd H a1 _=J1 at *
 refine⟨by show 0<=sizeLine;decide,λa2 h2=>?_⟩
 have b2:=ak (o:=.lst []) h2
 have e2:upd J1 a2 (.lst []) a2=some (.lst []):=ag
 generalize upd J1 a2 _=J2 at *
 refine⟨by show 1<=sizeLine;decide,λa3 h3=>?_⟩
 have b3:=ak (o:=.tup [V.int 1]) h3
 have e3:upd J2 a3 (.tup [V.int 1]) a3=some (.tup [V.int 1]):=ag
 generalize upd J2 a3 _=J3 at *
 refine⟨by show 1<=sizeLine;decide,λa4 h4=>?_⟩
 have b4:=ak (o:=.lst [V.int 0]) h4
 have e4:upd J3 a4 (.lst [V.int 0]) a4=some (.lst [V.int 0]):=ag
 generalize upd J3 a4 _=J4 at *
 refine⟨by show 1<=sizeLine;decide,λa5 h5=>?_⟩
 have b5:=ak (o:=.tup [V.str "nought"]) h5
 have e5:upd J4 a5 (.tup [V.str "nought"]) a5=some (.tup [V.str "nought"]):=ag
 generalize upd J4 a5 _=J5 at *
 refine⟨by show 0<=sizeLine;decide,λa6 h6=>?_⟩
 have b6:=ak (o:=.tup []) h6
 have e6:upd J5 a6 (.tup []) a6=some (.tup []):=ag
 generalize upd J5 a6 _=J6 at *
 refine⟨by show 0<=sizeLine;decide,λa7 h7=>?_⟩
 have b7:=ak (o:=.tup []) h7
 have e7:upd J6 a7 (.tup []) a7=some (.tup []):=ag
 generalize upd J6 a7 _=J7 at *
 refine⟨by show 2<=sizeLine;decide,λa8 h8=>?_⟩
 have b8:=ak (o:=.tup [V.ref a6,V.ref a7]) h8
 have e8:upd J7 a8 (.tup [V.ref a6,V.ref a7]) a8=some (.tup [V.ref a6,V.ref a7]):=ag
 generalize upd J7 a8 _=J8 at *
 refine⟨by show 2<=sizeLine;decide,λa9 h9=>?_⟩
 have b9:=ak (o:=.tup [V.int 0,V.int 0]) h9
 have e9:upd J8 a9 (.tup [V.int 0,V.int 0]) a9=some (.tup [V.int 0,V.int 0]):=ag
 generalize upd J8 a9 _=J9 at *
 refine⟨by show 16<=sizeLine;decide,λa10 h10=>?_⟩
 have b10:=ak (o:=.lst [V.cj,V.bl true,V.bl false,V.int 0,V.int 1,V.int (-1),V.int 100000000000000000000000000000000000000000000000000000000000,V.str "none",V.str "",V.ref a1,V.ref a2,V.ref a3,V.ref a4,V.ref a5,V.ref a8,V.ref a9]) h10
 have e10:upd J9 a10 (.lst [V.cj,V.bl true,V.bl false,V.int 0,V.int 1,V.int (-1),V.int 100000000000000000000000000000000000000000000000000000000000,V.str "none",V.str "",V.ref a1,V.ref a2,V.ref a3,V.ref a4,V.ref a5,V.ref a8,V.ref a9]) a10=some (.lst [V.cj,V.bl true,V.bl false,V.int 0,V.int 1,V.int (-1),V.int 100000000000000000000000000000000000000000000000000000000000,V.str "none",V.str "",V.ref a1,V.ref a2,V.ref a3,V.ref a4,V.ref a5,V.ref a8,V.ref a9]):=ag
 generalize upd J9 a10 _=J10 at *
 have Rb9:=b10
 have Rb8:=b9.trans Rb9
 have Rb7:=b8.trans Rb8
 have Rb6:=b7.trans Rb7
 have Rb5:=b6.trans Rb6
 have Rb4:=b5.trans Rb5
 have Rb3:=b4.trans Rb4
 have Rb2:=b3.trans Rb3
 have Rb1:=b2.trans Rb2
 have S:=b1.trans Rb1
 have gl:=u7 (K:=K) (aL.of (Rb1 _ _ e1)) (Rb2 _ _ e2) (aL.of (Rb3 _ _ e3)) (Rb4 _ _ e4) (aL.of (Rb5 _ _ e5)) (aL.of (Rb6 _ _ e6)) (aL.of (Rb7 _ _ e7)) (aL.of (Rb8 _ _ e8)) (aL.of (Rb9 _ _ e9))
 have ln:([V.cj,V.bl true,V.bl false,V.int 0,V.int 1,V.int (-1),V.int 100000000000000000000000000000000000000000000000000000000000,V.str "none",V.str "",V.ref a1,V.ref a2,V.ref a3,V.ref a4,V.ref a5,V.ref a8,V.ref a9]).length=16:=rfl
 clear Rb1 Rb2 Rb3 Rb4 Rb5 Rb6 Rb7 Rb8 Rb9
 generalize [V.cj,V.bl true,V.bl false,V.int 0,V.int 1,V.int (-1),V.int 100000000000000000000000000000000000000000000000000000000000,V.str "none",V.str "",V.ref a1,V.ref a2,V.ref a3,V.ref a4,V.ref a5,V.ref a8,V.ref a9]=L at *
 k_data
 refine cp (aS.of e10) ?_
 rw [ln]
 have ta:=t.same S
 refine⟨p,16,n,rfl,ta,by omega,by decide,by decide,λr Hb r0 r1 ob tb=>?_⟩
 have eb:Hb a10=some (.lst L):=(ob a10 (ta.ne e10 (by intro kvs c;cases c))).trans e10
 exact bW (aS.of eb) r0 (by rw [ln];exact r1) λv hv=>q v Hb ((bN.of S).trans ob.bJ) tb ((gl v hv).bJ ob.bJ ta)
def v5 (K:PySem.W.Frag):Sp:=λvs H Q _=>∃(p pr:Addr) (n m:Nat) (us:List V),vs=[.ref p,.ref pr]/\Tp p n H/\n<=10^49/\aL K H pr us/\cH K m H us/\us.length<=53/\∀ x H',bN p H H'->Tp p (n+5) H'->GZ K (m+1) H' x->Q x H'
theorem yC {H8:Hp} {pr:Addr} {us:List V} {x:V} {at' lo:Int} {Q:VK} (hS8:aL K H8 pr us) {m:Nat} (g8:cH K m H8 us) (gx8:GZ K m H8 x) (ul:us.length<=53) (a0:0<=at') (a1:at'<=us.length) (al:at'<=lo) (q:∀ y H',aG H8 H'->GZ K (m+1) H' y->Q y H'):vQ K (V.ref pr) none (some at') H8 λx_1 H1=>[x].length<=sizeLine/\∀ p_1,H1 p_1=none->lj K x_1 (V.ref p_1) (upd H1 p_1 (HO.tup [x])) λx_2 H1=>vQ K (V.ref pr) (some lo) none H1 λy H2=>lj K x_2 y H2 Q:=by
 have cz:∀ lo hi,(bE us lo hi).length<=53:=λlo hi=>Nat.le_trans (bV _ _ _) ul
 have sz:3000<=sizeLine:=by decide
 have c1:=cz none (some at')
 have c2:=cz (some lo) none
 refine⟨pr,us,rfl,hS8,λp1 H1 s1 h1=>⟨by show 1<=sizeLine;decide,λp2 hp2=>?_⟩⟩
 have s2:=ak (o:=.tup [x]) hp2
 refine⟨p1,p2,_,_,rfl,rfl,h1.same s2,aL.of ag,by rw [List.length_singleton];omega,λp3 H3 s3 h3=>⟨pr,us,rfl,hS8.same (s1.trans (s2.trans s3)),λp4 H4 s4 h4=>⟨p3,p4,_,_,rfl,rfl,h3.same s4,h4,by rw [List.length_append,List.length_singleton];omega,λp5 H5 s5 h5=>?_⟩⟩⟩
 have S:=s1.trans (s2.trans (s3.trans (s4.trans s5)))
 have c3:=lO a0 a1 al
 exact q _ _ S (GZ.tup h5 (by rw [List.length_append,List.length_append,List.length_singleton];omega) (.app (.app ((g8.same S).cut _ _) (.cons (gx8.same S) .nil)) ((g8.same S).cut _ _)))
def Df (K:PySem.W.Frag) (H:Hp) (p pr:Addr) (n m:Nat) (at':Int) (x:V) (p8:Addr) (σ':L2.St) (H':Hp):Prop:=∃ po ys,σ'=[some (.ref p),some (.ref pr),some (.int at'),some x,some (.ref p8),some (.ref po)]/\H' po=some (.lst ys)/\cH K (m+1) H' ys/\ys.length=5/\GZ K m H' x/\bN p H H'/\Tp p (n+4) H'
theorem cV:aE ["_law_tape_here","_law_row","_law_at","_law_odd_here","_law_other","_law_some"] ["_law_tape_here","_law_row"] (au (top 65)):=dI
theorem xJ (D:aC K mg "_law_bent_row" (top 65)) (c__law_draw:Callee P w K mg base aT 1 "_law_draw" ["_law_tape_here","_law_many"] dO) (c__law_odd:Callee P w K mg base aT 2 "_law_odd" ["_law_tape_here"] (mK K)) (n_len:mg "len"=none) (n_isinstance:mg "isinstance"=none) (n_list:mg "list"=none):Callee P w K mg base aT 3 "_law_bent_row" ["_law_tape_here","_law_row"] (v5 K):=by
 refine cO D cV (λf cdv A outer s H vs Q E hr h=>?_)
 obtain⟨p,pr,n,m,us,rfl,t,n9,hS,g,ul,q⟩:=h
 have nd:=cV.nd
 refine⟨_,(@aj _ _ _ _ _ (@bF _ _ 2 _ _ _ _ nd rfl (Or.inl rfl) (@aH _ _ _ _ _ _ _ _ _ _ _ _ c__law_draw (hr.mono (by decide)) rfl az (@aa _ _ _ _ _ (pv 0) (@aa _ _ _ _ _ (@av _ _ _ _ _ _ _ _ bf (@aB _ _ _ _ _ _ _ _ _ aU rfl n_len PySem.boot_len (@aa _ _ _ _ _ (pv 1) af (by rfl)) (by decide) (by decide) (by rfl) (by rfl)) ah) af (by rfl)) (by rfl)) (by decide) (by rfl) (by rfl)) (by rfl) (by first | exact .inl rfl | exact .inr rfl | assumption)) (@aj _ _ _ _ _ (@bF _ _ 3 _ _ _ _ nd rfl (Or.inl rfl) (@aP _ _ _ _ _ _ _ bA (@aW _ _ _ _ (@aa _ _ _ _ _ (@aH _ _ _ _ _ _ _ _ _ _ _ _ c__law_odd (hr.mono (by decide)) rfl az (@aa _ _ _ _ _ (pv 0) af (by rfl)) (by decide) (by rfl) (by rfl)) (@aa _ _ _ _ _ (@aH _ _ _ _ _ _ _ _ _ _ _ _ c__law_draw (hr.mono (by decide)) rfl az (@aa _ _ _ _ _ (pv 0) (@aa _ _ _ _ _ ah af (by rfl)) (by rfl)) (by decide) (by rfl) (by rfl)) (@aa _ _ _ _ _ cD af (by rfl)) (by rfl)) (by rfl))) (@aH _ _ _ _ _ _ _ _ _ _ _ _ c__law_draw (hr.mono (by decide)) rfl az (@aa _ _ _ _ _ (pv 0) (@aa _ _ _ _ _ ah af (by rfl)) (by rfl)) (by decide) (by rfl) (by rfl)) (λ_ _=>rfl)) (by rfl) (by first | exact .inl rfl | exact .inr rfl | assumption)) (@aj _ _ _ _ _ (@bF _ _ 4 _ _ _ _ nd rfl (Or.inl rfl) (@av _ _ _ _ _ _ _ _ cL (aY cM (pv 1) bz (bh (pv 2))) (aY cM (pv 1) (bh (@av _ _ _ _ _ _ _ _ bf (pv 2) ah)) bz)) (by rfl) (by first | exact .inl rfl | exact .inr rfl | assumption)) (@aj _ _ _ _ _ (cS (@aQ _ _ _ _ _ _ _ _ (aR (@aB _ _ _ _ _ _ _ _ _ aV rfl n_isinstance PyProof.Rows.boot_isinstance (@aa _ _ _ _ _ (pv 1) (@aa _ _ _ _ _ (bB (v:=.ty "list") rfl n_list L2.boot_list rfl) af (by rfl)) (by rfl)) (by decide) (by decide) (by rfl) (by rfl)) (λ_=>rfl)) oo (@ao _ _ _ (@bF _ _ 5 _ _ _ _ nd rfl (Or.inl rfl) (@aW _ _ _ _ (@aa _ _ _ _ _ (@av _ _ _ _ _ _ _ _ cL (@av _ _ _ _ _ _ _ _ cL (aY cM (pv 1) bz (bh (pv 2))) (@aD _ _ _ _ _ (@aa _ _ _ _ _ (pv 3) af (by rfl)))) (aY cM (pv 1) (bh (pv 2)) bz)) (@aa _ _ _ _ _ (@av _ _ _ _ _ _ _ _ cL (@av _ _ _ _ _ _ _ _ cL (aY cM (pv 1) bz (bh (pv 2))) (@aD _ _ _ _ _ (@aa _ _ _ _ _ (pv 3) af (by rfl)))) (aY cM (pv 1) (bh (@av _ _ _ _ _ _ _ _ bf (pv 2) ah)) bz)) (@aa _ _ _ _ _ (pv 4) (@aa _ _ _ _ _ (xU (pv 1) (bh (fo dP ah))) (@aa _ _ _ _ _ (@c9 _ _ _ _ _ _ _ _ _ dU rfl n_list L2.boot_list (@aa _ _ _ _ _ (pv 1) af (by rfl)) (by decide) (by decide) (by rfl) (by rfl)) af (by rfl)) (by rfl)) (by rfl)) (by rfl)) (by rfl))) (by rfl) (by first | exact .inl rfl | exact .inr rfl | assumption))))) (@ao _ _ _ (@ay _ _ _ _ (@aP _ _ _ _ _ _ _ bA (@av _ _ _ _ _ _ _ _ dB (pv 5) (@aW _ _ _ _ (@aa _ _ _ _ _ (pv 3) af (by rfl)))) (@aH _ _ _ _ _ _ _ _ _ _ _ _ c__law_draw (hr.mono (by decide)) rfl az (@aa _ _ _ _ _ (pv 0) (@aa _ _ _ _ _ ah af (by rfl)) (by rfl)) (by decide) (by rfl) (by rfl)) (λ_ _=>rfl)))))))),?_⟩
 show bZ _ _ _ [some (.ref p),some (.ref pr),none,none,none,none] H
 have cz:∀ lo hi,(bE us lo hi).length<=53:=λlo hi=>Nat.le_trans (bV _ _ _) ul
 have sz:3000<=sizeLine:=by decide
 k_data
 refine dE hS ⟨_,rfl,?_⟩
 refine⟨p,_,n,rfl,t,by omega,by omega,by omega,λat' H1 a0 a1 o1 t1=>?_⟩
 have O1:=o1.bJ
 refine⟨p,n+1,rfl,t1,by omega,λxo H2 O2' t2 go=>?_⟩
 have O2:=O1.trans O2'
 refine⟨p,99,n+2,rfl,t2,by omega,by decide,by decide,λr3 H3 r30 r31 o3 t3=>?_⟩
 have O3:=O2.trans o3.bJ
 have go3:=GZ.bJ (GZ.le go.gz (Nat.zero_le m)) o3.bJ t2
 refine⟨by show 3<=sizeLine;decide,λp4 hp4=>?_⟩
 have s4:=ak (o:=.lst [xo,V.int r3,V.bl true]) hp4
 have e4:upd H3 p4 (.lst [xo,V.int r3,V.bl true]) p4=some (.lst [xo,V.int r3,V.bl true]):=ag
 have gl:cH K m (upd H3 p4 (.lst [xo,V.int r3,V.bl true])) [xo,V.int r3,V.bl true]:=.cons (go3.same s4) (.cons ((GZ.int (by omega) (by omega)).le (Nat.zero_le m)) (.cons (GZ.bl.le (Nat.zero_le m)) .nil))
 generalize upd H3 p4 _=H4 at *
 have O4:=O3.trans (bN.of s4)
 have t4:=t3.same s4
 refine⟨p,3,n+3,rfl,t4,by omega,by decide,by decide,λr5 H5 r50 r51 o5 t5=>?_⟩
 have O5:=O4.trans o5.bJ
 have e5:H5 p4=_:=(o5 p4 (t4.ne e4 (by intro kvs c;cases c))).trans e4
 refine bW (aS.of e5) r50 (by show r5<(3:Int);exact r51) λx hx=>?_
 have gx:GZ K m H5 x:=(cH.bJ gl o5.bJ t4).all x hx
 have hS5:=O5.kt t pr us hS
 have g5:=cH.bJ g O5 t
 refine⟨_,rfl,pr,us,rfl,hS5,λp6 H6 s6 h6=>⟨_,rfl,pr,us,rfl,hS5.same s6,λp7 H7 s7 h7=>?_⟩⟩
 have S7:=s6.trans s7
 refine⟨p6,p7,_,_,rfl,rfl,h6.same s7,h7,by have:=cz none (some at');have:=cz (some (at'+1)) none;omega,λp8 H8 s8 h8=>?_⟩
 have S8:=S7.trans s8
 have g8:=g5.same S8
 have go8:GZ K (m+1) H8 (.ref p8):=GZ.tup h8 (by rw [List.length_append];have:=lO (us:=us) (at':=at') (lo:=at'+1) a0 (by omega) (by omega);omega) (.app (g8.cut _ _) (g8.cut _ _))
 have hS8:=hS5.same S8
 have gx8:=gx.same S8
 refine⟨λσ' H'=>Df K H p pr n m at' x p8 σ' H',?_,?_⟩
 ·k_data
  refine cn (d:=.tuple _) ⟨pr,us,rfl,hS8,(g8.choose_spec).1.bD⟩ ⟨false,aK.mpr rfl,?_⟩
  rw [if_neg (by decide)]
  refine yC hS8 g8 gx8 ul a0 (by omega) (by omega) λy1 Ha sa ga=>?_
  refine yC (hS8.same sa) (g8.same sa) (gx8.same sa) ul a0 (by omega) (by omega) λy2 Hb sb gb=>?_
  have Sb:=sa.trans sb
  unfold zw
  k_data
  refine⟨us,hS8.same Sb,λpc hpc=>?_⟩
  have sc:=ak (o:=.tup us.reverse) hpc
  have gc:GZ K (m+1) (upd Hb pc (.tup us.reverse)) (.ref pc):=GZ.tup (aL.of ag) (by rw [List.length_reverse];omega) ((g8.same (Sb.trans sc)).rev)
  generalize upd Hb pc _=Hc at *
  have Sc:=Sb.trans sc
  refine⟨us,.inr (hS8.same Sc),λpd hpd=>?_⟩
  have sd:=ak (o:=.lst us) hpd
  have gd':GZ K (m+1) (upd Hc pd (.lst us)) (.ref pd):=GZ.lst ag (by omega) (g8.same (Sc.trans sd))
  generalize upd Hc pd _=Hd at *
  have Sd:=Sc.trans sd
  refine⟨by show 5<=sizeLine;decide,λpe hpe=>?_⟩
  have se:=ak (o:=.lst [y1,y2,V.ref p8,V.ref pc,V.ref pd]) hpe
  have Se:=Sd.trans se
  refine⟨pe,_,rfl,ag,?_,rfl,gx8.same Se,?_,?_⟩
  ·exact .cons (ga.same (sb.trans (sc.trans (sd.trans se)))) (.cons (gb.same (sc.trans (sd.trans se))) (.cons (go8.same Se) (.cons (gc.same (sd.trans se)) (.cons (gd'.same se) .nil))))
  ·exact O5.trans (bN.of (S8.trans Se))
  ·exact t5.same (S8.trans Se)
 ·rintro σ' H9 ⟨po,ys,rfl,e9,g9,l9,gx9,O9,t9⟩
  k_data
  refine⟨by show 1<=sizeLine;decide,λpb hpb=>?_⟩
  have sb:=ak (o:=.lst [x]) hpb
  refine⟨po,pb,_,_,rfl,rfl,sb _ _ e9,ag,Nat.le_trans (show ys.length+1<=6 by omega) (by decide),λpd hpd=>?_⟩
  have sd:=ak (o:=.lst (ys++[x])) hpd
  have ed:upd (upd H9 pb (.lst [x])) pd (.lst (ys++[x])) pd=some (.lst (ys++[x])):=ag
  generalize upd (upd H9 pb (.lst [x])) pd _=Hd at *
  have Sd:=sb.trans sd
  have td:=t9.same Sd
  have gd':cH K (m+1) Hd (ys++[x]):=.app (g9.same Sd) (.cons (gx9.same Sd).up .nil)
  refine⟨p,6,n+4,rfl,td,by omega,by decide,by decide,λr6 He r60 r61 oe te=>?_⟩
  have ee:He pd=_:=(oe pd (td.ne ed (by intro kvs c;cases c))).trans ed
  exact bW (aS.of ee) r60 (by rw [List.length_append,List.length_singleton,l9];exact r61) λv hv=>q v He ((O9.trans (bN.of Sd)).trans oe.bJ) te ((cH.bJ gd' oe.bJ td).all v hv)
def NP (K:PySem.W.Frag) (H:Hp) (N:Nat) (v:V):Prop:=∃ d,dv K H d v/\gd d/\bO d<=N/\¬PP d
theorem NP.same {H H':Hp} {N:Nat} {v:V} (h:NP K H N v) (s:aG H H'):NP K H' N v:=by
 obtain⟨d,h1,h2⟩:=h
 exact⟨d,dv.same s _ h1,h2⟩
theorem NP.bJ {t:Addr} {n:Nat} {H H':Hp} {N:Nat} {v:V} (h:NP K H N v) (o:bN t H H') (tt:Tp t n H):NP K H' N v:=by
 obtain⟨d,h1,h2⟩:=h
 exact⟨d,dv.bJ h1 o tt,h2⟩
theorem NP.mono {H:Hp} {N M:Nat} {v:V} (h:NP K H N v) (l:N<=M):NP K H M v:=by
 obtain⟨d,h1,h2,h3,h4⟩:=h
 exact⟨d,h1,h2,Nat.le_trans h3 l,h4⟩
theorem pZ (D:aC K mg "_law_bent_within" (top 63)):Callee P w K mg base aT 2 "_law_bent_within" ["_law_tape_here","_law_paper"] (fQ K 0):=by
 refine cO D cW (λf cdv A outer s H vs Q E hr h=>?_)
 obtain⟨t,n,v,p,d,rfl,tt,n9,hv,hp,hH,q⟩:=h
 exact hH.elim
theorem jW (D:aC K mg "_law_bent_within" (top 63)) (c__law_draw:Callee P w K mg base aT 1 "_law_draw" ["_law_tape_here","_law_many"] dO) (n_len:mg "len"=none):∀ L:Nat,L<=41->Callee P w K mg base aT (L+2) "_law_bent_within" ["_law_tape_here","_law_paper"] (fQ K L)
 | 0,_=>pZ D
 | L+1,h=>(qa (show L<=40 by omega) D c__law_draw (jW D c__law_draw n_len L (by omega)) n_len).mono (by omega)
def lC (K:PySem.W.Frag):Sp:=λvs H Q _=>∃(t:Addr) (n:Nat) (v:V) (p:Int) (d:PyData),vs=[.ref t,v]/\Tp t n H/\n<=10^45/\dv K H d v/\Num.hW p d/\∀ y H',NP K H' (2*bO d+20) y->bN t H H'->Tp t (n+60) H'->Q y H'
theorem yw (h:Callee P w K mg base aT (30+2) "_law_bent_within" ["_law_tape_here","_law_paper"] (fQ K 30)):Callee P w K mg base aT 32 "_law_bent_within" ["_law_tape_here","_law_paper"] (lC K) :=
 Callee.imp h λvs H Q E z=>by
  obtain⟨t,n,v,p,d,h1,h2,h3,h4,h5,q⟩:=z
  exact⟨t,n,v,p,d,h1,h2,by omega,h4,h5,Num.uQ (lg h5).1 (lg h5).2,λd' y H' np g' s' o' t' hy=>q y H' ⟨d',hy,g',s',np⟩ o' t'⟩
def vZ (K:PySem.W.Frag):Sp:=λvs H Q _=>∃(p:Addr) (n:Nat),vs=[.ref p]/\Tp p n H/\n<=10^50/\∀ x H',bN p H H'->Tp p (n+1) H'->NP K H' 10 x->Q x H'
theorem CY (h:Callee P w K mg base aT 2 "_law_odd" ["_law_tape_here"] (mK K)):Callee P w K mg base aT 2 "_law_odd" ["_law_tape_here"] (vZ K) :=
 Callee.imp h λvs H Q E z=>by
  obtain⟨p,n,h1,h2,h3,q⟩:=z
  refine⟨p,n,h1,h2,h3,λx H' o t h=>?_⟩
  obtain⟨d,a1,a2,a3,a4⟩:=h
  exact q x H' o t ⟨d,a1.dv,a2.g,a3,a4⟩
theorem vV {J:Hp} {a c:Addr} {L L' T:HO} (h20:J a=none) (h21:upd J a L c=none):aG J (upd (upd (upd J a L) c T) a L')/\upd (upd (upd J a L) c T) a L' c=some T:=by
 have ne:c≠a:=λz=>by rw [z,ag] at h21;cases h21
 refine⟨λb o e=>?_,by rw [aA ne,ag]⟩
 have n1:b≠a:=λz=>by rw [z,h20] at e;cases e
 have n2:b≠c:=λz=>by rw [<- z,aA n1,e] at h21;cases h21
 rw [aA n1,aA n2,aA n1,e]
theorem zM {J:Hp} {p g:Int} {rows:List PyData} {us:List V} {pv pr a1 a2 a3 a4 a5 al a6 a8 a9 a10 a11 a12 a13 a16 c18 a18:Addr} (hct:CT 2 (p-1) 1 rows) (p2:2<=p) (p9:p<=10^9) (g1:1<=g) (gp:g<p) (gr:cw rows) (hd:bD K J rows us) (hr:aL K J pr us) (hv:dv K J (.tuple [.int p,.int g,.tuple rows]) (.ref pv))
  (A1:aL K J a1 [.int (p+1),.int g,.ref pr]) (A2:aL K J a2 [.int p,.int p,.ref pr]) (A3:aL K J a3 [.int p,.int 0,.ref pr]) (A4:aS K J a4 [.int p,.int g,.ref pr]) (A5:aL K J a5 [.int p,.int g]) (Al:aS K J al us) (A6:aL K J a6 [.int p,.int g,.ref al]) (A8:aL K J a8 [.int p,.bl true,.ref pr]) (A9:aL K J a9 [.int p,.int g,.ref pr,.int 0]) (A10:aL K J a10 [.int p,.int g,.cj]) (A11:aL K J a11 [.int p,.int g,.ref pr]) (A12:aL K J a12 [.ref a11]) (A13:aL K J a13 [.int (0-p),.int g,.ref pr]) (A16:aL K J a16 [.int p,.int (g+p),.ref pr]) (C18:aL K J c18 (us++[.ref pv])) (A18:aL K J a18 [.int p,.int g,.ref c18]) :
  ∀ x∈[V.ref a1,.ref a2,.ref a3,.ref a4,.ref a5,.ref a6,.ref a8,.ref a9,.ref a10,.ref a12,.ref a13,.ref a16,.ref a18],NP K J (2*bO (.tuple [.int p,.int g,.tuple rows])+20) x:=by
 have dr:dv K J (.tuple rows) (.ref pr):=⟨pr,us,rfl,hr,hd⟩
 have hz:bO (.tuple [.int p,.int g,.tuple rows])=4+aN rows:=by simp only [bO,aN];omega
 have gg:gd (.tuple [.int p,.int g,.tuple rows]):=by simp only [gd,cw,and_true];exact⟨by omega,by omega,gr⟩
 rw [hz]
 intro x hx
 simp only [List.mem_cons,List.not_mem_nil,or_false] at hx
 rcases hx with rfl | rfl | rfl | rfl | rfl | rfl | rfl | rfl | rfl | rfl | rfl | rfl | rfl
 ·exact⟨.tuple [.int (p+1),.int g,.tuple rows],bQ A1 rfl rfl dr,by simp only [gd,cw,and_true,true_and];exact⟨⟨by omega,by omega⟩,⟨by omega,by omega⟩,gr⟩,by simp only [bO,aN,bw];omega,nU (g:=0) hct (by omega)⟩
 ·exact⟨.tuple [.int p,.int p,.tuple rows],bQ A2 rfl rfl dr,by simp only [gd,cw,and_true,true_and];exact⟨⟨by omega,by omega⟩,⟨by omega,by omega⟩,gr⟩,by simp only [bO,aN,bw];omega,u4 (.inr (by omega))⟩
 ·exact⟨.tuple [.int p,.int 0,.tuple rows],bQ A3 rfl rfl dr,by simp only [gd,cw,and_true,true_and];exact⟨⟨by omega,by omega⟩,⟨by omega,by omega⟩,gr⟩,by simp only [bO,aN,bw];omega,u4 (.inl (by decide))⟩
 ·exact⟨.list [.int p,.int g,.tuple rows],⟨a4,_,rfl,A4,_,_,rfl,rfl,_,_,rfl,rfl,_,_,rfl,dr,rfl⟩,by simp only [gd,cw,and_true,true_and];exact⟨⟨by omega,by omega⟩,⟨by omega,by omega⟩,gr⟩,by simp only [bO,aN,bw];omega,ba λp g rows h=>by simp at h⟩
 ·exact⟨.tuple [.int p,.int g],fB A5 rfl rfl,by simp only [gd,cw,and_true,true_and];exact⟨⟨by omega,by omega⟩,⟨by omega,by omega⟩⟩,by simp only [bO,aN,bw];omega,ba λp g rows h=>by simp at h⟩
 ·exact⟨.tuple [.int p,.int g,.list rows],bQ A6 rfl rfl ⟨al,us,rfl,Al,hd⟩,by simp only [gd,cw,and_true,true_and];exact⟨⟨by omega,by omega⟩,⟨by omega,by omega⟩,gr⟩,by simp only [bO,aN,bw];omega,ba λp g rows h=>by simp at h⟩
 ·exact⟨.tuple [.int p,.bool true,.tuple rows],bQ A8 rfl rfl dr,by simp only [gd,cw,and_true,true_and];exact⟨⟨by omega,by omega⟩,gr⟩,by simp only [bO,aN,bw];omega,ba λp g rows h=>by simp at h⟩
 ·exact⟨.tuple [.int p,.int g,.tuple rows,.int 0],⟨a9,_,rfl,A9,_,_,rfl,rfl,_,_,rfl,rfl,_,_,rfl,dr,_,_,rfl,rfl,rfl⟩,by simp only [gd,cw,and_true,true_and];exact⟨⟨by omega,by omega⟩,⟨by omega,by omega⟩,gr,by decide⟩,by simp only [bO,aN,bw];omega,ba λp g rows h=>by simp at h⟩
 ·exact⟨.tuple [.int p,.int g,.none],bQ A10 rfl rfl rfl,by simp only [gd,cw,and_true,true_and];exact⟨⟨by omega,by omega⟩,⟨by omega,by omega⟩⟩,by simp only [bO,aN,bw];omega,ba λp g rows h=>by simp at h⟩
 ·exact⟨.tuple [.tuple [.int p,.int g,.tuple rows]],uI A12 (bQ A11 rfl rfl dr),by simp only [gd,cw,and_true,true_and];exact⟨⟨by omega,by omega⟩,⟨by omega,by omega⟩,gr⟩,by simp only [bO,aN,bw];omega,ba λp g rows h=>by simp at h⟩
 ·exact⟨.tuple [.int (0-p),.int g,.tuple rows],bQ A13 rfl rfl dr,by simp only [gd,cw,and_true,true_and];exact⟨⟨by omega,by omega⟩,⟨by omega,by omega⟩,gr⟩,by simp only [bO,aN,bw];omega,nU (g:=0) hct (by omega)⟩
 ·exact⟨.tuple [.int p,.int (g+p),.tuple rows],bQ A16 rfl rfl dr,by simp only [gd,cw,and_true,true_and];exact⟨⟨by omega,by omega⟩,⟨by omega,by omega⟩,gr⟩,by simp only [bO,aN,bw];omega,u4 (.inr (by omega))⟩
 ·exact⟨.tuple [.int p,.int g,.tuple (rows++[.tuple [.int p,.int g,.tuple rows]])],bQ A18 rfl rfl ⟨c18,_,rfl,C18,hd.append ⟨_,_,rfl,hv,rfl⟩⟩,by simp only [gd,cw,and_true,true_and];exact⟨⟨by omega,by omega⟩,⟨by omega,by omega⟩,jw.mpr ⟨gr,by simp only [cw,and_true];exact gg⟩⟩,by simp only [bO,aN,bw];omega,sU hct⟩
def Bc (K:PySem.W.Frag) (H:Hp) (s0:L2.St) (a:Addr) (N:Nat) (t:Addr) (n:Nat) (σ':L2.St) (H':Hp):Prop:=σ'=s0/\bN t H H'/\Tp t n H'/\∃ xs,H' a=some (.lst xs)/\(∀ x∈xs,NP K H' N x)/\1<=xs.length/\xs.length<=20
def jj (K:PySem.W.Frag):Sp:=λvs H Q _=>∃(t:Addr) (n:Nat) (v:V) (p:Int) (d:PyData),vs=[.ref t,v]/\Tp t n H/\n<=10^44/\dv K H d v/\Num.hW p d/\∀ y H',NP K H' (2*bO d+20) y->bN t H H'->Tp t (n+70) H'->Q y H'
def DC (H:Hp) (s0:L2.St) (t:Addr) (n:Nat) (σ':L2.St) (H':Hp):Prop:=σ'=s0/\bN t H H'/\Tp t n H'
theorem dZ:aE ["_law_tape_here","_law_paper","_law_p","_law_full","_law_parts","_law_some"] ["_law_tape_here","_law_paper"] (au (top 64)):=dI
theorem l8 (D:aC K mg "_law_bent_paper" (top 64)) (c__law_draw:Callee P w K mg base aT 1 "_law_draw" ["_law_tape_here","_law_many"] dO) (c__law_bent_within:Callee P w K mg base aT 32 "_law_bent_within" ["_law_tape_here","_law_paper"] (lC K)) (c__law_odd:Callee P w K mg base aT 2 "_law_odd" ["_law_tape_here"] (vZ K)) (n_len:mg "len"=none) (n_list:mg "list"=none):Callee P w K mg base aT 33 "_law_bent_paper" ["_law_tape_here","_law_paper"] (jj K):=by
 refine cO D dZ (λf cdv A outer s H vs Q E hr h=>?_)
 obtain⟨t,n,v,p,d,rfl,tt,n9,hv,hp,q⟩:=h
 obtain⟨pm,p9⟩:=lg hp
 have p2:=pm.two
 have gdd:=vC hp
 have small:=fZ hp
 have hp':=hp
 obtain⟨g,ps,ds,rfl,hg,hP,l29,hds⟩:=jC hp
 have g1:=hg.one
 have gp:=hg.lt
 have hct:CT 2 (p-1) 1 (Num.rowsOf ps ds):=eO ((mr p2 hP hds).mpr ⟨hg.one,hg.lt,hg.ord⟩)
 have nd:=dZ.nd
 refine⟨_,(@aj _ _ _ _ _ (cS (@aQ _ _ _ _ _ _ _ _ (@aw _ _ _ _ _ _ _ _ bp (@aH _ _ _ _ _ _ _ _ _ _ _ _ c__law_draw (hr.mono (by decide)) rfl az (@aa _ _ _ _ _ (pv 0) (@aa _ _ _ _ _ ah af (by rfl)) (by rfl)) (by decide) (by rfl) (by rfl)) ah (ax _)) (@ao _ _ _ (@ay _ _ _ _ (@aH _ _ _ _ _ _ _ _ _ _ _ _ c__law_bent_within (hr.mono (by decide)) rfl az (@aa _ _ _ _ _ (pv 0) (@aa _ _ _ _ _ (pv 1) af (by rfl)) (by rfl)) (by decide) (by rfl) (by rfl)))) aF)) (@aj _ _ _ _ _ (eG (pv 1) (eF (n:=3) rfl (aM (aI (i:=2) nd rfl (Or.inl rfl) (.inr rfl)) (aM (aI (i:=3) nd rfl (Or.inl rfl) (.inr rfl)) (aM (aI (i:=4) nd rfl (Or.inl rfl) (.inr rfl)) cU))))) (@aj _ _ _ _ _ (@bF _ _ 5 _ _ _ _ nd rfl (Or.inl rfl) (@aW _ _ _ _ (@aa _ _ _ _ _ (@aD _ _ _ _ _ (@aa _ _ _ _ _ (@av _ _ _ _ _ _ _ _ bf (pv 2) ah) (@aa _ _ _ _ _ (pv 3) (@aa _ _ _ _ _ (pv 4) af (by rfl)) (by rfl)) (by rfl))) (@aa _ _ _ _ _ (@aD _ _ _ _ _ (@aa _ _ _ _ _ (pv 2) (@aa _ _ _ _ _ (pv 2) (@aa _ _ _ _ _ (pv 4) af (by rfl)) (by rfl)) (by rfl))) (@aa _ _ _ _ _ (@aD _ _ _ _ _ (@aa _ _ _ _ _ (pv 2) (@aa _ _ _ _ _ ah (@aa _ _ _ _ _ (pv 4) af (by rfl)) (by rfl)) (by rfl))) (@aa _ _ _ _ _ (@aW _ _ _ _ (@aa _ _ _ _ _ (pv 2) (@aa _ _ _ _ _ (pv 3) (@aa _ _ _ _ _ (pv 4) af (by rfl)) (by rfl)) (by rfl))) (@aa _ _ _ _ _ (@aD _ _ _ _ _ (@aa _ _ _ _ _ (pv 2) (@aa _ _ _ _ _ (pv 3) af (by rfl)) (by rfl))) (@aa _ _ _ _ _ (@aD _ _ _ _ _ (@aa _ _ _ _ _ (pv 2) (@aa _ _ _ _ _ (pv 3) (@aa _ _ _ _ _ (@c9 _ _ _ _ _ _ _ _ _ dU rfl n_list L2.boot_list (@aa _ _ _ _ _ (pv 4) af (by rfl)) (by decide) (by decide) (by rfl) (by rfl)) af (by rfl)) (by rfl)) (by rfl))) af (by rfl)) (by rfl)) (by rfl)) (by rfl)) (by rfl)) (by rfl))) (by rfl) (by first | exact .inl rfl | exact .inr rfl | assumption)) (@aj _ _ _ _ _ (@bF _ _ 5 _ _ _ _ nd rfl (Or.inl rfl) (@av _ _ _ _ _ _ _ _ dB (pv 5) (@aW _ _ _ _ (@aa _ _ _ _ _ (@aD _ _ _ _ _ (@aa _ _ _ _ _ (pv 2) (@aa _ _ _ _ _ cD (@aa _ _ _ _ _ (pv 4) af (by rfl)) (by rfl)) (by rfl))) (@aa _ _ _ _ _ (@aD _ _ _ _ _ (@aa _ _ _ _ _ (pv 2) (@aa _ _ _ _ _ (pv 3) (@aa _ _ _ _ _ (pv 4) (@aa _ _ _ _ _ ah af (by rfl)) (by rfl)) (by rfl)) (by rfl))) (@aa _ _ _ _ _ (@aD _ _ _ _ _ (@aa _ _ _ _ _ (pv 2) (@aa _ _ _ _ _ (pv 3) (@aa _ _ _ _ _ gX af (by rfl)) (by rfl)) (by rfl))) (@aa _ _ _ _ _ (@aD _ _ _ _ _ (@aa _ _ _ _ _ (@aD _ _ _ _ _ (@aa _ _ _ _ _ (pv 2) (@aa _ _ _ _ _ (pv 3) (@aa _ _ _ _ _ (pv 4) af (by rfl)) (by rfl)) (by rfl))) af (by rfl))) (@aa _ _ _ _ _ (@aD _ _ _ _ _ (@aa _ _ _ _ _ (@av _ _ _ _ _ _ _ _ bR ah (pv 2)) (@aa _ _ _ _ _ (pv 3) (@aa _ _ _ _ _ (pv 4) af (by rfl)) (by rfl)) (by rfl))) af (by rfl)) (by rfl)) (by rfl)) (by rfl)) (by rfl)))) (by rfl) (by first | exact .inl rfl | exact .inr rfl | assumption)) (@aj _ _ _ _ _ (@bF _ _ 5 _ _ _ _ nd rfl (Or.inl rfl) (@av _ _ _ _ _ _ _ _ dB (pv 5) (@aW _ _ _ _ (@aa _ _ _ _ _ (@aD _ _ _ _ _ (@aa _ _ _ _ _ (pv 2) (@aa _ _ _ _ _ (@av _ _ _ _ _ _ _ _ bf (pv 3) (pv 2)) (@aa _ _ _ _ _ (pv 4) af (by rfl)) (by rfl)) (by rfl))) (@aa _ _ _ _ _ (@aD _ _ _ _ _ (@aa _ _ _ _ _ (pv 2) (@aa _ _ _ _ _ (pv 3) (@aa _ _ _ _ _ (@av _ _ _ _ _ _ _ _ cL (pv 4) (@aD _ _ _ _ _ (@aa _ _ _ _ _ (pv 1) af (by rfl)))) af (by rfl)) (by rfl)) (by rfl))) (@aa _ _ _ _ _ (@aH _ _ _ _ _ _ _ _ _ _ _ _ c__law_odd (hr.mono (by decide)) rfl az (@aa _ _ _ _ _ (pv 0) af (by rfl)) (by decide) (by rfl) (by rfl)) af (by rfl)) (by rfl)) (by rfl)))) (by rfl) (by first | exact .inl rfl | exact .inr rfl | assumption)) (@aj _ _ _ _ _ (cS (@aQ _ _ _ _ _ _ _ _ (@aw _ _ _ _ _ _ _ _ c8 (pv 2) ah (ax _)) (@ao _ _ _ (jE (qY PySem.F.plainAttrs_list PySem.F.slot_list_append PySem.F.type_list_append iV (pv 5) (@aa _ _ _ _ _ (@aD _ _ _ _ _ (@aa _ _ _ _ _ (pv 2) (@aa _ _ _ _ _ (@av _ _ _ _ _ _ _ _ aO (@av _ _ _ _ _ _ _ _ bo (pv 3) (pv 3)) (pv 2)) (@aa _ _ _ _ _ (pv 4) af (by rfl)) (by rfl)) (by rfl))) af (by rfl))))) aF)) (@ao _ _ _ (@ay _ _ _ _ (@aP _ _ _ _ _ _ _ bA (pv 5) (@aH _ _ _ _ _ _ _ _ _ _ _ _ c__law_draw (hr.mono (by decide)) rfl az (@aa _ _ _ _ _ (pv 0) (@aa _ _ _ _ _ (@aB _ _ _ _ _ _ _ _ _ aU rfl n_len PySem.boot_len (@aa _ _ _ _ _ (pv 5) af (by rfl)) (by decide) (by decide) (by rfl) (by rfl)) af (by rfl)) (by rfl)) (by decide) (by rfl) (by rfl)) (λ_ _=>rfl)))))))))),?_⟩
 show bZ _ _ _ [some (.ref t),some v,none,none,none,none] H
 have hv':=hv
 obtain⟨pv,y1,y2,vr,rfl,tS,z0,zg,dr⟩:=lR hv
 cases z0
 cases zg
 obtain⟨pr,us,rfl,tR,hd⟩:=dr
 refine⟨λσ' H'=>DC H [some (.ref t),some (.ref pv),none,none,none,none] t (n+1) σ' H',?_,?_⟩
 ·k_data
  refine⟨t,3,n,rfl,tt,by omega,by decide,by decide,λr2 H2 r20 r21 o2 t2=>⟨rfl,?_⟩⟩
  refine aJ (λ_=>?_) (λ_=>⟨rfl,o2.bJ,t2⟩)
  exact⟨t,n+1,_,p,_,rfl,t2,by omega,dv.bJ hv' o2.bJ tt,hp',λy H' hy O' t'=>q y H' hy (o2.bJ.trans O') (t'.mono (by omega))⟩
 rintro σ' H1 ⟨rfl,O1,t1⟩
 k_data
 refine⟨pv,_,rfl,O1.kt tt _ _ tS,rfl,?_⟩
 k_data
 have tR1:=O1.kt tt _ _ tR
 have ul:us.length<=29:=by rw [hd.length,Num.dD];exact l29
 have grw:cw (Num.rowsOf ps ds):=by
  simp only [gd,cw,and_true] at gdd
  exact gdd.2.2
 refine⟨by show 3<=sizeLine;decide,λa1 h1=>?_⟩
 have b1:=ak (o:=.tup [V.int (p+1),V.int g,V.ref pr]) h1
 have e1:upd H1 a1 (.tup [V.int (p+1),V.int g,V.ref pr]) a1=some (.tup [V.int (p+1),V.int g,V.ref pr]):=ag
 generalize upd H1 a1 _=J1 at *
 refine⟨by show 3<=sizeLine;decide,λa2 h2=>?_⟩
 have b2:=ak (o:=.tup [V.int p,V.int p,V.ref pr]) h2
 have e2:upd J1 a2 (.tup [V.int p,V.int p,V.ref pr]) a2=some (.tup [V.int p,V.int p,V.ref pr]):=ag
 generalize upd J1 a2 _=J2 at *
 refine⟨by show 3<=sizeLine;decide,λa3 h3=>?_⟩
 have b3:=ak (o:=.tup [V.int p,V.int 0,V.ref pr]) h3
 have e3:upd J2 a3 (.tup [V.int p,V.int 0,V.ref pr]) a3=some (.tup [V.int p,V.int 0,V.ref pr]):=ag
 generalize upd J2 a3 _=J3 at *
 refine⟨by show 3<=sizeLine;decide,λa4 h4=>?_⟩
 have b4:=ak (o:=.lst [V.int p,V.int g,V.ref pr]) h4
 have e4:upd J3 a4 (.lst [V.int p,V.int g,V.ref pr]) a4=some (.lst [V.int p,V.int g,V.ref pr]):=ag
 generalize upd J3 a4 _=J4 at *
 refine⟨by show 2<=sizeLine;decide,λa5 h5=>?_⟩
 have b5:=ak (o:=.tup [V.int p,V.int g]) h5
 have e5:upd J4 a5 (.tup [V.int p,V.int g]) a5=some (.tup [V.int p,V.int g]):=ag
 generalize upd J4 a5 _=J5 at *
 have tR5:=tR1.same (b1.trans (b2.trans (b3.trans (b4.trans b5))))
 refine⟨us,.inr tR5,λal hl=>?_⟩
 have bl:=ak (o:=.lst us) hl
 have el:upd J5 al (.lst us) al=some (.lst us):=ag
 generalize upd J5 al _=Jl at *
 refine⟨by show 3<=sizeLine;decide,λa6 h6=>?_⟩
 have b6:=ak (o:=.tup [V.int p,V.int g,V.ref al]) h6
 have e6:upd Jl a6 (.tup [V.int p,V.int g,V.ref al]) a6=some (.tup [V.int p,V.int g,V.ref al]):=ag
 generalize upd Jl a6 _=J6 at *
 refine⟨by show 6<=sizeLine;decide,λa7 h7=>?_⟩
 have b7:=ak (o:=.lst [V.ref a1,V.ref a2,V.ref a3,V.ref a4,V.ref a5,V.ref a6]) h7
 have e7:upd J6 a7 (.lst [V.ref a1,V.ref a2,V.ref a3,V.ref a4,V.ref a5,V.ref a6]) a7=some (.lst [V.ref a1,V.ref a2,V.ref a3,V.ref a4,V.ref a5,V.ref a6]):=ag
 generalize upd J6 a7 _=J7 at *
 refine⟨by show 3<=sizeLine;decide,λa8 h8=>?_⟩
 have b8:=ak (o:=.tup [V.int p,V.bl true,V.ref pr]) h8
 have e8:upd J7 a8 (.tup [V.int p,V.bl true,V.ref pr]) a8=some (.tup [V.int p,V.bl true,V.ref pr]):=ag
 generalize upd J7 a8 _=J8 at *
 refine⟨by show 4<=sizeLine;decide,λa9 h9=>?_⟩
 have b9:=ak (o:=.tup [V.int p,V.int g,V.ref pr,V.int 0]) h9
 have e9:upd J8 a9 (.tup [V.int p,V.int g,V.ref pr,V.int 0]) a9=some (.tup [V.int p,V.int g,V.ref pr,V.int 0]):=ag
 generalize upd J8 a9 _=J9 at *
 refine⟨by show 3<=sizeLine;decide,λa10 h10=>?_⟩
 have b10:=ak (o:=.tup [V.int p,V.int g,V.cj]) h10
 have e10:upd J9 a10 (.tup [V.int p,V.int g,V.cj]) a10=some (.tup [V.int p,V.int g,V.cj]):=ag
 generalize upd J9 a10 _=J10 at *
 refine⟨by show 3<=sizeLine;decide,λa11 h11=>?_⟩
 have b11:=ak (o:=.tup [V.int p,V.int g,V.ref pr]) h11
 have e11:upd J10 a11 (.tup [V.int p,V.int g,V.ref pr]) a11=some (.tup [V.int p,V.int g,V.ref pr]):=ag
 generalize upd J10 a11 _=J11 at *
 refine⟨by show 1<=sizeLine;decide,λa12 h12=>?_⟩
 have b12:=ak (o:=.tup [V.ref a11]) h12
 have e12:upd J11 a12 (.tup [V.ref a11]) a12=some (.tup [V.ref a11]):=ag
 generalize upd J11 a12 _=J12 at *
 refine⟨by show 3<=sizeLine;decide,λa13 h13=>?_⟩
 have b13:=ak (o:=.tup [V.int (0-p),V.int g,V.ref pr]) h13
 have e13:upd J12 a13 (.tup [V.int (0-p),V.int g,V.ref pr]) a13=some (.tup [V.int (0-p),V.int g,V.ref pr]):=ag
 generalize upd J12 a13 _=J13 at *
 refine⟨by show 5<=sizeLine;decide,λa14 h14=>?_⟩
 have b14:=ak (o:=.lst [V.ref a8,V.ref a9,V.ref a10,V.ref a12,V.ref a13]) h14
 have e14:upd J13 a14 (.lst [V.ref a8,V.ref a9,V.ref a10,V.ref a12,V.ref a13]) a14=some (.lst [V.ref a8,V.ref a9,V.ref a10,V.ref a12,V.ref a13]):=ag
 generalize upd J13 a14 _=J14 at *
 refine⟨a7,a14,_,_,rfl,rfl,(b8.trans (b9.trans (b10.trans (b11.trans (b12.trans (b13.trans b14)))))) _ _ e7,e14,by show 11<=sizeLine;decide,λa15 h15=>?_⟩
 have b15:=ak (o:=.lst ([V.ref a1,V.ref a2,V.ref a3,V.ref a4,V.ref a5,V.ref a6]++[V.ref a8,V.ref a9,V.ref a10,V.ref a12,V.ref a13])) h15
 have e15:upd J14 a15 (.lst ([V.ref a1,V.ref a2,V.ref a3,V.ref a4,V.ref a5,V.ref a6]++[V.ref a8,V.ref a9,V.ref a10,V.ref a12,V.ref a13])) a15=some (.lst ([V.ref a1,V.ref a2,V.ref a3,V.ref a4,V.ref a5,V.ref a6]++[V.ref a8,V.ref a9,V.ref a10,V.ref a12,V.ref a13])):=ag
 generalize upd J14 a15 _=J15 at *
 k_data
 refine⟨by show 3<=sizeLine;decide,λa16 h16=>?_⟩
 have b16:=ak (o:=.tup [V.int p,V.int (g+p),V.ref pr]) h16
 have e16:upd J15 a16 (.tup [V.int p,V.int (g+p),V.ref pr]) a16=some (.tup [V.int p,V.int (g+p),V.ref pr]):=ag
 generalize upd J15 a16 _=J16 at *
 refine⟨by show 1<=sizeLine;decide,λa17 h17=>?_⟩
 have b17:=ak (o:=.tup [V.ref pv]) h17
 have e17:upd J16 a17 (.tup [V.ref pv]) a17=some (.tup [V.ref pv]):=ag
 generalize upd J16 a17 _=J17 at *
 have tR17:=tR5.same (bl.trans (b6.trans (b7.trans (b8.trans (b9.trans (b10.trans (b11.trans (b12.trans (b13.trans (b14.trans (b15.trans (b16.trans b17))))))))))))
 refine⟨pr,a17,_,_,rfl,rfl,tR17,aL.of e17,by rw [List.length_singleton];exact Nat.le_trans (show us.length+1<=30 by omega) (by decide),λc18 Jc bc tc=>?_⟩
 refine⟨by show 3<=sizeLine;decide,λa18 h18=>?_⟩
 have b18:=ak (o:=.tup [V.int p,V.int g,V.ref c18]) h18
 have e18:upd Jc a18 (.tup [V.int p,V.int g,V.ref c18]) a18=some (.tup [V.int p,V.int g,V.ref c18]):=ag
 generalize upd Jc a18 _=J18 at *
 have Rbc:=b18
 have Rb17:=bc.trans Rbc
 have Rb16:=b17.trans Rb17
 have Rb15:=b16.trans Rb16
 have Rb14:=b15.trans Rb15
 have Rb13:=b14.trans Rb14
 have Rb12:=b13.trans Rb13
 have Rb11:=b12.trans Rb12
 have Rb10:=b11.trans Rb11
 have Rb9:=b10.trans Rb10
 have Rb8:=b9.trans Rb9
 have Rb7:=b8.trans Rb8
 have Rb6:=b7.trans Rb7
 have Rbl:=b6.trans Rb6
 have Rb5:=bl.trans Rbl
 have Rb4:=b5.trans Rb5
 have Rb3:=b4.trans Rb4
 have Rb2:=b3.trans Rb3
 have Rb1:=b2.trans Rb2
 have S:=b1.trans Rb1
 have nps:=zM (J:=J18) hct p2 p9 g1 gp grw (bD.same S _ (bD.fj (O1.kt tt) (O1.kl tt) _ hd)) (tR1.same S) (dv.same S _ (dv.bJ hv' O1 tt)) (aL.of (Rb1 _ _ e1)) (aL.of (Rb2 _ _ e2)) (aL.of (Rb3 _ _ e3)) (aS.of (Rb4 _ _ e4)) (aL.of (Rb5 _ _ e5)) (aS.of (Rbl _ _ el)) (aL.of (Rb6 _ _ e6)) (aL.of (Rb8 _ _ e8)) (aL.of (Rb9 _ _ e9)) (aL.of (Rb10 _ _ e10)) (aL.of (Rb11 _ _ e11)) (aL.of (Rb12 _ _ e12)) (aL.of (Rb13 _ _ e13)) (aL.of (Rb16 _ _ e16)) (tc.same Rbc) (aL.of e18)
 have e15':=Rb15 _ _ e15
 have O2:=O1.trans (bN.of S)
 have t2:=t1.same S
 clear Rb1 Rb2 Rb3 Rb4 Rb5 Rbl Rb6 Rb7 Rb8 Rb9 Rb10 Rb11 Rb12 Rb13 Rb14 Rb15 Rb16 Rb17 Rbc
 refine⟨t,n+1,rfl,t2,by omega,λy H3 O3' t3 hy=>?_⟩
 have O3:=O2.trans O3'
 have f15:=O3' a15 _ (t2.ne e15' (by intro kvs c;cases c)) e15'
 replace nps:=λx hx=>(nps x hx).bJ O3' t2
 refine⟨by show 3<=sizeLine;decide,λa19 h19=>?_⟩
 have b19:=ak (o:=.lst [V.ref a16,V.ref a18,y]) h19
 have e19:upd H3 a19 (.lst [V.ref a16,V.ref a18,y]) a19=some (.lst [V.ref a16,V.ref a18,y]):=ag
 generalize upd H3 a19 _=J19 at *
 refine⟨a15,a19,_,_,rfl,rfl,b19 _ _ f15,e19,by show 14<=sizeLine;decide,λa20 h20=>?_⟩
 have all:∀{X:Hp},aG H3 X->∀ x∈([V.ref a1,V.ref a2,V.ref a3,V.ref a4,V.ref a5,V.ref a6]++[V.ref a8,V.ref a9,V.ref a10,V.ref a12,V.ref a13]++[V.ref a16,V.ref a18,y]),NP K X (2*bO (.tuple [.int p,.int g,.tuple (Num.rowsOf ps ds)])+20) x:=λs x hx=>by
  rcases List.mem_append.mp hx with z | z
  ·exact (nps x (List.mem_append_left [V.ref a16,V.ref a18] z)).same s
  ·simp only [List.mem_cons,List.not_mem_nil,or_false] at z
   rcases z with rfl | rfl | rfl
   ·exact (nps _ (by simp)).same s
   ·exact (nps _ (by simp)).same s
   ·exact (hy.same s).mono (by omega)
 have ln:(([V.ref a1,V.ref a2,V.ref a3,V.ref a4,V.ref a5,V.ref a6]++[V.ref a8,V.ref a9,V.ref a10,V.ref a12,V.ref a13]++[V.ref a16,V.ref a18,y])).length=14:=rfl
 generalize ([V.ref a1,V.ref a2,V.ref a3,V.ref a4,V.ref a5,V.ref a6]++[V.ref a8,V.ref a9,V.ref a10,V.ref a12,V.ref a13]++[V.ref a16,V.ref a18,y])=LL at *
 have O4:=O3.trans (bN.of b19)
 have t4:=t3.same b19
 have tR4:=O4.kt tt _ _ tR
 refine⟨λσ' H'=>Bc K H [some (.ref t),some (.ref pv),some (.int p),some (.int g),some (.ref pr),some (.ref a20)] a20 (2*bO (.tuple [.int p,.int g,.tuple (Num.rowsOf ps ds)])+20) t (n+2) σ' H',?_,?_⟩
 ·k_data
  refine aJ (λp3=>?_) (λ_=>?_)
  ·refine⟨.inl ⟨rfl,_,aS.of ag⟩,Bd.of (by omega) (by omega),Bd.of (by omega) (by omega),by omega,by show 3<=sizeLine;decide,λa21 h21=>?_⟩
   have ne:a20≠a21:=λz=>by rw [<- z,ag] at h21;cases h21
   obtain⟨s5,f5⟩:=vV (L:=.lst LL) (T:=.tup [V.int p,V.int (g*g%p),V.ref pr]) (L':=.lst (LL++[V.ref a21])) h20 h21
   refine⟨a20,LL,_,rfl,rfl,by rw [aA ne,ag],Nat.lt_of_le_of_lt (show LL.length<=14 by omega) (by decide),?_⟩
   refine⟨rfl,O4.trans (bN.of s5),t4.same s5,_,ag,λx hx=>?_,by rw [List.length_append];omega,by rw [List.length_append,List.length_singleton];omega⟩
   rcases List.mem_append.mp hx with z | z
   ·exact all (b19.trans s5) x z
   ·obtain rfl:=List.mem_singleton.mp z
    have r0:=Int.emod_nonneg (g*g) (show p≠0 by omega)
    have r1:=Int.emod_lt_of_pos (g*g) (show 0<p by omega)
    refine⟨.tuple [.int p,.int (g*g%p),.tuple (Num.rowsOf ps ds)],bQ (aL.of f5) rfl rfl ⟨pr,us,rfl,tR4.same s5,bD.same s5 _ (bD.fj (O4.kt tt) (O4.kl tt) _ hd)⟩,by simp only [gd,cw,and_true];exact⟨by omega,by omega,grw⟩,by simp only [bO,aN];omega,xr (g:=g) p2 hP hds (.inr (.inr (BR pm (by omega) λz=>by have:=Int.le_of_dvd (by omega) z;omega)))⟩
  ·have b20:=ak (o:=.lst LL) h20
   exact⟨rfl,O4.trans (bN.of b20),t4.same b20,LL,ag,all (b19.trans b20),by omega,by omega⟩
 rintro σ' H5 ⟨rfl,O5,t5,xs,e5,hxs,x1,x20⟩
 k_data
 refine cp (aS.of e5) ⟨t,_,n+2,rfl,t5,by omega,by omega,by omega,λr H6 r0 r1 o6 t6=>?_⟩
 have e6:H6 a20=_:=(o6 a20 (t5.ne e5 (by intro kvs c;cases c))).trans e5
 exact bW (aS.of e6) r0 r1 λv hv=>q v H6 ((hxs v hv).bJ o6.bJ t5) (O5.trans o6.bJ) (t6.mono (by omega))
end
end K
namespace K
open PySem PySem.Spec PyProof.Rows L2
section
variable {P:Program} {w:World} {K:PySem.W.Frag} {mg:Str->Option Value} {base:Heap}
def Dg (p k d:Int):Prop:=∃ u v,Gcd.AX k (p-1) d u v
theorem Dg.pos {p k d:Int} (h:Dg p k d) (k0:0<k):0<d:=by
 obtain⟨u,v,B⟩:=h
 rcases Int.lt_or_eq_of_le B.g0 with z | z
 ·exact z
 ·have:=B.da;rw [<- z] at this;have:=Int.zero_dvd.mp this;omega
theorem Dg.one {p k d d':Int} (h:Dg p k d) (h':Dg p k d'):d=d':=by
 obtain⟨u,v,B⟩:=h
 obtain⟨u',v',B'⟩:=h'
 have l1:d∣d':=by rw [<- B'.lin];exact Int.dvd_add (Int.dvd_mul_of_dvd_right B.da) (Int.dvd_mul_of_dvd_right B.db)
 have l2:d'∣d:=by rw [<- B.lin];exact Int.dvd_add (Int.dvd_mul_of_dvd_right B'.da) (Int.dvd_mul_of_dvd_right B'.db)
 exact Int.dvd_antisymm B.g0 B'.g0 l1 l2
def rC:Sp:=λvs H Q _=>∃(p k a:Int),vs=[.int p,.int k,.int a]/\0<p/\p<=10^100/\0<k/\k<=10^100/\(p∣a->Q (.int 1) H)/\(¬p∣a->∀ d H',Dg p k d->aG H H'->Q (.int d) H')
theorem ei:aE ["p","k","a"] ["p","k","a"] (au (top 31)):=dI
theorem Ab (D:aC K mg "how_many_roots" (top 31)) (c_divisor:Callee P w K mg base aT 1 "divisor" ["a","b"] i3):Callee P w K mg base aT 2 "how_many_roots" ["p","k","a"] rC:=by
 refine cO D ei (λf cdv A outer s H vs Q E hr h=>?_)
 obtain⟨p,k,a,rfl,p0,p1,k0,k1,q1,q2⟩:=h
 have nd:=ei.nd
 refine⟨_,(ao (ay (dX (aw bp (av aO (pv 2) (pv 0)) ah (ax _)) ah (aP aZ (bT c_divisor hr az (aa (pv 1) (aa (av bR (pv 0) ah) af))) ah (λ_ _=>rfl))))),?_⟩
 show iK _ _ [some (.int p),some (.int k),some (.int a)] H
 k_data
 refine⟨p0,aJ (λc=>q1 (Int.dvd_of_emod_eq_zero c)) (λc=>⟨k,p-1,rfl,⟨by omega,by omega⟩,⟨by omega,by omega⟩,λg u v t H' B s' e=>cY (aL.of e) mU (q2 (λz=>c (Int.emod_eq_zero_of_dvd z)) g H' ⟨u,v,B⟩ s')⟩)⟩
def jV (e r:Int):PyData:=.tuple [.str "none",.int e,.int r]
def qp (K:PySem.W.Frag):Sp:=λvs H Q _=>∃(p k a:Int),vs=[.int p,.int k,.int a]/\Num.Pm p/\p<=10^100/\0<k/\k<=10^100/\(p∣a->Q .cj H) /\
 (¬p∣a->∀ d,Dg p k d->(Num.Al p (a^((p-1)/d).toNat) 1->∀ H',aG H H'->Q .cj H')/\(¬Num.Al p (a^((p-1)/d).toNat) 1->∀ u H',aG H H'->dv K H' (jV ((p-1)/d) (a^((p-1)/d).toNat%p)) u->Q u H'))
theorem gQ:aE ["p","k","a","e","rest"] ["p","k","a"] (au (top 32)):=dI
theorem xF {C:Addr} (D:aC K mg "shown_none" (top 32)) (c_how_many_roots:Callee P w K mg base aT 2 "how_many_roots" ["p","k","a"] rC) (c_power:Callee P w K mg base (gk P w) 4 "power" ["n","a","e"] (jH C)):Callee P w K mg base aT 5 "shown_none" ["p","k","a"] (qp K):=by
 refine cO D gQ (λf cdv A outer s H vs Q E hr h=>?_)
 obtain⟨p,k,a,rfl,pm,p1,k0,k1,q1,q2⟩:=h
 have p2:=pm.two
 have nd:=gQ.nd
 refine⟨_,(aj (aQ (aw bp (av aO (pv 2) (pv 0)) ah (ax _)) (ao (ay gX)) aF) (aj (dc (i:=3) nd (av cT (av bR (pv 0) ah) (bT c_how_many_roots hr az (aa (pv 0) (aa (pv 1) (aa (pv 2) af)))))) (aj (dc (i:=4) nd (bT c_power hr cQ (aa (pv 0) (aa (pv 2) (aa (pv 3) af))))) (ao (ay (dX (aw bp (pv 4) ah (ax _)) gX (aD (aa br (aa (pv 3) (aa (pv 4) af)))))))))),?_⟩
 show bZ _ _ _ [some (.int p),some (.int k),some (.int a),none,none] H
 k_data
 refine⟨by omega,aJ (λc=>q1 (Int.dvd_of_emod_eq_zero c)) (λc=>?_)⟩
 have na:¬p∣a:=λz=>c (Int.emod_eq_zero_of_dvd z)
 refine⟨p,k,a,rfl,by omega,p1,k0,k1,λz=>absurd z na,λ_ d H1 D s1=>?_⟩
 have d0:=D.pos k0
 have hd1:d<=p-1:=by obtain⟨u,v,B⟩:=id D;exact Int.le_of_dvd (by omega) B.db
 have e0:=Int.ediv_nonneg (show 0<=p-1 by omega) (show 0<=d by omega)
 obtain⟨q3,q4⟩:=q2 na d D
 refine⟨d,rfl,d0,Bd.of (by omega) (by omega),p,a,(p-1)/d,rfl,by omega,by omega,λ_ H2 s2=>⟨rfl,aJ (λc2=>?_) (λc2=>⟨by show 3<=sizeLine;decide,λt ht=>?_⟩)⟩,λz=>absurd z (by omega)⟩
 ·have c3:=V.int.inj c2
  exact q3 (Num.Al.iff.mpr (by rw [c3,Int.emod_eq_of_lt (by decide) (by omega)])) H2 (s1.trans s2)
 ·have s3:=ak (o:=.tup [V.str "none",V.int ((p-1)/d),V.int (a^((p-1)/d).toNat%p)]) ht
  exact q4 (λz=>c2 (by rw [Num.Al.iff.mp z,Int.emod_eq_of_lt (by decide) (by omega)])) _ _ ((s1.trans s2).trans s3) ⟨t,_,rfl,aL.of ag,_,_,rfl,rfl,_,_,rfl,rfl,_,_,rfl,rfl,rfl⟩
end
end K
namespace K
open PySem PySem.Spec PyProof.Rows L2
section
variable {P:Program} {w:World} {K:PySem.W.Frag} {mg:Str->Option Value} {base:Heap} {C:Addr}
structure ia (p k a d:Int) (rs:List Int):Prop where
 rise:rs.Pairwise (·<·)
 len:(rs.length:Int)=d
 ok:∀ r∈rs,0<=r/\r<p/\Num.Al p (r^k.toNat) a
 all:∀ x,0<=x->x<p->Num.Al p (x^k.toNat) a->x∈rs
def iL (r t:Int):PyData:=.tuple [.str "turned",.int r,.int t]
theorem yc {p:Int} (pm:Num.Pm p) {r t k d x:Int} (k0:0<k) (D:Dg p k d) (nr:¬p∣r) (hx:Num.Al p (x^k.toNat) (r^k.toNat)) (ot:Num.Ord p t d.toNat):∃ i,i<d.toNat/\Num.Al p x (r*t^i):=by
 have p2:=pm.two
 have d0:=D.pos k0
 obtain⟨b,c,e⟩:=pm.co nr
 have hb0:b*r=1-c*p:=by omega
 have hb:Num.Al p (b*r) 1:=⟨-c,by rw [hb0];grind⟩
 have s1:Num.Al p ((x*b)^k.toNat) 1:=by
  have h1:=hx.mul (Num.Al.refl p (b^k.toNat))
  have h2:=hb.pow k.toNat
  rw [Int.one_pow,Int.mul_pow,Int.mul_comm] at h2
  rw [Int.mul_pow]
  exact h1.trans h2
 have nx:¬p∣x*b:=λz=>by
  obtain⟨y,hy⟩:=z
  have k':k.toNat=(k.toNat-1)+1:=by omega
  have h3:Num.Al p ((x*b)^k.toNat) 0:=by
   rw [k',Int.pow_succ]
   exact⟨(x*b)^(k.toNat-1)*y,by rw [hy];grind⟩
  exact pm.jA (h3.symm.trans s1)
 have s2:=Num.iU pm nx
 obtain⟨m,om,_⟩:=Num.iY (N:=(p-1).toNat) (by omega) s2
 have m1:=Int.natCast_dvd_natCast.mpr (om.dv _ s1)
 have m2:=Int.natCast_dvd_natCast.mpr (om.dv _ s2)
 rw [Int.toNat_of_nonneg (by omega)] at m1 m2
 have m3:(m:Int)∣d:=by
  obtain⟨u,v,B⟩:=D
  rw [<- B.lin]
  exact Int.dvd_add (Int.dvd_mul_of_dvd_right m1) (Int.dvd_mul_of_dvd_right m2)
 have s3:Num.Al p ((x*b)^d.toNat) 1:=by
  rw [<- Int.toNat_of_nonneg (show 0<=d by omega)] at m3
  obtain⟨y,hy⟩:=Int.natCast_dvd_natCast.mp m3
  rw [hy]
  exact Num.aX om.one
 obtain⟨i,hi,hs⟩:=Num.oi pm ot s3
 refine⟨i,hi,?_⟩
 have h4:=(Num.Al.refl p r).mul hs
 have h5:Num.Al p (r*(x*b)) x:=by
  have:=(Num.Al.refl p x).mul hb
  rw [Int.mul_one] at this
  rw [show r*(x*b)=x*(b*r) by grind]
  exact this
 exact h5.symm.trans h4
theorem tP {p:Int} (pm:Num.Pm p) {r t k a d:Int} {ns:List Int} (k0:0<k) (d0:0<d) (dk:d∣k) (D:Dg p k d) (r0:0<=r) (r1:r<p) (nr:¬p∣r) (hr:Num.Al p (r^k.toNat) a) (ot:Num.Ord p t d.toNat) (hp:ns.Perm ((List.range d.toNat).map λi=>r*t^i%p)) (hs:ns.Pairwise (·<=·)):ia p k a d ns:=by
 have p2:=pm.two
 have nd:((List.range d.toNat).map λi=>r*t^i%p).Nodup:=by
  refine List.pairwise_map.mpr ?_
  refine List.Pairwise.imp_of_mem (λ{i j} hi hj h e=>h (Num.ue pm ot nr (List.mem_range.mp hi) (List.mem_range.mp hj) (Num.Al.iff.mpr e))) List.nodup_range
 have nd':=hp.nodup_iff.mpr nd
 refine⟨?_,?_,λx hx=>?_,λx x0 x1 hx=>?_⟩
 ·exact (hs.and nd').imp fun⟨h1,h2⟩=>by omega
 ·have:=hp.length_eq
  rw [List.length_map,List.length_range] at this
  omega
 ·obtain⟨i,_,rfl⟩:=List.mem_map.mp (hp.mem_iff.mp hx)
  refine⟨Int.emod_nonneg _ (by omega),Int.emod_lt_of_pos _ (by omega),((Num.Al.rest p _).pow _).trans (Num.uf pm ot ?_ hr i)⟩
  have:((d.toNat:Nat):Int)∣((k.toNat:Nat):Int):=by rw [Int.toNat_of_nonneg (by omega),Int.toNat_of_nonneg (by omega)];exact dk
  exact Int.natCast_dvd_natCast.mp this
 ·refine hp.mem_iff.mpr (List.mem_map.mpr ?_)
  obtain⟨i,hi,e⟩:=yc pm k0 D nr (hx.trans hr.symm) ot
  exact⟨i,List.mem_range.mpr hi,by rw [<- Num.Al.iff.mp e,Int.emod_eq_of_lt x0 x1]⟩
def gc (k p:Int):Nat:=Nat.gcd k.toNat (p-1).toNat
theorem uD {p k d:Int} (h:Dg p k d) (p1:1<=p) (k0:0<k):d=(gc k p:Nat):=by
 have d0:=h.pos k0
 unfold gc
 obtain⟨u,v,B⟩:=h
 have e1:((k.toNat:Nat):Int)=k:=Int.toNat_of_nonneg (by omega)
 have e2:(((p-1).toNat:Nat):Int)=p-1:=Int.toNat_of_nonneg (by omega)
 have e3:((d.toNat:Nat):Int)=d:=Int.toNat_of_nonneg (by omega)
 have h1:d.toNat∣Nat.gcd k.toNat (p-1).toNat:=Nat.dvd_gcd (Int.natCast_dvd_natCast.mp (by rw [e3,e1];exact B.da)) (Int.natCast_dvd_natCast.mp (by rw [e3,e2];exact B.db))
 have h2:Nat.gcd k.toNat (p-1).toNat∣d.toNat:=by
  refine Int.natCast_dvd_natCast.mp ?_
  rw [e3,<- B.lin]
  refine Int.dvd_add (Int.dvd_mul_of_dvd_right ?_) (Int.dvd_mul_of_dvd_right ?_)
  ·rw [<- e1];exact Int.natCast_dvd_natCast.mpr (by rw [e1];exact Nat.gcd_dvd_left _ _)
  ·rw [<- e2];exact Int.natCast_dvd_natCast.mpr (by rw [e2];exact Nat.gcd_dvd_right _ _)
 have:=Nat.dvd_antisymm h1 h2
 omega
theorem qx {H:Hp} {Q:VK} {E:XK} {k p:Int} (k0:0<=k) (p1:1<=p) (q:Q (.int (gc k p:Nat)) H):iH [.int k,.int (p-1)] H Q E :=
 ⟨k.toNat,(p-1).toNat,by rw [Int.toNat_of_nonneg k0,Int.toNat_of_nonneg (by omega)],q⟩
def Dq:Sp:=λvs H Q _=>∃(t:Addr) (n:Nat) (p:Int),vs=[.ref t,.int p]/\Tp t n H/\n<=10^40/\2<=p/\p<=1000/\∀ k H',1<=k->k<=10^10->Off t H H'->Tp t (n+3) H'->Q (.int k) H'
theorem ll:aE ["_law_tape_here","_law_p","_law_way"] ["_law_tape_here","_law_p"] (au (top 52)):=dI
theorem CZ (D:aC K mg "_law_k" (top 52)) (c__law_draw:Callee P w K mg base aT 1 "_law_draw" ["_law_tape_here","_law_many"] dO) (c__law_far:Callee P w K mg base aT 2 "_law_far" ["_law_tape_here","_law_many"] vY) (n_max:mg "max"=none):Callee P w K mg base aT 3 "_law_k" ["_law_tape_here","_law_p"] Dq:=by
 refine cO D ll (λf cdv A outer s H vs Q E hr h=>?_)
 obtain⟨t,n,p,rfl,tp,n9,p2,p9,q⟩:=h
 have nd:=ll.nd
 refine⟨_,(aj (dc (i:=2) nd (bT c__law_draw hr az (aa (pv 0) (aa ah af)))) (aj (aQ (aw bp (pv 2) ah (ax _)) (ao (ay (av bf ah (bT c__law_draw hr az (aa (pv 0) (aa ah af)))))) aF) (aj (aQ (aw bp (pv 2) ah (ax _)) (ao (ay (av bf ah (bT c__law_far hr az (aa (pv 0) (aa (av mf ah ah) af)))))) aF) (aj (aQ (aw bp (pv 2) ah (ax _)) (ao (ay (aB (rZ rfl) rfl n_max L2.boot_max (aa ah (aa (av cT (av bR (pv 1) ah) (av bf ah (bT c__law_draw hr az (aa (pv 0) (aa ah af))))) af))))) aF) (ao (ay (av bo (av bR (pv 1) ah) (av bf ah (bT c__law_draw hr az (aa (pv 0) (aa ah af))))))))))),?_⟩
 show bZ _ _ _ [some (.ref t),some (.int p),none] H
 k_data
 refine⟨t,4,n,rfl,tp,by omega,by decide,by decide,λr1 H1 r10 r11 o1 t1=>⟨rfl,aJ (λc=>?_) (λc=>⟨rfl,aJ (λc2=>?_) (λc2=>⟨rfl,aJ (λc3=>?_) (λc3=>?_)⟩)⟩)⟩⟩
 ·exact⟨t,12,_,rfl,t1,by omega,by decide,by decide,λr2 H2 r20 r21 o2 t2=>⟨_,rfl,q _ _ (by omega) (by omega) (o1.trans o2) (t2.more (by omega))⟩⟩
 ·exact⟨t,1000000000,_,rfl,t1,by omega,by decide,λr2 H2 r20 r21 o2 t2=>⟨_,rfl,q _ _ (by omega) (by omega) (o1.trans o2) (t2.more (by omega))⟩⟩
 ·refine⟨t,6,_,rfl,t1,by omega,by decide,by decide,λr2 H2 r20 r21 o2 t2=>⟨_,rfl,by omega,Bd.of (by omega) (by omega),q _ _ ?_ ?_ (o1.trans o2) (t2.more (by omega))⟩⟩
  ·split<;>omega
  ·have:=Int.ediv_le_self (1+r2) (show 0<=p-1 by omega)
   split<;>omega
 ·refine⟨t,3,_,rfl,t1,by omega,by decide,by decide,λr2 H2 r20 r21 o2 t2=>⟨_,rfl,Bd.of (by omega) (by omega),Bd.of (by omega) (by omega),q _ _ ?_ ?_ (o1.trans o2) (t2.more (by omega))⟩⟩
  ·have h2:1*1<=(p-1)*(1+r2):=Int.mul_le_mul (by omega) (by omega) (by omega) (by omega)
   omega
  ·have h1:(p-1)*(1+r2)<=1000*3:=Int.mul_le_mul (by omega) (by omega) (by omega) (by omega)
   omega
def qr:Sp:=λvs H Q _=>∃(p a:Int) (e:Nat),vs=[.int p,.int a]/\Num.Pm p/\p<=10^9/\0<a/\a<p/\Num.Ord p a e/\e<=10^9/\Q (.int (e:Int)) H
theorem gI:aE ["_law_p","_law_a","_law_here","_law_many"] ["_law_p","_law_a"] (au (top 56)):=dI
theorem xH (D:aC K mg "_law_order" (top 56)):Callee P w K mg base aT 1 "_law_order" ["_law_p","_law_a"] qr:=by
 refine cO D gI (λf cdv A outer s H vs Q E hr h=>?_)
 obtain⟨p,a,e,rfl,pm,p9,a0,a1,o,e9,q⟩:=h
 have nd:=gI.nd
 have p2:=pm.two
 have e0:=o.pos
 refine⟨_,(aj (dc (i:=2) nd (av aO (pv 1) (pv 0))) (aj (dc (i:=3) nd ah) (aj (bY PassesOwn.never (aw c8 (pv 2) ah (ax _)) (aj (dc (i:=2) nd (av aO (av bo (pv 2) (pv 1)) (pv 0))) (ao (dc (i:=3) nd (av bf (pv 3) ah))))) (ao (ay (av bo (pv 3) (pv 2))))))),?_⟩
 show bZ _ _ _ [some (.int p),some (.int a),none,none] H
 k_data
 refine⟨by omega,?_⟩
 refine cf (α:=Nat) (λm=>[some (.int p),some (.int a),some (.int (a^m%p)),some (.int (m:Int))]) (λm H'=>H'=H/\1<=m/\m<=e) (λm=>e-m) 1 (by rw [Int.pow_one];rfl) ⟨rfl,by decide,e0⟩ ?_
 rintro m H' ⟨rfl,m1,m2⟩
 replace m1:1<=m:=m1
 replace m2:m<=e:=m2
 k_data
 have b0:=Int.emod_nonneg (a^m) (show p≠0 by omega)
 have b1:=Int.emod_lt_of_pos (a^m) (show 0<p by omega)
 refine aJ (λc=>?_) (λc=>?_)
 ·have me:m≠e:=λz=>by
   rw [z,Num.Al.iff.mp o.one,Int.emod_eq_of_lt (by decide) (by omega)] at c
   omega
  refine⟨_,λ_ _ z=>z,Bd.of (by omega) (by omega),Bd.of (by omega) (by omega),by omega,m+1,?_,rfl,by omega,by omega,by omega⟩
  rw [Num.Al.iff.mp ((Num.Al.rest p (a^m)).mul (Num.Al.refl p a)),<- Int.pow_succ]
  rfl
 ·have na:¬p∣a^m:=pm.unit (o.co.pow m)
  have h1:a^m%p=1:=by
   have:a^m%p≠0:=λz=>na (Int.dvd_of_emod_eq_zero z)
   omega
  have me:m=e:=by
   have:=Nat.le_of_dvd (by omega) (o.dv m (Num.Al.iff.mpr (by rw [h1,Int.emod_eq_of_lt (by decide) (by omega)])))
   omega
  rw [h1]
  refine⟨Bd.of (by omega) (by omega),uh (by decide),?_⟩
  rw [Int.mul_one,me]
  exact q
theorem fw {lo:Int} {n:Nat} {js:List (Option Nat)} {g:TG} {tt:TT} {te:TE} {σ:L2.St} {Q:VK} {H1:Hp} (Pv:Nat->List V->Hp->Prop) (h0:Pv 0 [] H1) (hx:n<=sizeLine) (hl:∀ i ys H,i<=n->Pv i ys H->ys.length<=i)
  (hs:∀ i ys H,i<n->Pv i ys H->g (.int (lo+(i:Int))) (cG js σ) H λσ2 H2=>bL (cG js σ) σ2/\tt σ2 H2 λb H3=>if b=true then te σ2 H3 λv H4=>Pv (i+1) (ys++[v]) H4 else Pv (i+1) ys H3)
  (hd:∀ ys H p,Pv n ys H->H p=none->Q (.ref p) (upd H p (.lst ys))):kG (wI lo n) js g tt te σ Q H1:=by
 refine⟨λi m ys H=>m=n-i/\i<=n/\Pv i ys H,⟨n,by simp,Nat.zero_le _,h0⟩,?_⟩
 rintro i m ys H ⟨rfl,hi,p⟩
 have hy:=hl i ys H hi p
 by_cases hlt:i<n
 ·refine .inr ⟨hlt,by omega,Pv (i+1),λys' H' p'=>⟨n-(i+1),by omega,rfl,by omega,p'⟩,?_⟩
  rintro x H' ⟨rfl,rfl⟩
  exact hs i ys H' hlt p
 ·have:i=n:=by omega
  subst this
  exact .inl ⟨Nat.le_refl _,by omega,λq hq=>hd ys H q p hq⟩
theorem jF:∀{a b:List Int},a.Pairwise (·<·)->b.Pairwise (·<·)->(∀ x,x∈a↔x∈b)->a=b
 | [],[],_,_,_=>rfl
 | [],y::b,_,_,h=>absurd ((h y).mpr List.mem_cons_self) (by simp)
 | x::a,[],_,_,h=>absurd ((h x).mp List.mem_cons_self) (by simp)
 | x::a,y::b,ha,hb,h=>by
  have ha':=List.pairwise_cons.mp ha
  have hb':=List.pairwise_cons.mp hb
  have e:x=y:=by
   rcases List.mem_cons.mp ((h x).mp List.mem_cons_self) with z | z
   ·exact z
   ·rcases List.mem_cons.mp ((h y).mpr List.mem_cons_self) with z' | z'
    ·exact z'.symm
    ·have:=hb'.1 x z
     have:=ha'.1 y z'
     omega
  subst e
  rw [jF ha'.2 hb'.2 λz=>⟨λhz=>?_,λhz=>?_⟩]
  ·rcases List.mem_cons.mp ((h z).mp (List.mem_cons_of_mem _ hz)) with e | e
   ·have:=ha'.1 z hz;omega
   ·exact e
  ·rcases List.mem_cons.mp ((h z).mpr (List.mem_cons_of_mem _ hz)) with e | e
   ·have:=hb'.1 z hz;omega
   ·exact e
def bU (p k a:Int) (n:Nat):List Int:=((List.range n).map λi:Nat=>(i:Int)).filter λx=>decide (x^k.toNat%p=a%p)
theorem fX {p k a x:Int} {n:Nat}:x∈bU p k a n↔0<=x/\x<n/\x^k.toNat%p=a%p:=by
 unfold bU
 rw [List.mem_filter,List.mem_map]
 constructor
 ·rintro⟨⟨i,hi,rfl⟩,h⟩
  exact⟨by omega,by have:=List.mem_range.mp hi;omega,by simpa using h⟩
 ·rintro⟨h0,h1,h2⟩
  exact⟨⟨x.toNat,List.mem_range.mpr (by omega),by omega⟩,by simpa using h2⟩
theorem jM {p k a:Int} {n:Nat}:(bU p k a n).Pairwise (·<·):=by
 unfold bU
 refine List.Pairwise.filter _ (List.pairwise_map.mpr ?_)
 exact List.pairwise_lt_range.imp λh=>by omega
theorem lQ {p k a:Int} {n:Nat}:(bU p k a n).length<=n:=by
 unfold bU
 refine Nat.le_trans (List.length_filter_le _ _) ?_
 simp
theorem yd {p g k a d:Int} (pm:Num.Pm p) (og:Num.Ord p g (p-1).toNat) (k0:0<k) (D:Dg p k d) (al:Num.Al p (a^((p-1)/d).toNat) 1):∃ r,0<=r/\r<p/\Num.Al p (r^k.toNat) a:=by
 have p2:=pm.two
 have d0:=D.pos k0
 obtain⟨u,v,B⟩:=D
 have hd:=B.db
 have lin:=B.lin
 have ec:=Int.mul_ediv_cancel' hd
 have e0:=Int.ediv_nonneg (show 0<=p-1 by omega) (show 0<=d by omega)
 have q0:0<(p-1)/d:=by
  rcases Int.lt_or_eq_of_le e0 with z | z
  ·exact z
  ·rw [<- z,Int.mul_zero] at ec;omega
 have en:(p-1).toNat=d.toNat*((p-1)/d).toNat:=by
  have:(((p-1).toNat:Nat):Int)=((d.toNat*((p-1)/d).toNat:Nat):Int):=by
   rw [Int.natCast_mul,Int.toNat_of_nonneg (by omega),Int.toNat_of_nonneg e0,Int.toNat_of_nonneg (by omega),ec]
  omega
 have o':=Num.jB og (q:=((p-1)/d).toNat) ⟨d.toNat,by rw [en,Nat.mul_comm]⟩
 rw [show (p-1).toNat/((p-1)/d).toNat=d.toNat by rw [en,Nat.mul_div_cancel _ (by omega)]] at o'
 obtain⟨x,_,hx⟩:=Num.oi pm o' al
 refine⟨Num.Pz (p-1) g (u*x)%p,Int.emod_nonneg _ (by omega),Int.emod_lt_of_pos _ (by omega),?_⟩
 have h1:Num.Al p (Num.Pz (p-1) g (u*x)%p) (Num.Pz (p-1) g (u*x)):=Num.Al.iff.mpr (Int.emod_emod_of_dvd _ (Int.dvd_refl _))
 have n0:0<p-1:=by omega
 have h2:=(h1.pow k.toNat).trans (Num.vO n0 og.one (u*x) k.toNat)
 rw [Int.toNat_of_nonneg (by omega),Num.iB (z:=u*x*k) (y:=d*x) ⟨-(v*x),by rw [<- lin];grind⟩] at h2
 have h3:=h2.trans (Num.mB n0 og.one (z:=d*x) (Int.mul_nonneg (by omega) (by omega)))
 rw [show (d*(x:Int)).toNat=d.toNat*x by
  have:(((d*(x:Int)).toNat:Nat):Int)=((d.toNat*x:Nat):Int):=by
   rw [Int.natCast_mul,Int.toNat_of_nonneg (Int.mul_nonneg (by omega) (by omega)),Int.toNat_of_nonneg (by omega)]
  omega,<- Num.cu] at h3
 exact h3.trans hx.symm
theorem jN {p g k a d:Int} (pm:Num.Pm p) (og:Num.Ord p g (p-1).toNat) (k0:0<k) (na:¬p∣a) (D:Dg p k d) (al:Num.Al p (a^((p-1)/d).toNat) 1):ia p k a d (bU p k a p.toNat):=by
 have p2:=pm.two
 have d0:=D.pos k0
 obtain⟨r,r0,r1,hr⟩:=yd pm og k0 D al
 have hdk:d∣k:=by obtain⟨u,v,B⟩:=id D;exact B.da
 have hdp:d∣p-1:=by obtain⟨u,v,B⟩:=id D;exact B.db
 have k':k.toNat=(k.toNat-1)+1:=by omega
 have nr:¬p∣r:=λz=>na (by
  have h4:p∣r^k.toNat:=by rw [k',Int.pow_succ];exact Int.dvd_mul_of_dvd_right z
  have h5:p∣r^k.toNat-a:=hr
  have:=Int.dvd_sub h4 h5
  rwa [show r^k.toNat-(r^k.toNat-a)=a by omega] at this)
 have ot:Num.Ord p (g^((p-1).toNat/d.toNat)) d.toNat:=Num.jB og (Int.natCast_dvd_natCast.mp (by rw [Int.toNat_of_nonneg (by omega),Int.toNat_of_nonneg (by omega)];exact hdp))
 have RO:ia p k a d ((((List.range d.toNat).map λi=>r*(g^((p-1).toNat/d.toNat))^i%p)).mergeSort):=tP pm k0 d0 hdk D r0 r1 nr hr ot (List.mergeSort_perm ..) (by
  have:=List.pairwise_mergeSort (le:=λa b:Int=>decide (a<=b)) (λa b c h1 h2=>by simp at *;omega) (λa b=>by simp;omega) ((List.range d.toNat).map λi=>r*(g^((p-1).toNat/d.toNat))^i%p)
  exact this.imp λh=>by simpa using h)
 have ep:((p.toNat:Nat):Int)=p:=Int.toNat_of_nonneg (by omega)
 have e:bU p k a p.toNat=(((List.range d.toNat).map λi=>r*(g^((p-1).toNat/d.toNat))^i%p)).mergeSort:=jF jM RO.rise λx=>by
  rw [fX,ep]
  exact⟨fun⟨h0,h1,h2⟩=>RO.all x h0 h1 (Num.Al.iff.mpr h2),λh=>⟨(RO.ok x h).1,(RO.ok x h).2.1,Num.Al.iff.mp (RO.ok x h).2.2⟩⟩
 rw [e]
 exact RO
noncomputable def gW (p:Int) (d:Nat) (n:Nat):List Int:=by
 classical
 exact ((List.range n).map λi:Nat=>1+(i:Int)).filter λx=>decide (Num.Ord p x d)
theorem tL {p:Int} {d n:Nat}:gW p d (n+1)=gW p d n++(open Classical in if Num.Ord p (1+(n:Int)) d then [1+(n:Int)] else []):=by
 unfold gW
 rw [List.range_succ,List.map_append,List.filter_append]
 congr 1
 simp only [List.map_cons,List.map_nil]
 split
 ·rename_i h;rw [List.filter_cons_of_pos (by simpa using h)];rfl
 ·rename_i h;rw [List.filter_cons_of_neg (by simpa using h)];rfl
theorem n8 {p x:Int} {d n:Nat}:x∈gW p d n↔1<=x/\x<=n/\Num.Ord p x d:=by
 unfold gW
 rw [List.mem_filter,List.mem_map]
 constructor
 ·rintro⟨⟨i,hi,rfl⟩,h⟩
  exact⟨by omega,by have:=List.mem_range.mp hi;omega,by simpa using h⟩
 ·rintro⟨h0,h1,h2⟩
  exact⟨⟨(x-1).toNat,List.mem_range.mpr (by omega),by omega⟩,by simpa using h2⟩
theorem n6 {p:Int} {d n:Nat}:(gW p d n).length<=n:=by
 unfold gW
 refine Nat.le_trans (List.length_filter_le _ _) ?_
 simp
def rM:Sp:=λvs H Q _=>∃(p0:Addr) (n:Nat) (p:Int) (d:Nat),vs=[.ref p0,.int p,.int d]/\Tp p0 n H/\n<=10^40/\Num.Pm p/\p<=1000/\(∃ x,1<=x/\x<p/\Num.Ord p x d)/\∀ t H',1<=t->t<p->Num.Ord p t d->bN p0 H H'->Tp p0 (n+1) H'->Q (.int t) H'
theorem iE:aE ["_law_tape_here","_law_p","_law_d","_law_some"] ["_law_tape_here","_law_p","_law_d"] (au (top 57)):=dI
theorem vv (D:aC K mg "_law_turn" (top 57)) (c__law_draw:Callee P w K mg base aT 1 "_law_draw" ["_law_tape_here","_law_many"] dO) (c__law_order:Callee P w K mg base aT 1 "_law_order" ["_law_p","_law_a"] qr) (n_range:mg "range"=none) (n_len:mg "len"=none):Callee P w K mg base aT 2 "_law_turn" ["_law_tape_here","_law_p","_law_d"] rM:=by
 refine cO D iE (λf cdv A outer s H vs Q E hr h=>?_)
 obtain⟨p0,n,p,d,rfl,tp,n9,pm,p9,⟨x0,x1,xp,ox⟩,q⟩:=h
 have p2:=pm.two
 have nd:=iE.nd
 refine⟨_,(aj (mx (i0:=3) nd rfl (Or.inl rfl) rfl (oQ (N':=["_law_x","_law_d","_law_p"]) (js:=[none,some 2,some 1]) rfl rfl) (tQ rfl n_range (aa ah (aa (pv 1) af))) (λ_ _ _ _=>(aI (i:=0) (show List.Nodup [("_law_x":Str),("_law_d":Str),("_law_p":Str)] from by decide +kernel) rfl (Or.inl rfl) (.inr rfl))) (λ_ _ _ _=>(iA (aw bp (bT c__law_order hr az (aa (pv 2) (aa (pv 0) af))) (pv 1) (ax _)))) (λ_ _ _ _=>(pv 0)) (by rfl) (by first | exact .inl rfl | exact .inr rfl)) (ao (ay (aP bA (pv 3) (bT c__law_draw hr az (aa (pv 0) (aa (aB aU rfl n_len PySem.boot_len (aa (pv 3) af)) af))) (λ_ _=>rfl))))),?_⟩
 show bZ _ _ _ [some (.ref p0),some (.int p),some (.int (d:Int)),none] H
 k_data
 refine⟨by omega,by omega,?_⟩
 refine fw (λj ys H'=>H'=H/\ys=(gW p d j).map V.int) ⟨rfl,rfl⟩ (Nat.le_trans (show (p-1).toNat<=1000 by omega) (by decide)) (λj ys H' _ h=>by rw [h.2,List.length_map];exact n6) ?_ ?_
 ·rintro j ys H2 hj ⟨rfl,rfl⟩
  have nj:¬p∣1+(j:Int):=λz=>by have:=Int.le_of_dvd (by omega) z;omega
  obtain⟨m,om,ml⟩:=jY pm nj
  simp only [cG,List.map_cons,List.map_nil,Option.join]
  k_data
  refine⟨⟨rfl,rfl,True.intro⟩,_,rfl,p,1+(j:Int),m,rfl,pm,by omega,by omega,by omega,om,by omega,_,rfl,rfl,?_⟩
  rw [tL]
  refine aJ (λc=>⟨rfl,?_⟩) (λc=>⟨rfl,?_⟩)
  ·have e:m=d:=by have:=V.int.inj c;omega
   subst e
   rw [if_pos om,List.map_append];rfl
  ·rw [if_neg (λz=>c (by rw [om.vz z])),List.append_nil]
 rintro ys H2 pl ⟨rfl,rfl⟩ hpl
 have s2:=ak (o:=.lst ((gW p d (p-1).toNat).map V.int)) hpl
 have e2:upd H2 pl (.lst ((gW p d (p-1).toNat).map V.int)) pl=some (.lst ((gW p d (p-1).toNat).map V.int)):=ag
 generalize upd H2 pl (.lst ((gW p d (p-1).toNat).map V.int))=H3 at *
 have l1:0<(gW p d (p-1).toNat).length:=List.length_pos_of_mem (n8.mpr ⟨x1,by omega,ox⟩)
 have l2:(gW p d (p-1).toNat).length<=(p-1).toNat:=n6
 refine cp (aS.of e2) ?_
 rw [List.length_map]
 refine⟨p0,_,n,rfl,tp.same s2,by omega,by omega,by omega,λr H4 r0 r1 o4 t4=>?_⟩
 have ne:pl≠p0:=λz=>by
  obtain⟨c,x,y,cs,g1,g2,g3⟩:=tp
  rw [z,g1] at hpl
  cases hpl
 have e4:H4 pl=some (.lst ((gW p d (p-1).toNat).map V.int)):=by rw [o4 pl ne];exact e2
 refine bW (aS.of e4) r0 (by rw [List.length_map];exact r1) λv hv=>?_
 obtain⟨x,hx,rfl⟩:=List.mem_map.mp hv
 obtain⟨a1,a2,a3⟩:=n8.mp hx
 exact q x H4 a1 (by omega) a3 ((bN.of s2).trans o4.bJ) t4
structure zG (p g:Int) (ps:List (Int × Int)) (ds:Nat->PyData):Prop where
 pm:Num.Pm p
 p9:p<=10^9
 hP:Num.Part (p-1) ps
 l29:ps.length<=29
 hds:∀ i q k,ps[i]?=some (q,k)->Num.hW q (ds i)
 g1:1<=g
 gp:g<p
 o:Num.Ord p g (p-1).toNat
 sm:jt (.tuple [.int p,.int g,.tuple (Num.rowsOf ps ds)])
 sz:bO (.tuple [.int p,.int g,.tuple (Num.rowsOf ps ds)])<=10^6
def rH (K:PySem.W.Frag):Sp:=λvs H Q _=>∃(l:Addr) (n:Int),vs=[.ref l]/\aS K H l [.int n]/\0<=n/\n<=10^100/\Q (.int n) H
theorem gP:aE ["numbers","product","number"] ["numbers"] (au (top 15)):=dI
theorem vn (D:aC K mg "product_of" (top 15)):Callee P w K mg base aT 1 "product_of" ["numbers"] (rH K):=by
 refine cO D gP (λf cdv A outer s H vs Q E hr h=>?_)
 obtain⟨l,n,rfl,hl,n0,n1,q⟩:=h
 have nd:=gP.nd
 refine⟨_,(aj (dc (i:=1) nd ah) (aj (mw PassesOwn.never rfl (dF (pv 0)) (aI (i:=2) nd rfl (Or.inl rfl) (.inr rfl)) (ao (fH (i:=1) nd rfl (Or.inl rfl) (pv 2) (i7 uS)))) (ao (ay (pv 1))))),?_⟩
 show bZ _ _ _ [some (.ref l),none,none] H
 k_data
 refine⟨⟨_,hl⟩,?_⟩
 refine sQ (xs:=[.int n]) (λi σ' H'=>(∃ o2,σ'=[some (.ref l),some (.int (if i=0 then 1 else n)),o2])/\H'=H) ⟨⟨_,rfl⟩,rfl⟩ (λi σ' H' _ h=>h.2▸hl) ?_ ?_
 ·rintro i x σ' H' hx ⟨⟨o2,rfl⟩,rfl⟩
  have i0:i=0:=by
   have:=(List.getElem?_eq_some_iff.mp hx).1
   simpa using this
  subst i0
  cases hx
  k_data
  refine⟨uh (by decide),Bd.of (by omega) (by omega),?_⟩
  simp
 ·rintro σ' H' ⟨⟨o2,rfl⟩,rfl⟩
  k_data
  exact q
def oB:Sp:=λvs H Q _=>∃(p k a r:Int),vs=[.int p,.int k,.int a,.int r]/\Num.Pm p/\p<=10^9/\0<k/\k<=10^100/\0<=r/\r<p/\∀ b H',(b=true↔Num.Al p (r^k.toNat) a)->aG H H'->Q (.bl b) H'
theorem kf:aE ["p","k","a","root"] ["p","k","a","root"] (au (top 35)):=dI
theorem sX {C:Addr} (D:aC K mg "is_root" (top 35)) (c_power:Callee P w K mg base (gk P w) 4 "power" ["n","a","e"] (jH C)):Callee P w K mg base aT 5 "is_root" ["p","k","a","root"] oB:=by
 refine cO D kf (λf cdv A outer s H vs Q E hr h=>?_)
 obtain⟨p,k,a,r,rfl,pm,p9,k0,k1,r0,r1,q⟩:=h
 have p2:=pm.two
 have nd:=kf.nd
 refine⟨_,(aj (aQ (PW.pt (eS (aw bp (av aO (pv 2) (pv 0)) ah (ax _)) (ff (aw bp (av aO (pv 3) (pv 0)) ah (ax _))))) (ao (ay (bI bp (av aO (pv 2) (pv 0)) (av aO (pv 3) (pv 0)) (ax _)))) aF) (ao (ay (bI bp (bT c_power hr cQ (aa (pv 0) (aa (pv 3) (aa (pv 1) af)))) (av aO (pv 2) (pv 0)) (ax _))))),?_⟩
 show bZ _ _ _ [some (.int p),some (.int k),some (.int a),some (.int r)] H
 have k':k.toNat=(k.toNat-1)+1:=by omega
 have pr:p∣r->p∣r^k.toNat:=λh=>by rw [k',Int.pow_succ];exact Int.dvd_mul_of_dvd_right h
 have rp:p∣r^k.toNat->p∣r:=λh=>by
  rcases Classical.em (p∣r) with z | z
  ·exact z
  ·exact absurd h (pm.unit ((pm.co z).pow k.toNat))
 have ra:p∣a->(Num.Al p (r^k.toNat) a↔p∣r):=λh=>⟨λal=>rp (by
  have h5:p∣r^k.toNat-a:=al
  have:=Int.dvd_add h5 h
  rwa [Int.sub_add_cancel] at this),λh2=>Int.dvd_sub (pr h2) h⟩
 have na:¬p∣a->p∣r->¬Num.Al p (r^k.toNat) a:=λh h2 al=>h (by
  have h5:p∣r^k.toNat-a:=al
  have:=Int.dvd_sub (pr h2) h5
  rwa [show r^k.toNat-(r^k.toNat-a)=a by omega] at this)
 have dm:∀ x:Int,x%p=0↔p∣x:=λx=>⟨Int.dvd_of_emod_eq_zero,Int.emod_eq_zero_of_dvd⟩
 k_data
 refine⟨by omega,aJ (λc=>⟨by omega,by omega,?_⟩) (λc=>⟨by omega,aJ (λc2=>⟨by omega,by omega,?_⟩) (λc2=>?_)⟩)⟩
 ·refine q _ H ?_ (aG.refl _)
  rw [ra ((dm a).mp c),decide_eq_true_eq,c,<- dm r]
  exact eq_comm
 ·refine q _ H ?_ (aG.refl _)
  rw [decide_eq_true_eq,c2]
  exact⟨λz=>absurd z c,λz=>absurd z (na (λz=>c ((dm a).mpr z)) ((dm r).mp c2))⟩
 ·refine⟨p,r,k,rfl,by omega,by omega,λ_ H1 s1=>⟨by omega,rfl,q _ H1 ?_ s1⟩,λz=>absurd z (by omega)⟩
  rw [decide_eq_true_eq,Num.Al.iff]
  exact⟨λz=>by injection z,λz=>by rw [z]⟩
theorem d8:∀{a b:List Int},a.map PyData.int=b.map PyData.int->a=b
 | [],[],_=>rfl
 | [],_::_,h=>by cases h
 | _::_,[],h=>by cases h
 | x::a,y::b,h=>by
  simp only [List.map_cons,List.cons.injEq,PyData.int.injEq] at h
  rw [h.1,d8 h.2]
theorem qN:∀{ds:List PyData},ds.all jx=true->∃ rs:List Int,ds=rs.map PyData.int
 | [],_=>⟨[],rfl⟩
 | d::ds,h=>by
  rw [List.all_cons,Bool.and_eq_true] at h
  obtain⟨rs,rfl⟩:=qN h.2
  cases d with
  | int i=>exact⟨i::rs,rfl⟩
  | _=>exact absurd h.1 (by simp [jx])
theorem xm (rs:List Int):(rs.map PyData.int).all jx=true:=by
 rw [List.all_eq_true]
 intro d hd
 obtain⟨i,_,rfl⟩:=List.mem_map.mp hd
 rfl
def zz (lo m:Int) (rs:List Int):List Bool:=List.zipWith (λa b=>decide (a<b)) (lo::rs) (rs++[m])
theorem wA {m:Int}:∀{rs:List Int} {lo:Int},(zz lo m rs).all id=true↔lo<m/\rs.Pairwise (·<·)/\∀ r∈rs,lo<r/\r<m
 | [],lo=>by simp [zz]
 | r::rs,lo=>by
  have ih:=wA (m:=m) (rs:=rs) (lo:=r)
  have e:zz lo m (r::rs)=decide (lo<r)::zz r m rs:=rfl
  rw [e,List.all_cons,Bool.and_eq_true,ih,List.pairwise_cons]
  simp only [id,decide_eq_true_eq,List.mem_cons,forall_eq_or_imp]
  constructor
  ·rintro⟨h1,h2,h3,h4⟩
   exact⟨by omega,⟨λx hx=>(h4 x hx).1,h3⟩,⟨h1,h2⟩,λx hx=>⟨by have:=(h4 x hx).1;omega,(h4 x hx).2⟩⟩
  ·rintro⟨h1,⟨h2,h3⟩,⟨h4,h5⟩,h6⟩
   exact⟨h4,h5,h3,λx hx=>⟨h2 x hx,(h6 x hx).2⟩⟩
def DF (m:Int) (ds:List PyData):Prop:=∃ rs:List Int,ds=rs.map PyData.int/\rs.Pairwise (·<·)/\∀ r∈rs,0<=r/\r<m
def rJ (K:PySem.W.Frag):Sp:=λvs H Q _=>∃(l:Addr) (m:Int) (us:List V) (ds:List PyData),vs=[.int m,.ref l]/\H l=some (.lst us)/\bD K H ds us/\us.length<=1000/\0<m/\∀ b H',(b=true↔DF m ds)->aG H H'->Q (.bl b) H'
theorem dS:aE ["whole","numbers"] ["whole","numbers"] (au (top 34)):=dI
theorem vq (D:aC K mg "are_rising_below" (top 34)) (c_is_whole:Callee P w K mg base aT 1 "is_whole" ["thing"] (yo K)) (n_all:mg "all"=none) (n_zip:mg "zip"=none):Callee P w K mg base aT 2 "are_rising_below" ["whole","numbers"] (rJ K):=by
 refine cO D dS (λf cdv A outer s H vs Q E hr h=>?_)
 obtain⟨l,m,us,ds,rfl,hl,hd,r9,m0,q⟩:=h
 have nd:=dS.nd
 have ln:ds.length=us.length:=cH.len hd
 refine⟨_,(aj (aQ (cI (aR (aB (eK rfl) rfl n_all L2.boot_all (aa (fk rfl (oQ (N':=["number"]) (js:=[none]) rfl rfl) (dF (pv 1)) (λ_ _ _ _=>(aI (i:=0) (show List.Nodup [("number":Str)] from by decide +kernel) rfl (Or.inl rfl) (.inr rfl))) (λ_ _ _ _=>cE) (λ_ _ _ _=>(bT c_is_whole hr az (aa (pv 0) af)))) af)) (λ_=>rfl))) (ao (ay cD)) aF) (ao (ay (aB (eK rfl) rfl n_all L2.boot_all (aa (fk rfl (oQ (N':=["low","high"]) (js:=[none,none]) rfl rfl) (Ao .l .l rfl n_zip (aa (av dB (aW (aa (fo dP ah) af)) (pv 1)) (aa (av dB (pv 1) (aW (aa (pv 0) af))) af))) (λ_ _ _ _=>(jD K rfl (n:=2) rfl (aM (aI (i:=0) (show List.Nodup [("low":Str),("high":Str)] from by decide +kernel) rfl (Or.inl rfl) (.inr rfl)) (aM (aI (i:=1) (show List.Nodup [("low":Str),("high":Str)] from by decide +kernel) rfl (Or.inl rfl) (.inr rfl)) cU)))) (λ_ _ _ _=>cE) (λ_ _ _ _=>(bI dQ (pv 0) (pv 1) (ax _)))) af))))),?_⟩
 show bZ _ _ _ [some (.int m),some (.ref l)] H
 k_data
 refine⟨⟨_,aS.of hl⟩,?_⟩
 refine c7 (xs:=us) (λi ys H'=>H'=H/\ys=(ds.take i).map λd=>V.bl (jx d)) ⟨rfl,rfl⟩ (Nat.le_trans r9 (by decide)) (λi ys H' hi h=>⟨aS.of (h.1▸hl),by rw [h.2,List.length_map,List.length_take];exact Nat.min_le_left ..⟩) ?_ ?_
 ·rintro i v ys H2 hx ⟨rfl,rfl⟩
  obtain⟨d,hd',hv⟩:=hd.get hx
  simp only [cG,List.map_cons,List.map_nil,Option.join]
  k_data
  refine⟨True.intro,d,_,rfl,hv,rfl,?_⟩
  rw [List.take_add_one,hd',List.map_append]
  rfl
 rintro ys H2 pl ⟨rfl,rfl⟩ hpl
 rw [<- ln,List.take_length]
 have s1:=ak (o:=.lst (ds.map λd=>V.bl (jx d))) hpl
 have ea:∀ ds:List PyData,(ds.map λd=>V.bl (jx d))=(ds.map jx).map V.bl:=λds=>by rw [List.map_map];rfl
 rw [ea] at s1 ⊢
 refine iQ (aS.of ag) ⟨_,aK.mpr rfl,?_⟩
 have ew:(ds.map jx).all id=ds.all jx:=by rw [List.all_map];rfl
 rw [ew]
 generalize upd H2 pl (.lst ((ds.map jx).map V.bl))=H3 at *
 refine aJ (λz=>?_) (λz=>?_)
 ·refine q false H3 ⟨λy=>absurd y (by decide),?_⟩ s1
  rintro⟨rs,rfl,_⟩
  rw [xm] at z
  exact absurd z (by decide)
 obtain⟨rs,rfl⟩:=qN (by simpa using z)
 obtain rfl:us=rs.map V.int:=iq hd
 have rl:(rs.map V.int).length=rs.length:=List.length_map ..
 refine⟨by decide,λp1 hp1=>?_⟩
 have s2:=ak (o:=.lst [V.int (-1)]) hp1
 refine⟨p1,l,_,_,rfl,rfl,ag,s2 _ _ (s1 _ _ hl),by rw [rl];exact Nat.le_trans (show 1+rs.length<=1001 by omega) (by decide),λp2 hp2=>?_⟩
 have s3:=ak (o:=.lst ([V.int (-1)]++rs.map V.int)) hp2
 have e3:upd (upd H3 p1 (.lst [V.int (-1)])) p2 (.lst ([V.int (-1)]++rs.map V.int)) p2=some (.lst ([V.int (-1)]++rs.map V.int)):=ag
 generalize upd (upd H3 p1 (.lst [V.int (-1)])) p2 (.lst ([V.int (-1)]++rs.map V.int))=H4 at *
 have S3:=(s1.trans s2).trans s3
 refine⟨by show 1<=sizeLine;decide,λp3 hp3=>?_⟩
 have s4:=ak (o:=.lst [V.int m]) hp3
 refine⟨l,p3,_,_,rfl,rfl,s4 _ _ (S3 _ _ hl),ag,by rw [rl];exact Nat.le_trans (show rs.length+1<=1001 by omega) (by decide),λp4 hp4=>?_⟩
 have s5:=ak (o:=.lst (rs.map V.int++[V.int m])) hp4
 have e5:upd (upd H4 p3 (.lst [V.int m])) p4 (.lst (rs.map V.int++[V.int m])) p4=some (.lst (rs.map V.int++[V.int m])):=ag
 generalize upd (upd H4 p3 (.lst [V.int m])) p4 (.lst (rs.map V.int++[V.int m]))=H5 at *
 have e6:=s5 _ _ (s4 _ _ e3)
 have S5:=(S3.trans s4).trans s5
 have ex:[V.int (-1)]++rs.map V.int=(-1::rs).map V.int:=rfl
 have ey:rs.map V.int++[V.int m]=(rs++[m]).map V.int:=by rw [List.map_append];rfl
 have zl':(zz (-1) m rs).length=rs.length+1:=by unfold zz;rw [List.length_zipWith,List.length_cons,List.length_append,List.length_singleton];omega
 refine⟨p2,rfl,p4,rfl,⟨_,aS.of e6⟩,⟨_,aS.of e5⟩,?_⟩
 refine iR (k1:=.l) (k2:=.l) (xs:=[V.int (-1)]++rs.map V.int) (ys:=rs.map V.int++[V.int m]) (λi zs H'=>aG H5 H'/\zs=((zz (-1) m rs).take i).map V.bl) ⟨aG.refl _,rfl⟩ (by simp [Nat.add_comm]) (by rw [List.length_append,rl];exact Nat.le_trans (show 1+rs.length<=1001 by omega) (by decide)) (λi zs H' hi ⟨z1,z2⟩=>⟨aS.of (z1 _ _ e6),aS.of (z1 _ _ e5),by rw [z2,List.length_map,List.length_take];exact Nat.min_le_left ..⟩) ?_ ?_
 ·rintro i x y zs H' pz hx hy ⟨z1,rfl⟩ hpz
  rw [ex,List.getElem?_map] at hx
  rw [ey,List.getElem?_map] at hy
  obtain⟨lo,hlo,rfl⟩:=Option.map_eq_some_iff.mp hx
  obtain⟨hi,hhi,rfl⟩:=Option.map_eq_some_iff.mp hy
  have s6:=ak (o:=.tup [V.int lo,V.int hi]) hpz
  simp only [cG,List.map_cons,List.map_nil,Option.join]
  refine⟨pz,_,rfl,aL.of ag,rfl,?_⟩
  k_data
  refine⟨True.intro,z1.trans s6,?_⟩
  have ez:(zz (-1) m rs)[i]?=some (decide (lo<hi)):=by
   unfold zz
   rw [List.getElem?_zipWith,hlo,hhi]
  rw [List.take_add_one,ez,List.map_append]
  rfl
 ·rintro zs H' pz ⟨z1,rfl⟩ hpz
  have e7:(zz (-1) m rs).take ([V.int (-1)]++rs.map V.int).length=zz (-1) m rs:=by
   rw [List.take_of_length_le]
   rw [zl',List.length_append,rl,List.length_singleton]
   omega
  rw [e7]
  refine iQ (aS.of ag) (q _ _ ?_ ((S5.trans z1).trans (ak hpz)))
  rw [wA]
  constructor
  ·rintro⟨_,h2,h3⟩
   exact⟨rs,rfl,h2,λr hr'=>⟨by have:=(h3 r hr').1;omega,(h3 r hr').2⟩⟩
  ·rintro⟨rs',e,h2,h3⟩
   obtain rfl:rs=rs':=d8 e
   exact⟨by omega,h2,λr hr'=>⟨by have:=(h3 r hr').1;omega,(h3 r hr').2⟩⟩
end
end K
namespace K
open PySem PySem.Spec PyProof.Rows L2
section
theorem qz {A B:Int}:∀(N:Nat) {g u v ng nu nv:Int},ng.toNat<=N->Gcd.J A B g u v ng nu nv->∃ g u v nu nv,Gcd.J A B g u v 0 nu nv
 | 0,g,u,v,ng,nu,nv,h,j=>by
  have e:ng=0:=by have:=j.n0;omega
  subst e
  exact⟨_,_,_,_,_,j⟩
 | N+1,g,u,v,ng,nu,nv,h,j=>by
  rcases Int.lt_or_eq_of_le j.n0 with z | z
  ·have t:=j.turn z
   exact qz N (by have:=t.2.1;omega) t.1
  ·subst z
   exact⟨_,_,_,_,_,j⟩
theorem ni {p k:Int} (p1:1<=p) (k0:0<k):∃ d,Dg p k d:=by
 obtain⟨g,u,v,nu,nv,j⟩:=qz (A:=if k<0 then -k else k) (B:=if p-1<0 then -(p-1) else p-1) _ (Nat.le_refl _) (Gcd.J.start (by split<;>omega) (by split<;>omega))
 exact⟨g,_,_,j.done⟩
theorem pB {p k a d x:Int} (pm:Num.Pm p) (k0:0<k) (na:¬p∣a) (D:Dg p k d) (h3:Num.Al p (x^k.toNat) a):Num.Al p (a^((p-1)/d).toNat) 1:=by
 have p2:=pm.two
 have d0:=D.pos k0
 have k':k.toNat=(k.toNat-1)+1:=by omega
 have hdk:d∣k:=by obtain⟨u,v,B⟩:=id D;exact B.da
 have hdp:d∣p-1:=by obtain⟨u,v,B⟩:=id D;exact B.db
 have nx:¬p∣x:=fun⟨y,hy⟩=>na (by
  have h4:p∣x^k.toNat:=by rw [k',Int.pow_succ];exact Int.dvd_mul_of_dvd_right ⟨y,hy⟩
  have h5:p∣x^k.toNat-a:=h3
  have:=Int.dvd_sub h4 h5
  rwa [show x^k.toNat-(x^k.toNat-a)=a by omega] at this)
 have h4:=(h3.pow ((p-1)/d).toNat).symm
 rw [Num.cu] at h4
 refine h4.trans ?_
 obtain⟨c,hc⟩:=hdk
 have c0:0<=c:=by
  rcases Int.lt_or_le c 0 with z | z
  ·have:=Int.mul_neg_of_pos_of_neg d0 z;omega
  ·exact z
 have e0:=Int.ediv_nonneg (show 0<=p-1 by omega) (show 0<=d by omega)
 have e2:k.toNat*((p-1)/d).toNat=(p-1).toNat*c.toNat:=by
  have:((k.toNat*((p-1)/d).toNat:Nat):Int)=(((p-1).toNat*c.toNat:Nat):Int):=by
   rw [Int.natCast_mul,Int.natCast_mul,Int.toNat_of_nonneg (by omega),Int.toNat_of_nonneg e0,Int.toNat_of_nonneg (by omega),Int.toNat_of_nonneg c0,hc]
   have:=Int.mul_ediv_cancel' hdp
   grind
  omega
 rw [e2]
 exact Num.aX (Num.iU pm nx)
end
end K
namespace K
open PySem PySem.Spec PyProof.Rows L2
section
variable {P:Program} {w:World} {K:PySem.W.Frag} {mg:Str->Option Value} {base:Heap} {C:Addr}
structure AV (p k a:Int) (rs:List Int):Prop where
 rise:rs.Pairwise (·<·)
 ok:∀ r∈rs,0<=r/\r<p/\Num.Al p (r^k.toNat) a
 len:(p∣a->rs.length=1)/\(¬p∣a->∀ d,Dg p k d->(rs.length:Int)=d)
 few:rs.length<=400
theorem yD:∀(rs:List Int) (W:Int->Prop),∃ bl:List Bool,bl.length=rs.length/\(∀(j:Nat) (r:Int) (c:Bool),rs[j]?=some r->(c=true↔W r)->bl[j]?=some c)/\(bl.all id=true↔∀ r∈rs,W r)
 | [],W=>⟨[],rfl,λj r c h _=>by simp at h,by simp⟩
 | x::rs,W=>by
  obtain⟨bl,h1,h2,h3⟩:=yD rs W
  have key:∀ b:Bool,(b=true↔W x)->∃ bl:List Bool,bl.length=(x::rs).length/\(∀(j:Nat) (r:Int) (c:Bool),(x::rs)[j]?=some r->(c=true↔W r)->bl[j]?=some c)/\(bl.all id=true↔∀ r∈x::rs,W r):=λb hb=>by
   refine⟨b::bl,by rw [List.length_cons,List.length_cons,h1],λj r c e hc=>?_,?_⟩
   ·cases j with
    | zero =>
     cases e
     rw [List.getElem?_cons_zero]
     congr 1
     rw [Bool.eq_iff_iff,hb,hc]
    | succ j=>exact h2 j r c e hc
   ·rw [List.all_cons,Bool.and_eq_true,h3,List.forall_mem_cons]
    exact and_congr hb Iff.rfl
  rcases Classical.em (W x) with z | z
  ·exact key true ⟨λ_=>z,λ_=>rfl⟩
  ·exact key false ⟨λy=>absurd y (by decide),λy=>absurd y z⟩
def AW (p k a:Int) (d:PyData):Prop:=∃ rs:List Int,d=.list (rs.map PyData.int)/\AV p k a rs
def mF (K:PySem.W.Frag):Sp:=λvs H Q _=>∃(lp:Addr) (u:V) (p k a:Int) (d:PyData),vs=[.ref lp,.int k,.int a,u]/\H lp=some (.lst [.int p])/\kQ K H d u/\Num.Pm p/\p<=400/\0<k/\k<=10^60/\∀ b H',(b=true↔AW p k a d)->aG H H'->Q (.bl b) H'
theorem eU:aE ["primes","k","a","found","many"] ["primes","k","a","found"] (au (top 33)):=dI
theorem xA (D:aC K mg "are_all_roots" (top 33)) (c_product_of:Callee P w K mg base aT 1 "product_of" ["numbers"] (rH K)) (c_how_many_roots:Callee P w K mg base aT 2 "how_many_roots" ["p","k","a"] rC) (c_are_rising_below:Callee P w K mg base aT 2 "are_rising_below" ["whole","numbers"] (rJ K)) (c_is_root:Callee P w K mg base aT 5 "is_root" ["p","k","a","root"] oB) (g_MOST_TOLD:∃ t,mg "MOST_TOLD"=some (.int 400 t)) (n_isinstance:mg "isinstance"=none) (n_list:mg "list"=none) (n_len:mg "len"=none) (n_all:mg "all"=none):Callee P w K mg base aT 6 "are_all_roots" ["primes","k","a","found"] (mF K):=by
 refine cO D eU (λf cdv A outer s H vs Q E hr h=>?_)
 obtain⟨lp,u,p,k,a,d,rfl,hlp,hd,pm,p9,k0,k1,q⟩:=h
 have p2:=pm.two
 obtain⟨t0,g_MOST_TOLD⟩:=g_MOST_TOLD
 have nd:=eU.nd
 obtain⟨dg,D⟩:=ni (p:=p) (k:=k) (by omega) k0
 have d0:=D.pos k0
 have dle:dg<=p-1:=by
  obtain⟨_,_,B⟩:=id D
  exact Int.le_of_dvd (by omega) B.db
 obtain⟨mn,m1,m4,hm⟩:∃ mn:Nat,1<=mn/\mn<=400/\((p∣a->mn=1)/\(¬p∣a->(mn:Int)=dg)):=by
  rcases Classical.em (p∣a) with z | z
  ·exact⟨1,by decide,by decide,λ_=>rfl,λy=>absurd z y⟩
  ·exact⟨dg.toNat,by omega,by omega,λy=>absurd y z,λ_=>by omega⟩
 have hlen:∀ rs:List Int,AV p k a rs->rs.length=mn:=λrs AR=>by
  rcases Classical.em (p∣a) with z | z
  ·rw [AR.len.1 z,hm.1 z]
  ·have:=AR.len.2 z dg D
   have:=hm.2 z
   omega
 refine⟨_,(aj (dc (i:=4) nd (bT c_product_of hr az (aa (fk rfl (oQ (N':=["p","k","a"]) (js:=[none,some 1,some 2]) rfl rfl) (dF (pv 0)) (λ_ _ _ _=>(aI (i:=0) (show List.Nodup [("p":Str),("k":Str),("a":Str)] from by decide +kernel) rfl (Or.inl rfl) (.inr rfl))) (λ_ _ _ _=>cE) (λ_ _ _ _=>(bT c_how_many_roots hr az (aa (pv 0) (aa (pv 1) (aa (pv 2) af)))))) af))) (aj (aQ (PW.pt (eS (aw c8 (pv 4) (mj (v:=.int 400) rfl g_MOST_TOLD ⟨_,rfl⟩) (ax _)) (eS (cI (aR (aB aV rfl n_isinstance PyProof.Rows.boot_isinstance (aa (pv 3) (aa (bB (v:=.ty "list") rfl n_list L2.boot_list rfl) af))) (λ_=>rfl))) (ff (aw iy (aB aU rfl n_len PySem.boot_len (aa (pv 3) af)) (pv 4) (ax _)))))) (ao (ay cD)) aF) (aj (aQ (cI (aR (bT c_are_rising_below hr az (aa (bT c_product_of hr az (aa (pv 0) af)) (aa (pv 3) af))) (λ_=>rfl))) (ao (ay cD)) aF) (ao (ay (aB (eK rfl) rfl n_all L2.boot_all (aa (Am rfl (oQ (N':=["p","root","k","a","found"]) (js:=[none,none,some 1,some 2,some 3]) rfl rfl) (dF (pv 0)) (λ_ _ _ _=>(aI (i:=0) (show List.Nodup [("p":Str),("root":Str),("k":Str),("a":Str),("found":Str)] from by decide +kernel) rfl (Or.inl rfl) (.inr rfl))) (λ_ _ _ _=>cE) (λ_ _ _ _=>(vI (K:=K) rfl (pv 4))) (λ_ _ _ _=>(aI (i:=1) (show List.Nodup [("p":Str),("root":Str),("k":Str),("a":Str),("found":Str)] from by decide +kernel) rfl (Or.inl rfl) (.inr rfl))) (λ_ _ _ _=>cE) (λ_ _ _ _=>(bT c_is_root hr az (aa (pv 0) (aa (pv 2) (aa (pv 3) (aa (pv 1) af))))))) af))))))),?_⟩
 show bZ _ _ _ [some (.ref lp),some (.int k),some (.int a),some u,none] H
 k_data
 refine⟨⟨_,aS.of hlp⟩,?_⟩
 refine c7 (xs:=[.int p]) (λi ys H'=>aG H H'/\ys=List.replicate i (V.int mn)) ⟨aG.refl _,rfl⟩ (show 1<=sizeLine by decide) (λi ys H' hi h=>⟨aS.of (h.1 _ _ hlp),by rw [h.2];simp⟩) ?_ ?_
 ·rintro i v ys H2 hx ⟨s1,rfl⟩
  have i0:i=0:=by
   have:=(List.getElem?_eq_some_iff.mp hx).1
   simpa using this
  subst i0
  cases hx
  simp only [cG,List.map_cons,List.map_nil,Option.join]
  k_data
  refine⟨⟨rfl,rfl,True.intro⟩,_,rfl,_,rfl,p,k,a,rfl,by omega,by omega,k0,by omega,λz=>⟨s1,?_⟩,λz d' H' hd' s2=>⟨s1.trans s2,?_⟩⟩
  ·rw [hm.1 z];rfl
  ·rw [hm.2 z,D.one hd'];rfl
 rintro ys H2 pl ⟨s1,rfl⟩ hpl
 have s2:=ak (o:=.lst (List.replicate [V.int p].length (V.int mn))) hpl
 refine⟨pl,mn,rfl,aS.of ag,by omega,by omega,_,rfl,?_⟩
 generalize upd H2 pl (.lst (List.replicate [V.int p].length (V.int mn)))=H3 at *
 have S:=s1.trans s2
 rw [if_neg (by omega)]
 have hd3:=hd.same S
 refine cn hd3.dv ⟨_,rfl,?_⟩
 refine aJ (λz=>?_) (λz=>?_)
 ·refine q false H3 ⟨λy=>absurd y (by decide),?_⟩ S
  rintro⟨rs,rfl,_⟩
  exact absurd z (by simp [Bw])
 obtain⟨ds,rfl⟩:∃ ds,d=.list ds:=by
  cases d with
  | list ds=>exact⟨ds,rfl⟩
  | _=>exact absurd rfl z
 obtain⟨l,us,rfl,hH,hds'⟩:=hd3
 have hds:=hds'.bD
 have hl:aS K H3 l us:=aS.of hH
 have ln:ds.length=us.length:=cH.len hds
 refine cp hl ⟨rfl,?_⟩
 clear z
 refine aJ (λz=>?_) (λz=>?_)
 ·refine q false H3 ⟨λy=>absurd y (by decide),?_⟩ S
  rintro⟨rs,e,AR⟩
  have:=hlen rs AR
  injection e with e
  subst e
  rw [List.length_map] at ln
  exact absurd (by rw [<- ln,this]:V.int (us.length:Int)=V.int mn) z
 have lm:us.length=mn:=by
  have z':V.int (us.length:Int)=V.int mn:=Classical.byContradiction λy=>z y
  injection z' with z'
  omega
 refine⟨lp,p,rfl,aS.of (S _ _ hlp),by omega,by omega,l,p,us,ds,rfl,hH,hds,by omega,by omega,λbb H4 hb s4=>⟨bb,rfl,?_⟩⟩
 have S4:=S.trans s4
 refine aJ (λz=>?_) (λz=>?_)
 ·refine q false H4 ⟨λy=>absurd y (by decide),?_⟩ S4
  rintro⟨rs,e,AR⟩
  injection e with e
  rw [hb.mpr ⟨rs,e,AR.rise,λr hr'=>⟨(AR.ok r hr').1,(AR.ok r hr').2.1⟩⟩] at z
  exact absurd z (by decide)
 obtain⟨rs,rfl,ri,rb⟩:=hb.mp (by simpa using z)
 obtain rfl:us=rs.map V.int:=iq hds
 have rl:(rs.map V.int).length=rs.length:=List.length_map ..
 rw [rl] at lm
 have hl4:=s4 _ _ hH
 obtain⟨bl,bll,blg,bla⟩:=yD rs (λr=>Num.Al p (r^k.toNat) a)
 refine⟨⟨_,aS.of (S4 _ _ hlp)⟩,?_⟩
 refine nc (xs:=[.int p]) (λi ys H'=>aG H4 H'/\ys=(bl.take (i*rs.length)).map V.bl) ⟨aG.refl _,by simp⟩ (λi ys H' hi h=>⟨aS.of (h.1 _ _ (S4 _ _ hlp)),?_⟩) ?_ ?_
 ·rw [h.2,List.length_map,List.length_take]
  exact Nat.le_trans (Nat.min_le_right ..) (by rw [bll];exact Nat.le_trans (show rs.length<=400 by omega) (by decide))
 ·rintro i v ys H5 hx ⟨s5,rfl⟩
  have i0:i=0:=by
   have:=(List.getElem?_eq_some_iff.mp hx).1
   simpa using this
  subst i0
  cases hx
  simp only [cG,List.map_cons,List.map_nil,Option.join]
  k_data
  refine⟨⟨rfl,rfl,rfl,True.intro⟩,_,rfl,l,rfl,⟨_,aS.of (s5 _ _ hl4)⟩,?_⟩
  refine pJ (xs:=rs.map V.int) (λj zs H'=>aG H4 H'/\zs=(bl.take j).map V.bl) ⟨s5,by simp⟩ (λj zs H' hj h=>⟨aS.of (h.1 _ _ hl4),?_⟩) ?_ (λzs H' h=>⟨h.1,by rw [h.2,rl];simp⟩)
  ·rw [h.2,List.length_map,List.length_take]
   exact Nat.lt_of_le_of_lt (Nat.min_le_right ..) (by rw [bll];exact Nat.lt_of_le_of_lt (show rs.length<=400 by omega) (by decide))
  ·rintro j v zs H6 hx ⟨s6,rfl⟩
   rw [List.getElem?_map] at hx
   obtain⟨r,hr',rfl⟩:=Option.map_eq_some_iff.mp hx
   obtain⟨r0,r1⟩:=rb r (List.mem_of_getElem? hr')
   k_data
   refine⟨⟨rfl,rfl,rfl,rfl,True.intro⟩,_,rfl,_,rfl,p,k,a,r,rfl,pm,by omega,k0,by omega,r0,r1,λb7 H7 hb7 s7=>⟨s6.trans s7,?_⟩⟩
   rw [List.take_add_one,blg j r b7 hr' hb7,List.map_append]
   rfl
 rintro ys H2 pz ⟨s5,rfl⟩ hpz
 have e7:bl.take ([V.int p].length*rs.length)=bl:=List.take_of_length_le (by rw [bll];simp)
 rw [e7]
 have s6:=ak (o:=.lst (bl.map V.bl)) hpz
 refine iQ (aS.of ag) (q _ _ ?_ (S4.trans (s5.trans s6)))
 rw [bla]
 constructor
 ·intro z
  exact⟨rs,rfl,ri,λr hr'=>⟨(rb r hr').1,(rb r hr').2,z r hr'⟩,⟨λy=>by rw [lm,hm.1 y],λy d' D'=>by rw [lm,hm.2 y,D.one D']⟩,by omega⟩
 ·rintro⟨rs',e,AR⟩ r hr'
  injection e with e
  obtain rfl:rs=rs':=d8 e
  exact (AR.ok r hr').2.2
def Told (p k a:Int) (rs:List Int) (sh:PyData):Prop:=(p∣a/\sh=.tuple [.str "nought"])∨(¬p∣a/\∃ d r0 t,Dg p k d/\rs[0]?=some r0/\0<=t/\t<p/\Num.Ord p t d.toNat/\sh=iL r0 t)
theorem Cm {d:PyData} {n:Nat} (h:fC d n=true):∃ ds,d=.tuple ds/\ds.length=n:=by
 cases d with
 | tuple ds=>exact⟨ds,rfl,by simpa [fC] using h⟩
 | _=>exact absurd h (by simp [fC])
def iI (K:PySem.W.Frag):Sp:=λvs H Q _=>∃(v u:V) (l:Addr) (p g k a:Int) (ps:List (Int × Int)) (ds:Nat->PyData) (rs:List Int) (sh:PyData),vs=[v,.int k,.int a,.ref l,u]/\dv K H (.tuple [.int p,.int g,.tuple (Num.rowsOf ps ds)]) v/\zG p g ps ds/\0<k/\k<=10^60/\H l=some (.lst (rs.map V.int))/\AV p k a rs/\dv K H sh u/\gd sh/\∀ b H',(b=true↔Told p k a rs sh)->aG H H'->Q (.bl b) H'
theorem fN:aE ["paper","k","a","found","shown","p","least"] ["paper","k","a","found","shown"] (au (top 36)):=dI
theorem tH (D:aC K mg "is_shown_by" (top 36)) (c_is_just:Callee P w K mg base aT 15 "is_just" ["thing","right"] (hG K 7)) (c_is_tuple_of:Callee P w K mg base aT 1 "is_tuple_of" ["thing","many"] (lB K)) (c_is_whole:Callee P w K mg base aT 1 "is_whole" ["thing"] (yo K)) (c_is_order:Callee P w K mg base aT 6 "is_order" ["paper","a","e"] (lx K)) (c_how_many_roots:Callee P w K mg base aT 2 "how_many_roots" ["p","k","a"] rC) (n_min:mg "min"=none):Callee P w K mg base aT 16 "is_shown_by" ["paper","k","a","found","shown"] (iI K):=by
 refine cO D fN (λf cdv A outer s H vs Q E hr h=>?_)
 obtain⟨v,u,l,p,g,k,a,ps,ds,rs,sh,rfl,hd,R,k0,k1,hl,AR,hu,gs,q⟩:=h
 have p2:=R.pm.two
 have p9:=R.p9
 have rl:(rs.map V.int).length=rs.length:=List.length_map ..
 have h4:=AR.few
 have nd:=fN.nd
 refine⟨_,(aj (bF (i:=5) nd rfl (Or.inr rfl) (aP aZ (pv 0) ah (λ_ _=>rfl))) (aj (aQ (aw bp (av aO (pv 2) (pv 5)) ah (ax _)) (ao (ay (bT c_is_just hr az (aa (pv 4) (aa (aD (aa br af)) af))))) aF) (aj (dc (i:=6) nd (aB (sf rfl) rfl n_min L2.boot_min (aa (fk rfl (oQ (N':=["root","p"]) (js:=[none,some 5]) rfl rfl) (dF (pv 3)) (λ_ _ _ _=>(aI (i:=0) (show List.Nodup [("root":Str),("p":Str)] from by decide +kernel) rfl (Or.inl rfl) (.inr rfl))) (λ_ _ _ _=>cE) (λ_ _ _ _=>(av aO (pv 0) (pv 1)))) af))) (aj (aQ (cI (PW.pt (dN (aR (bT c_is_tuple_of hr az (aa (pv 4) (aa ah af))) (λ_=>rfl)) (dN (aR (bT c_is_just hr az (aa (aY qi (pv 4) bz (bh ah)) (aa (aD (aa br (aa (pv 6) af))) af))) (λ_=>rfl)) (d9 (aR (bT c_is_whole hr az (aa (aP aZ (pv 4) ah (λ_ _=>rfl)) af)) (λ_=>rfl))))))) (ao (ay cD)) aF) (ao (ay (bS (oh nZ dQ ah (aP aZ (pv 4) ah (λ_ _=>rfl)) (pv 5)) (cR (bT c_is_order hr az (aa (pv 0) (aa (aP aZ (pv 4) ah (λ_ _=>rfl)) (aa (bT c_how_many_roots hr az (aa (pv 5) (aa (pv 1) (aa (pv 2) af)))) af)))))))))))),?_⟩
 show bZ _ _ _ [some v,some (.int k),some (.int a),some (.ref l),some u,none,none] H
 obtain⟨pp,y1,y2,vr,rfl,tS,e0,eg,dr⟩:=lR hd
 cases e0
 cases eg
 k_data
 refine cY tS mU ?_
 k_data
 refine⟨by omega,aJ (λc=>?_) (λc=>?_)⟩
 ·have pa:=Int.dvd_of_emod_eq_zero c
  refine⟨by show 1<=sizeLine;decide,λp1 hp1=>?_⟩
  have s1:=ak (o:=.tup [V.str "nought"]) hp1
  refine⟨_,_,sh,.tuple [.str "nought"],rfl,dv.same s1 _ hu,dv.tup ag (.one rfl),gd.lay _ gs,?_,λb' H' hb' s'=>?_⟩
  ·simp only [rD,wF,List.length_cons,List.length_nil,and_true]
   exact⟨by decide,by decide +kernel⟩
  ·refine q b' H' ?_ (s1.trans s')
   rw [hb']
   exact⟨λz=>.inl ⟨pa,z⟩,λz=>z.elim (λz=>z.2) λz=>absurd pa z.1⟩
 have na:¬p∣a:=λz=>c (Int.emod_eq_zero_of_dvd z)
 obtain⟨d,D⟩:=ni (p:=p) (k:=k) (by omega) k0
 have d0:=D.pos k0
 have dl:=AR.len.2 na d D
 obtain⟨r0,hr0⟩:∃ r0,rs[0]?=some r0:=⟨rs[0]'(by omega),List.getElem?_eq_getElem _⟩
 have told_inv:Told p k a rs sh->∃ t,0<=t/\t<p/\Num.Ord p t d.toNat/\sh=iL r0 t:=by
  rintro (⟨z,_⟩|⟨_,d',r0',t,D',h1,h2,h3,h4,h5⟩)
  ·exact absurd z na
  ·obtain rfl:=D.one D'
   obtain rfl:r0=r0':=Option.some.inj (hr0.symm.trans h1)
   exact⟨t,h2,h3,h4,h5⟩
 refine⟨⟨_,aS.of hl⟩,?_⟩
 refine c7 (xs:=rs.map V.int) (λi ys H'=>H'=H/\ys=(rs.take i).map V.int) ⟨rfl,rfl⟩ (by rw [rl];exact Nat.le_trans h4 (by decide)) (λi ys H' hi h=>⟨aS.of (h.1▸hl),by rw [h.2,List.length_map,List.length_take];exact Nat.min_le_left ..⟩) ?_ ?_
 ·rintro i v ys H2 hx ⟨rfl,rfl⟩
  rw [List.getElem?_map] at hx
  obtain⟨r,hr',rfl⟩:=Option.map_eq_some_iff.mp hx
  obtain⟨r0',r1',_⟩:=AR.ok r (List.mem_of_getElem? hr')
  simp only [cG,List.map_cons,List.map_nil,Option.join]
  k_data
  refine⟨⟨rfl,True.intro⟩,_,rfl,p,rfl,by omega,?_⟩
  rw [Int.emod_eq_of_lt r0' r1',List.take_add_one,hr',List.map_append]
  rfl
 rintro ys H2 pl ⟨rfl,rfl⟩ hpl
 rw [rl,List.take_length]
 have s1:=ak (o:=.lst (rs.map V.int)) hpl
 have ne:rs≠[]:=λz=>by subst z;cases hr0
 refine⟨pl,rs,rfl,aS.of ag,ne,λm hm hmin=>?_⟩
 generalize upd H2 pl (.lst (rs.map V.int))=H3 at *
 have em:m=r0:=by
  cases rs with
  | nil=>cases hr0
  | cons x xs =>
   have e0:x=r0:=Option.some.inj hr0
   have h1:=hmin x List.mem_cons_self
   rcases List.mem_cons.mp hm with z | z
   ·exact z.trans e0
   ·have:=(List.pairwise_cons.mp AR.rise).1 m z
    omega
 subst em
 have hu1:=dv.same s1 _ hu
 refine⟨sh,u,3,rfl,hu1,_,aK.mpr rfl,?_⟩
 refine aJ (λz=>?_) (λz=>q false H3 ⟨λy=>absurd y (by decide),λT=>absurd (by obtain⟨t,_,_,_,rfl⟩:=told_inv T;rfl) z⟩ s1)
 obtain⟨ss,rfl,ls⟩:=Cm z
 obtain⟨x0,x1,x2,rfl⟩:∃ x0 x1 x2,ss=[x0,x1,x2]:=by
  match ss,ls with
  | [x0,x1,x2],_=>exact⟨x0,x1,x2,rfl⟩
 simp only [gd,cw,and_true] at gs
 obtain⟨pu,z1,z2,z3,rfl,tU,u0,u1,u2⟩:=lR hu1
 refine⟨pu,_,rfl,tU,show ¬((0:Nat)=0/\(2:Nat)=3) by decide,λp3 hp3=>?_⟩
 have s3:=ak (o:=.tup (bE [z1,z2,z3] none (some 2))) hp3
 have e3:upd H3 p3 (.tup (bE [z1,z2,z3] none (some 2))) p3=some (.tup [z1,z2]):=ag
 generalize upd H3 p3 (.tup (bE [z1,z2,z3] none (some 2)))=H4 at *
 refine⟨by show 2<=sizeLine;decide,λp4 hp4=>?_⟩
 have s4:=ak (o:=.tup [V.str "turned",V.int m]) hp4
 have S34:=s3.trans s4
 refine⟨_,_,.tuple [x0,x1],.tuple [.str "turned",.int m],rfl,dv.tup (s4 _ _ e3) ⟨_,_,rfl,dv.same S34 _ u0,.one (dv.same S34 _ u1)⟩,dv.tup ag ⟨_,_,rfl,rfl,.one rfl⟩,gd.lay _ (by simp only [gd,cw,and_true];exact⟨gs.1,gs.2.1⟩),?_,λb' H5 hb' s5=>?_⟩
 ·simp only [rD,wF,List.length_cons,List.length_nil,and_true]
  exact⟨by decide,by decide +kernel⟩
 have S5:=s3.trans (s4.trans s5)
 have T5:=s1.trans S5
 refine⟨b',aK.mpr rfl,?_⟩
 refine aJ (λz=>?_) (λz=>q false H5 ⟨λy=>absurd y (by decide),λT=>absurd (by
  obtain⟨t,_,_,_,e⟩:=told_inv T
  simp only [iL,PyData.tuple.injEq,List.cons.injEq] at e
  rw [hb',e.1,e.2.1]) z⟩ T5)
 have hb:=hb'.mp z
 simp only [PyData.tuple.injEq,List.cons.injEq,and_true] at hb
 obtain⟨rfl,rfl⟩:=hb
 cases u0
 cases u1
 refine cY (tU.same S5) (show ([V.str "turned",V.int m,z3]:List V)[2]?=some z3 from rfl) ⟨x2,z3,rfl,dv.same S5 _ u2,_,aK.mpr rfl,?_⟩
 refine aJ (λz=>?_) (λz=>?_)
 ·refine q false H5 ⟨λy=>absurd y (by decide),λT=>?_⟩ T5
  obtain⟨t,_,_,_,e⟩:=told_inv T
  simp only [iL,PyData.tuple.injEq,List.cons.injEq,and_true,true_and] at e
  rw [e] at z
  exact absurd z (by simp [jx])
 obtain⟨t,rfl⟩:∃ t:Int,x2=.int t:=by
  cases x2 with
  | int i=>exact⟨i,rfl⟩
  | _=>exact absurd rfl z
 cases u2
 have told_iff:Told p k a rs (.tuple [.str "turned",.int m,.int t])↔1<=t/\t<p/\Num.Ord p t d.toNat:=by
  constructor
  ·intro T
   obtain⟨t',h1,h2,h3,e⟩:=told_inv T
   simp only [iL,PyData.tuple.injEq,List.cons.injEq,and_true,true_and,PyData.int.injEq] at e
   subst e
   refine⟨?_,h2,h3⟩
   rcases Int.lt_or_eq_of_le h1 with z | z
   ·omega
   ·subst z
    have h1:=h3.one
    rw [Int.zero_pow (Nat.pos_iff_ne_zero.mp h3.pos)] at h1
    have h2:p∣0-1:=h1
    have:=Int.le_of_dvd (by decide) (Int.dvd_neg.mpr h2)
    omega
  ·rintro⟨h1,h2,h3⟩
   exact .inr ⟨na,d,m,t,D,hr0,by omega,h2,h3,rfl⟩
 unfold qt
 k_data
 refine cY (tU.same S5) (show ([V.str "turned",V.int m,V.int t]:List V)[2]?=some (.int t) from rfl) ?_
 k_data
 refine aJ (λt1=>?_) (λt1=>q _ H5 ?_ T5)
 rotate_left
 ·rw [told_iff]
  exact⟨λy=>absurd y (by decide),λy=>absurd y.1 t1⟩
 refine aJ (λt2=>?_) (λt2=>q _ H5 ?_ T5)
 rotate_left
 ·rw [told_iff]
  exact⟨λy=>absurd y (by decide),λy=>absurd y.2.1 t2⟩
 have hd5:=dv.same T5 _ hd
 refine cY (tU.same S5) (show ([V.str "turned",V.int m,V.int t]:List V)[2]?=some (.int t) from rfl) ⟨p,k,a,rfl,by omega,by omega,k0,by omega,λz=>absurd z na,λz d' H6 D' s6=>?_⟩
 obtain rfl:=D.one D'
 have dp:d<=10^100:=by
  obtain⟨u,v,B⟩:=D
  have:=Int.le_of_dvd (by omega) B.db
  omega
 refine⟨.ref pp,p,t,d,.int g,_,ps,rfl,dv.same s6 _ hd5,nL R.hds,R.pm,R.hP,by omega,Nat.le_trans R.l29 (by decide),by omega,dp,λbb H7 hb s7=>?_⟩
 refine q bb H7 ?_ (T5.trans (s6.trans s7))
 rw [hb,told_iff]
 exact⟨λy=>⟨t1,t2,y.2⟩,λy=>⟨by omega,y.2.2⟩⟩
def mT (p k a:Int) (rs:List Int) (sh:PyData):Prop:=(p∣a/\rs=[0]/\sh=.tuple [.str "nought"])∨(¬p∣a/\∃ d,Dg p k d/\d<=400 /\
 ((¬Num.Al p (a^((p-1)/d).toNat) 1/\rs=[]/\sh=jV ((p-1)/d) (a^((p-1)/d).toNat%p))∨(Num.Al p (a^((p-1)/d).toNat) 1/\ia p k a d rs/\∃ r0 t,rs[0]?=some r0/\0<=t/\t<p/\Num.Ord p t d.toNat/\sh=iL r0 t)))
theorem j7:∀{b a:List Int},a.Pairwise (·<·)->b.Pairwise (·<·)->(∀ x∈a,x∈b)->List.Sublist a b
 | [],a,_,_,h=>by
  cases a with
  | nil=>exact .slnil
  | cons x a=>exact absurd (h x List.mem_cons_self) (by simp)
 | y::b,[],_,_,_=>List.nil_sublist _
 | y::b,x::a,ha,hb,h=>by
  have ha':=List.pairwise_cons.mp ha
  have hb':=List.pairwise_cons.mp hb
  rcases List.mem_cons.mp (h x List.mem_cons_self) with e | e
  ·subst e
   refine .cons_cons x (j7 ha'.2 hb'.2 λz hz=>?_)
   rcases List.mem_cons.mp (h z (List.mem_cons_of_mem _ hz)) with e | e
   ·have:=ha'.1 z hz;omega
   ·exact e
  ·refine .cons y (j7 ha hb'.2 λz hz=>?_)
   have hxy:=hb'.1 x e
   rcases List.mem_cons.mp (h z hz) with e' | e'
   ·rcases List.mem_cons.mp hz with e2 | e2
    ·omega
    ·have:=ha'.1 z e2;omega
   ·exact e'
theorem zJ {p g k a d:Int} {rs:List Int} (pm:Num.Pm p) (og:Num.Ord p g (p-1).toNat) (k0:0<k) (na:¬p∣a) (D:Dg p k d) (al:Num.Al p (a^((p-1)/d).toNat) 1) (AR:AV p k a rs):ia p k a d rs:=by
 have RO:=jN pm og k0 na D al
 have e:rs=bU p k a p.toNat:=(j7 AR.rise RO.rise λx hx=>RO.all x (AR.ok x hx).1 (AR.ok x hx).2.1 (AR.ok x hx).2.2).eq_of_length (by
  have h1:=AR.len.2 na d D
  have h2:=RO.len
  omega)
 rw [e]
 exact RO
def rW (p k a:Int) (d:PyData):Prop:=∃(rs:List Int) (sh:PyData),d=.tuple [.list (rs.map PyData.int),sh]/\mT p k a rs sh
def lA (K:PySem.W.Frag):Sp:=λvs H Q _=>∃(v u:V) (p g k a:Int) (ps:List (Int × Int)) (ds:Nat->PyData) (d:PyData),vs=[v,.int k,.int a,u]/\dv K H (.tuple [.int p,.int g,.tuple (Num.rowsOf ps ds)]) v/\zG p g ps ds/\p<=400/\0<k/\k<=10^60/\kQ K H d u/\gd d/\∀ b H',(b=true↔rW p k a d)->aG H H'->Q (.bl b) H'
theorem dj:aE ["paper","k","a","thing","found","shown","none"] ["paper","k","a","thing"] (au (top 30)):=dI
theorem pY (D:aC K mg "shows_roots" (top 30)) (c_is_prime_paper:Callee P w K mg base aT 8 "is_prime_paper" ["thing"] (Ay K)) (c_is_tuple_of:Callee P w K mg base aT 1 "is_tuple_of" ["thing","many"] (lB K)) (c_shown_none:Callee P w K mg base aT 5 "shown_none" ["p","k","a"] (qp K)) (c_is_just:Callee P w K mg base aT 15 "is_just" ["thing","right"] (hG K 7)) (c_are_all_roots:Callee P w K mg base aT 6 "are_all_roots" ["primes","k","a","found"] (mF K)) (c_is_shown_by:Callee P w K mg base aT 16 "is_shown_by" ["paper","k","a","found","shown"] (iI K)):Callee P w K mg base aT 17 "shows_roots" ["paper","k","a","thing"] (lA K):=by
 refine cO D dj (λf cdv A outer s H vs Q E hr h=>?_)
 obtain⟨v,u,p,g,k,a,ps,ds,d,rfl,hd,R,p4,k0,k1,hu,gd',q⟩:=h
 have p2:=R.pm.two
 have nd:=dj.nd
 refine⟨_,(aj (aQ (cI (PW.pt (dN (aR (bT c_is_prime_paper hr az (aa (pv 0) af)) (λ_=>rfl)) (d9 (aR (bT c_is_tuple_of hr az (aa (pv 3) (aa ah af))) (λ_=>rfl)))))) (ao (ay cD)) aF) (aj (eG (pv 3) (eF (n:=2) rfl (aM (aI (i:=4) nd rfl (Or.inl rfl) (.inr rfl)) (aM (aI (i:=5) nd rfl (Or.inl rfl) (.inr rfl)) cU)))) (aj (dc (i:=6) nd (bT c_shown_none hr az (aa (aP aZ (pv 0) ah (λ_ _=>rfl)) (aa (pv 1) (aa (pv 2) af))))) (aj (aQ (aw qX (pv 6) gX (ax _)) (ao (ay (bT c_is_just hr az (aa (pv 3) (aa (aD (aa (aW af) (aa (pv 6) af))) af))))) aF) (ao (ay (bS (bT c_are_all_roots hr az (aa (aW (aa (aP aZ (pv 0) ah (λ_ _=>rfl)) af)) (aa (pv 1) (aa (pv 2) (aa (pv 4) af))))) (cR (bT c_is_shown_by hr az (aa (pv 0) (aa (pv 1) (aa (pv 2) (aa (pv 4) (aa (pv 5) af)))))))))))))),?_⟩
 show bZ _ _ _ [some v,some (.int k),some (.int a),some u,none,none,none] H
 obtain⟨pp,y1,y2,vr,rfl,tS,e0,eg,dr⟩:=lR hd
 cases e0
 cases eg
 k_data
 have ppp:=(mr p2 R.hP R.hds).mpr ⟨R.g1,R.gp,R.o⟩
 refine⟨_,_,rfl,hd,R.sm,R.sz,λbb H1 hb s1=>?_⟩
 have hbb:bb=true:=hb.mpr ppp
 subst hbb
 refine⟨true,aK.mpr rfl,?_⟩
 rw [if_pos rfl]
 refine⟨d,u,2,rfl,(hu.same s1).dv,_,aK.mpr rfl,?_⟩
 refine aJ (λz=>?_) (λz=>?_)
 ·refine q false H1 ⟨λy=>absurd y (by decide),?_⟩ s1
  rintro⟨rs,sh,rfl,_⟩
  exact absurd z (by simp [fC])
 obtain⟨ss,rfl,ls⟩:=Cm (d:=d) (n:=2) (by simpa using z)
 clear z
 obtain⟨df,sh,rfl⟩:∃ x0 x1,ss=[x0,x1]:=by
  match ss,ls with
  | [x0,x1],_=>exact⟨x0,x1,rfl⟩
 simp only [gd,cw,and_true] at gd'
 obtain⟨t,us,rfl,tT,vf,r1,rfl,hf,vs',r2,rfl,hs,z⟩:=hu
 cases z
 refine⟨t,_,rfl,tT.same s1,rfl,?_⟩
 k_data
 obtain⟨dg,D⟩:=ni (p:=p) (k:=k) (by omega) k0
 have dle:dg<=400:=by
  obtain⟨_,_,B⟩:=id D
  have:=Int.le_of_dvd (by omega) B.db
  omega
 have rest:∀ H2,aG H1 H2->(∀ rs sh',mT p k a rs sh'↔AV p k a rs/\Told p k a rs sh')->x6 K (.ref pp) (.int 0) H2 λx H3=>[x].length<=sizeLine/\∀ p3,H3 p3=none->mF K [.ref p3,.int k,.int a,vf] (upd H3 p3 (.lst [x])) (λx H'=>∃ c,x=.bl c/\if c=true then iI K [.ref pp,.int k,.int a,vf,vs'] H' Q E0 else Q (.bl false) H') E0:=by
  intro H2 s2 TI
  refine cY (tS.same (s1.trans s2)) mU ⟨by show 1<=sizeLine;decide,λp3 hp3=>?_⟩
  have s3:=ak (o:=.lst [V.int p]) hp3
  have S3:=s1.trans (s2.trans s3)
  refine⟨p3,vf,p,k,a,df,rfl,ag,hf.same S3,R.pm,p4,k0,k1,λb4 H4 hb4 s4=>⟨b4,rfl,?_⟩⟩
  have S4:=S3.trans s4
  refine aJ (λz=>?_) (λz=>?_)
  ·obtain⟨rs,rfl,AR⟩:=hb4.mp z
   obtain⟨l,xs,rfl,hl,hxs⟩:=hf
   obtain rfl:xs=rs.map V.int:=iq hxs.bD
   refine⟨_,vs',l,p,g,k,a,ps,ds,rs,sh,rfl,dv.same S4 _ hd,R,k0,k1,S4 _ _ hl,AR,(hs.same S4).dv,gd'.2,λb5 H5 hb5 s5=>q b5 H5 ?_ (S4.trans s5)⟩
   rw [hb5]
   constructor
   ·exact λT=>⟨rs,sh,rfl,(TI rs sh).mpr ⟨AR,T⟩⟩
   ·rintro⟨rs',sh',e,T⟩
    simp only [PyData.tuple.injEq,List.cons.injEq,and_true,PyData.list.injEq] at e
    obtain⟨e1,rfl⟩:=e
    obtain rfl:=d8 e1
    exact ((TI rs sh).mp T).2
  ·refine q false H4 ⟨λy=>absurd y (by decide),?_⟩ S4
   rintro⟨rs',sh',e,T⟩
   simp only [PyData.tuple.injEq,List.cons.injEq,and_true] at e
   obtain⟨rfl,rfl⟩:=e
   rw [hb4.mpr ⟨rs',rfl,((TI rs' sh).mp T).1⟩] at z
   exact absurd rfl z
 refine cY (tS.same s1) mU ⟨p,k,a,rfl,R.pm,by omega,k0,by omega,λz=>?_,λz d' D'=>⟨λal H2 s2=>?_,λnal w' H2 s2 hw=>?_⟩⟩
 ·k_data
  rw [if_neg (λz=>z True.intro)]
  refine rest H1 (aG.refl _) λrs sh'=>⟨?_,?_⟩
  ·rintro (⟨_,rfl,rfl⟩|⟨z',_⟩)
   ·refine⟨⟨List.pairwise_singleton ..,λr hr'=>?_,⟨λ_=>rfl,λz'=>absurd z z'⟩,by decide⟩,.inl ⟨z,rfl⟩⟩
    cases List.mem_singleton.mp hr'
    refine⟨Int.le_refl _,by omega,?_⟩
    show p∣0^k.toNat-a
    rw [Int.zero_pow (by omega),Int.zero_sub]
    exact Int.dvd_neg.mpr z
   ·exact absurd z z'
  ·rintro⟨AR,⟨_,rfl⟩|⟨z',_⟩⟩
   ·refine .inl ⟨z,?_,rfl⟩
    obtain⟨r,rfl⟩:∃ r,rs=[r]:=by
     have:=AR.len.1 z
     match rs,this with
     | [r],_=>exact⟨r,rfl⟩
    obtain⟨r0,r1,al⟩:=AR.ok r List.mem_cons_self
    have h5:p∣r^k.toNat-a:=al
    have h6:=Int.dvd_add h5 z
    rw [Int.sub_add_cancel] at h6
    have h7:p∣r:=by
     rcases Classical.em (p∣r) with y | y
     ·exact y
     ·exact absurd h6 (R.pm.unit ((R.pm.co y).pow k.toNat))
    rcases Int.lt_or_eq_of_le r0 with y | y
    ·have:=Int.le_of_dvd y h7
     omega
    ·rw [<- y]
   ·exact absurd z z'
 ·obtain rfl:=D.one D'
  k_data
  rw [if_neg (λz=>z True.intro)]
  refine rest H2 s2 λrs sh'=>⟨?_,?_⟩
  ·rintro (⟨z',_⟩|⟨_,d'',D'',d4,⟨nal,_⟩|⟨_,RO,r0,t',h1,h2,h3,h4,rfl⟩⟩)
   ·exact absurd z' z
   ·obtain rfl:=D.one D''
    exact absurd al nal
   ·obtain rfl:=D.one D''
    have l4:=RO.len
    exact⟨⟨RO.rise,RO.ok,⟨λz'=>absurd z' z,λ_ d3 D3=>by rw [RO.len,D.one D3]⟩,by omega⟩,.inr ⟨z,dg,r0,t',D,h1,h2,h3,h4,rfl⟩⟩
  ·rintro⟨AR,⟨z',_⟩|⟨_,d3,r0,t',D3,h1,h2,h3,h4,rfl⟩⟩
   ·exact absurd z' z
   ·obtain rfl:=D.one D3
    exact .inr ⟨z,dg,D,dle,.inr ⟨al,zJ R.pm R.o k0 z D al AR,r0,t',h1,h2,h3,h4,rfl⟩⟩
 ·obtain rfl:=D.one D'
  obtain⟨pn,n1,n2,n3,rfl,tN,_⟩:=lR hw
  k_data
  rw [if_pos (λz=>nomatch z)]
  refine⟨by show 0<=sizeLine;decide,λp3 hp3=>⟨by show 2<=sizeLine;decide,λp4' hp4=>?_⟩⟩
  have s3:=ak (o:=.lst []) hp3
  have s4:=ak (o:=.tup [V.ref p3,V.ref pn]) hp4
  have e3:upd H2 p3 (.lst []) p3=some (.lst []):=ag
  have S4:=s1.trans (s2.trans (s3.trans s4))
  refine⟨_,_,.tuple [df,sh],.tuple [.list [],jV ((p-1)/dg) (a^((p-1)/dg).toNat%p)],rfl,⟨t,_,rfl,tT.same S4,_,_,rfl,(hf.same S4).dv,.one (hs.same S4).dv⟩,dv.tup ag ⟨_,_,rfl,⟨p3,[],rfl,aS.of (s4 _ _ e3),rfl⟩,.one (dv.same (s3.trans s4) _ hw)⟩,gd.lay _ (by simp only [gd,cw,and_true];exact gd'),?_,λb' H' hb' s'=>?_⟩
  ·simp only [jV,rD,wF,List.length_cons,List.length_nil,and_true]
   exact⟨by decide,by decide,by decide,by decide +kernel⟩
  ·refine q b' H' ?_ (S4.trans s')
   rw [hb']
   constructor
   ·intro e
    exact⟨[],_,e,.inr ⟨z,dg,D,dle,.inl ⟨nal,rfl,rfl⟩⟩⟩
   ·rintro⟨rs,sh',e,T⟩
    rw [e]
    rcases T with⟨z',_⟩|⟨_,d3,D3,d4,⟨_,rfl,rfl⟩|⟨al,_⟩⟩
    ·exact absurd z' z
    ·obtain rfl:=D.one D3
     rfl
    ·obtain rfl:=D.one D3
     exact absurd al nal
def lz (K:PySem.W.Frag):Sp:=λvs H Q _=>∃(v u:V) (d:PyData) (k a:Int),vs=[v,.int k,.int a,u]/\dv K H d v/\jt d/\bO d<=10^6/\¬PP d/\∀ H',aG H H'->Q (.bl false) H'
theorem pX (D:aC K mg "shows_roots" (top 30)) (c_is_prime_paper:Callee P w K mg base aT 8 "is_prime_paper" ["thing"] (Ay K)) (c_is_tuple_of:Callee P w K mg base aT 1 "is_tuple_of" ["thing","many"] (lB K)) (c_shown_none:Callee P w K mg base aT 5 "shown_none" ["p","k","a"] (qp K)) (c_is_just:Callee P w K mg base aT 15 "is_just" ["thing","right"] (hG K 7)) (c_are_all_roots:Callee P w K mg base aT 6 "are_all_roots" ["primes","k","a","found"] (mF K)) (c_is_shown_by:Callee P w K mg base aT 16 "is_shown_by" ["paper","k","a","found","shown"] (iI K)):Callee P w K mg base aT 17 "shows_roots" ["paper","k","a","thing"] (lz K):=by
 refine cO D dj (λf cdv A outer s H vs Q E hr h=>?_)
 obtain⟨v,u,d,k,a,rfl,hd,sm,sz,np,q⟩:=h
 have nd:=dj.nd
 refine⟨_,(aj (aQ (cI (PW.pt (dN (aR (bT c_is_prime_paper hr az (aa (pv 0) af)) (λ_=>rfl)) (d9 (aR (bT c_is_tuple_of hr az (aa (pv 3) (aa ah af))) (λ_=>rfl)))))) (ao (ay cD)) aF) (aj (eG (pv 3) (eF (n:=2) rfl (aM (aI (i:=4) nd rfl (Or.inl rfl) (.inr rfl)) (aM (aI (i:=5) nd rfl (Or.inl rfl) (.inr rfl)) cU)))) (aj (dc (i:=6) nd (bT c_shown_none hr az (aa (aP aZ (pv 0) ah (λ_ _=>rfl)) (aa (pv 1) (aa (pv 2) af))))) (aj (aQ (aw qX (pv 6) gX (ax _)) (ao (ay (bT c_is_just hr az (aa (pv 3) (aa (aD (aa (aW af) (aa (pv 6) af))) af))))) aF) (ao (ay (bS (bT c_are_all_roots hr az (aa (aW (aa (aP aZ (pv 0) ah (λ_ _=>rfl)) af)) (aa (pv 1) (aa (pv 2) (aa (pv 4) af))))) (cR (bT c_is_shown_by hr az (aa (pv 0) (aa (pv 1) (aa (pv 2) (aa (pv 4) (aa (pv 5) af)))))))))))))),?_⟩
 show bZ _ _ _ [some v,some (.int k),some (.int a),some u,none,none,none] H
 k_data
 refine⟨_,v,rfl,hd,sm,sz,λbb H1 hb s1=>⟨bb,aK.mpr rfl,?_⟩⟩
 have hbb:bb=false:=by
  cases bb
  ·rfl
  ·exact absurd (hb.mp rfl) np
 subst hbb
 rw [if_neg (by decide)]
 exact q H1 s1
def vX (K:PySem.W.Frag):Sp:=λvs H Q _=>∃(p0:Addr) (n:Nat) (p k a g:Int),vs=[.ref p0,.int p,.int k,.int a]/\Tp p0 n H/\n<=10^40/\Num.Pm p/\p<=71/\Num.Ord p g (p-1).toNat/\0<k/\k<=10^60 /\ -(10^60)<=a/\a<=10^60/\∀ t l u rs sh H',mT p k a rs sh->bN p0 H H'->Tp p0 (n+1) H'->aL K H' t [.ref l,u]->H' l=some (.lst (rs.map V.int))->dv K H' sh u->Q (.ref t) H'
theorem ja:aE ["_law_tape_here","_law_p","_law_k_here","_law_a","_law_roots_here","_law_e"] ["_law_tape_here","_law_p","_law_k_here","_law_a"] (au (top 58)):=dI
theorem xB (D:aC K mg "_law_due" (top 58)) (c__law_power:Callee P w K mg base aT 1 "_law_power" ["_law_n","_law_a","_law_e"] mI) (c__law_common:Callee P w K mg base aT 1 "_law_common" ["_law_one","_law_other"] iH) (c__law_turn:Callee P w K mg base aT 2 "_law_turn" ["_law_tape_here","_law_p","_law_d"] rM) (n_range:mg "range"=none) (n_len:mg "len"=none):Callee P w K mg base aT 3 "_law_due" ["_law_tape_here","_law_p","_law_k_here","_law_a"] (vX K):=by
 refine cO D ja (λf cdv A outer s H vs Q E hr h=>?_)
 obtain⟨p0,n,p,k,a,g,rfl,tp,n9,pm,p9,og,k0,k1,a0,a1,q⟩:=h
 have p2:=pm.two
 have nd:=ja.nd
 refine⟨_,(aj (mx (i0:=4) nd rfl (Or.inl rfl) rfl (oQ (N':=["_law_x","_law_p","_law_k_here","_law_a"]) (js:=[none,some 1,some 2,some 3]) rfl rfl) (gf rfl n_range (aa (pv 1) af)) (λ_ _ _ _=>(aI (i:=0) (show List.Nodup [("_law_x":Str),("_law_p":Str),("_law_k_here":Str),("_law_a":Str)] from by decide +kernel) rfl (Or.inl rfl) (.inr rfl))) (λ_ _ _ _=>(iA (aw bp (bT c__law_power hr az (aa (pv 1) (aa (pv 0) (aa (pv 2) af)))) (av aO (pv 3) (pv 1)) (ax _)))) (λ_ _ _ _=>(pv 0)) (by rfl) (by first | exact .inl rfl | exact .inr rfl)) (aj (aQ (aw bp (av aO (pv 3) (pv 1)) ah (ax _)) (ao (ay (aD (aa (aW (aa ah af)) (aa (aD (aa br af)) af))))) aF) (aj (aQ (aw (jX hr.units) (pv 4) (aW af) (ax _)) (aj (dc (i:=5) nd (av cT (av bR (pv 1) ah) (bT c__law_common hr az (aa (pv 2) (aa (av bR (pv 1) ah) af))))) (ao (ay (aD (aa (aW af) (aa (aD (aa br (aa (pv 5) (aa (bT c__law_power hr az (aa (pv 1) (aa (pv 3) (aa (pv 5) af)))) af)))) af)))))) aF) (ao (ay (aD (aa (pv 4) (aa (aD (aa br (aa (aP bA (pv 4) ah (λ_ _=>rfl)) (aa (bT c__law_turn hr az (aa (pv 0) (aa (pv 1) (aa (aB aU rfl n_len PySem.boot_len (aa (pv 4) af)) af)))) af)))) af)))))))),?_⟩
 show bZ _ _ _ [some (.ref p0),some (.int p),some (.int k),some (.int a),none,none] H
 have ep:((p.toNat:Nat):Int)=p:=Int.toNat_of_nonneg (by omega)
 have k':k.toNat=(k.toNat-1)+1:=by omega
 k_data
 refine⟨by omega,by omega,?_⟩
 refine fw (λj ys H'=>H'=H/\ys=(bU p k a j).map V.int) ⟨rfl,rfl⟩ (Nat.le_trans (show p.toNat<=71 by omega) (by decide)) (λj ys H' _ h=>by rw [h.2,List.length_map];exact lQ) ?_ ?_
 ·rintro j ys H7 hj ⟨rfl,rfl⟩
  have dsu:bU p k a (j+1)=bU p k a j++(if ((j:Nat):Int)^k.toNat%p=a%p then [((j:Nat):Int)] else []):=by
   unfold bU
   rw [List.range_succ,List.map_append,List.filter_append]
   congr 1
   simp only [List.map_cons,List.map_nil]
   split
   ·rename_i h;rw [List.filter_cons_of_pos (by simpa using h)];rfl
   ·rename_i h;rw [List.filter_cons_of_neg (by simpa using h)];rfl
  rw [Int.zero_add]
  simp only [cG,List.map_cons,List.map_nil,Option.join]
  k_data
  refine⟨⟨rfl,rfl,rfl,True.intro⟩,_,rfl,_,rfl,p,j,k,rfl,by omega,by omega,by omega,by omega,by omega,_,rfl,_,rfl,a,rfl,p,rfl,by omega,rfl,?_⟩
  rw [dsu]
  refine aJ (λc=>⟨rfl,?_⟩) (λc=>⟨rfl,?_⟩)
  ·rw [if_pos (V.int.inj c),List.map_append];rfl
  ·rw [if_neg (λz=>c (by rw [z])),List.append_nil]
 rintro ys H7 dl ⟨rfl,rfl⟩ hdl
 have s8:=ak (o:=.lst ((bU p k a p.toNat).map V.int)) hdl
 have e8:upd H7 dl (.lst ((bU p k a p.toNat).map V.int)) dl=some (.lst ((bU p k a p.toNat).map V.int)):=ag
 generalize upd H7 dl (.lst ((bU p k a p.toNat).map V.int))=H8 at *
 have t8:=tp.same s8
 refine⟨by omega,aJ (λc=>?_) (λc=>?_)⟩
 ·refine⟨by show 1<=sizeLine;decide,λq1 h1=>⟨by show 1<=sizeLine;decide,λq2 h2=>⟨by show 2<=sizeLine;decide,λq3 h3=>?_⟩⟩⟩
  have z1:=ak (o:=.lst [V.int 0]) h1
  have z2:=ak (o:=.tup [V.str "nought"]) h2
  have z3:=ak (o:=.tup [V.ref q1,V.ref q2]) h3
  have f1:upd H8 q1 (.lst [V.int 0]) q1=some (.lst [V.int 0]):=ag
  have f2:upd (upd H8 q1 (.lst [V.int 0])) q2 (.tup [V.str "nought"]) q2=some (.tup [V.str "nought"]):=ag
  have S:=s8.trans (z1.trans (z2.trans z3))
  exact q q3 q1 (.ref q2) [0] _ _ (.inl ⟨Int.dvd_of_emod_eq_zero c,rfl,rfl⟩) (bN.of S) ((tp.same S).more (by omega)) (aL.of ag) (z3 _ _ (z2 _ _ f1)) (dv.tup (z3 _ _ f2) (.one rfl))
 have na:¬p∣a:=λz=>c (Int.emod_eq_zero_of_dvd z)
 obtain⟨d,D⟩:=ni (p:=p) (by omega) k0
 have d0:=D.pos k0
 have ed:=uD D (by omega) k0
 have hdp:d∣p-1:=by obtain⟨u,v,B⟩:=id D;exact B.db
 have d1:d<=p-1:=Int.le_of_dvd (by omega) hdp
 have e0:=Int.ediv_nonneg (show 0<=p-1 by omega) (show 0<=d by omega)
 refine⟨by show 0<=sizeLine;decide,λpe hpe=>?_⟩
 have s9:=ak (o:=.lst []) hpe
 refine fz (bs:=bU p k a p.toNat) (cs:=[]) (aS.of (s9 _ _ e8)) (aS.of ag) ⟨_,rfl,?_⟩
 generalize upd H8 pe (.lst [])=H9 at *
 have S9:=s8.trans s9
 have e9:=s9 _ _ e8
 by_cases hr0:bU p k a p.toNat=[]
 ·rw [if_pos (by simpa using hr0)]
  have nal:¬Num.Al p (a^((p-1)/d).toNat) 1:=λal=>by
   have:=(jN pm og k0 na D al).len
   rw [hr0] at this
   have:(0:Int)=d:=this
   omega
  refine qx (by omega) (by omega) ⟨_,rfl,by omega,Bd.of (by omega) (by omega),by show 0<=sizeLine;decide,λq1 h1=>?_⟩
  rw [<- ed]
  have z1:=ak (o:=.lst []) h1
  have f1:upd H9 q1 (.lst []) q1=some (.lst []):=ag
  refine⟨p,a,_,rfl,by omega,by omega,by omega,by omega,e0,by show 3<=sizeLine;decide,λq2 h2=>⟨by show 2<=sizeLine;decide,λq3 h3=>?_⟩⟩
  have z2:=ak (o:=.tup [V.str "none",V.int ((p-1)/d),V.int (a^((p-1)/d).toNat%p)]) h2
  have f2:upd (upd H9 q1 (.lst [])) q2 (.tup [V.str "none",V.int ((p-1)/d),V.int (a^((p-1)/d).toNat%p)]) q2=some (.tup [V.str "none",V.int ((p-1)/d),V.int (a^((p-1)/d).toNat%p)]):=ag
  have z3:=ak (o:=.tup [V.ref q1,V.ref q2]) h3
  have S:=S9.trans (z1.trans (z2.trans z3))
  exact q q3 q1 (.ref q2) [] _ _ (.inr ⟨na,d,D,by omega,.inl ⟨nal,rfl,rfl⟩⟩) (bN.of S) ((tp.same S).more (by omega)) (aL.of ag) (z3 _ _ (z2 _ _ f1)) (dv.tup (z3 _ _ f2) ⟨_,_,rfl,rfl,_,_,rfl,rfl,.one rfl⟩)
 ·rw [if_neg (by simpa using hr0)]
  obtain⟨r0,rr,er⟩:=List.exists_cons_of_ne_nil hr0
  obtain⟨m0,m1,m2⟩:=fX.mp (show r0∈bU p k a p.toNat by rw [er];exact List.mem_cons_self)
  have al:=pB pm k0 na D (Num.Al.iff.mpr m2)
  have RO:=jN pm og k0 na D al
  have ln:(bU p k a p.toNat).length=d.toNat:=by have:=RO.len;omega
  have at0':(bU p k a p.toNat)[0]?=some r0:=by rw [er];rfl
  refine pM (aS.of e9) (Int.le_refl 0) (v:=.int r0) (by show (List.map V.int _)[0]?=_;rw [List.getElem?_map,at0'];rfl) (cp (aS.of e9) ?_)
  rw [List.length_map,ln]
  have ot:Num.Ord p (g^((p-1).toNat/d.toNat)) d.toNat:=Num.jB og (Int.natCast_dvd_natCast.mp (by rw [Int.toNat_of_nonneg (by omega),Int.toNat_of_nonneg (by omega)];exact hdp))
  have ot':=Num.qc (Num.Al.rest p (g^((p-1).toNat/d.toNat))).symm ot
  have x0:=Int.emod_nonneg (g^((p-1).toNat/d.toNat)) (show p≠0 by omega)
  have x1:=Int.emod_lt_of_pos (g^((p-1).toNat/d.toNat)) (show 0<p by omega)
  have x2:g^((p-1).toNat/d.toNat)%p≠0:=λz=>vB pm ot (Int.dvd_of_emod_eq_zero z)
  refine⟨p0,n,p,d.toNat,rfl,tp.same S9,n9,pm,by omega,⟨_,by omega,x1,ot'⟩,λt H10 t1 tp1 o1 of1 tp10=>⟨by show 3<=sizeLine;decide,λq2 h2=>⟨by show 2<=sizeLine;decide,λq3 h3=>?_⟩⟩⟩
  have ne:dl≠p0:=λz=>by
   obtain⟨c,x,y,cs,g1,g2,g3⟩:=tp
   rw [z,g1] at hdl
   cases hdl
  have z2:=ak (o:=.tup [V.str "turned",V.int r0,V.int t]) h2
  have f2:upd H10 q2 (.tup [V.str "turned",V.int r0,V.int t]) q2=some (.tup [V.str "turned",V.int r0,V.int t]):=ag
  have z3:=ak (o:=.tup [V.ref dl,V.ref q2]) h3
  have S:=z2.trans z3
  exact q q3 dl (.ref q2) _ _ _ (.inr ⟨na,d,D,by omega,.inr ⟨al,RO,r0,t,at0',by omega,tp1,o1,rfl⟩⟩) ((bN.of S9).trans (of1.trans (bN.of S))) (tp10.same S) (aL.of ag) (S _ _ (of1 _ _ ne e9)) (dv.tup (z3 _ _ f2) ⟨_,_,rfl,rfl,_,_,rfl,rfl,.one rfl⟩)
end
end K
namespace K
open PySem PySem.Spec PyProof.Rows L2
section
variable {P:Program} {w:World} {K:PySem.W.Frag} {mg:Str->Option Value} {base:Heap}
mutual
def sT:Nat->PyData->Prop
 | 0,_=>False
 | _+1,.none=>True
 | _+1,.bool _=>True
 | _+1,.int _=>True
 | _+1,.str _=>True
 | L+1,.list ds=>ds.length<=10^6/\tY L ds
 | L+1,.tuple ds=>ds.length<=10^6/\tY L ds
 | _+1,_=>False
def tY:Nat->List PyData->Prop
 | _,[]=>True
 | L,d::ds=>sT L d/\tY L ds
end
theorem vU:∀{L:Nat} {ds:List PyData} {i:Nat} {d:PyData},tY L ds->ds[i]?=some d->sT L d
 | L,[],i,d,_,h=>by simp at h
 | L,e::ds,0,d,h,z=>by
  simp only [tY] at h
  cases z
  exact h.1
 | L,e::ds,i+1,d,h,z=>by
  simp only [tY] at h
  exact vU h.2 (by simpa using z)
theorem rA:∀{L:Nat} {ds:List PyData},(∀ d∈ds,sT L d)->tY L ds
 | L,[],_=>by simp only [tY]
 | L,d::ds,h=>by
  simp only [tY]
  exact⟨h d (List.mem_cons_self ..),rA λe z=>h e (List.mem_cons_of_mem _ z)⟩
theorem mS {k:Sd} {H H':Hp} {a:Addr} {xs:List V} (h:jJ k K H a xs) (s:aG H H'):jJ k K H' a xs:=by
 cases k
 ·exact aS.same h s
 ·exact aL.same h s
def Dj:PyData->Prop
 | .none=>True
 | .bool _=>True
 | .int _=>True
 | .str _=>True
 | _=>False
theorem uK {d r:PyData} (hr:Dj r):(wD d=wD r/\PyData.eqv d r=true)↔d=r:=by
 cases r with
 | none=>cases d<;>simp [PyData.eqv,wD]
 | bool x=>cases d<;>simp [PyData.eqv,wD]
 | int x=>cases d<;>simp [PyData.eqv,wD]
 | str x=>cases d<;>simp [PyData.eqv,wD]
 | _=>cases hr
theorem xk {d:PyData} (h:Bw d=true):∃ ds,d=.list ds:=by cases d<;>first | exact⟨_,rfl⟩ | cases h
def fh (K:PySem.W.Frag) (L:Nat):Sp:=λvs H Q _=>∃(u v:V) (d r:PyData),vs=[u,v]/\dv K H d u/\dv K H r v/\d.canLay0=true/\r.canLay0=true/\sT L r/\∀ b H',(b=true↔d=r)->aG H H'->Q (.bl b) H'
theorem fg:aE ["_law_found","_law_due_here"] ["_law_found","_law_due_here"] (au (top 59)):=dI
theorem tw (D:aC K mg "_law_same" (top 59)):Callee P w K mg base aT 1 "_law_same" ["_law_found","_law_due_here"] (fh K 0):=by
 refine cO D fg (λf cdv A outer s H vs Q E hr h=>?_)
 obtain⟨u,v,d,r,rfl,hu,hv,_,_,hs,q⟩:=h
 simp only [sT] at hs
theorem tG {L:Nat} (D:aC K mg "_law_same" (top 59)) (c__law_same:Callee P w K mg base aT (L+1) "_law_same" ["_law_found","_law_due_here"] (fh K L)) (n_isinstance:mg "isinstance"=none) (n_bool:mg "bool"=none) (n_list:mg "list"=none) (n_tuple:mg "tuple"=none) (n_len:mg "len"=none) (n_zip:mg "zip"=none) (n_all:mg "all"=none):Callee P w K mg base aT (L+2) "_law_same" ["_law_found","_law_due_here"] (fh K (L+1)):=by
 refine cO D fg (λf cdv A outer s H vs Q E hr h=>?_)
 obtain⟨u,v,d,r,rfl,hu,hv,ld,lr,hs,q⟩:=h
 have nd:=fg.nd
 refine⟨_,(aj (aQ (PW.pt (eS (aR (aB aV rfl n_isinstance PyProof.Rows.boot_isinstance (aa (pv 1) (aa (bB (v:=.ty "tuple") rfl n_tuple L2.boot_tuple rfl) af))) (λ_=>rfl)) (ff (aR (aB aV rfl n_isinstance PyProof.Rows.boot_isinstance (aa (pv 1) (aa (bB (v:=.ty "list") rfl n_list L2.boot_list rfl) af))) (λ_=>rfl))))) (aj (aQ (PW.pt (eS (aw iy (aB aV rfl n_isinstance PyProof.Rows.boot_isinstance (aa (pv 0) (aa (bB (v:=.ty "tuple") rfl n_tuple L2.boot_tuple rfl) af))) (aB aV rfl n_isinstance PyProof.Rows.boot_isinstance (aa (pv 1) (aa (bB (v:=.ty "tuple") rfl n_tuple L2.boot_tuple rfl) af))) (ax _)) (ff (aw iy (aB aV rfl n_isinstance PyProof.Rows.boot_isinstance (aa (pv 0) (aa (bB (v:=.ty "list") rfl n_list L2.boot_list rfl) af))) (aB aV rfl n_isinstance PyProof.Rows.boot_isinstance (aa (pv 1) (aa (bB (v:=.ty "list") rfl n_list L2.boot_list rfl) af))) (ax _))))) (ao (ay cD)) aF) (ao (ay (bS (bI bp (aB aU rfl n_len PySem.boot_len (aa (pv 0) af)) (aB aU rfl n_len PySem.boot_len (aa (pv 1) af)) (ax _)) (cR (aB (eK rfl) rfl n_all L2.boot_all (aa (fk rfl (oQ (N':=["_law_one","_law_other"]) (js:=[none,none]) rfl rfl) (qZ rfl n_zip (aa (pv 0) (aa (pv 1) af))) (λ_ _ _ _=>(jD K rfl (n:=2) rfl (aM (aI (i:=0) (show List.Nodup [("_law_one":Str),("_law_other":Str)] from by decide +kernel) rfl (Or.inl rfl) (.inr rfl)) (aM (aI (i:=1) (show List.Nodup [("_law_one":Str),("_law_other":Str)] from by decide +kernel) rfl (Or.inl rfl) (.inr rfl)) cU)))) (λ_ _ _ _=>cE) (λ_ _ _ _=>(aH c__law_same (hr.mono (by omega)) rfl az (aa (pv 0) (aa (pv 1) af))))) af))))))) aF) (ao (ay (bS (bI bp (aB aV rfl n_isinstance PyProof.Rows.boot_isinstance (aa (pv 0) (aa (bB (v:=.ty "bool") rfl n_bool L2.boot_bool rfl) af))) (aB aV rfl n_isinstance PyProof.Rows.boot_isinstance (aa (pv 1) (aa (bB (v:=.ty "bool") rfl n_bool L2.boot_bool rfl) af))) (ax _)) (cR (bI (jX hr.units) (pv 0) (pv 1) (ax _))))))),?_⟩
 show bZ _ _ _ [some u,some v] H
 have sq:∀(k:Sd) (a b:Addr) (us vs:List V) (ds rs:List PyData),jJ k K H a us->jJ k K H b vs->bD K H ds us->bD K H rs vs->PyData.canLayAll0 ds=true->PyData.canLayAll0 rs=true->tY L rs->rs.length<=10^6->us.length=vs.length->(∀ b H',(b=true↔ds=rs)->aG H H'->Q (.bl b) H') ->
   kG (Bb k k K a b) [none,none] (sy K 2 (qK (eQ 0) (qK (eQ 1) zT))) wd (oH (fh K L) [] E0 (rO (uc 0) (rO (uc 1) AG))) [some (.ref a),some (.ref b)] (λx H1=>Aq K [x] H1 Q) H:=by
  intro k a b us vs ds rs ha hb dd dr cl cr hs hl ln q
  have ul:=dd.length
  have vl:=dr.length
  refine iR (xs:=us) (ys:=vs) (λi zs H3=>aG H H3/\∃ bs:List Bool,zs=bs.map V.bl/\bs.length=i/\(bs.all id=true↔ds.take i=rs.take i)) ⟨aG.refl _,[],rfl,rfl,by simp⟩ (by omega) (Nat.le_trans (by omega) (show 10^6<=sizeLine by decide)) (λi zs H3 hi ⟨z1,bs,z2,z3,_⟩=>⟨mS ha z1,mS hb z1,by rw [z2,List.length_map,z3];exact Nat.le_refl _⟩) ?_ ?_
  ·rintro i x y zs H3 p3 hx hy ⟨s3,bs,rfl,bl,hbb⟩ hp3
   obtain⟨d1,e1,v1⟩:=dd.get hx
   obtain⟨r1,e2,v2⟩:=dr.get hy
   have s4:=ak (o:=.tup [x,y]) hp3
   show sy K 2 _ _ [none,none] _ _
   refine⟨p3,_,rfl,aL.of ag,rfl,?_⟩
   generalize upd H3 p3 _=H4 at *
   k_data
   refine⟨True.intro,x,y,d1,r1,rfl,dv.same (s3.trans s4) _ v1,dv.same (s3.trans s4) _ v2,fV cl e1,fV cr e2,vU hs e2,λb H5 hb1 s5=>⟨(s3.trans s4).trans s5,bs++[b],by rw [List.map_append];rfl,by rw [List.length_append,bl];rfl,?_⟩⟩
   rw [List.all_append,Bool.and_eq_true,hbb,List.take_add_one,List.take_add_one,e1,e2]
   have l1:(ds.take i).length=(rs.take i).length:=by
    have:=(List.getElem?_eq_some_iff.mp e1).1
    have:=(List.getElem?_eq_some_iff.mp e2).1
    rw [List.length_take,List.length_take]
    omega
   constructor
   ·rintro⟨h1,h2⟩
    have:b=true:=by simpa using h2
    rw [h1,hb1.mp this]
   ·intro h
    obtain⟨h1,h2⟩:=List.append_inj h l1
    have:d1=r1:=by simpa using h2
    exact⟨h1,by simp [hb1.mpr this]⟩
  ·rintro zs H3 p3 ⟨s3,bs,rfl,bl,hbb⟩ hp3
   refine iQ (bs:=bs) (aS.of ag) ?_
   rw [show us.length=ds.length from ul,List.take_length,show ds.length=rs.length by omega,List.take_length] at hbb
   exact q _ _ hbb (s3.trans (ak hp3))
 have flat:Dj r->r.depth<=60->(j5 K [u,V.ty "bool"] H λx H1=>j5 K [v,V.ty "bool"] H1 λy H2=>kB x y=true/\if x=y then xZ K false u v H2 Q else Q (V.bl false) H2):=by
  intro hf dp
  refine ir hu (ir hv ⟨rfl,?_⟩)
  have ef:=uK (d:=d) hf
  refine aJ (λc=>?_) (λc=>?_)
  ·refine⟨d,r,hu,hv,ld,lr,Nat.le_trans (Nat.min_le_right _ _) dp,q _ H ?_ (aG.refl _)⟩
   rw [if_neg (by decide),<- ef]
   exact⟨λz=>⟨V.bl.inj c,z⟩,λz=>z.2⟩
  ·exact q false H ⟨nofun,λz=>absurd (by rw [z]) c⟩ (aG.refl _)
 k_data
 cases r with
 | none =>
  refine bM hv ⟨false,aK.mpr rfl,?_⟩
  rw [if_neg (by decide)]
  refine cn hv ⟨false,aK.mpr rfl,?_⟩
  rw [if_neg (by decide)]
  exact flat True.intro (by simp [PyData.depth])
 | bool y =>
  refine bM hv ⟨false,aK.mpr rfl,?_⟩
  rw [if_neg (by decide)]
  refine cn hv ⟨false,aK.mpr rfl,?_⟩
  rw [if_neg (by decide)]
  exact flat True.intro (by simp [PyData.depth])
 | int y =>
  refine bM hv ⟨false,aK.mpr rfl,?_⟩
  rw [if_neg (by decide)]
  refine cn hv ⟨false,aK.mpr rfl,?_⟩
  rw [if_neg (by decide)]
  exact flat True.intro (by simp [PyData.depth])
 | str y =>
  refine bM hv ⟨false,aK.mpr rfl,?_⟩
  rw [if_neg (by decide)]
  refine cn hv ⟨false,aK.mpr rfl,?_⟩
  rw [if_neg (by decide)]
  exact flat True.intro (by simp [PyData.depth])
 | list rs =>
  simp only [sT] at hs
  refine bM hv ⟨false,aK.mpr rfl,?_⟩
  rw [if_neg (by decide)]
  refine cn hv ⟨true,aK.mpr rfl,?_⟩
  rw [if_pos rfl]
  refine bM hu (bM hv ⟨rfl,?_⟩)
  refine aJ (λc=>?_) (λc=>?_)
  ·exact q false H ⟨nofun,λz=>absurd (by rw [z]) c⟩ (aG.refl _)
  refine cn hu (cn hv ⟨rfl,?_⟩)
  refine aJ (λc'=>?_) (λc'=>?_)
  ·exact q false H ⟨nofun,λz=>absurd (by rw [z]) c'⟩ (aG.refl _)
  obtain⟨ds,rfl⟩:=xk (V.bl.inj (Classical.not_not.mp c'))
  obtain⟨pa,us,rfl,hSu,du⟩:=hu
  obtain⟨pb,vs,rfl,hSv,dw⟩:=hv
  have ul:=du.length
  have vl:=dw.length
  refine cp hSu (cp hSv ⟨rfl,?_⟩)
  refine aJ (λc2=>?_) (λc2=>?_)
  ·have ln:us.length=vs.length:=by have:=V.int.inj c2;omega
   exact⟨pa,rfl,pb,rfl,.l,⟨_,hSu⟩,.l,⟨_,hSv⟩,sq .l pa pb us vs ds rs hSu hSv du dw (by simpa [PyData.canLay0] using ld) (by simpa [PyData.canLay0] using lr) hs.2 hs.1 ln λb H' hb s'=>q b H' (by rw [hb];exact⟨λz=>by rw [z],λz=>by injection z⟩) s'⟩
  ·refine q false H ⟨nofun,λz=>absurd ?_ c2⟩ (aG.refl _)
   injection z with z
   rw [ul,vl,z]
 | tuple rs =>
  simp only [sT] at hs
  refine bM hv ⟨true,aK.mpr rfl,?_⟩
  rw [if_pos rfl]
  refine bM hu (bM hv ⟨rfl,?_⟩)
  refine aJ (λc=>?_) (λc=>?_)
  ·exact q false H ⟨nofun,λz=>absurd (by rw [z]) c⟩ (aG.refl _)
  refine cn hu (cn hv ⟨rfl,?_⟩)
  refine aJ (λc'=>?_) (λc'=>?_)
  ·exact q false H ⟨nofun,λz=>absurd (by rw [z]) c'⟩ (aG.refl _)
  obtain⟨ds,rfl⟩:=qM (V.bl.inj (Classical.not_not.mp c))
  obtain⟨pa,us,rfl,hSu,du⟩:=hu
  obtain⟨pb,vs,rfl,hSv,dw⟩:=hv
  have ul:=du.length
  have vl:=dw.length
  refine dE hSu (dE hSv ⟨rfl,?_⟩)
  refine aJ (λc2=>?_) (λc2=>?_)
  ·have ln:us.length=vs.length:=by have:=V.int.inj c2;omega
   exact⟨pa,rfl,pb,rfl,.t,⟨_,hSu⟩,.t,⟨_,hSv⟩,sq .t pa pb us vs ds rs hSu hSv du dw (by simpa [PyData.canLay0] using ld) (by simpa [PyData.canLay0] using lr) hs.2 hs.1 ln λb H' hb s'=>q b H' (by rw [hb];exact⟨λz=>by rw [z],λz=>by injection z⟩) s'⟩
  ·refine q false H ⟨nofun,λz=>absurd ?_ c2⟩ (aG.refl _)
   injection z with z
   rw [ul,vl,z]
 | _=>simp only [sT] at hs
theorem nY (D:aC K mg "_law_same" (top 59)) (n_isinstance:mg "isinstance"=none) (n_bool:mg "bool"=none) (n_list:mg "list"=none) (n_tuple:mg "tuple"=none) (n_len:mg "len"=none) (n_zip:mg "zip"=none) (n_all:mg "all"=none):∀ L:Nat,Callee P w K mg base aT (L+1) "_law_same" ["_law_found","_law_due_here"] (fh K L)
 | 0=>tw D
 | L+1=>tG D (nY D n_isinstance n_bool n_list n_tuple n_len n_zip n_all L) n_isinstance n_bool n_list n_tuple n_len n_zip n_all
end
end K
namespace K
open PySem PySem.Spec PyProof.Rows L2
section
variable {P:Program} {w:World} {K:PySem.W.Frag} {mg:Str->Option Value} {base:Heap} {C:Addr}
theorem gN:aE ["_law_thing_here"] ["_law_thing_here"] (au (top 60)):=dI
theorem sZ (D:aC K mg "_law_whole" (top 60)) (n_isinstance:mg "isinstance"=none) (n_int:mg "int"=none) (n_bool:mg "bool"=none):Callee P w K mg base aT 1 "_law_whole" ["_law_thing_here"] (yo K):=by
 refine cO D gN (λf cdv A outer s H vs Q E hr h=>?_)
 obtain⟨d,v,rfl,hd,q⟩:=h
 have nd:=gN.nd
 refine⟨_,(ao (ay (bS (aB aV rfl n_isinstance PyProof.Rows.boot_isinstance (aa (pv 0) (aa (bB (v:=.ty "int") rfl n_int L2.boot_int rfl) af))) (cR (vF (aB aV rfl n_isinstance PyProof.Rows.boot_isinstance (aa (pv 0) (aa (bB (v:=.ty "bool") rfl n_bool L2.boot_bool rfl) af)))))))),?_⟩
 show iK _ _ [some v] H
 k_data
 refine qO hd ?_
 k_data
 refine aJ (λc=>?_) (λc=>?_)
 ·refine ir hd ?_
  k_data
  cases d<;>first | exact q | simp [jx,wD] at c
 ·cases d<;>first | exact q | exact absurd rfl c
theorem mN {p g k a:Int} {rs:List Int} {sh:PyData} (pm:Num.Pm p) (og:Num.Ord p g (p-1).toNat) (k0:0<k) (T:mT p k a rs sh):rs=bU p k a p.toNat:=by
 have p2:=pm.two
 have ep:((p.toNat:Nat):Int)=p:=Int.toNat_of_nonneg (by omega)
 rcases T with⟨z,rfl,_⟩|⟨na,d,D,_,⟨nal,rfl,_⟩|⟨al,RO,_⟩⟩
 ·refine jF (List.pairwise_singleton ..) jM λx=>?_
  rw [fX,ep,List.mem_singleton]
  constructor
  ·rintro rfl
   refine⟨by omega,by omega,?_⟩
   rw [Int.zero_pow (by omega),Int.zero_emod,Int.emod_eq_zero_of_dvd z]
  ·rintro⟨h0,h1,h2⟩
   rw [Int.emod_eq_zero_of_dvd z] at h2
   have h3:=Int.dvd_of_emod_eq_zero h2
   have h7:p∣x:=by
    rcases Classical.em (p∣x) with y | y
    ·exact y
    ·exact absurd h3 (pm.unit ((pm.co y).pow k.toNat))
   rcases Int.lt_or_eq_of_le h0 with y | y
   ·have:=Int.le_of_dvd y h7
    omega
   ·omega
 ·cases e:bU p k a p.toNat with
  | nil=>rfl
  | cons x xs =>
   have hx:x∈bU p k a p.toNat:=by rw [e];exact List.mem_cons_self
   rw [fX] at hx
   exact absurd (pB pm k0 na D (Num.Al.iff.mpr hx.2.2)) nal
 ·refine jF RO.rise jM λx=>?_
  rw [fX,ep]
  exact⟨λh=>⟨(RO.ok x h).1,(RO.ok x h).2.1,Num.Al.iff.mp (RO.ok x h).2.2⟩,fun⟨h0,h1,h2⟩=>RO.all x h0 h1 (Num.Al.iff.mpr h2)⟩
theorem m8:∀ rs:List Int,PyData.canLay0 (.list (rs.map PyData.int))=true:=λrs=>by
 simp only [PyData.canLay0]
 induction rs with
 | nil=>rfl
 | cons x xs ih =>
  simp only [List.map_cons,PyData.canLayAll0,ih]
  rfl
theorem yg {rs:List Int} (h:rs.length<=1000):sT 9 (.list (rs.map PyData.int)):=by
 simp only [sT,List.length_map]
 refine⟨by omega,rA λd hd=>?_⟩
 obtain⟨i,_,rfl⟩:=List.mem_map.mp hd
 simp only [sT]
def rE (K:PySem.W.Frag):Sp:=λvs H Q _=>∃(u:V) (dl:Addr) (p g k a:Int) (d:PyData),vs=[u,.int p,.int k,.int a,.ref dl]/\dv K H d u/\gd d/\H dl=some (.lst ((bU p k a p.toNat).map V.int))/\Num.Pm p/\p<=71/\Num.Ord p g (p-1).toNat/\0<k/\k<=10^60 /\ -(10^60)<=a/\a<=10^60/\∀ b H',(b=true↔rW p k a d)->aG H H'->Q (.bl b) H'
theorem gL:aE ["_law_found","_law_p","_law_k_here","_law_a","_law_due_here","_law_shown_here","_law_e"] ["_law_found","_law_p","_law_k_here","_law_a","_law_due_here"] (au (top 61)):=dI
theorem va (D:aC K mg "_law_shown" (top 61)) (c__law_same:Callee P w K mg base aT 10 "_law_same" ["_law_found","_law_due_here"] (fh K 9)) (c__law_common:Callee P w K mg base aT 1 "_law_common" ["_law_one","_law_other"] iH) (c__law_power:Callee P w K mg base aT 1 "_law_power" ["_law_n","_law_a","_law_e"] mI) (c__law_whole:Callee P w K mg base aT 1 "_law_whole" ["_law_thing_here"] (yo K)) (c__law_order:Callee P w K mg base aT 1 "_law_order" ["_law_p","_law_a"] qr) (n_isinstance:mg "isinstance"=none) (n_tuple:mg "tuple"=none) (n_len:mg "len"=none):Callee P w K mg base aT 11 "_law_shown" ["_law_found","_law_p","_law_k_here","_law_a","_law_due_here"] (rE K):=by
 refine cO D gL (λf cdv A outer s H vs Q E hr h=>?_)
 obtain⟨u,dl,p,g,k,a,d,rfl,hd,gd',hl,pm,p9,og,k0,k1,a0,a1,q⟩:=h
 have p2:=pm.two
 have nd:=gL.nd
 refine⟨_,(aj (aQ (PW.pt (eS (cI (aR (aB aV rfl n_isinstance PyProof.Rows.boot_isinstance (aa (pv 0) (aa (bB (v:=.ty "tuple") rfl n_tuple L2.boot_tuple rfl) af))) (λ_=>rfl))) (eS (aw iy (aB aU rfl n_len PySem.boot_len (aa (pv 0) af)) ah (ax _)) (ff (cI (aR (bT c__law_same hr az (aa (aP aZ (pv 0) ah (λ_ _=>rfl)) (aa (pv 4) af))) (λ_=>rfl))))))) (ao (ay cD)) aF) (aj (dc (i:=5) nd (aP aZ (pv 0) ah (λ_ _=>rfl))) (aj (aQ (aw bp (av aO (pv 3) (pv 1)) ah (ax _)) (ao (ay (bT c__law_same hr az (aa (pv 5) (aa (aD (aa br af)) af))))) aF) (aj (dc (i:=6) nd (av cT (av bR (pv 1) ah) (bT c__law_common hr az (aa (pv 2) (aa (av bR (pv 1) ah) af))))) (aj (aQ (aw (jX hr.units) (pv 4) (aW af) (ax _)) (ao (ay (bT c__law_same hr az (aa (pv 5) (aa (aD (aa br (aa (pv 6) (aa (bT c__law_power hr az (aa (pv 1) (aa (pv 3) (aa (pv 6) af)))) af)))) af))))) aF) (aj (aQ (PW.pt (eS (cI (aR (aB aV rfl n_isinstance PyProof.Rows.boot_isinstance (aa (pv 5) (aa (bB (v:=.ty "tuple") rfl n_tuple L2.boot_tuple rfl) af))) (λ_=>rfl))) (eS (aw iy (aB aU rfl n_len PySem.boot_len (aa (pv 5) af)) ah (ax _)) (ff (cI (aR (bT c__law_whole hr az (aa (aP aZ (pv 5) ah (λ_ _=>rfl)) af)) (λ_=>rfl))))))) (ao (ay cD)) aF) (aj (aQ (cI (aR (bT c__law_same hr az (aa (aY qi (pv 5) bz (bh ah)) (aa (aD (aa br (aa (aP bA (pv 4) ah (λ_ _=>rfl)) af))) af))) (λ_=>rfl))) (ao (ay cD)) aF) (ao (ay (bS (bI dQ ah (aP aZ (pv 5) ah (λ_ _=>rfl)) (ax _)) (bS (bI dQ (aP aZ (pv 5) ah (λ_ _=>rfl)) (pv 1) (ax _)) (cR (bI bp (bT c__law_order hr az (aa (pv 1) (aa (aP aZ (pv 5) ah (λ_ _=>rfl)) af))) (aB aU rfl n_len PySem.boot_len (aa (pv 4) af)) (ax _)))))))))))))),?_⟩
 show bZ _ _ _ [some u,some (.int p),some (.int k),some (.int a),some (.ref dl),none,none] H
 have dll:(bU p k a p.toNat).length<=71:=Nat.le_trans lQ (by omega)
 k_data
 refine bM hd ⟨_,aK.mpr rfl,?_⟩
 have no:∀ H',aG H H'->(rW p k a d->False)->Q (.bl false) H':=λH' s' z=>q false H' ⟨λy=>absurd y (by decide),λy=>(z y).elim⟩ s'
 refine aJ (λz=>no H (aG.refl _) ?_) (λz=>?_)
 ·rintro⟨rs,sh,rfl,_⟩
  exact absurd z (by simp [zW])
 obtain⟨ss,rfl⟩:∃ ss,d=.tuple ss:=by
  cases d with
  | tuple ss=>exact⟨ss,rfl⟩
  | _=>exact absurd rfl z
 clear z
 obtain⟨pt,us,rfl,tT,hus⟩:=id hd
 have ln:ss.length=us.length:=cH.len hus
 refine dE tT ⟨rfl,?_⟩
 refine aJ (λz=>no H (aG.refl _) ?_) (λz=>?_)
 ·rintro⟨rs,sh,e,_⟩
  rw [PyData.tuple.inj e] at ln
  exact z (by rw [<- ln];rfl)
 have l2:us.length=2:=by
  have z':V.int (us.length:Int)=V.int 2:=Classical.byContradiction λy=>z y
  injection z' with z'
  omega
 clear z
 obtain⟨df,sh,rfl⟩:∃ x0 x1,ss=[x0,x1]:=by
  match ss,ln.trans l2 with
  | [x0,x1],_=>exact⟨x0,x1,rfl⟩
 obtain⟨vf,r1,rfl,hf,vs',r2,rfl,hs,z⟩:=hus
 cases z
 simp only [gd,cw,and_true] at gd'
 refine cY tT mU ?_
 refine⟨vf,.ref dl,df,.list ((bU p k a p.toNat).map PyData.int),rfl,hf,⟨dl,_,rfl,aS.of hl,bD.ints _⟩,gd.lay _ gd'.1,m8 _,yg (by omega),λb1 H1 hb1 s1=>⟨b1,aK.mpr rfl,?_⟩⟩
 refine aJ (λz=>no H1 s1 ?_) (λz=>?_)
 ·rintro⟨rs,sh',e,T⟩
  simp only [PyData.tuple.injEq,List.cons.injEq,and_true] at e
  rw [mN pm og k0 T] at e
  rw [hb1.mpr e.1] at z
  exact absurd z (by decide)
 obtain rfl:=hb1.mp (by simpa using z)
 clear z
 refine cY (tT.same s1) Bj ⟨by omega,?_⟩
 have key:rW p k a (.tuple [.list ((bU p k a p.toNat).map PyData.int),sh])↔mT p k a (bU p k a p.toNat) sh:=by
  constructor
  ·rintro⟨rs,sh',e,T⟩
   simp only [PyData.tuple.injEq,List.cons.injEq,and_true] at e
   obtain⟨_,rfl⟩:=e
   rw [<- mN pm og k0 T]
   exact T
  ·exact λT=>⟨_,sh,rfl,T⟩
 refine aJ (λz=>?_) (λz=>?_)
 ·have pa:=Int.dvd_of_emod_eq_zero z
  refine⟨by show 1<=sizeLine;decide,λp1 hp1=>?_⟩
  have s2:=ak (o:=.tup [V.str "nought"]) hp1
  refine⟨vs',.ref p1,sh,.tuple [.str "nought"],rfl,dv.same (s1.trans s2) _ hs,dv.tup ag (.one rfl),gd.lay _ gd'.2,by decide +kernel,by simp only [sT,tY,and_true,List.length_cons,List.length_nil];decide,λb2 H2 hb2 s3=>q b2 H2 ?_ (s1.trans (s2.trans s3))⟩
  rw [hb2,key]
  constructor
  ·intro e
   have h0:bU p k a p.toNat=[0]:=(mN (rs:=[0]) (sh:=.tuple [.str "nought"]) pm og k0 (.inl ⟨pa,rfl,rfl⟩)).symm
   exact .inl ⟨pa,h0,e⟩
  ·rintro (⟨_,_,e⟩|⟨na,_⟩)
   ·exact e
   ·exact absurd pa na
 have na:¬p∣a:=λy=>z (Int.emod_eq_zero_of_dvd y)
 clear z
 obtain⟨dg,D⟩:=ni (p:=p) (by omega) k0
 have d0:=D.pos k0
 have ed:=uD D (by omega) k0
 have hdp:dg∣p-1:=by obtain⟨u,v,B⟩:=id D;exact B.db
 have d1:dg<=p-1:=Int.le_of_dvd (by omega) hdp
 have e0:=Int.ediv_nonneg (show 0<=p-1 by omega) (show 0<=dg by omega)
 have e1:=Int.ediv_le_self (a:=p-1) dg (by omega)
 refine qx (by omega) (by omega) ⟨_,rfl,by rw [<- ed];exact d0,Bd.of (by omega) (by omega),by show 0<=sizeLine;decide,λpe hpe=>?_⟩
 rw [<- ed]
 have s2:=ak (o:=.lst []) hpe
 have S2:=s1.trans s2
 refine fz (bs:=bU p k a p.toNat) (cs:=[]) (aS.of (S2 _ _ hl)) (aS.of ag) ⟨_,rfl,?_⟩
 generalize upd H1 pe (.lst [])=H3 at *
 refine aJ (λz=>?_) (λz=>?_)
 ·have h0:bU p k a p.toNat=[]:=by simpa using z
  have nal:¬Num.Al p (a^((p-1)/dg).toNat) 1:=λal=>by
   have:=(jN pm og k0 na D al).len
   rw [h0] at this
   simp at this
   omega
  refine⟨p,a,(p-1)/dg,rfl,by omega,by omega,by omega,by omega,e0,by show 3<=sizeLine;decide,λp3 hp3=>?_⟩
  have s3:=ak (o:=.tup [V.str "none",V.int ((p-1)/dg),V.int (a^((p-1)/dg).toNat%p)]) hp3
  have S3:=S2.trans s3
  have m0:=Int.emod_nonneg (a^((p-1)/dg).toNat) (show p≠0 by omega)
  have m1:=Int.emod_lt_of_pos (a^((p-1)/dg).toNat) (show 0<p by omega)
  refine⟨vs',.ref p3,sh,jV ((p-1)/dg) (a^((p-1)/dg).toNat%p),rfl,dv.same S3 _ hs,dv.tup ag ⟨_,_,rfl,rfl,_,_,rfl,rfl,.one rfl⟩,gd.lay _ gd'.2,?_,?_,λb2 H2 hb2 s4=>q b2 H2 ?_ (S3.trans s4)⟩
  ·have cs:PyData.canLay0 (.str "none")=true:=by decide +kernel
   simp only [jV,PyData.canLay0,PyData.canLayAll0] at cs ⊢
   simpa using cs
  ·simp only [jV,sT,tY,and_true,List.length_cons,List.length_nil]
   decide
  ·rw [hb2,key]
   constructor
   ·intro e
    exact .inr ⟨na,dg,D,by omega,.inl ⟨nal,h0,e⟩⟩
   ·rintro (⟨pa,_⟩|⟨_,d',D',_,⟨_,_,e⟩|⟨al,_⟩⟩)
    ·exact absurd pa na
    ·obtain rfl:=D.one D'
     exact e
    ·obtain rfl:=D.one D'
     exact absurd al nal
 have hne:bU p k a p.toNat≠[]:=by simpa using z
 clear z
 have al:Num.Al p (a^((p-1)/dg).toNat) 1:=by
  cases e:bU p k a p.toNat with
  | nil=>exact absurd e hne
  | cons x xs =>
   have hx:x∈bU p k a p.toNat:=by rw [e];exact List.mem_cons_self
   rw [fX] at hx
   exact pB pm k0 na D (Num.Al.iff.mpr hx.2.2)
 have RO:=jN pm og k0 na D al
 have rlen:=RO.len
 generalize hR:bU p k a p.toNat=rs at *
 obtain⟨r0,hr0⟩:∃ r0,rs[0]?=some r0:=⟨rs[0]'(by omega),List.getElem?_eq_getElem _⟩
 have key2:mT p k a rs sh↔∃ t,1<=t/\t<p/\Num.Ord p t dg.toNat/\sh=iL r0 t:=by
  constructor
  ·rintro (⟨pa,_⟩|⟨_,d',D',_,⟨nal,_⟩|⟨_,_,r0',t,h1,h2,h3,h4,e⟩⟩)
   ·exact absurd pa na
   ·obtain rfl:=D.one D'
    exact absurd al nal
   ·obtain rfl:=D.one D'
    obtain rfl:r0=r0':=Option.some.inj (hr0.symm.trans h1)
    refine⟨t,?_,h3,h4,e⟩
    rcases Int.lt_or_eq_of_le h2 with z | z
    ·omega
    ·subst z
     exact absurd (Int.dvd_zero p) (vB pm h4)
  ·rintro⟨t,h1,h2,h3,e⟩
   exact .inr ⟨na,dg,D,by omega,.inr ⟨al,RO,r0,t,hr0,by omega,h2,h3,e⟩⟩
 have hs3:=dv.same S2 _ hs
 refine bM hs3 ⟨_,aK.mpr rfl,?_⟩
 refine aJ (λz=>no H3 S2 ?_) (λz=>?_)
 ·intro T
  obtain⟨t,_,_,_,rfl⟩:=key2.mp (key.mp T)
  exact absurd z (by simp [zW,iL])
 obtain⟨ss,rfl⟩:∃ ss,sh=.tuple ss:=by
  cases sh with
  | tuple ss=>exact⟨ss,rfl⟩
  | _=>exact absurd rfl z
 clear z
 obtain⟨pu,us,rfl,tU,hus⟩:=id hs3
 have ln:ss.length=us.length:=cH.len hus
 refine dE tU ⟨rfl,?_⟩
 refine aJ (λz=>no H3 S2 ?_) (λz=>?_)
 ·intro T
  obtain⟨t,_,_,_,e⟩:=key2.mp (key.mp T)
  rw [PyData.tuple.inj e] at ln
  exact z (by rw [<- ln];rfl)
 have l3:us.length=3:=by
  have z':V.int (us.length:Int)=V.int 3:=Classical.byContradiction λy=>z y
  injection z' with z'
  omega
 clear z
 obtain⟨x0,x1,x2,rfl⟩:∃ x0 x1 x2,ss=[x0,x1,x2]:=by
  match ss,ln.trans l3 with
  | [x0,x1,x2],_=>exact⟨x0,x1,x2,rfl⟩
 obtain⟨z1,r1,rfl,u0,z2,r2,rfl,u1,z3,r3,rfl,u2,z⟩:=hus
 cases z
 simp only [gd,cw,and_true] at gd'
 have key3:rW p k a (.tuple [.list (rs.map PyData.int),.tuple [x0,x1,x2]])↔∃ t,1<=t/\t<p/\Num.Ord p t dg.toNat/\x0=.str "turned"/\x1=.int r0/\x2=.int t:=by
  rw [key,key2]
  simp only [iL,PyData.tuple.injEq,List.cons.injEq,and_true]
 refine cY tU (show ([z1,z2,z3]:List V)[2]?=some z3 from rfl) ⟨x2,z3,rfl,u2,_,aK.mpr rfl,?_⟩
 refine aJ (λz=>no H3 S2 ?_) (λz=>?_)
 ·intro T
  obtain⟨t,_,_,_,_,_,rfl⟩:=key3.mp T
  exact absurd z (by simp [jx])
 obtain⟨t,rfl⟩:∃ t:Int,x2=.int t:=by
  cases x2 with
  | int i=>exact⟨i,rfl⟩
  | _=>exact absurd rfl z
 cases u2
 clear z
 have hl3:=S2 _ _ hl
 refine⟨pu,_,rfl,tU,show ¬((0:Nat)=0/\(2:Nat)=3) by decide,λp3 hp3=>?_⟩
 have s3:=ak (o:=.tup (bE [z1,z2,V.int t] none (some 2))) hp3
 have e3:upd H3 p3 (.tup (bE [z1,z2,V.int t] none (some 2))) p3=some (.tup [z1,z2]):=ag
 generalize upd H3 p3 (.tup (bE [z1,z2,V.int t] none (some 2)))=H4 at *
 have hr0v:(rs.map V.int)[0]?=some (V.int r0):=by rw [List.getElem?_map,hr0];rfl
 refine pM (aS.of (s3 _ _ hl3)) (by decide) hr0v ⟨by show 2<=sizeLine;decide,λp4 hp4=>?_⟩
 have s4:=ak (o:=.tup [V.str "turned",V.int r0]) hp4
 have S34:=s3.trans s4
 obtain⟨r00,r01,_⟩:=RO.ok r0 (List.mem_of_getElem? hr0)
 refine⟨_,_,.tuple [x0,x1],.tuple [.str "turned",.int r0],rfl,dv.tup (s4 _ _ e3) ⟨_,_,rfl,dv.same S34 _ u0,.one (dv.same S34 _ u1)⟩,dv.tup ag ⟨_,_,rfl,rfl,.one rfl⟩,gd.lay _ (by simp only [gd,cw,and_true];exact⟨gd'.2.1,gd'.2.2.1⟩),?_,?_,λb' H5 hb' s5=>⟨b',aK.mpr rfl,?_⟩⟩
 ·have cs:PyData.canLay0 (.str "turned")=true:=by decide +kernel
  simp only [PyData.canLay0,PyData.canLayAll0] at cs ⊢
  simpa using cs
 ·simp only [sT,tY,and_true,List.length_cons,List.length_nil]
  decide
 have S5:=S34.trans s5
 have T5:=S2.trans S5
 refine aJ (λz=>no H5 T5 ?_) (λz=>?_)
 ·intro T
  obtain⟨t',_,_,_,rfl,rfl,_⟩:=key3.mp T
  rw [hb'.mpr rfl] at z
  exact absurd z (by decide)
 have hb:=hb'.mp (by simpa using z)
 clear z
 simp only [PyData.tuple.injEq,List.cons.injEq,and_true] at hb
 obtain⟨rfl,rfl⟩:=hb
 cases u0
 cases u1
 have key4:rW p k a (.tuple [.list (rs.map PyData.int),.tuple [.str "turned",.int r0,.int t]])↔1<=t/\t<p/\Num.Ord p t dg.toNat:=by
  rw [key3]
  constructor
  ·rintro⟨t',h1,h2,h3,_,_,e⟩
   obtain rfl:=PyData.int.inj e
   exact⟨h1,h2,h3⟩
  ·rintro⟨h1,h2,h3⟩
   exact⟨t,h1,h2,h3,rfl,rfl,rfl⟩
 have at2:([V.str "turned",V.int r0,V.int t]:List V)[2]?=some (.int t):=rfl
 refine cY (tU.same S5) at2 ⟨t,rfl,?_⟩
 refine aJ (λt1=>?_) (λt1=>no H5 T5 λT=>by have:=(key4.mp T).1;omega)
 refine cY (tU.same S5) at2 ⟨t,rfl,?_⟩
 refine aJ (λt2=>?_) (λt2=>no H5 T5 λT=>by have:=(key4.mp T).2.1;omega)
 have nt:¬p∣t:=λz=>by have:=Int.le_of_dvd t1 z;omega
 obtain⟨e,o,el⟩:=jY pm nt
 refine cY (tU.same S5) at2 ⟨p,t,e,rfl,pm,by omega,t1,t2,o,by omega,?_⟩
 refine cp (aS.of (S5 _ _ hl3)) ⟨rfl,q _ H5 ?_ T5⟩
 rw [decide_eq_true_eq,key4,List.length_map]
 constructor
 ·intro z
  injection z with z
  have:e=dg.toNat:=by omega
  subst this
  exact⟨by omega,t2,o⟩
 ·rintro⟨_,_,o'⟩
  have:=o.vz o'
  congr 1
  omega
def v3 (K:PySem.W.Frag):Sp:=λvs H Q _=>∃(p pr:Addr) (n m:Nat) (us:List V),vs=[.ref p,.ref pr]/\Tp p n H/\n<=10^49/\H pr=some (.lst us)/\cH K m H us/\us.length<=53/\∀ x H',bN p H H'->Tp p (n+5) H'->GZ K (m+1) H' x->Q x H'
theorem uq {H8:Hp} {pr:Addr} {us:List V} {x:V} {at' lo:Int} {Q:VK} (hS8:H8 pr=some (.lst us)) {m:Nat} (g8:cH K m H8 us) (gx8:GZ K m H8 x) (ul:us.length<=53) (a0:0<=at') (a1:at'<=us.length) (al:at'<=lo) (q:∀ y H',aG H8 H'->GZ K (m+1) H' y->Q y H'):As K (V.ref pr) none (some at') H8 λx_1 H1=>[x].length<=sizeLine/\∀ p_1,H1 p_1=none->Ar x_1 (V.ref p_1) (upd H1 p_1 (HO.lst [x])) λx_2 H1=>As K (V.ref pr) (some lo) none H1 λy H2=>Ar x_2 y H2 Q:=by
 have cz:∀ lo hi,(bE us lo hi).length<=53:=λlo hi=>Nat.le_trans (bV _ _ _) ul
 have sz:3000<=sizeLine:=by decide
 have c1:=cz none (some at')
 have c2:=cz (some lo) none
 refine⟨pr,us,rfl,aS.of hS8,λp1 hp1=>⟨by show 1<=sizeLine;decide,λp2 hp2=>?_⟩⟩
 have s1:=ak (o:=.lst (bE us none (some at'))) hp1
 have e1:upd H8 p1 (.lst (bE us none (some at'))) p1=some (.lst (bE us none (some at'))):=ag
 generalize upd H8 p1 _=H1 at *
 have s2:=ak (o:=.lst [x]) hp2
 have e2:upd H1 p2 (.lst [x]) p2=some (.lst [x]):=ag
 generalize upd H1 p2 _=H2 at *
 refine⟨p1,p2,_,_,rfl,rfl,s2 _ _ e1,e2,by rw [List.length_singleton];omega,λp3 hp3=>?_⟩
 have s3:=ak (o:=.lst (bE us none (some at')++[x])) hp3
 have e3:upd H2 p3 (.lst (bE us none (some at')++[x])) p3=some (.lst (bE us none (some at')++[x])):=ag
 generalize upd H2 p3 _=H3 at *
 have S3:=s1.trans (s2.trans s3)
 refine⟨pr,us,rfl,aS.of (S3 _ _ hS8),λp4 hp4=>?_⟩
 have s4:=ak (o:=.lst (bE us (some lo) none)) hp4
 have e4:upd H3 p4 (.lst (bE us (some lo) none)) p4=some (.lst (bE us (some lo) none)):=ag
 generalize upd H3 p4 _=H4 at *
 refine⟨p3,p4,_,_,rfl,rfl,s4 _ _ e3,e4,by rw [List.length_append,List.length_singleton];omega,λp5 hp5=>?_⟩
 have s5:=ak (o:=.lst (bE us none (some at')++[x]++bE us (some lo) none)) hp5
 have S:=S3.trans (s4.trans s5)
 have c3:=lO a0 a1 al
 exact q _ _ S (GZ.lst ag (by rw [List.length_append,List.length_append,List.length_singleton];omega) (.app (.app ((g8.same S).cut _ _) (.cons (gx8.same S) .nil)) ((g8.same S).cut _ _)))
theorem xI (D:aC K mg "_law_bent_row" (top 65)) (c__law_draw:Callee P w K mg base aT 1 "_law_draw" ["_law_tape_here","_law_many"] dO) (c__law_odd:Callee P w K mg base aT 2 "_law_odd" ["_law_tape_here"] (mK K)) (n_len:mg "len"=none) (n_isinstance:mg "isinstance"=none) (n_list:mg "list"=none) (n_tuple:mg "tuple"=none):Callee P w K mg base aT 3 "_law_bent_row" ["_law_tape_here","_law_row"] (v3 K):=by
 refine cO D cV (λf cdv A outer s H vs Q E hr h=>?_)
 obtain⟨p,pr,n,m,us,rfl,t,n9,hS,g,ul,q⟩:=h
 have nd:=cV.nd
 refine⟨_,(@aj _ _ _ _ _ (@bF _ _ 2 _ _ _ _ nd rfl (Or.inl rfl) (@aH _ _ _ _ _ _ _ _ _ _ _ _ c__law_draw (hr.mono (by decide)) rfl az (@aa _ _ _ _ _ (pv 0) (@aa _ _ _ _ _ (@av _ _ _ _ _ _ _ _ bf (@aB _ _ _ _ _ _ _ _ _ aU rfl n_len PySem.boot_len (@aa _ _ _ _ _ (pv 1) af (by rfl)) (by decide) (by decide) (by rfl) (by rfl)) ah) af (by rfl)) (by rfl)) (by decide) (by rfl) (by rfl)) (by rfl) (by first | exact .inl rfl | exact .inr rfl | assumption)) (@aj _ _ _ _ _ (@bF _ _ 3 _ _ _ _ nd rfl (Or.inl rfl) (@aP _ _ _ _ _ _ _ bA (@aW _ _ _ _ (@aa _ _ _ _ _ (@aH _ _ _ _ _ _ _ _ _ _ _ _ c__law_odd (hr.mono (by decide)) rfl az (@aa _ _ _ _ _ (pv 0) af (by rfl)) (by decide) (by rfl) (by rfl)) (@aa _ _ _ _ _ (@aH _ _ _ _ _ _ _ _ _ _ _ _ c__law_draw (hr.mono (by decide)) rfl az (@aa _ _ _ _ _ (pv 0) (@aa _ _ _ _ _ ah af (by rfl)) (by rfl)) (by decide) (by rfl) (by rfl)) (@aa _ _ _ _ _ cD af (by rfl)) (by rfl)) (by rfl))) (@aH _ _ _ _ _ _ _ _ _ _ _ _ c__law_draw (hr.mono (by decide)) rfl az (@aa _ _ _ _ _ (pv 0) (@aa _ _ _ _ _ ah af (by rfl)) (by rfl)) (by decide) (by rfl) (by rfl)) (λ_ _=>rfl)) (by rfl) (by first | exact .inl rfl | exact .inr rfl | assumption)) (@aj _ _ _ _ _ (@bF _ _ 4 _ _ _ _ nd rfl (Or.inl rfl) (@av _ _ _ _ _ _ _ _ dB (aY eC (pv 1) bz (bh (pv 2))) (aY eC (pv 1) (bh (@av _ _ _ _ _ _ _ _ bf (pv 2) ah)) bz)) (by rfl) (by first | exact .inl rfl | exact .inr rfl | assumption)) (@aj _ _ _ _ _ (cS (@aQ _ _ _ _ _ _ _ _ (aR (@aB _ _ _ _ _ _ _ _ _ aV rfl n_isinstance PyProof.Rows.boot_isinstance (@aa _ _ _ _ _ (pv 1) (@aa _ _ _ _ _ (bB (v:=.ty "list") rfl n_list L2.boot_list rfl) af (by rfl)) (by rfl)) (by decide) (by decide) (by rfl) (by rfl)) (λ_=>rfl)) (@ao _ _ _ (@bF _ _ 5 _ _ _ _ nd rfl (Or.inl rfl) (@aW _ _ _ _ (@aa _ _ _ _ _ (@av _ _ _ _ _ _ _ _ dB (@av _ _ _ _ _ _ _ _ dB (aY eC (pv 1) bz (bh (pv 2))) (@aW _ _ _ _ (@aa _ _ _ _ _ (pv 3) af (by rfl)))) (aY eC (pv 1) (bh (pv 2)) bz)) (@aa _ _ _ _ _ (@av _ _ _ _ _ _ _ _ dB (@av _ _ _ _ _ _ _ _ dB (aY eC (pv 1) bz (bh (pv 2))) (@aW _ _ _ _ (@aa _ _ _ _ _ (pv 3) af (by rfl)))) (aY eC (pv 1) (bh (@av _ _ _ _ _ _ _ _ bf (pv 2) ah)) bz)) (@aa _ _ _ _ _ (pv 4) (@aa _ _ _ _ _ (vG (pv 1) (bh (fo dP ah))) (@aa _ _ _ _ _ (@c9 _ _ _ _ _ _ _ _ _ gB rfl n_tuple L2.boot_tuple (@aa _ _ _ _ _ (pv 1) af (by rfl)) (by decide) (by decide) (by rfl) (by rfl)) af (by rfl)) (by rfl)) (by rfl)) (by rfl)) (by rfl))) (by rfl) (by first | exact .inl rfl | exact .inr rfl | assumption))) oo)) (@ao _ _ _ (@ay _ _ _ _ (@aP _ _ _ _ _ _ _ bA (@av _ _ _ _ _ _ _ _ dB (pv 5) (@aW _ _ _ _ (@aa _ _ _ _ _ (pv 3) af (by rfl)))) (@aH _ _ _ _ _ _ _ _ _ _ _ _ c__law_draw (hr.mono (by decide)) rfl az (@aa _ _ _ _ _ (pv 0) (@aa _ _ _ _ _ ah af (by rfl)) (by rfl)) (by decide) (by rfl) (by rfl)) (λ_ _=>rfl)))))))),?_⟩
 show bZ _ _ _ [some (.ref p),some (.ref pr),none,none,none,none] H
 have cz:∀ lo hi,(bE us lo hi).length<=53:=λlo hi=>Nat.le_trans (bV _ _ _) ul
 have sz:3000<=sizeLine:=by decide
 k_data
 refine cp (aS.of hS) ⟨_,rfl,?_⟩
 refine⟨p,_,n,rfl,t,by omega,by omega,by omega,λat' H1 a0 a1 o1 t1=>?_⟩
 have O1:=o1.bJ
 refine⟨p,n+1,rfl,t1,by omega,λxo H2 O2' t2 go=>?_⟩
 have O2:=O1.trans O2'
 refine⟨p,99,n+2,rfl,t2,by omega,by decide,by decide,λr3 H3 r30 r31 o3 t3=>?_⟩
 have O3:=O2.trans o3.bJ
 have go3:=GZ.bJ (GZ.le go.gz (Nat.zero_le m)) o3.bJ t2
 refine⟨by show 3<=sizeLine;decide,λp4 hp4=>?_⟩
 have s4:=ak (o:=.lst [xo,V.int r3,V.bl true]) hp4
 have e4:upd H3 p4 (.lst [xo,V.int r3,V.bl true]) p4=some (.lst [xo,V.int r3,V.bl true]):=ag
 have gl:cH K m (upd H3 p4 (.lst [xo,V.int r3,V.bl true])) [xo,V.int r3,V.bl true]:=.cons (go3.same s4) (.cons ((GZ.int (by omega) (by omega)).le (Nat.zero_le m)) (.cons (GZ.bl.le (Nat.zero_le m)) .nil))
 generalize upd H3 p4 _=H4 at *
 have O4:=O3.trans (bN.of s4)
 have t4:=t3.same s4
 refine⟨p,3,n+3,rfl,t4,by omega,by decide,by decide,λr5 H5 r50 r51 o5 t5=>?_⟩
 have O5:=O4.trans o5.bJ
 have e5:H5 p4=_:=(o5 p4 (t4.ne e4 (by intro kvs c;cases c))).trans e4
 refine bW (aS.of e5) r50 (by show r5<(3:Int);exact r51) λx hx=>?_
 have gx:GZ K m H5 x:=(cH.bJ gl o5.bJ t4).all x hx
 have hS5:=O5.kp t pr us hS
 have g5:=cH.bJ g O5 t
 refine⟨_,rfl,pr,us,rfl,aS.of hS5,λp6 hp6=>⟨_,rfl,?_⟩⟩
 have s6:=ak (o:=.lst (bE us none (some at'))) hp6
 have e6:upd H5 p6 (.lst (bE us none (some at'))) p6=some (.lst (bE us none (some at'))):=ag
 generalize upd H5 p6 _=H6 at *
 refine⟨pr,us,rfl,aS.of (s6 _ _ hS5),λp7 hp7=>?_⟩
 have s7:=ak (o:=.lst (bE us (some (at'+1)) none)) hp7
 have e7:upd H6 p7 (.lst (bE us (some (at'+1)) none)) p7=some (.lst (bE us (some (at'+1)) none)):=ag
 generalize upd H6 p7 _=H7 at *
 refine⟨p6,p7,_,_,rfl,rfl,s7 _ _ e6,e7,by have:=cz none (some at');have:=cz (some (at'+1)) none;omega,λp8 hp8=>?_⟩
 have s8:=ak (o:=.lst (bE us none (some at')++bE us (some (at'+1)) none)) hp8
 have e8:upd H7 p8 (.lst (bE us none (some at')++bE us (some (at'+1)) none)) p8=some (.lst (bE us none (some at')++bE us (some (at'+1)) none)):=ag
 generalize upd H7 p8 _=H8 at *
 have S8:=(s6.trans s7).trans s8
 have g8:=g5.same S8
 have go8:GZ K (m+1) H8 (.ref p8):=GZ.lst e8 (by rw [List.length_append];have:=lO (us:=us) (at':=at') (lo:=at'+1) a0 (by omega) (by omega);omega) (.app (g8.cut _ _) (g8.cut _ _))
 have hS8:=S8 _ _ hS5
 have gx8:=gx.same S8
 refine⟨λσ' H'=>Df K H p pr n m at' x p8 σ' H',?_,?_⟩
 ·k_data
  refine cn (d:=.list _) ⟨pr,us,rfl,aS.of hS8,(g8.choose_spec).1.bD⟩ ⟨true,aK.mpr rfl,?_⟩
  rw [if_pos rfl]
  refine uq hS8 g8 gx8 ul a0 (by omega) (by omega) λy1 Ha sa ga=>?_
  refine uq (sa _ _ hS8) (g8.same sa) (gx8.same sa) ul a0 (by omega) (by omega) λy2 Hb sb gb=>?_
  have Sb:=sa.trans sb
  refine⟨us,aS.of (Sb _ _ hS8),λpc hpc=>?_⟩
  have sc:=ak (o:=.lst us.reverse) hpc
  have gc:GZ K (m+1) (upd Hb pc (.lst us.reverse)) (.ref pc):=GZ.lst ag (by rw [List.length_reverse];omega) ((g8.same (Sb.trans sc)).rev)
  generalize upd Hb pc _=Hc at *
  have Sc:=Sb.trans sc
  refine⟨us,.inl ⟨aS.of (Sc _ _ hS8),λpd hpd=>?_⟩⟩
  have sd:=ak (o:=.tup us) hpd
  have gd':GZ K (m+1) (upd Hc pd (.tup us)) (.ref pd):=GZ.tup (aL.of ag) (by omega) (g8.same (Sc.trans sd))
  generalize upd Hc pd _=Hd at *
  have Sd:=Sc.trans sd
  refine⟨by show 5<=sizeLine;decide,λpe hpe=>?_⟩
  have se:=ak (o:=.lst [y1,y2,V.ref p8,V.ref pc,V.ref pd]) hpe
  have Se:=Sd.trans se
  refine⟨pe,_,rfl,ag,?_,rfl,gx8.same Se,?_,?_⟩
  ·exact .cons (ga.same (sb.trans (sc.trans (sd.trans se)))) (.cons (gb.same (sc.trans (sd.trans se))) (.cons (go8.same Se) (.cons (gc.same (sd.trans se)) (.cons (gd'.same se) .nil))))
  ·exact O5.trans (bN.of (S8.trans Se))
  ·exact t5.same (S8.trans Se)
 ·rintro σ' H9 ⟨po,ys,rfl,e9,g9,l9,gx9,O9,t9⟩
  k_data
  refine⟨by show 1<=sizeLine;decide,λpb hpb=>?_⟩
  have sb:=ak (o:=.lst [x]) hpb
  refine⟨po,pb,_,_,rfl,rfl,sb _ _ e9,ag,Nat.le_trans (show ys.length+1<=6 by omega) (by decide),λpd hpd=>?_⟩
  have sd:=ak (o:=.lst (ys++[x])) hpd
  have ed:upd (upd H9 pb (.lst [x])) pd (.lst (ys++[x])) pd=some (.lst (ys++[x])):=ag
  generalize upd (upd H9 pb (.lst [x])) pd _=Hd at *
  have Sd:=sb.trans sd
  have td:=t9.same Sd
  have gd':cH K (m+1) Hd (ys++[x]):=.app (g9.same Sd) (.cons (gx9.same Sd).up .nil)
  refine⟨p,6,n+4,rfl,td,by omega,by decide,by decide,λr6 He r60 r61 oe te=>?_⟩
  have ee:He pd=_:=(oe pd (td.ne ed (by intro kvs c;cases c))).trans ed
  exact bW (aS.of ee) r60 (by rw [List.length_append,List.length_singleton,l9];exact r61) λv hv=>q v He ((O9.trans (bN.of Sd)).trans oe.bJ) te ((cH.bJ gd' oe.bJ td).all v hv)
end
end K
namespace K
open PySem PySem.Spec PyProof.Rows L2
section
variable {P:Program} {w:World} {K:PySem.W.Frag} {mg:Str->Option Value} {base:Heap}
def oW (p l:Addr) (n:Nat) (H:Hp):Prop:=∃(i j:Int) (ns:List Int),H p=some (rQ l i j)/\H l=some (.lst (ns.map V.int))/\ns.length<=63/\0<=i/\i<=n
theorem oW.tp {p l:Addr} {n:Nat} {H:Hp} (h:oW p l n H):Tp p n H:=by
 obtain⟨i,j,ns,r⟩:=h
 exact⟨l,i,j,ns,r⟩
theorem oW.same {p l:Addr} {n:Nat} {H H':Hp} (h:oW p l n H) (s:aG H H'):oW p l n H':=by
 obtain⟨i,j,ns,a,b,c⟩:=h
 exact⟨i,j,ns,s _ _ a,s _ _ b,c⟩
def mG:Sp:=λvs H Q _=>∃(p l:Addr) (m:Int) (n:Nat),vs=[.ref p,.int m]/\oW p l n H/\n<=10^60/\0<m/\m<10^200/\∀ r H',0<=r->r<m->Off p H H'->oW p l (n+1) H'->Q (.int r) H'
theorem u9 (D:aC K mg "_law_draw" (top 50)) (n_len:mg "len"=none):Callee P w K mg base aT 1 "_law_draw" ["_law_tape_here","_law_many"] mG:=by
 refine cO D iC (λf cdv A outer s H vs Q E hr h=>?_)
 obtain⟨p,l,m,n,rfl,⟨i,j,ns,hp,hl,h63,i0,i1⟩,hn,m0,m1,q⟩:=h
 have nd:=iC.nd
 refine⟨_,(aj (aQ (aw c8 (iz (i6 hr) (pv 0) br (λ_ _=>rfl)) ah (ax _)) (aj (dc (i:=2) nd (av aO (iz (i6 hr) (pv 0) br (λ_ _=>rfl)) (pv 1))) (aj (mv (i6 hr) (pv 0) br (av cT (iz (i6 hr) (pv 0) br (λ_ _=>rfl)) (pv 1)) rfl) (ao (ay (pv 2))))) aF) (aj (dc (i:=3) nd (iz (i6 hr) (pv 0) br (λ_ _=>rfl))) (aj (mv (i6 hr) (pv 0) br (av bf (pv 3) ah) rfl) (aj (dc (i:=4) nd (iz (i6 hr) (pv 0) br (λ_ _=>rfl))) (aj (dc (i:=5) nd ah) (aj (cS (aQ (aw c8 (aB aU rfl n_len PySem.boot_len (aa (pv 4) af)) ah (ax _)) (ao (dc (i:=5) nd (aP bA (pv 4) (av aO (pv 3) (aB aU rfl n_len PySem.boot_len (aa (pv 4) af))) (λ_ _=>rfl)))) aF)) (aj (aQ (PW.pt (dN (aw c8 (pv 5) ah (ax _)) (dN (aw bp (av aO (pv 5) ah) ah (ax _)) (d9 (aw dQ (pv 3) (aB aU rfl n_len PySem.boot_len (aa (pv 4) af)) (ax _)))))) (aj (mv (i6 hr) (pv 0) br (av cT (av cT (pv 5) ah) (pv 1)) rfl) (ao (ay (av aO (av cT (pv 5) ah) (pv 1))))) aF) (aj (dc (i:=6) nd (av aO (av bo (av bf (av bf (av bf (av aO (pv 5) ah) (av bo (av bo ah (pv 3)) (pv 3))) (av bo ah (pv 3))) ah) ah) ah)) (ao (ay (av aO (av cT (av aO (av bo (pv 6) (av bf (pv 6) ah)) ah) ah) (pv 1)))))))))))),?_⟩
 show bZ _ _ _ [some (.ref p),some (.int m),none,none,none,none,none] H
 k_data
 have lp:l≠p:=kZ hl hp (by intro z;cases z)
 have mb:Bd m:=Bd.of (by omega) (by omega)
 have em:=λx:Int=>Int.emod_nonneg x (show m≠0 by omega)
 have el:=λx:Int=>Int.emod_lt_of_pos x m0
 refine⟨_,mO hp,j,rfl,aJ (λc=>?_) (λc=>?_)⟩
 ·exact⟨_,mO hp,j,rfl,m0,_,mO hp,j,rfl,m0,mb,_,oI hp,q _ _ (em _) (el _) Off.AL ⟨i,_,ns,ag,by rw [aA lp];exact hl,h63,i0,by omega⟩⟩
 ·refine⟨_,yu hp,i,rfl,_,wk hp,_,wj ag,?_⟩
  have hp1:upd H p (rQ l (i+1) j) p=some (rQ l (i+1) j):=ag
  have hl1:upd H p (rQ l (i+1) j) l=some (.lst (ns.map V.int)):=by rw [aA lp];exact hl
  have of1:Off p H (upd H p (rQ l (i+1) j)):=Off.AL
  generalize upd H p (rQ l (i+1) j)=H1 at *
  refine⟨λσ' H'=>H'=H1/\∃ c,σ'=[some (.ref p),some (.int m),none,some (.int i),some (.ref l),some (.int c),none],?_,?_⟩
  ·k_data
   refine cp (aS.of hl1) ⟨_,rfl,?_⟩
   rw [List.length_map]
   refine aJ (λc1=>?_) (λc1=>rfl)
   refine cp (aS.of hl1) ?_
   rw [List.length_map]
   have r0:=Int.emod_nonneg i (show (ns.length:Int)≠0 by omega)
   have r1:=Int.emod_lt_of_pos i c1
   refine⟨_,rfl,c1,bW (aS.of hl1) r0 (by rw [List.length_map];exact r1) λv hv=>?_⟩
   obtain⟨x,_,rfl⟩:=List.mem_map.mp hv
   exact⟨rfl,x,rfl⟩
  ·rintro σ' H' ⟨rfl,c',rfl⟩
   k_data
   have ib:i<=10^60:=by omega
   have ii:7919*i*i<=7919*i*10^60:=Int.mul_le_mul_of_nonneg_left ib (by omega)
   have i2:0<=7919*i*i:=Int.mul_nonneg (by omega) i0
   have c0:=Int.emod_nonneg c' (show (2147483629:Int)≠0 by decide)
   have c1:=Int.emod_lt_of_pos c' (show (0:Int)<2147483629 by decide)
   have sd:∀ z:Int,0<=z%2147483647/\z%2147483647<2147483647:=λz=>⟨Int.emod_nonneg z (by decide),Int.emod_lt_of_pos z (by decide)⟩
   have T1:oW p l (n+1) H':=⟨i+1,j,ns,hp1,hl1,h63,by omega,by omega⟩
   have fin:Bd 7919/\Bd i/\Bd (7919*i)/\Bd i/\Bd 48271/\Bd i/\Bd (c'%2147483629+7919*i*i+48271*i+1)/\Bd 69621/\Bd ((c'%2147483629+7919*i*i+48271*i+1)*69621%2147483647)/\Bd ((c'%2147483629+7919*i*i+48271*i+1)*69621%2147483647+16807)/\Bd 64/\0<m:=by
    have s1:=sd ((c'%2147483629+7919*i*i+48271*i+1)*69621)
    exact⟨uh (by decide),Bd.of (by omega) (by omega),Bd.of (by omega) (by omega),Bd.of (by omega) (by omega),uh (by decide),Bd.of (by omega) (by omega),Bd.of (by omega) (by omega),uh (by decide),Bd.of (by omega) (by omega),Bd.of (by omega) (by omega),uh (by decide),m0⟩
   obtain⟨f1,f2,f3,f4,f5,f6,f7,f8,f9,f10,f11,f12⟩:=fin
   have fq:∀ x,Q (V.int (x%m)) H':=λx=>q _ _ (em _) (el _) of1 T1
   refine aJ (λc2=>aJ (λc3=>?_) (λc3=>⟨f1,f2,f3,f4,f5,f6,f7,f8,f9,f10,f11,f12,fq _⟩)) (λc2=>⟨f1,f2,f3,f4,f5,f6,f7,f8,f9,f10,f11,f12,fq _⟩)
   refine cp (aS.of hl1) ⟨_,rfl,aJ (λc4=>⟨uh (by decide),m0,mb,_,oI hp1,uh (by decide),m0,?_⟩) (λc4=>⟨f1,f2,f3,f4,f5,f6,f7,f8,f9,f10,f11,f12,fq _⟩)⟩
   exact q _ _ (em _) (el _) (of1.trans Off.AL) ⟨i+1,_,ns,ag,by rw [aA lp];exact hl1,h63,by omega,by omega⟩
theorem wW (h:Callee P w K mg base aT 1 "_law_draw" ["_law_tape_here","_law_many"] mG):Callee P w K mg base aT 1 "_law_draw" ["_law_tape_here","_law_many"] dO :=
 Callee.imp h λvs H Q E z=>by
  obtain⟨p,m,n,h1,⟨l,r⟩,h3,h4,h5,q⟩:=z
  exact⟨p,l,m,n,h1,r,h3,h4,h5,λr' H' a b c d=>q r' H' a b c d.tp⟩
end
end K
namespace K
open PySem PySem.Spec PyProof.Rows L2
section
variable {P:Program} {w:World} {K:PySem.W.Frag} {mg:Str->Option Value} {base:Heap} {C:Addr}
theorem AJ {p k a:Int} {rs:List Int} {sh:PyData} {H:Hp} {u:V} (pm:Num.Pm p) (p5:p<=53) (k0:0<k) (T:mT p k a rs sh) (hu:dv K H sh u):rs.length<=52/\(∀ r∈rs,0<=r/\r<p)/\∃(ps:Addr) (us:List V),u=.ref ps/\aL K H ps us/\cH K 0 H us/\1<=us.length/\us.length<=3/\(us.length=3->∀ r∈rs,0<r):=by
 have p2:=pm.two
 have c1:PyData.canLay0 (.str "nought")=true:=by decide +kernel
 have c2:PyData.canLay0 (.str "none")=true:=by decide +kernel
 have c3:PyData.canLay0 (.str "turned")=true:=by decide +kernel
 rcases T with⟨z,rfl,rfl⟩|⟨na,d,D,_,⟨nal,rfl,rfl⟩|⟨al,RO,r0,t,h1,h2,h3,h4,rfl⟩⟩
 ·obtain⟨ps,us,rfl,hS,x0,r,rfl,e0,z0⟩:=hu
  cases z0
  cases e0
  refine⟨by decide,λr hr=>by cases List.mem_singleton.mp hr;omega,ps,_,rfl,hS,.cons (.str c1 (by decide +kernel)) .nil,by decide,by decide,λz=>absurd z (by simp)⟩
 ·obtain⟨ps,x0,x1,x2,rfl,hS,e0,e1,e2⟩:=lR hu
  cases e0
  cases e1
  cases e2
  have d0:=D.pos k0
  have m0:=Int.emod_nonneg (a^((p-1)/d).toNat) (show p≠0 by omega)
  have m1:=Int.emod_lt_of_pos (a^((p-1)/d).toNat) (show 0<p by omega)
  have q0:=Int.ediv_nonneg (show 0<=p-1 by omega) (show 0<=d by omega)
  have q1:=Int.ediv_le_self (a:=p-1) d (by omega)
  exact⟨by decide,λr hr=>(nomatch hr),ps,_,rfl,hS,.cons (.str c2 (by decide +kernel)) (.cons (.int (by omega) (by omega)) (.cons (.int (by omega) (by omega)) .nil)),by simp,by simp,λ_ r hr=>(nomatch hr)⟩
 ·obtain⟨ps,x0,x1,x2,rfl,hS,e0,e1,e2⟩:=lR hu
  cases e0
  cases e1
  cases e2
  have d1:d<=p-1:=by
   obtain⟨_,_,B⟩:=id D
   exact Int.le_of_dvd (by omega) B.db
  have rl:=RO.len
  obtain⟨a0,a1,_⟩:=RO.ok r0 (List.mem_of_getElem? h1)
  refine⟨by omega,λr hr=>⟨(RO.ok r hr).1,(RO.ok r hr).2.1⟩,ps,_,rfl,hS,.cons (.str c3 (by decide +kernel)) (.cons (.int (by omega) (by omega)) (.cons (.int (by omega) (by omega)) .nil)),by simp,by simp,λ_ r hr=>?_⟩
  obtain⟨b0,b1,al⟩:=RO.ok r hr
  rcases Int.lt_or_eq_of_le b0 with y | y
  ·exact y
  ·subst y
   refine absurd ?_ na
   have h5:p∣0^k.toNat-a:=al
   rw [Int.zero_pow (by omega),Int.zero_sub] at h5
   exact Int.dvd_neg.mp h5
theorem lU {rs:List Int} {p:Int} {H:Hp} (p5:p<=53) (h:∀ r∈rs,0<=r/\r<p):cH K 0 H (rs.map V.int):=cH.of λx hx=>by
 obtain⟨r,hr,rfl⟩:=List.mem_map.mp hx
 have:=h r hr
 exact .int (by omega) (by omega)
def twI (x t p:Int) (j:Nat):List Int:=(List.range j).map λi:Nat=>x*t^i%p
theorem twI_succ {x t p:Int} {j:Nat}:twI x t p (j+1)=twI x t p j++[x*t^j%p]:=by
 unfold twI
 rw [List.range_succ,List.map_append]
 rfl
theorem twI_len {x t p:Int} {j:Nat}:(twI x t p j).length=j:=by
 unfold twI
 rw [List.length_map,List.length_range]
theorem twI_zero {x t p:Int} {j:Nat}:(twI x t p (j+1))[0]?=some (x%p):=by
 unfold twI
 rw [List.getElem?_map,List.getElem?_range (by omega),Option.map_some,Int.pow_zero,Int.mul_one]
theorem twI_in {x t p y:Int} {j:Nat} (p0:0<p) (h:y∈twI x t p j):0<=y/\y<p:=by
 unfold twI at h
 obtain⟨i,_,rfl⟩:=List.mem_map.mp h
 exact⟨Int.emod_nonneg _ (by omega),Int.emod_lt_of_pos _ p0⟩
theorem nK {rs:List Int} {H:Hp} (h:∀ r∈rs,-1000<=r/\r<=1000):cH K 0 H (rs.map V.int):=cH.of λx hx=>by
 obtain⟨r,hr,rfl⟩:=List.mem_map.mp hx
 have:=h r hr
 exact .int (by omega) (by omega)
theorem uT {m:Nat} {k:Int} (h0:-1<=k) (h1:k<m) (m1:1<=m):∃ j,qP m k=some j/\j<m:=by
 unfold qP
 by_cases z:0<=k
 ·rw [if_pos z,if_pos h1]
  exact⟨_,rfl,by omega⟩
 ·rw [if_neg z,if_pos (by omega)]
  exact⟨_,rfl,by omega⟩
def zD (H:Hp) (s0:L2.St) (σ':L2.St) (H':Hp):Prop:=σ'=s0/\aG H H'
theorem oW.upd {t c ls:Addr} {n:Nat} {H:Hp} {o:HO} (h:oW t c n H) (n1:ls≠t) (n2:ls≠c):oW t c n (upd H ls o):=by
 obtain⟨i,j,ns,a,b,z⟩:=h
 exact⟨i,j,ns,by rw [aA (Ne.symm n1)];exact a,by rw [aA (Ne.symm n2)];exact b,z⟩
theorem bN.upd {t ls:Addr} {H H1:Hp} {o:HO} (h:bN t H H1) (f:H ls=none):bN t H (upd H1 ls o):=λb o' nb e=>by
 rw [aA (λz=>by rw [z,f] at e;cases e)]
 exact h b o' nb e
def rK (K:PySem.W.Frag):Sp:=λvs H Q _=>∃(t pd l:Addr) (n:Nat) (p k a:Int) (u:V) (rs:List Int) (sh:PyData),vs=[.ref t,.int p,.ref pd]/\Tp t n H/\n<=10^42/\Num.Pm p/\p<=53/\0<k/\aL K H pd [.ref l,u]/\H l=some (.lst (rs.map V.int))/\dv K H sh u/\mT p k a rs sh/\∀ x H',bN t H H'->Tp t (n+20) H'->GZ K 3 H' x->Q x H'
theorem gM:aE ["_law_tape_here","_law_p","_law_due_here","_law_found","_law_shown_here","_law_e","_law_forms","_law_way","_law_some","_law_turn_here","_law_at"] ["_law_tape_here","_law_p","_law_due_here"] (au (top 66)):=dI
theorem vt (D:aC K mg "_law_thing" (top 66)) (c__law_draw:Callee P w K mg base aT 1 "_law_draw" ["_law_tape_here","_law_many"] mG) (c__law_bent_row:Callee P w K mg base aT 3 "_law_bent_row" ["_law_tape_here","_law_row"] (v5 K)) (c__law_bent_rowL:Callee P w K mg base aT 3 "_law_bent_row" ["_law_tape_here","_law_row"] (v3 K)) (n_len:mg "len"=none) (n_list:mg "list"=none) (n_sorted:mg "sorted"=none):Callee P w K mg base aT 4 "_law_thing" ["_law_tape_here","_law_p","_law_due_here"] (rK K):=by
 refine cO D gM (λf cdv A outer s H vs Q E hr h=>?_)
 obtain⟨t,pd,l,n,p,k,a,u,rs,sh,rfl,tp,n9,pm,p5,k0,tD,hl,hu,T,q⟩:=h
 have nd:=gM.nd
 refine⟨_,(@aj _ _ _ _ _ (iZ (i:=3) (j:=4) rfl nd rfl rfl (by decide) rfl rfl (@aa _ _ _ _ _ (@c9 _ _ _ _ _ _ _ _ _ dU rfl n_list L2.boot_list (@aa _ _ _ _ _ (@aP _ _ _ _ _ _ _ aZ (pv 2) ah (λ_ _=>rfl)) af (by rfl)) (by decide) (by decide) (by rfl) (by rfl)) (@aa _ _ _ _ _ (@aP _ _ _ _ _ _ _ aZ (pv 2) ah (λ_ _=>rfl)) af (by rfl)) (by rfl)) rfl) (@aj _ _ _ _ _ (@bF _ _ 5 _ _ _ _ nd rfl (Or.inl rfl) (@av _ _ _ _ _ _ _ _ bf ah (@aH _ _ _ _ _ _ _ _ _ _ _ _ c__law_draw (hr.mono (by decide)) rfl az (@aa _ _ _ _ _ (pv 0) (@aa _ _ _ _ _ (pv 1) af (by rfl)) (by rfl)) (by decide) (by rfl) (by rfl))) (by rfl) (by first | exact .inl rfl | exact .inr rfl | assumption)) (@aj _ _ _ _ _ (@bF _ _ 6 _ _ _ _ nd rfl (Or.inl rfl) (@aW _ _ _ _ (@aa _ _ _ _ _ (@aD _ _ _ _ _ (@aa _ _ _ _ _ br af (by rfl))) (@aa _ _ _ _ _ (@aD _ _ _ _ _ (@aa _ _ _ _ _ br (@aa _ _ _ _ _ (pv 5) (@aa _ _ _ _ _ (@aH _ _ _ _ _ _ _ _ _ _ _ _ c__law_draw (hr.mono (by decide)) rfl az (@aa _ _ _ _ _ (pv 0) (@aa _ _ _ _ _ (pv 1) af (by rfl)) (by rfl)) (by decide) (by rfl) (by rfl)) af (by rfl)) (by rfl)) (by rfl))) (@aa _ _ _ _ _ (@aD _ _ _ _ _ (@aa _ _ _ _ _ br (@aa _ _ _ _ _ (@aH _ _ _ _ _ _ _ _ _ _ _ _ c__law_draw (hr.mono (by decide)) rfl az (@aa _ _ _ _ _ (pv 0) (@aa _ _ _ _ _ (pv 1) af (by rfl)) (by rfl)) (by decide) (by rfl) (by rfl)) (@aa _ _ _ _ _ (pv 5) af (by rfl)) (by rfl)) (by rfl))) (@aa _ _ _ _ _ (@aD _ _ _ _ _ (@aa _ _ _ _ _ br (@aa _ _ _ _ _ (aY eC (pv 3) bz (bh ah)) (@aa _ _ _ _ _ (pv 5) af (by rfl)) (by rfl)) (by rfl))) af (by rfl)) (by rfl)) (by rfl)) (by rfl))) (by rfl) (by first | exact .inl rfl | exact .inr rfl | assumption)) (@aj _ _ _ _ _ (@bF _ _ 6 _ _ _ _ nd rfl (Or.inl rfl) (@av _ _ _ _ _ _ _ _ dB (pv 6) (@aW _ _ _ _ (@aa _ _ _ _ _ (@aD _ _ _ _ _ (@aa _ _ _ _ _ br (@aa _ _ _ _ _ (@av _ _ _ _ _ _ _ _ cT (@av _ _ _ _ _ _ _ _ bR (pv 1) ah) (pv 5)) (@aa _ _ _ _ _ ah af (by rfl)) (by rfl)) (by rfl))) (@aa _ _ _ _ _ (@av _ _ _ _ _ _ _ _ cL (@aD _ _ _ _ _ (@aa _ _ _ _ _ br af (by rfl))) (aY cM (pv 4) (bh ah) bz)) (@aa _ _ _ _ _ (@av _ _ _ _ _ _ _ _ cL (@aD _ _ _ _ _ (@aa _ _ _ _ _ br af (by rfl))) (aY cM (pv 4) (bh ah) bz)) (@aa _ _ _ _ _ (@av _ _ _ _ _ _ _ _ cL (aY cM (pv 4) bz (bh ah)) (@aD _ _ _ _ _ (@aa _ _ _ _ _ cD (@aa _ _ _ _ _ (pv 5) af (by rfl)) (by rfl)))) af (by rfl)) (by rfl)) (by rfl)) (by rfl)))) (by rfl) (by first | exact .inl rfl | exact .inr rfl | assumption)) (@aj _ _ _ _ _ (@bF _ _ 7 _ _ _ _ nd rfl (Or.inl rfl) (@aH _ _ _ _ _ _ _ _ _ _ _ _ c__law_draw (hr.mono (by decide)) rfl az (@aa _ _ _ _ _ (pv 0) (@aa _ _ _ _ _ ah af (by rfl)) (by rfl)) (by decide) (by rfl) (by rfl)) (by rfl) (by first | exact .inl rfl | exact .inr rfl | assumption)) (@aj _ _ _ _ _ (cS (@aQ _ _ _ _ _ _ _ _ (PW.pt (dN (@aw _ _ _ _ _ _ _ _ c8 (pv 7) ah (ax _)) (dN (@aw _ _ _ _ _ _ _ _ (qb hr.units) (pv 3) (@aW _ _ _ _ af) (ax _)) (d9 (@aw _ _ _ _ _ _ _ _ bp (@aB _ _ _ _ _ _ _ _ _ aU rfl n_len PySem.boot_len (@aa _ _ _ _ _ (pv 4) af (by rfl)) (by decide) (by decide) (by rfl) (by rfl)) ah (ax _)))))) (@aj _ _ _ _ _ (iZ (i:=8) (j:=9) rfl nd rfl rfl (by decide) rfl rfl (@aa _ _ _ _ _ (@aW _ _ _ _ (@aa _ _ _ _ _ (@aP _ _ _ _ _ _ _ bA (pv 3) (@aH _ _ _ _ _ _ _ _ _ _ _ _ c__law_draw (hr.mono (by decide)) rfl az (@aa _ _ _ _ _ (pv 0) (@aa _ _ _ _ _ (@aB _ _ _ _ _ _ _ _ _ aU rfl n_len PySem.boot_len (@aa _ _ _ _ _ (pv 3) af (by rfl)) (by decide) (by decide) (by rfl) (by rfl)) af (by rfl)) (by rfl)) (by decide) (by rfl) (by rfl)) (λ_ _=>rfl)) af (by rfl))) (@aa _ _ _ _ _ (@av _ _ _ _ _ _ _ _ bf ah (@aH _ _ _ _ _ _ _ _ _ _ _ _ c__law_draw (hr.mono (by decide)) rfl az (@aa _ _ _ _ _ (pv 0) (@aa _ _ _ _ _ (@av _ _ _ _ _ _ _ _ bR (pv 1) ah) af (by rfl)) (by rfl)) (by decide) (by rfl) (by rfl))) af (by rfl)) (by rfl)) rfl) (@aj _ _ _ _ _ (bY PassesOwn.never (@aw _ _ _ _ _ _ _ _ iy (@av _ _ _ _ _ _ _ _ aO (@av _ _ _ _ _ _ _ _ bo (@aP _ _ _ _ _ _ _ bA (pv 8) (fo dP ah) (λ_ _=>rfl)) (pv 9)) (pv 1)) (@aP _ _ _ _ _ _ _ bA (pv 8) ah (λ_ _=>rfl)) (ax _)) (@ao _ _ _ (jE (qY PySem.F.plainAttrs_list PySem.F.slot_list_append PySem.F.type_list_append iV (pv 8) (@aa _ _ _ _ _ (@av _ _ _ _ _ _ _ _ aO (@av _ _ _ _ _ _ _ _ bo (@aP _ _ _ _ _ _ _ bA (pv 8) (fo dP ah) (λ_ _=>rfl)) (pv 9)) (pv 1)) af (by rfl)))))) (@aj _ _ _ _ _ (@bF _ _ 8 _ _ _ _ nd rfl (Or.inl rfl) (@aB _ _ _ _ _ _ _ _ _ m6 rfl n_sorted PyProof.Rows.boot_sorted (@aa _ _ _ _ _ (pv 8) af (by rfl)) (by decide) (by decide) (by rfl) (by rfl)) (by rfl) (by first | exact .inl rfl | exact .inr rfl | assumption)) (@ao _ _ _ (@ay _ _ _ _ (@aD _ _ _ _ _ (@aa _ _ _ _ _ (pv 8) (@aa _ _ _ _ _ (@aD _ _ _ _ _ (@aa _ _ _ _ _ br (@aa _ _ _ _ _ (@aP _ _ _ _ _ _ _ bA (pv 8) ah (λ_ _=>rfl)) (@aa _ _ _ _ _ (pv 9) af (by rfl)) (by rfl)) (by rfl))) af (by rfl)) (by rfl)))))))) aF)) (@aj _ _ _ _ _ (cS (@aQ _ _ _ _ _ _ _ _ (PW.pt (dN (@aw _ _ _ _ _ _ _ _ tK (pv 7) (@aD _ _ _ _ _ (@aa _ _ _ _ _ ah (@aa _ _ _ _ _ ah af (by rfl)) (by rfl))) (by with_unfolding_all rfl)) (dN (@aw _ _ _ _ _ _ _ _ (qb hr.units) (pv 3) (@aW _ _ _ _ af) (ax _)) (d9 (@aw _ _ _ _ _ _ _ _ bp (@aB _ _ _ _ _ _ _ _ _ aU rfl n_len PySem.boot_len (@aa _ _ _ _ _ (pv 4) af (by rfl)) (by decide) (by decide) (by rfl) (by rfl)) ah (ax _)))))) (@aj _ _ _ _ _ (@bF _ _ 3 _ _ _ _ nd rfl (Or.inl rfl) (@aP _ _ _ _ _ _ _ bA (@aW _ _ _ _ (@aa _ _ _ _ _ (vG (pv 3) (bh (fo dP ah))) (@aa _ _ _ _ _ (@fk _ _ _ _ _ _ _ _ _ _ _ _ _ _ rfl (oQ (N':=["_law_x","_law_p"]) (js:=[none,some 1]) rfl rfl) (@dF _ _ _ _ (pv 3)) (λ_ _ _ _=>(aI (i:=0) (show List.Nodup [("_law_x":Str),("_law_p":Str)] from by decide +kernel) rfl (Or.inl rfl) (.inr rfl))) (λ_ _ _ _=>cE) (λ_ _ _ _=>(@av _ _ _ _ _ _ _ _ bf (pv 0) (pv 1))) (by intro _;rfl)) af (by rfl)) (by rfl))) (@av _ _ _ _ _ _ _ _ bR (pv 7) ah) (λ_ _=>rfl)) (by rfl) (by first | exact .inl rfl | exact .inr rfl | assumption)) (@ao _ _ _ (@ay _ _ _ _ (@aD _ _ _ _ _ (@aa _ _ _ _ _ (pv 3) (@aa _ _ _ _ _ (@aD _ _ _ _ _ (@aa _ _ _ _ _ (@aP _ _ _ _ _ _ _ aZ (pv 4) ah (λ_ _=>rfl)) (@aa _ _ _ _ _ (@aP _ _ _ _ _ _ _ bA (pv 3) ah (λ_ _=>rfl)) (@aa _ _ _ _ _ (@aP _ _ _ _ _ _ _ aZ (pv 4) ah (λ_ _=>rfl)) af (by rfl)) (by rfl)) (by rfl))) af (by rfl)) (by rfl)))))) aF)) (@aj _ _ _ _ _ (cS (@aQ _ _ _ _ _ _ _ _ (PW.pt (dN (@aw _ _ _ _ _ _ _ _ bp (pv 7) ah (ax _)) (d9 (@aw _ _ _ _ _ _ _ _ (qb hr.units) (pv 3) (@aW _ _ _ _ af) (ax _))))) (@aj _ _ _ _ _ (@bF _ _ 10 _ _ _ _ nd rfl (Or.inl rfl) (@av _ _ _ _ _ _ _ _ bR (@av _ _ _ _ _ _ _ _ aO (@aH _ _ _ _ _ _ _ _ _ _ _ _ c__law_draw (hr.mono (by decide)) rfl az (@aa _ _ _ _ _ (pv 0) (@aa _ _ _ _ _ (@av _ _ _ _ _ _ _ _ bo ah (@aB _ _ _ _ _ _ _ _ _ aU rfl n_len PySem.boot_len (@aa _ _ _ _ _ (pv 3) af (by rfl)) (by decide) (by decide) (by rfl) (by rfl))) af (by rfl)) (by rfl)) (by decide) (by rfl) (by rfl)) (@av _ _ _ _ _ _ _ _ bf (@aB _ _ _ _ _ _ _ _ _ aU rfl n_len PySem.boot_len (@aa _ _ _ _ _ (pv 3) af (by rfl)) (by decide) (by decide) (by rfl) (by rfl)) ah)) ah) (by rfl) (by first | exact .inl rfl | exact .inr rfl | assumption)) (@aj _ _ _ _ _ (eG (@av _ _ _ _ _ _ _ _ bf (@aP _ _ _ _ _ _ _ bA (pv 3) (pv 10) (λ_ _=>rfl)) (@av _ _ _ _ _ _ _ _ bo (pv 1) (@aP _ _ _ _ _ _ _ bA (@aW _ _ _ _ (@aa _ _ _ _ _ ah (@aa _ _ _ _ _ ah (@aa _ _ _ _ _ ah (@aa _ _ _ _ _ (fo dP ah) af (by rfl)) (by rfl)) (by rfl)) (by rfl))) (@aH _ _ _ _ _ _ _ _ _ _ _ _ c__law_draw (hr.mono (by decide)) rfl az (@aa _ _ _ _ _ (pv 0) (@aa _ _ _ _ _ ah af (by rfl)) (by rfl)) (by decide) (by rfl) (by rfl)) (λ_ _=>rfl)))) (An (pv 3) (pv 10) set_list)) (@ao _ _ _ (@ay _ _ _ _ (@aD _ _ _ _ _ (@aa _ _ _ _ _ (pv 3) (@aa _ _ _ _ _ (pv 4) af (by rfl)) (by rfl))))))) aF)) (@aj _ _ _ _ _ (cS (@aQ _ _ _ _ _ _ _ _ (@aw _ _ _ _ _ _ _ _ dQ (pv 7) ah (ax _)) (@ao _ _ _ (@ay _ _ _ _ (@aD _ _ _ _ _ (@aa _ _ _ _ _ (@aH _ _ _ _ _ _ _ _ _ _ _ _ c__law_bent_rowL (hr.mono (by decide)) rfl az (@aa _ _ _ _ _ (pv 0) (@aa _ _ _ _ _ (pv 3) af (by rfl)) (by rfl)) (by decide) (by rfl) (by rfl)) (@aa _ _ _ _ _ (pv 4) af (by rfl)) (by rfl))))) aF)) (@aj _ _ _ _ _ (cS (@aQ _ _ _ _ _ _ _ _ (@aw _ _ _ _ _ _ _ _ dQ (pv 7) ah (ax _)) (@ao _ _ _ (@ay _ _ _ _ (@aD _ _ _ _ _ (@aa _ _ _ _ _ (pv 3) (@aa _ _ _ _ _ (@aH _ _ _ _ _ _ _ _ _ _ _ _ c__law_bent_row (hr.mono (by decide)) rfl az (@aa _ _ _ _ _ (pv 0) (@aa _ _ _ _ _ (pv 4) af (by rfl)) (by rfl)) (by decide) (by rfl) (by rfl)) af (by rfl)) (by rfl))))) aF)) (@aj _ _ _ _ _ (cS (@aQ _ _ _ _ _ _ _ _ (@aw _ _ _ _ _ _ _ _ bp (pv 7) ah (ax _)) (@ao _ _ _ (@ay _ _ _ _ (@aD _ _ _ _ _ (@aa _ _ _ _ _ (pv 3) (@aa _ _ _ _ _ (@aP _ _ _ _ _ _ _ bA (pv 6) (@aH _ _ _ _ _ _ _ _ _ _ _ _ c__law_draw (hr.mono (by decide)) rfl az (@aa _ _ _ _ _ (pv 0) (@aa _ _ _ _ _ ah af (by rfl)) (by rfl)) (by decide) (by rfl) (by rfl)) (λ_ _=>rfl)) af (by rfl)) (by rfl))))) aF)) (@aj _ _ _ _ _ (cS (@aQ _ _ _ _ _ _ _ _ (@aw _ _ _ _ _ _ _ _ bp (pv 7) ah (ax _)) (@ao _ _ _ (@ay _ _ _ _ (@aD _ _ _ _ _ (@aa _ _ _ _ _ (@aW _ _ _ _ af) (@aa _ _ _ _ _ (@aP _ _ _ _ _ _ _ bA (pv 6) (@aH _ _ _ _ _ _ _ _ _ _ _ _ c__law_draw (hr.mono (by decide)) rfl az (@aa _ _ _ _ _ (pv 0) (@aa _ _ _ _ _ ah af (by rfl)) (by rfl)) (by decide) (by rfl) (by rfl)) (λ_ _=>rfl)) af (by rfl)) (by rfl))))) aF)) (@ao _ _ _ (@ay _ _ _ _ (dX (@aw _ _ _ _ _ _ _ _ bp (pv 7) ah (ax _)) (@aH _ _ _ _ _ _ _ _ _ _ _ _ c__law_bent_row (hr.mono (by decide)) rfl az (@aa _ _ _ _ _ (pv 0) (@aa _ _ _ _ _ (pv 2) af (by rfl)) (by rfl)) (by decide) (by rfl) (by rfl)) (pv 2)))))))))))))))),?_⟩
 show bZ _ _ _ [some (.ref t),some (.int p),some (.ref pd),none,none,none,none,none,none,none,none] H
 have p2:=pm.two
 obtain⟨cc,i0,j0,ns0,hT⟩:=id tp
 have tl:oW t cc n H:=⟨i0,j0,ns0,hT⟩
 obtain⟨rl,rb,ps,us,rfl,tU,gus,ul1,ul3,upos⟩:=AJ pm p5 k0 T hu
 have rlm:(rs.map V.int).length=rs.length:=List.length_map ..
 k_data
 refine cY tD mU ?_
 refine⟨l,rfl,_,.inl (aS.of hl),λl1 hl1=>?_⟩
 have hl0:H l1=none:=hl1
 have s1:=ak (o:=.lst (rs.map V.int)) hl1
 have e1:upd H l1 (.lst (rs.map V.int)) l1=some (.lst (rs.map V.int)):=ag
 generalize upd H l1 _=H1 at *
 have t1:=tl.same s1
 refine cY (tD.same s1) Bj ?_
 refine⟨t,cc,p,n,rfl,t1,by omega,by omega,by omega,λre H2 re0 re1 o2 t2=>?_⟩
 refine⟨re,rfl,by show 1<=sizeLine;decide,λa1 h1=>?_⟩
 have c1:PyData.canLay0 (.str "nought")=true:=by decide +kernel
 have c2:PyData.canLay0 (.str "none")=true:=by decide +kernel
 have c3:PyData.canLay0 (.str "turned")=true:=by decide +kernel
 have S1:GZ K 0 H (.str "nought"):=.str c1 (by decide +kernel)
 have zs1:∀ J,GZ K 0 J (.str "nought"):=λJ=>.str c1 (by decide +kernel)
 have zs2:∀ J,GZ K 0 J (.str "none"):=λJ=>.str c2 (by decide +kernel)
 have zs3:∀ J,GZ K 0 J (.str "turned"):=λJ=>.str c3 (by decide +kernel)
 have zi:∀(J:Hp) (i:Int),-1000<=i->i<=1000->GZ K 0 J (.int i):=λJ i h0 h1=>.int (by omega) (by omega)
 have O2:=(bN.of (p:=t) s1).trans o2.bJ
 have b1:=ak (o:=.tup [V.str "nought"]) h1
 have g1:GZ K 1 (upd H2 a1 (.tup [V.str "nought"])) (.ref a1):=.tup (aL.of ag) (by decide) (.cons (zs1 _) .nil)
 generalize upd H2 a1 _=J1 at *
 have t3:=t2.same b1
 refine⟨t,cc,p,n+1,rfl,t3,by omega,by omega,by omega,λr1 H3 r10 r11 o3 t4=>?_⟩
 have g1:=GZ.bJ g1 o3.bJ t3.tp
 refine⟨by show 3<=sizeLine;decide,λa2 h2=>?_⟩
 have b2:=ak (o:=.tup [V.str "none",V.int (1+re),V.int r1]) h2
 have g2:GZ K 1 (upd H3 a2 (.tup [V.str "none",V.int (1+re),V.int r1])) (.ref a2):=.tup (aL.of ag) (by show 3<=54;decide) (.cons (zs2 _) (.cons (zi _ _ (by omega) (by omega)) (.cons (zi _ _ (by omega) (by omega)) .nil)))
 generalize upd H3 a2 _=J2 at *
 have t5:=t4.same b2
 refine⟨t,cc,p,n+2,rfl,t5,by omega,by omega,by omega,λr2 H4 r20 r21 o4 t6=>?_⟩
 have g1:=GZ.bJ (g1.same b2) o4.bJ t5.tp
 have g2:=GZ.bJ g2 o4.bJ t5.tp
 have O4:=((O2.trans (bN.of b1)).trans o3.bJ).trans ((bN.of b2).trans o4.bJ)
 refine⟨by show 3<=sizeLine;decide,λa3 h3=>?_⟩
 have b3:=ak (o:=.tup [V.str "turned",V.int r2,V.int (1+re)]) h3
 have g3:GZ K 1 (upd H4 a3 (.tup [V.str "turned",V.int r2,V.int (1+re)])) (.ref a3):=.tup (aL.of ag) (by show 3<=54;decide) (.cons (zs3 _) (.cons (zi _ _ (by omega) (by omega)) (.cons (zi _ _ (by omega) (by omega)) .nil)))
 generalize upd H4 a3 _=J3 at *
 have el1:J3 l1=some (.lst (rs.map V.int)):=b3 _ _ (((o2.bJ.trans (bN.of b1)).trans (o3.bJ.trans ((bN.of b2).trans o4.bJ))).kp t1.tp _ _ e1)
 have O3:=O4.trans (bN.of b3)
 have t7:=t6.same b3
 refine⟨l1,_,rfl,aS.of el1,λa4 h4=>?_⟩
 have b4:=ak (o:=.lst (bE (rs.map V.int) none (some 1))) h4
 have g4:GZ K 1 (upd J3 a4 (.lst (bE (rs.map V.int) none (some 1)))) (.ref a4):=.lst ag (Nat.le_trans (bV _ _ _) (by omega)) ((lU p5 rb).cut _ _)
 generalize upd J3 a4 _=J4 at *
 refine⟨by show 3<=sizeLine;decide,λa5 h5=>?_⟩
 have b5:=ak (o:=.tup [V.str "turned",V.ref a4,V.int (1+re)]) h5
 have g5:GZ K 2 (upd J4 a5 (.tup [V.str "turned",V.ref a4,V.int (1+re)])) (.ref a5):=.tup (aL.of ag) (by show 3<=54;decide) (.cons (zs3 _).up (.cons (g4.same b5) (.cons (zi _ _ (by omega) (by omega)).up .nil)))
 generalize upd J4 a5 _=J5 at *
 refine⟨by show 4<=sizeLine;decide,λa6 h6=>?_⟩
 have b6:=ak (o:=.lst [V.ref a1,V.ref a2,V.ref a3,V.ref a5]) h6
 have e6:upd J5 a6 (.lst [V.ref a1,V.ref a2,V.ref a3,V.ref a5]) a6=some (.lst [V.ref a1,V.ref a2,V.ref a3,V.ref a5]):=ag
 have B6:=b4.trans (b5.trans b6)
 have gA:cH K 2 (upd J5 a6 (.lst [V.ref a1,V.ref a2,V.ref a3,V.ref a5])) [V.ref a1,V.ref a2,V.ref a3,V.ref a5]:=.cons (g1.same (b3.trans B6)).up (.cons (g2.same (b3.trans B6)).up (.cons (g3.same B6).up (.cons (g5.same b6) .nil)))
 generalize upd J5 a6 _=J6 at *
 have q0:=Int.ediv_nonneg (show 0<=p-1 by omega) (show 0<=1+re by omega)
 have q1:=Int.ediv_le_self (a:=p-1) (1+re) (by omega)
 refine⟨by omega,Bd.of (by omega) (by omega),by show 3<=sizeLine;decide,λa7 h7=>?_⟩
 have b7:=ak (o:=.tup [V.str "none",V.int ((p-1)/(1+re)),V.int 1]) h7
 have g7:GZ K 1 (upd J6 a7 (.tup [V.str "none",V.int ((p-1)/(1+re)),V.int 1])) (.ref a7):=.tup (aL.of ag) (by show 3<=54;decide) (.cons (zs2 _) (.cons (zi _ _ (by omega) (by omega)) (.cons (zi _ _ (by omega) (by omega)) .nil)))
 generalize upd J6 a7 _=J7 at *
 have cz:∀ lo hi,(bE us lo hi).length<=3:=λlo hi=>Nat.le_trans (bV _ _ _) ul3
 have sz:3000<=sizeLine:=by decide
 have B7:=B6.trans b7
 have OJ7:=O3.trans (bN.of B7)
 have tU7:aL K J7 ps us:=OJ7.kt tp _ _ tU
 have gU7:cH K 0 J7 us:=cH.bJ gus OJ7 tp
 have cut1:∀{J:Hp} {x:Str} {Q:VK},aG J7 J->GZ K 0 J (.str x)->(∀ y J',aG J J'->GZ K 1 J' y->Q y J')->[V.str x].length<=sizeLine/\∀ p_1,J p_1=none->vQ K (V.ref ps) (some 1) none (upd J p_1 (.tup [V.str x])) λy H2=>lj K (V.ref p_1) y H2 Q:=λ{J x Q} sJ gx qq=>⟨by show 1<=sizeLine;decide,λc h=>by
  have d1:=ak (o:=.tup [V.str x]) h
  have f1:upd J c (.tup [V.str x]) c=some (.tup [V.str x]):=ag
  generalize upd J c _=Jc at *
  refine⟨ps,us,rfl,tU7.same (sJ.trans d1),λc2 Jd d2 f2=>⟨c,c2,_,_,rfl,rfl,aL.of (d2 _ _ f1),f2,by have:=cz (some 1) none;rw [List.length_singleton];omega,λc3' Je d3 f3=>qq _ _ (d1.trans (d2.trans d3)) (.tup f3 (by have:=cz (some 1) none;rw [List.length_append,List.length_singleton];omega) (.app (.cons (gx.same (d1.trans (d2.trans d3))) .nil) ((gU7.same (sJ.trans (d1.trans (d2.trans d3)))).cut _ _)))⟩⟩⟩
 refine cut1 (aG.refl _) (zs3 _) λv8 J8 b8 g8=>?_
 refine cut1 b8 (zs2 _) λv9 J9 b9 g9=>?_
 have B9:=b8.trans b9
 refine⟨ps,us,rfl,tU7.same B9,λa10 J10 b10 f10=>⟨by show 2<=sizeLine;decide,λa11 h11=>?_⟩⟩
 have b11:=ak (o:=.tup [V.bl true,V.int (1+re)]) h11
 have f11:upd J10 a11 (.tup [V.bl true,V.int (1+re)]) a11=some (.tup [V.bl true,V.int (1+re)]):=ag
 generalize upd J10 a11 _=J11 at *
 refine⟨a10,a11,_,_,rfl,rfl,f10.same b11,aL.of f11,by have:=cz none (some 1);show _+2<=_;omega,λa12 J12 b12 f12=>?_⟩
 have B12:=B9.trans (b10.trans (b11.trans b12))
 have g12:GZ K 1 J12 (.ref a12):=.tup f12 (by have:=cz none (some 1);rw [List.length_append];show _+2<=_;omega) (.app ((gU7.same B12).cut _ _) (.cons GZ.bl (.cons (zi _ _ (by omega) (by omega)) .nil)))
 refine⟨by show 4<=sizeLine;decide,λa13 h13=>?_⟩
 have b13:=ak (o:=.lst [V.ref a7,v8,v9,V.ref a12]) h13
 have f13:upd J12 a13 (.lst [V.ref a7,v8,v9,V.ref a12]) a13=some (.lst [V.ref a7,v8,v9,V.ref a12]):=ag
 generalize upd J12 a13 _=J13 at *
 have R9:=b10.trans (b11.trans (b12.trans b13))
 have B13:=B12.trans b13
 have f6:=(b7.trans B13) _ _ e6
 refine⟨a6,a13,_,_,rfl,rfl,f6,f13,by show 4+4<=sizeLine;decide,λfl hfl=>?_⟩
 have b14:=ak (o:=.lst ([V.ref a1,V.ref a2,V.ref a3,V.ref a5]++[V.ref a7,v8,v9,V.ref a12])) hfl
 have f14:upd J13 fl (.lst ([V.ref a1,V.ref a2,V.ref a3,V.ref a5]++[V.ref a7,v8,v9,V.ref a12])) fl=some (.lst ([V.ref a1,V.ref a2,V.ref a3,V.ref a5]++[V.ref a7,v8,v9,V.ref a12])):=ag
 have gF:cH K 2 (upd J13 fl (.lst ([V.ref a1,V.ref a2,V.ref a3,V.ref a5]++[V.ref a7,v8,v9,V.ref a12]))) ([V.ref a1,V.ref a2,V.ref a3,V.ref a5]++[V.ref a7,v8,v9,V.ref a12]):=.app (gA.same (b7.trans (B13.trans b14))) (.cons (g7.same (B13.trans b14)).up (.cons (g8.same (b9.trans (R9.trans b14))).up (.cons (g9.same (R9.trans b14)).up (.cons (g12.same (b13.trans b14)).up .nil))))
 have lF:([V.ref a1,V.ref a2,V.ref a3,V.ref a5]++[V.ref a7,v8,v9,V.ref a12]).length=8:=rfl
 generalize upd J13 fl _=J14 at *
 generalize [V.ref a1,V.ref a2,V.ref a3,V.ref a5]++[V.ref a7,v8,v9,V.ref a12]=xs at *
 have O14:bN t H J14:=OJ7.trans (bN.of (B13.trans b14))
 have t14:oW t cc (n+3) J14:=t7.same (B7.trans (B13.trans b14))
 have el14:J14 l1=some (.lst (rs.map V.int)):=(B7.trans (B13.trans b14)) _ _ el1
 clear cut1 g1 g2 g3 g4 g5 g7 g8 g9 g12 gA f13 f6 f12 f11 f10 e6 b1 b2 b3 b4 b5 b6 b7 b8 b9 b10 b11 b12 b13 b14 B6 B7 B9 B12 B13 R9 tU7 gU7 OJ7 O3 O4 O2 t1 t2 t3 t4 t5 t6 t7 o2 o3 o4 s1 e1 el1 S1 h1 h2 h3 h4 h5 h6 h7 h11 h13 hfl hl1
 refine⟨t,cc,12,n+3,rfl,t14,by omega,by decide,by decide,λway H6 w0 w1 o6 t15=>?_⟩
 have O6:=O14.trans o6.bJ
 have el6:=o6.bJ.kp t14.tp _ _ el14
 have ef6:=o6.bJ.kp t14.tp _ _ f14
 have gF6:=cH.bJ gF o6.bJ t14.tp
 have ls0:l1≠t/\l1≠cc:=⟨λz=>(by rw [z,hT.1] at hl0;cases hl0),λz=>(by rw [z,hT.2.1] at hl0;cases hl0)⟩
 show BX _ _ [some (V.ref t),some (V.int p),some (V.ref pd),some (V.ref l1),some (V.ref ps),some (V.int (1+re)),some (V.ref fl),some (V.int way),none,none,none] H6
 have tU6:aL K H6 ps us:=O6.kt tp _ _ tU
 have gU6:cH K 0 H6 us:=cH.bJ gus O6 tp
 have gR:∀ J,cH K 0 J (rs.map V.int):=λJ=>lU p5 rb
 have gfound:∀ J,aG H6 J->GZ K 1 J (.ref l1):=λJ sJ=>.lst (sJ _ _ el6) (by omega) (gR J)
 have gshown:∀ J,aG H6 J->GZ K 1 J (.ref ps):=λJ sJ=>.tup (tU6.same sJ) (by omega) (gU6.same sJ)
 have gpair:∀(J:Hp) (x y:V),GZ K 2 J x->GZ K 2 J y->∀(Q':VK),(∀ a,J a=none->GZ K 3 (upd J a (.tup [x,y])) (.ref a)->aG J (upd J a (.tup [x,y]))->Q' (.ref a) (upd J a (.tup [x,y])))->[x,y].length<=sizeLine/\∀ a,J a=none->Q' (.ref a) (upd J a (.tup [x,y])):=λJ x y gx gy Q' qq=>⟨by show 2<=sizeLine;decide,λa ha=>by
  have sa:=ak (o:=.tup [x,y]) ha
  exact qq a ha (.tup (aL.of ag) (by show 2<=54;decide) (.cons (gx.same sa) (.cons (gy.same sa) .nil))) sa⟩
 have finS:∀(J:Hp) (x:V),aG H6 J->GZ K 3 J x->Q x J:=λJ x sJ gx=>q x J (O6.trans (bN.of sJ)) ((t15.tp.same sJ).mono (by omega)) gx
 refine⟨λσ' H'=>zD H6 [some (V.ref t),some (V.int p),some (V.ref pd),some (V.ref l1),some (V.ref ps),some (V.int (1+re)),some (V.ref fl),some (V.int way),none,none,none] σ' H',?_,?_⟩
 ·k_data
  refine aJ (λ_=>?_) (λ_=>⟨rfl,aG.refl _⟩)
  refine⟨by show 0<=sizeLine;decide,λae hae=>?_⟩
  have sa:=ak (o:=.lst []) hae
  refine fz (bs:=rs) (cs:=[]) (aS.of (sa _ _ el6)) (aS.of ag) ⟨_,rfl,?_⟩
  generalize upd H6 ae _=Ha at *
  refine aJ (λzr=>?_) (λ_=>⟨rfl,sa⟩)
  have rne:1<=rs.length:=by
   cases rs with
   | nil=>exact absurd zr (by decide)
   | cons x xs=>simp
  refine dE (tU6.same sa) ⟨rfl,?_⟩
  refine aJ (λz3=>?_) (λ_=>⟨rfl,sa⟩)
  have u3:us.length=3:=by
   injection z3 with z3
   omega
  refine cp (aS.of (sa _ _ el6)) ?_
  have ta:=t15.same sa
  rw [rlm]
  refine⟨t,cc,_,n+4,rfl,ta,by omega,by omega,by omega,λrx Hb x0 x1 ob tb=>?_⟩
  have elb:=ob.bJ.kp ta.tp _ _ (sa _ _ el6)
  refine bW (aS.of elb) x0 (by rw [rlm];exact x1) λvx hvx=>?_
  obtain⟨x,hx,rfl⟩:=List.mem_map.mp hvx
  have xp:=upos u3 x hx
  have xl:=(rb x hx).2
  refine⟨by show 1<=sizeLine;decide,λls hls=>?_⟩
  have sc:=ak (o:=.lst [V.int x]) hls
  have ec:upd Hb ls (.lst [V.int x]) ls=some (.lst [V.int x]):=ag
  generalize upd Hb ls _=Hc at *
  have tc:=tb.same sc
  refine⟨t,cc,_,n+5,rfl,tc,by omega,by omega,by omega,λr9 Hd r90 r91 od td=>⟨r9,rfl,?_⟩⟩
  have ed:=od.bJ.kp tc.tp _ _ ec
  obtain⟨j0',k0',ms0,hTb⟩:=id tb
  have lst:ls≠t:=λz=>(by rw [z,hTb.1] at hls;cases hls)
  have lsc:ls≠cc:=λz=>(by rw [z,hTb.2.1] at hls;cases hls)
  have nt:¬p∣1+r9:=λz=>by have:=Int.le_of_dvd (by omega) z;omega
  have nx0:¬p∣x:=λz=>by have:=Int.le_of_dvd xp z;omega
  obtain⟨e,oe,ele⟩:=jY pm nt
  have e0:=oe.pos
  generalize ht:1+r9=tt at *
  have m0:=λx:Int=>Int.emod_nonneg x (show p≠0 by omega)
  have m1:=λx:Int=>Int.emod_lt_of_pos x (show 0<p by omega)
  refine cf (α:=Nat) (λ_=>[some (V.ref t),some (V.int p),some (V.ref pd),some (V.ref l1),some (V.ref ps),some (V.int (1+re)),some (V.ref fl),some (V.int way),some (V.ref ls),some (V.int tt),none]) (λi H1=>bN t Hb H1/\oW t cc (n+6) H1/\i<e/\H1 ls=some (.lst ((twI x tt p (i+1)).map V.int))) (λi=>e-i) 0 rfl ⟨(bN.of sc).trans od.bJ,td,e0,?_⟩ ?_
  ·rw [ed]
   show _=some (HO.lst [V.int (x*tt^0%p)])
   rw [Int.pow_zero,Int.mul_one,Int.emod_eq_of_lt (by omega) (by omega)]
  rintro i H1 ⟨O1,T1,ie,hl1'⟩
  replace ie:i<e:=ie
  have ix:∀{Q:VK},Q (V.int (x*tt^i%p)) H1->x5 K (.ref ls) (.int (-1)) H1 Q:=λ{Q} h=>⟨ls,_,-1,_,rfl,rfl,aS.of hl1',by rw [twI_succ,List.map_append];exact uo _ _,h⟩
  have nx:x*tt^i%p*tt%p=x*tt^(i+1)%p:=by rw [Pw.uZ,Int.pow_succ,Int.mul_assoc]
  have h0:=m0 (x*tt^i)
  have h1:=m1 (x*tt^i)
  have bx:Bd (x*tt^i%p):=Bd.of (by omega) (by omega)
  have bt:Bd tt:=Bd.of (by omega) (by omega)
  k_data
  refine ix ⟨_,rfl,bx,bt,by omega,?_⟩
  rw [nx]
  refine pM (v:=V.int (x%p)) (aS.of hl1') (by decide) (by rw [List.getElem?_map];show Option.map V.int (twI x tt p (i+1))[0]?=_;rw [twI_zero];rfl) ⟨rfl,?_⟩
  rw [Int.emod_eq_of_lt (show 0<=x by omega) xl]
  refine aJ (λc=>?_) (λc=>?_)
  ·have ie':i+1<e:=by
    rcases (by omega:i+1<e∨i+1=e) with z | z
    ·exact z
    ·refine absurd ?_ c
     rw [z]
     have h3:Num.Al p (x*tt^e) x:=by
      have:=oe.one
      have h4:p∣tt^e-1:=this
      show p∣x*tt^e-x
      rw [show x*tt^e-x=x*(tt^e-1) by rw [Int.mul_sub,Int.mul_one]]
      exact Int.dvd_mul_of_dvd_right h4
     rw [Num.Al.iff.mp h3,Int.emod_eq_of_lt (by omega) xl]
   refine⟨_,λ_ _ z=>z,.inl ⟨rfl,_,aS.of hl1'⟩,ix ⟨_,rfl,bx,bt,by omega,?_⟩⟩
   rw [nx]
   refine⟨ls,_,_,rfl,rfl,hl1',by rw [List.length_map,twI_len];exact Nat.lt_of_le_of_lt (show i+1<=1000 by omega) (by decide),rfl,O1.upd hls,T1.upd lst lsc,i+1,ie',?_,by show e-(i+1)<e-i;omega⟩
   rw [ag,twI_succ (j:=i+1),List.map_append]
   rfl
  ·have l5:(twI x tt p (i+1)).length<64:=by rw [twI_len];omega
   refine⟨ls,_,rfl,aS.of hl1',l5,λlp ns' pe sr hlp=>?_⟩
   have sp:=ak (o:=.lst (ns'.map V.int)) hlp
   have ep:upd H1 lp (.lst (ns'.map V.int)) lp=some (.lst (ns'.map V.int)):=ag
   generalize upd H1 lp _=Hp at *
   have lns:ns'.length=i+1:=by rw [pe.length_eq,twI_len]
   have nb:∀ y∈ns',0<=y/\y<p:=λy hy=>twI_in (by omega) (pe.mem_iff.mp hy)
   refine bW (aS.of ep) (by decide) (by rw [List.length_map,lns];omega) λvy hvy=>?_
   obtain⟨y,hy,rfl⟩:=List.mem_map.mp hvy
   have yb:=nb y hy
   refine⟨by show 3<=sizeLine;decide,λaq haq=>?_⟩
   have sq:=ak (o:=.tup [V.str "turned",V.int y,V.int tt]) haq
   have gq:GZ K 1 (upd Hp aq (.tup [V.str "turned",V.int y,V.int tt])) (.ref aq):=.tup (aL.of ag) (by show 3<=54;decide) (.cons (zs3 _) (.cons (zi _ _ (by omega) (by omega)) (.cons (zi _ _ (by omega) (by omega)) .nil)))
   have gl:GZ K 1 (upd Hp aq (.tup [V.str "turned",V.int y,V.int tt])) (.ref lp):=.lst (sq _ _ ep) (by rw [List.length_map];omega) (lU p5 nb)
   generalize upd Hp aq _=Hq at *
   refine gpair _ _ _ gl.up gq.up _ λar har gr sr'=>?_
   have S:=sp.trans (sq.trans sr')
   exact q _ _ (((O6.trans (bN.of sa)).trans ob.bJ).trans (O1.trans (bN.of S))) ((T1.tp.same S).mono (by omega)) gr
 rintro σ' H7 ⟨rfl,s7⟩
 refine⟨λσ' H'=>zD H6 [some (V.ref t),some (V.int p),some (V.ref pd),some (V.ref l1),some (V.ref ps),some (V.int (1+re)),some (V.ref fl),some (V.int way),none,none,none] σ' H',?_,?_⟩
 ·k_data
  refine⟨by show 2<=sizeLine;decide,λai hai=>?_⟩
  have si:=ak (o:=.tup [V.int 8,V.int 9]) hai
  refine⟨ai,_,rfl,.inr (aL.of ag),rfl,rfl,_,rfl,?_⟩
  generalize upd H7 ai _=Hi at *
  have S1:=s7.trans si
  refine aJ (λzi'=>?_) (λ_=>⟨rfl,S1⟩)
  have wy:8=way∨9=way:=by simpa [CQ,wC] using zi'
  refine⟨by show 0<=sizeLine;decide,λae hae=>?_⟩
  have sa:=ak (o:=.lst []) hae
  have S2:=S1.trans sa
  refine fz (bs:=rs) (cs:=[]) (aS.of (S2 _ _ el6)) (aS.of ag) ⟨_,rfl,?_⟩
  generalize upd Hi ae _=Ha at *
  refine aJ (λzr=>?_) (λ_=>⟨rfl,S2⟩)
  have rne:1<=rs.length:=by
   cases rs with
   | nil=>exact absurd zr (by decide)
   | cons x xs=>simp
  refine dE (tU6.same S2) ⟨rfl,?_⟩
  refine aJ (λz3=>?_) (λ_=>⟨rfl,S2⟩)
  have u3:us.length=3:=by
   injection z3 with z3
   omega
  obtain⟨y0,y1,y2,rfl⟩:∃ y0 y1 y2,us=[y0,y1,y2]:=by
   match us,u3 with
   | [y0,y1,y2],_=>exact⟨y0,y1,y2,rfl⟩
  refine⟨_,aS.of (S2 _ _ el6),λar har=>⟨⟨_,aS.of ((ak har) _ _ (S2 _ _ el6))⟩,?_⟩⟩
  have sr:=ak (o:=.lst (rs.map V.int).reverse) har
  have er:upd Ha ar (.lst (rs.map V.int).reverse) ar=some (.lst ((rs.reverse).map V.int)):=by rw [ag,List.map_reverse]
  generalize upd Ha ar _=Hr at *
  have S3:=S2.trans sr
  refine c7 (xs:=rs.map V.int) (λi ys H'=>H'=Hr/\ys=((rs.take i).map (·+p)).map V.int) ⟨rfl,rfl⟩ (by rw [rlm];exact Nat.le_trans (show rs.length<=52 by omega) (by decide)) (λi ys H' hi h=>⟨aS.of (h.1▸S3 _ _ el6),by rw [h.2,List.length_map,List.length_map,List.length_take];exact Nat.min_le_left ..⟩) ?_ ?_
  ·rintro i v ys H2 hx ⟨rfl,rfl⟩
   rw [List.getElem?_map] at hx
   obtain⟨r,hr',rfl⟩:=Option.map_eq_some_iff.mp hx
   simp only [cG,List.map_cons,List.map_nil,Option.join]
   k_data
   refine⟨⟨rfl,True.intro⟩,_,rfl,_,rfl,?_⟩
   rw [List.take_add_one,hr',List.map_append,List.map_append]
   rfl
  rintro ys H2 al ⟨rfl,rfl⟩ hal
  have e5:((rs.take (rs.map V.int).length).map (·+p))=rs.map (·+p):=by rw [rlm,List.take_length]
  rw [e5]
  have sl:=ak (o:=.lst ((rs.map (·+p)).map V.int)) hal
  have elp:upd H2 al (.lst ((rs.map (·+p)).map V.int)) al=some (.lst ((rs.map (·+p)).map V.int)):=ag
  generalize upd H2 al _=Hl at *
  have S4:=S3.trans sl
  refine⟨by show 2<=sizeLine;decide,λa2 ha2=>?_⟩
  have s2:=ak (o:=.lst [V.ref ar,V.ref al]) ha2
  have e2:upd Hl a2 (.lst [V.ref ar,V.ref al]) a2=some (.lst [V.ref ar,V.ref al]):=ag
  generalize upd Hl a2 _=Hm at *
  have S5:=S4.trans s2
  refine bW (aS.of e2) (by omega) (by show way-8<2;omega) λvf hvf=>?_
  obtain⟨lv,ms,rfl,hlv,lm,mb⟩:∃(lv:Addr) (ms:List Int),vf=V.ref lv/\Hm lv=some (.lst (ms.map V.int))/\ms.length=rs.length/\∀ y∈ms,-1000<=y/\y<=1000:=by
   simp only [List.mem_cons,List.not_mem_nil,or_false] at hvf
   rcases hvf with rfl | rfl
   ·exact⟨ar,rs.reverse,rfl,s2 _ _ (sl _ _ er),List.length_reverse,λy hy=>by have:=rb y (List.mem_reverse.mp hy);omega⟩
   ·refine⟨al,rs.map (·+p),rfl,s2 _ _ elp,List.length_map ..,λy hy=>?_⟩
    obtain⟨r,hr',rfl⟩:=List.mem_map.mp hy
    have:=rb r hr'
    show -1000<=r+p/\r+p<=1000
    omega
  refine cY (tU6.same S5) mU ?_
  refine bW (aS.of hlv) (by decide) (by rw [List.length_map,lm];omega) λvy hvy=>?_
  obtain⟨y,hy,rfl⟩:=List.mem_map.mp hvy
  have yb:=mb y hy
  refine cY (tU6.same S5) (show oP [y0,y1,y2] 2=some y2 from rfl) ?_
  have g6:=gU6.same S5
  have gy0:GZ K 0 Hm y0:=g6.all _ (by simp)
  have gy2:GZ K 0 Hm y2:=g6.all _ (by simp)
  refine⟨by show 3<=sizeLine;decide,λaq haq=>?_⟩
  have sq:=ak (o:=.tup [y0,V.int y,y2]) haq
  have gq:GZ K 1 (upd Hm aq (.tup [y0,V.int y,y2])) (.ref aq):=.tup (aL.of ag) (by show 3<=54;decide) (.cons (gy0.same sq) (.cons (zi _ _ (by omega) (by omega)) (.cons (gy2.same sq) .nil)))
  have gl:GZ K 1 (upd Hm aq (.tup [y0,V.int y,y2])) (.ref lv):=.lst (sq _ _ hlv) (by rw [List.length_map];omega) (nK mb)
  generalize upd Hm aq _=Hq at *
  exact gpair _ _ _ gl.up gq.up _ λar' _ gr sr'=>finS _ _ (S5.trans (sq.trans sr')) gr
 rintro σ' H8 ⟨rfl,s8⟩
 refine⟨λσ' H'=>zD H6 [some (V.ref t),some (V.int p),some (V.ref pd),some (V.ref l1),some (V.ref ps),some (V.int (1+re)),some (V.ref fl),some (V.int way),none,none,none] σ' H',?_,?_⟩
 ·k_data
  refine aJ (λ_=>?_) (λ_=>⟨rfl,s8⟩)
  refine⟨by show 0<=sizeLine;decide,λae hae=>?_⟩
  have sa:=ak (o:=.lst []) hae
  have S1:=s8.trans sa
  refine fz (bs:=rs) (cs:=[]) (aS.of (S1 _ _ el6)) (aS.of ag) ⟨_,rfl,?_⟩
  generalize upd H8 ae _=Ha at *
  refine aJ (λzr=>?_) (λ_=>⟨rfl,S1⟩)
  have rne:1<=rs.length:=by
   cases rs with
   | nil=>exact absurd zr (by decide)
   | cons x xs=>simp
  have ela:=S1 _ _ el6
  have ta:=t15.same S1
  refine cp (aS.of ela) ⟨_,rfl,uh (by decide),Bd.of (by omega) (by rw [rlm];omega),?_⟩
  rw [rlm]
  refine⟨t,cc,_,n+4,rfl,ta,by omega,by omega,by omega,λrx Hb x0 x1 ob tb=>?_⟩
  have elb:=ob.bJ.kp ta.tp _ _ ela
  refine cp (aS.of elb) ⟨_,rfl,rx,rfl,by omega,?_⟩
  rw [rlm]
  have k0':=Int.emod_nonneg rx (show (rs.length:Int)+1≠0 by omega)
  have k1':=Int.emod_lt_of_pos rx (show 0<(rs.length:Int)+1 by omega)
  obtain⟨j,hj,jl⟩:=uT (m:=rs.length) (k:=rx%((rs.length:Int)+1)-1) (by omega) (by omega) rne
  have hj':qP (rs.map V.int).length (rx%((rs.length:Int)+1)-1)=some j:=by rw [rlm];exact hj
  have hat:(rs.map V.int)[j]?=some (V.int rs[j]):=by rw [List.getElem?_map,List.getElem?_eq_getElem jl];rfl
  have rj:=rb rs[j] (List.getElem_mem jl)
  refine⟨l1,_,_,_,rfl,rfl,aS.of elb,by unfold oP;rw [hj'];exact hat,?_⟩
  refine⟨by show 4<=sizeLine;decide,λa4 ha4=>?_⟩
  have s4:=ak (o:=.lst [V.int 1,V.int 1,V.int 2,V.int (-1)]) ha4
  have e4:upd Hb a4 (.lst [V.int 1,V.int 1,V.int 2,V.int (-1)]) a4=some (.lst [V.int 1,V.int 1,V.int 2,V.int (-1)]):=ag
  generalize upd Hb a4 _=Hc at *
  have tc:=tb.same s4
  refine⟨t,cc,4,n+5,rfl,tc,by omega,by decide,by decide,λr5 Hd r50 r51 od td=>?_⟩
  have eld:=od.bJ.kp tc.tp _ _ (s4 _ _ elb)
  refine bW (aS.of (od.bJ.kp tc.tp _ _ e4)) r50 (by show r5<4;exact r51) λvm hvm=>?_
  obtain⟨m,rfl,ma,mb⟩:∃ m:Int,vm=V.int m /\ -1<=m/\m<=2:=by
   simp only [List.mem_cons,List.not_mem_nil,or_false] at hvm
   rcases hvm with rfl | rfl | rfl | rfl<;>exact⟨_,rfl,by decide,by decide⟩
  have pm1:-1*p<=p*m/\p*m<=2*p:=by
   rcases (by omega:m = -1∨m=0∨m=1∨m=2) with rfl | rfl | rfl | rfl<;>omega
  refine⟨m,rfl,Bd.of (by omega) (by omega),Bd.of (by omega) (by omega),_,rfl,?_⟩
  refine⟨l1,_,_,j,rfl,rfl,eld,hj',?_⟩
  have es:(rs.map V.int).set j (V.int (rs[j]+p*m))=(rs.set j (rs[j]+p*m)).map V.int:=by rw [List.map_set]
  have TD:oW t cc (n+6) (upd Hd l1 (.lst ((rs.map V.int).set j (V.int (rs[j]+p*m))))):=td.upd ls0.1 ls0.2
  have OD':bN t H (upd Hd l1 (.lst ((rs.map V.int).set j (V.int (rs[j]+p*m))))):=bN.upd (((O6.trans (bN.of S1)).trans ob.bJ).trans ((bN.of s4).trans od.bJ)) hl0
  have el9:upd Hd l1 (.lst ((rs.map V.int).set j (V.int (rs[j]+p*m)))) l1=some (.lst ((rs.set j (rs[j]+p*m)).map V.int)):=by rw [ag,es]
  generalize upd Hd l1 _=He at *
  have gl:GZ K 1 He (.ref l1):=.lst el9 (by rw [List.length_map,List.length_set];omega) (nK λy hy=>by
   rcases List.mem_or_eq_of_mem_set hy with z | z
   ·have:=rb y z;omega
   ·omega)
  have gs9:GZ K 1 He (.ref ps):=.tup (OD'.kt tp _ _ tU) (by omega) (cH.bJ gus OD' tp)
  exact gpair _ _ _ gl.up gs9.up _ λar' _ gr sr'=>q _ _ (OD'.trans (bN.of sr')) ((TD.tp.same sr').mono (by omega)) gr
 rintro σ' H9 ⟨rfl,s9⟩
 have finO:∀(J J':Hp) (x:V) (m:Nat),bN t H6 J->Tp t m J->m<=n+20->aG J J'->GZ K 3 J' x->Q x J':=λJ J' x m oJ tJ hm sJ gx=>q x J' ((O6.trans oJ).trans (bN.of sJ)) ((tJ.same sJ).mono hm) gx
 refine⟨λσ' H'=>zD H6 [some (V.ref t),some (V.int p),some (V.ref pd),some (V.ref l1),some (V.ref ps),some (V.int (1+re)),some (V.ref fl),some (V.int way),none,none,none] σ' H',?_,?_⟩
 ·k_data
  refine aJ (λ_=>?_) (λ_=>⟨rfl,s9⟩)
  have ta:=t15.tp.same s9
  refine⟨t,l1,n+4,0,_,rfl,ta,by omega,s9 _ _ el6,gR _,by omega,λx Hb ob tb gx=>?_⟩
  have gsb:=GZ.bJ (gshown _ s9) ob ta
  exact gpair _ _ _ gx.up gsb.up _ λar' _ gr sr'=>finO Hb _ _ _ ((bN.of s9).trans ob) tb (by omega) sr' gr
 rintro σ' HA ⟨rfl,sA⟩
 refine⟨λσ' H'=>zD H6 [some (V.ref t),some (V.int p),some (V.ref pd),some (V.ref l1),some (V.ref ps),some (V.int (1+re)),some (V.ref fl),some (V.int way),none,none,none] σ' H',?_,?_⟩
 ·k_data
  refine aJ (λ_=>?_) (λ_=>⟨rfl,sA⟩)
  have ta:=t15.tp.same sA
  refine⟨t,ps,n+4,0,us,rfl,ta,by omega,tU6.same sA,gU6.same sA,by omega,λx Hb ob tb gx=>?_⟩
  have gsb:=GZ.bJ (gfound _ sA) ob ta
  exact gpair _ _ _ gsb.up gx.up _ λar' _ gr sr'=>finO Hb _ _ _ ((bN.of sA).trans ob) tb (by omega) sr' gr
 rintro σ' HB ⟨rfl,sB⟩
 refine⟨λσ' H'=>zD H6 [some (V.ref t),some (V.int p),some (V.ref pd),some (V.ref l1),some (V.ref ps),some (V.int (1+re)),some (V.ref fl),some (V.int way),none,none,none] σ' H',?_,?_⟩
 ·k_data
  refine aJ (λ_=>?_) (λ_=>⟨rfl,sB⟩)
  have ta:=t15.same sB
  refine⟨t,cc,8,n+4,rfl,ta,by omega,by decide,by decide,λr8 Hb r80 r81 ob tb=>?_⟩
  refine bW (aS.of (ob.bJ.kp ta.tp _ _ (sB _ _ ef6))) r80 (by rw [lF];exact r81) λx hx=>?_
  have gx:GZ K 2 Hb x:=(cH.bJ (gF6.same sB) ob.bJ ta.tp).all x hx
  have gsb:=GZ.bJ (gfound _ sB) ob.bJ ta.tp
  exact gpair _ _ _ gsb.up gx _ λar' _ gr sr'=>finO Hb _ _ _ ((bN.of sB).trans ob.bJ) tb.tp (by omega) sr' gr
 rintro σ' HC ⟨rfl,sC⟩
 refine⟨λσ' H'=>zD H6 [some (V.ref t),some (V.int p),some (V.ref pd),some (V.ref l1),some (V.ref ps),some (V.int (1+re)),some (V.ref fl),some (V.int way),none,none,none] σ' H',?_,?_⟩
 ·k_data
  refine aJ (λ_=>?_) (λ_=>⟨rfl,sC⟩)
  refine⟨by show 0<=sizeLine;decide,λae hae=>?_⟩
  have sa:=ak (o:=.lst []) hae
  have ge:GZ K 1 (upd HC ae (.lst [])) (.ref ae):=.lst ag (by decide) .nil
  generalize upd HC ae _=Ha at *
  have S1:=sC.trans sa
  have ta:=t15.same S1
  refine⟨t,cc,8,n+4,rfl,ta,by omega,by decide,by decide,λr8 Hb r80 r81 ob tb=>?_⟩
  refine bW (aS.of (ob.bJ.kp ta.tp _ _ (S1 _ _ ef6))) r80 (by rw [lF];exact r81) λx hx=>?_
  have gx:GZ K 2 Hb x:=(cH.bJ (gF6.same S1) ob.bJ ta.tp).all x hx
  have gsb:=GZ.bJ ge ob.bJ ta.tp
  exact gpair _ _ _ gsb.up gx _ λar' _ gr sr'=>finO Hb _ _ _ ((bN.of S1).trans ob.bJ) tb.tp (by omega) sr' gr
 rintro σ' HD ⟨rfl,sD⟩
 k_data
 have tD6:aL K HD pd [.ref l,.ref ps]:=(O6.kt tp _ _ tD).same sD
 have gl6:GZ K 1 HD (.ref l):=.lst (sD _ _ (O6.kp tp _ _ hl)) (by omega) (gR _)
 have gD:cH K 1 HD [.ref l,.ref ps]:=.cons gl6 (.cons (gshown _ sD) .nil)
 refine aJ (λ_=>?_) (λ_=>finS _ _ sD (GZ.tup tD6 (by show 2<=54;decide) gD).up)
 have ta:=t15.tp.same sD
 exact⟨t,pd,n+4,1,_,rfl,ta,by omega,tD6,gD,by show 2<=53;decide,λx Hb ob tb gx=>finO Hb _ _ _ ((bN.of sD).trans ob) tb (by omega) (aG.refl _) gx.up⟩
end
end K
namespace L2
open PySem PySem.Spec PyProof.Rows
theorem xP {X:Cx}:gu X (compareOp .IsNot) (λx y H Q=>∃ b c:Bool,x=.bl b/\y=.bl c/\Q (.bl (b != c)) H):=by
 intro pins s σ H x y v u Q I rx ry h
 obtain⟨b,c,rfl,rfl,q⟩:=h
 cases rx
 cases ry
 exact PyProof.Rows.isnot_bool (bj I q rfl)
end L2
namespace K
open PySem PySem.Spec PyProof.Rows L2
section
variable {P:Program} {w:World} {K:PySem.W.Frag} {mg:Str->Option Value} {base:Heap} {C:Addr}
theorem BH:Num.Pm 53:=⟨by decide,λd d2 dl hd=>by
 obtain⟨k,rfl⟩:∃ k:Nat,d=k:=⟨d.toNat,by omega⟩
 have h:∀ k:Nat,k<53->2<=k->53%k≠0:=by decide +kernel
 exact h k (by omega) (by omega) (Nat.mod_eq_zero_of_dvd (Int.natCast_dvd_natCast.mp hd))⟩
theorem ye {p g:Int} {ps:List (Int × Int)} {ds:Nat->PyData} (pap:Num.hW p (.tuple [.int p,.int g,.tuple (Num.rowsOf ps ds)])) (hg:Num.LF p g) (hP:Num.Part (p-1) ps) (l:ps.length<=29) (hds:∀ i q k,ps[i]?=some (q,k)->Num.hW q (ds i)):zG p g ps ds:=by
 obtain⟨pm,p9⟩:=lg pap
 exact⟨pm,p9,hP,l,hds,hg.one,hg.lt,hg.ord,Ah pap,Nat.le_trans (fZ pap) (by decide)⟩
def DA (H3:Hp) (sc t:Addr) (p k a:Int) (vp:V) (rl pd:Addr) (i:Nat) (σ':L2.St) (H':Hp):Prop:=∃(o8 o9 o10 o11 o12 o13:Option V),σ'=[some (.ref sc),some (.ref t),some (.int p),some vp,some (.int k),some (.int a),some (.ref rl),some (.ref pd),o8,o9,o10,o11,o12,o13]/\bN t H3 H'/\Tp t (40+200*i) H'
def DB (H3:Hp) (s0:L2.St) (j:Nat) (σ':L2.St) (H':Hp):Prop:=∃(o12:Option V),σ'=s0.set 12 o12/\aG H3 H'
theorem vW:aE ["_law_script","_law_tape_here","_law_p","_law_paper","_law_k_here","_law_a","_law_right","_law_due_here","_law_turn_here","_law_thing_here","_law_good","_law_kept","_law_again","_law_bent"] ["_law_script"] (au (top 67)):=dI
theorem Ac {fl:Addr} {fdl:FuncData} (F:wB K "law" "law" (top 67) fl fdl) (c__law_tape:Callee P w K mg base aT 1 "_law_tape" ["_law_script"] (v7 K)) (c__law_draw:Callee P w K mg base aT 1 "_law_draw" ["_law_tape_here","_law_many"] dO) (c__law_prime:Callee P w K mg base aT 2 "_law_prime" ["_law_n"] oG) (c_prime_paper:Callee P w K mg base (gk P w) 67 "prime_paper" ["n"] (oF K)) (c__law_k:Callee P w K mg base aT 3 "_law_k" ["_law_tape_here","_law_p"] Dq) (c__law_number:Callee P w K mg base aT 2 "_law_number" ["_law_tape_here","_law_p"] rG) (c__law_power:Callee P w K mg base aT 1 "_law_power" ["_law_n","_law_a","_law_e"] mI) (c__law_due:Callee P w K mg base aT 3 "_law_due" ["_law_tape_here","_law_p","_law_k_here","_law_a"] (vX K)) (c__law_thing:Callee P w K mg base aT 4 "_law_thing" ["_law_tape_here","_law_p","_law_due_here"] (rK K)) (c__law_shown:Callee P w K mg base aT 11 "_law_shown" ["_law_found","_law_p","_law_k_here","_law_a","_law_due_here"] (rE K)) (c_shows_roots:Callee P w K mg base aT 17 "shows_roots" ["paper","k","a","thing"] (lA K)) (c_shows_rootsB:Callee P w K mg base aT 17 "shows_roots" ["paper","k","a","thing"] (lz K)) (c__law_bent_paper:Callee P w K mg base aT 33 "_law_bent_paper" ["_law_tape_here","_law_paper"] (jj K)) (c__law_same:Callee P w K mg base aT 10 "_law_same" ["_law_found","_law_due_here"] (fh K 9)) (n_range:mg "range"=none) (n_repr:mg "repr"=none):dJ P w K mg base aT 68 fl fdl ["_law_script"] (y7 K):=by
 refine w6 F vW (λvs H Q E h=>by obtain⟨a,b,rfl,_⟩:=h;rfl) (λcdv A outer s H vs Q E hr h=>?_)
 obtain⟨sc,ns,rfl,hS,h63,q⟩:=h
 have nd:=vW.nd
 refine⟨_,(aj (dc (i:=1) nd (bT c__law_tape hr az (aa (pv 0) af))) (aj (bF (i:=2) nd rfl (Or.inr rfl) (bT c__law_prime hr az (aa (av bf ah (bT c__law_draw hr az (aa (pv 1) (aa ah af)))) af))) (aj (dc (i:=3) nd (bT c_prime_paper hr cQ (aa (pv 2) af))) (aj (bF (i:=4) nd rfl (Or.inr rfl) (bT c__law_k hr az (aa (pv 1) (aa (pv 2) af)))) (aj (bF (i:=5) nd rfl (Or.inr rfl) (bT c__law_number hr az (aa (pv 1) (aa (pv 2) af)))) (aj (mx (i0:=6) nd rfl (Or.inl rfl) rfl (oQ (N':=["_law_x","_law_p","_law_k_here","_law_a"]) (js:=[none,some 2,some 4,some 5]) rfl rfl) (gf rfl n_range (aa (pv 2) af)) (λ_ _ _ _=>(aI (i:=0) (show List.Nodup [("_law_x":Str),("_law_p":Str),("_law_k_here":Str),("_law_a":Str)] from by decide +kernel) rfl (Or.inl rfl) (.inr rfl))) (λ_ _ _ _=>(iA (aw bp (bT c__law_power hr az (aa (pv 1) (aa (pv 0) (aa (pv 2) af)))) (av aO (pv 3) (pv 1)) (ax _)))) (λ_ _ _ _=>(pv 0)) (by rfl) (by first | exact .inl rfl | exact .inr rfl)) (aj (dc (i:=7) nd (bT c__law_due hr az (aa (pv 1) (aa (pv 2) (aa (pv 4) (aa (pv 5) af)))))) (aj (mw PassesOwn.never rfl (gf rfl n_range (aa ah af)) (aI (i:=8) nd rfl (Or.inl rfl) (.inr rfl)) (aj (dc (i:=9) nd (bT c__law_thing hr az (aa (pv 1) (aa (pv 2) (aa (pv 7) af))))) (aj (dc (i:=10) nd (bT c__law_shown hr az (aa (pv 9) (aa (pv 2) (aa (pv 4) (aa (pv 5) (aa (pv 6) af))))))) (aj (dc (i:=11) nd (aB (kO hr.gs hr.units) rfl n_repr L2.boot_repr (aa (pv 9) af))) (aj (mw PassesOwn.never rfl (gf rfl n_range (aa ah af)) (aI (i:=12) nd rfl (Or.inl rfl) (.inr rfl)) (ao (aQ (PW.pt (eS (cI (aR (bT c__law_same hr az (aa (bT c_shows_roots hr az (aa (pv 3) (aa (pv 4) (aa (pv 5) (aa (pv 9) af))))) (aa (pv 10) af))) (λ_=>rfl))) (ff (aw iy (aB (kO hr.gs hr.units) rfl n_repr L2.boot_repr (aa (pv 9) af)) (pv 11) (ax _))))) (ao (ay cD)) aF))) (ao (aQ (aw bp (bT c__law_draw hr az (aa (pv 1) (aa ah af))) ah (ax _)) (aj (dc (i:=13) nd (bT c__law_bent_paper hr az (aa (pv 1) (aa (pv 3) af)))) (ao (aQ (aw xP (bT c_shows_rootsB hr az (aa (pv 13) (aa (pv 4) (aa (pv 5) (aa (pv 7) af))))) cD (ax _)) (ao (ay cD)) aF))) aF))))))) (ao (ay cD)))))))))),?_⟩
 show bZ _ _ _ [some (.ref sc),none,none,none,none,none,none,none,none,none,none,none,none,none] H
 k_data
 refine⟨sc,ns,rfl,hS,h63,λt H1 s1 f1 t1=>⟨t,48,0,rfl,t1,by decide,by decide,by decide,λr H2 r0 r1 o2 t2=>⟨_,rfl,2+r,53,rfl,by omega,by omega,BH,by decide,λp pm pn p9 _=>⟨p,rfl,pm,by omega,λd vp H3 pap s3 hv=>?_⟩⟩⟩⟩
 obtain⟨g,ps,ds,rfl,hg,hP,l29,hds⟩:=jC pap
 have R:=ye pap hg hP l29 hds
 have p2:=pm.two
 have t3:=t2.same s3
 refine⟨t,1,p,rfl,t3,by decide,by omega,by omega,λk H4 k0 k1 o4 t4=>?_⟩
 refine⟨t,p,_,rfl,t4,by decide,by omega,by omega,λa H5 a0 a1 O5 t5=>?_⟩
 refine⟨p,rfl,by omega,by omega,?_⟩
 have ep:((p.toNat:Nat):Int)=p:=Int.toNat_of_nonneg (by omega)
 refine fw (λj ys H'=>H'=H5/\ys=(bU p k a j).map V.int) ⟨rfl,rfl⟩ (Nat.le_trans (show p.toNat<=71 by omega) (by decide)) (λj ys H' _ h=>by rw [h.2,List.length_map];exact lQ) ?_ ?_
 ·rintro j ys H7 hj ⟨rfl,rfl⟩
  have dsu:bU p k a (j+1)=bU p k a j++(if ((j:Nat):Int)^k.toNat%p=a%p then [((j:Nat):Int)] else []):=by
   unfold bU
   rw [List.range_succ,List.map_append,List.filter_append]
   congr 1
   simp only [List.map_cons,List.map_nil]
   split
   ·rename_i h;rw [List.filter_cons_of_pos (by simpa using h)];rfl
   ·rename_i h;rw [List.filter_cons_of_neg (by simpa using h)];rfl
  rw [Int.zero_add]
  simp only [cG,List.map_cons,List.map_nil,Option.join]
  k_data
  refine⟨⟨rfl,rfl,rfl,True.intro⟩,_,rfl,_,rfl,p,j,k,rfl,by omega,by omega,by omega,by omega,by omega,_,rfl,_,rfl,a,rfl,p,rfl,by omega,rfl,?_⟩
  rw [dsu]
  refine aJ (λc=>⟨rfl,?_⟩) (λc=>⟨rfl,?_⟩)
  ·rw [if_pos (V.int.inj c),List.map_append];rfl
  ·rw [if_neg (λz=>c (by rw [z])),List.append_nil]
 rintro ys H7 dl ⟨rfl,rfl⟩ hdl
 have s8:=ak (o:=.lst ((bU p k a p.toNat).map V.int)) hdl
 have e8:upd H7 dl (.lst ((bU p k a p.toNat).map V.int)) dl=some (.lst ((bU p k a p.toNat).map V.int)):=ag
 generalize upd H7 dl (.lst ((bU p k a p.toNat).map V.int))=H8 at *
 have t8:=t5.same s8
 have O8:bN t H3 H8:=(o4.bJ.trans O5).trans (bN.of s8)
 refine⟨t,_,p,k,a,g,rfl,t8,by decide,pm,by omega,R.o,by omega,by omega,a0,a1,λpd l u rs sh H9 T O9 t9 tD hl hu=>?_⟩
 have O9':=O8.trans O9
 have hv9:=dv.bJ hv O9' t3
 have e9:=O9.kp t8 _ _ e8
 refine jR (λi σ' H'=>DA H9 sc t p k a vp dl pd i σ' H') ⟨_,_,_,_,_,_,rfl,bN.of (aG.refl _),t9.mono (by decide)⟩ ?_ ?_
 ·rintro i σ' HA hi ⟨o8,o9,o10,o11,o12,o13,rfl,OA,tA⟩
  have hi8:i<8:=by simpa using hi
  k_data
  refine⟨t,pd,l,_,p,k,a,u,rs,sh,rfl,tA,by omega,pm,by omega,by omega,OA.kt t9 _ _ tD,OA.kp t9 _ _ hl,dv.bJ hu OA t9,T,λx HB OB tB gx=>?_⟩
  obtain⟨dx,hx,zx⟩:=gx
  have OB':=OA.trans OB
  refine⟨x,dl,p,g,k,a,dx,rfl,hx.dv,zx.gd,OB'.kp t9 _ _ e9,pm,by omega,R.o,by omega,by omega,a0,a1,λbg HC hbg sC=>?_⟩
  have hxC:=hx.same sC
  have tC:=tB.same sC
  refine gz.repr (by decide) hxC.dv zx ?_
  have hvC:=dv.bJ hv9 (OB'.trans (bN.of sC)) t9
  refine jR (n:=2) (λj σ' H'=>DB HC [some (.ref sc),some (.ref t),some (.int p),some vp,some (.int k),some (.int a),some (.ref dl),some (.ref pd),some (.int (i:Int)),some x,some (.bl bg),some (.str dx.shown),none,o13] j σ' H') ⟨_,rfl,aG.refl _⟩ ?_ ?_
  ·rintro j σ' HD hj ⟨o12',rfl,sD⟩
   dsimp only [List.set]
   k_data
   refine⟨vp,x,p,g,k,a,ps,ds,dx,rfl,dv.same sD _ hvC,R,by omega,by omega,by omega,hxC.same sD,zx.gd,λbb HE hbb sE=>?_⟩
   refine⟨.bl bb,.bl bg,.bool bb,.bool bg,rfl,rfl,rfl,rfl,rfl,by simp only [sT],λb3 HF hb3 sF=>⟨b3,aK.mpr rfl,?_⟩⟩
   have e12:bb=bg:=by rw [Bool.eq_iff_iff,hbb,hbg]
   have h3:b3=true:=hb3.mpr (by rw [e12])
   subst h3
   have S:=sD.trans (sE.trans sF)
   rw [if_neg (by decide)]
   refine gz.repr (by decide) (hxC.same S).dv zx ⟨rfl,?_⟩
   rw [if_neg (by simp)]
   exact⟨_,rfl,S⟩
  ·rintro σ' HD ⟨o12',rfl,sD⟩
   dsimp only [List.set]
   k_data
   have tD':=tC.same sD
   have OD:=OB'.trans (bN.of (sC.trans sD))
   refine⟨t,4,_,rfl,tD',by omega,by decide,by decide,λr4 HE r40 r41 oE tE=>⟨rfl,?_⟩⟩
   have OE:=OD.trans oE.bJ
   refine aJ (λ_=>?_) (λ_=>⟨_,_,_,_,_,_,rfl,OE,tE.mono (by omega)⟩)
   refine⟨t,_,vp,p,_,rfl,tE,by omega,dv.bJ hv9 OE t9,pap,λy HF np OF tF=>?_⟩
   obtain⟨d',hd',gd',sz',np'⟩:=np
   have szp:=fZ pap
   refine⟨y,.ref pd,d',k,a,rfl,hd',yK _ gd',by omega,np',λHG sG=>⟨false,rfl,?_⟩⟩
   exact⟨_,_,_,_,_,_,rfl,(OE.trans OF).trans (bN.of sG),(tF.same sG).mono (by omega)⟩
 ·rintro σ' HA ⟨o8,o9,o10,o11,o12,o13,rfl,OA,tA⟩
  k_data
  exact q _
end
end K
namespace PySem.W.Fast
def tw11871025284270386114:=0
def tw12414010907439759360:=0
def tw5288419328114762848:=0
def tw12210731000234800224:=0
def tw6188132642465327264:=0
def tw2072698056851849472:=0
def tw1980712539128093952:=0
def tw2026917080859385280:=0
def tw1814952458936729120:=0
def tw15863795817109344000:=0
def tw17806637089542738784:=0
def tw9465960719321431968:=0
def tw18304191668882360449:=0
def tw2176656901078922401:=0
def tw10649102499529632065:=0
def tw6939798815569082721:=0
def tw2981032318400305537:=0
def tw10992369403222215233:=0
def tw3575675750525675105:=0
def tw15559667903131113185:=0
def tw2849462227076972770:=0
def tw13266354190925081826:=0
def tw15652860003872392450:=0
def tw615326898118706530:=0
def tw443271586112772546:=0
def tw17158640975150254786:=0
def tw14464632010432051042:=0
def tw16963545823386271714:=0
def tw15822362642621268035:=0
def tw151190560775641219:=0
def tw8958336772721702435:=0
def tw13345908129324232259:=0
def tw806351289521213091:=0
def tw13913207623657090755:=0
def tw10603258718813282083:=0
def tw6761223996751872835:=0
def tw12564825311711937411:=0
def tw18210567461551342692:=0
def tw8731319331066875012:=0
def tw9384482073305293988:=0
def tw15299649443682795684:=0
def tw6006456958658060484:=0
def tw6408133221023379780:=0
def tw17535108909501883012:=0
def tw8576310985787851396:=0
def tw2599605674078252708:=0
def tw17275703536489947908:=0
def tw10951752312422033284:=0
def tw8826053468047387813:=0
def tw5563939068826124549:=0
def tw8851844068483847557:=0
def tw14434551371535054565:=0
def tw10610822348486511429:=0
def tw12950598175992998757:=0
def tw673772380923026309:=0
def tw6055916556187586469:=0
def tw2581748357574822918:=0
def tw1657628594154516486:=0
def tw12584008982668739782:=0
def tw2454828556270578182:=0
def tw10803536681787318950:=0
def tw15152138720138007238:=0
def tw14067113269390025414:=0
def tw3235965095096186694:=0
def tw12676025528457260135:=0
def tw14195939055450402023:=0
def tw9621492743842351399:=0
def tw16907788809150038631:=0
def tw279853786208372423:=0
def tw6032115417143759591:=0
def tw1498572595454084903:=0
def tw12920407142737817479:=0
def tw13355089681596964904:=0
def tw4843545632643951688:=0
def tw220141986614895688:=0
def tw2617964984103800968:=0
def tw18422045355357111464:=0
def tw3207560623984557320:=0
def tw8380899908788713800:=0
def tw14392833366967673192:=0
def tw9483379845261077160:=0
def tw2591470540114002632:=0
def tw4073777155367463848:=0
def tw1344329434410868680:=0
def tw4045001602679374857:=0
def tw3785569797179007049:=0
def tw10025346842542594313:=0
def tw7523948782747227657:=0
def tw10216824342898252329:=0
def tw943947934108841673:=0
def tw9749060516618361769:=0
def tw2787101770567189642:=0
def tw1024104453190546570:=0
def tw16147193246629708394:=0
def tw5266701923576237706:=0
def tw2194351647113106122:=0
def tw11835514995792685834:=0
def tw17975919682351077162:=0
def tw9480448038560066795:=0
def tw9220418418051422891:=0
def tw949881174518762315:=0
def tw18146245665920633803:=0
def tw10670859462290818027:=0
def tw3816723609803633868:=0
def tw11803076669182004428:=0
def tw1210891562441957868:=0
def tw15766535500888444588:=0
def tw15182256355865139180:=0
def tw14178697132038464749:=0
def tw17670463867558590701:=0
def tw15680385074548575725:=0
def tw13100301832081150765:=0
def tw15785184535561133326:=0
def tw3235524736708584750:=0
def tw8571207966156626350:=0
def tw17173513838068568718:=0
def tw11158136327162512078:=0
def tw18154259913455089486:=0
def tw2679059196867798958:=0
def tw6386796363459786863:=0
def tw16942619211743141359:=0
def tw16567600722998282895:=0
def tw1763040717604918127:=0
def tw17706537933501248399:=0
def tw5497749959765755855:=0
def tw10910928368256527504:=0
def tw40539537314035024:=0
def tw17839340230429463088:=0
def tw9791396466979766864:=0
def tw2147335867606252144:=0
def tw10616490044716521104:=0
def tw3261561443966795408:=0
def tw7996998042666095248:=0
def tw6471689592532073200:=0
def tw5040775990670349072:=0
def tw13215422740799823728:=0
def tw4396817385259515856:=0
def tw4689587682750575600:=0
def tw15900932598670463121:=0
def tw13388566859256579345:=0
def tw2383674097360232817:=0
def tw147856407902050705:=0
def tw3331877485451901425:=0
def tw211187603059304177:=0
def tw1281508314458024721:=0
def tw8164138727187917713:=0
def tw1876097275377045586:=0
def tw7804696761329701970:=0
def tw6997677708551652498:=0
def tw2127427668590869714:=0
def tw16311780760677759442:=0
def tw5473626827388826258:=0
def tw13989685200583095954:=0
def tw3747053122050694834:=0
def tw14147917990214798098:=0
def tw12401781022876518194:=0
def tw7497072160121286514:=0
def tw5127042491590568882:=0
def tw7345220037844637811:=0
def tw18152708453391675699:=0
def tw16723094998093540979:=0
def tw2519387898027418259:=0
def tw866342183547390707:=0
def tw14277278796733318260:=0
def tw2842824102470283508:=0
def tw17940855745206877556:=0
def tw17791503418624017908:=0
def tw11514592394017684533:=0
def tw2727562604132438101:=0
def tw6571155107881449557:=0
def tw17819791189807832181:=0
def tw18101351978658748597:=0
def tw9877708146995844405:=0
def tw8720190179117469077:=0
def tw12180233565080544661:=0
def tw2943670937029340597:=0
def tw1157515276254572981:=0
def tw17978993396380885525:=0
def tw13876316904689690133:=0
def tw3330830577439827733:=0
def tw3926729771606302774:=0
def tw1585374746490521686:=0
def tw92001949183464694:=0
def tw1140021033386434038:=0
def tw11300220055903360534:=0
def tw5825141021971786486:=0
def tw7073642815120475958:=0
def tw1786799929752076118:=0
def tw3617245570384017366:=0
def tw12505778970134195607:=0
def tw2017795312731631095:=0
def tw9477662805847561879:=0
def tw13658479353013587703:=0
def tw14310603992938279671:=0
def tw16889267275483130743:=0
def tw916814354207745943:=0
def tw8596871200530882551:=0
def tw17620600385973208312:=0
def tw6357384718084822328:=0
def tw14341907396046388568:=0
def tw10886999947250486648:=0
def tw7672382316344746520:=0
def tw10148760815668038200:=0
def tw5650732783578064568:=0
def tw14047650206475239096:=0
def tw9674402474010610584:=0
def tw17915430042520368217:=0
def tw5661199216687141049:=0
def tw11353050120832684473:=0
def tw13005788194713746905:=0
def tw6321308610398361081:=0
def tw10335415139034767993:=0
def tw9970945879617027833:=0
def tw12299550153205836633:=0
def tw9711634858759281529:=0
def tw3689386262748941209:=0
def tw18253249561394735033:=0
def tw10179700374867284985:=0
def tw16806396442152086682:=0
def tw6673351896899770:=0
def tw17921293647025286330:=0
def tw11094790334562972890:=0
def tw4503183545813229082:=0
def tw6904412332758219259:=0
def tw3948849570718072411:=0
def tw18185709777004961435:=0
def tw636358378804634299:=0
def tw17524463117942242171:=0
def tw5421004571625681787:=0
def tw12645608139378347963:=0
def tw11333610589766180827:=0
def tw417134898434637308:=0
def tw5180753463214718588:=0
def tw11470852686671335260:=0
def tw13847403166382414812:=0
def tw16545666293610982589:=0
def tw5044097461845887325:=0
def tw12098678095583786365:=0
def tw5877591773310488093:=0
def tw7163993308091899485:=0
def tw2098007365652753053:=0
def tw9214085015374482269:=0
def tw7889964130827985821:=0
def tw14144476280731939773:=0
def tw15677106716533472189:=0
def tw6798479704787568734:=0
def tw12236273490282671390:=0
def tw2063204621677996350:=0
def tw744078207977989470:=0
def tw14704261243846987230:=0
def tw10125864124144655902:=0
def tw16013896142818796062:=0
def tw12447335518078063262:=0
def tw7659444136404232894:=0
def tw5819982770460589790:=0
def tw15524948525580585758:=0
def tw16102693590602597439:=0
def tw15843088233929514143:=0
def tw12409969564713049247:=0
def tw4785310421948845247:=0
def tw17039763253949081823:=0
def tw17291801483628767583:=0
def tw10243063955847946879:=0
def tw7426198288851057503:=0
def tw16519130008870474623:=0
end PySem.W.Fast
namespace K
open PySem PySem.Spec PyProof.Rows L2
theorem sI:lG "TooFar.__init__" "part" "part" (inClass (top 3) 0):=⟨⟨rfl,rfl,rfl,by decide +kernel,rfl,by decide +kernel,by decide +kernel⟩,⟨_,_,_,_,rfl,λ_=>rfl,λ_=>rfl⟩,rfl,rfl,by decide,by decide,λ_ _ _ _ _ _ us hl=>match us,hl with | [_,_],_=>rfl⟩
theorem pK:lG "NoPrime.__init__" "divisor" "divisor" (inClass (top 4) 0):=⟨⟨rfl,rfl,rfl,by decide +kernel,rfl,by decide +kernel,by decide +kernel⟩,⟨_,_,_,_,rfl,λ_=>rfl,λ_=>rfl⟩,rfl,rfl,by decide,by decide,λ_ _ _ _ _ _ us hl=>match us,hl with | [_,_],_=>rfl⟩
theorem lW:lG "NoInverse.__init__" "divisor" "divisor" (inClass (top 5) 0):=⟨⟨rfl,rfl,rfl,by decide +kernel,rfl,by decide +kernel,by decide +kernel⟩,⟨_,_,_,_,rfl,λ_=>rfl,λ_=>rfl⟩,rfl,rfl,by decide,by decide,λ_ _ _ _ _ _ us hl=>match us,hl with | [_,_],_=>rfl⟩
end K
open PySem PySem.W PyProof.Rows L2
set_option maxHeartbeats 0 in
theorem PySem.Challenge.cw_rootprime_k54_whole_only_right_roots_are_holds : PySem.Challenge.rw_rootprime_k54_whole_only_right_roots_are.Holds := by
 w_on;o_law;k_head;(case hw=>w_witness2)
 k_fill
 refine L2.wu (l:=PySem.Challenge.rw_rootprime_k54_whole_only_right_roots_are) (n:=63) (k:=68) (x := "_law_script") (CX:=L2.aT) (sp:=K.y7) rfl (by decide) rfl ⟨rfl,by decide,by decide,rfl⟩ (λw h Y=>PySem.W.kIn_of Y) ?F ?S ?C
 case F =>
  intro w mg fa h KX G hmg
  have d_divisor:L2.aC (L2.dz KX) mg "divisor" (K.top 7):=K.dH KX G
  have d_inverse:L2.aC (L2.dz KX) mg "inverse" (K.top 8):=K.dH KX G
  have d_is_whole:L2.aC (L2.dz KX) mg "is_whole" (K.top 11):=K.dH KX G
  have d_is_tuple_of:L2.aC (L2.dz KX) mg "is_tuple_of" (K.top 12):=K.dH KX G
  have d_is_just:L2.aC (L2.dz KX) mg "is_just" (K.top 13):=K.dH KX G
  have d_are_just:L2.aC (L2.dz KX) mg "are_just" (K.top 14):=K.dH KX G
  have d_product_of:L2.aC (L2.dz KX) mg "product_of" (K.top 15):=K.dH KX G
  have d_primes_in:L2.aC (L2.dz KX) mg "primes_in" (K.top 16):=K.dH KX G
  have d_power:L2.aC (L2.dz KX) mg "power" (K.top 18):=K.dH KX G
  have d_is_least:L2.aC (L2.dz KX) mg "is_least" (K.top 19):=K.dH KX G
  have d_is_prime_paper:L2.aC (L2.dz KX) mg "is_prime_paper" (K.top 21):=K.dH KX G
  have d_is_order:L2.aC (L2.dz KX) mg "is_order" (K.top 22):=K.dH KX G
  have d_are_prime_papers:L2.aC (L2.dz KX) mg "are_prime_papers" (K.top 23):=K.dH KX G
  have d_is_right_above:L2.aC (L2.dz KX) mg "is_right_above" (K.top 24):=K.dH KX G
  have d_is_paper_form:L2.aC (L2.dz KX) mg "is_paper_form" (K.top 25):=K.dH KX G
  have d_come_to:L2.aC (L2.dz KX) mg "come_to" (K.top 26):=K.dH KX G
  have d_is_row_form:L2.aC (L2.dz KX) mg "is_row_form" (K.top 27):=K.dH KX G
  have d_without:L2.aC (L2.dz KX) mg "without" (K.top 28):=K.dH KX G
  have d_shows_roots:L2.aC (L2.dz KX) mg "shows_roots" (K.top 30):=K.dH KX G
  have d_how_many_roots:L2.aC (L2.dz KX) mg "how_many_roots" (K.top 31):=K.dH KX G
  have d_shown_none:L2.aC (L2.dz KX) mg "shown_none" (K.top 32):=K.dH KX G
  have d_are_all_roots:L2.aC (L2.dz KX) mg "are_all_roots" (K.top 33):=K.dH KX G
  have d_are_rising_below:L2.aC (L2.dz KX) mg "are_rising_below" (K.top 34):=K.dH KX G
  have d_is_root:L2.aC (L2.dz KX) mg "is_root" (K.top 35):=K.dH KX G
  have d_is_shown_by:L2.aC (L2.dz KX) mg "is_shown_by" (K.top 36):=K.dH KX G
  have d_least_divisor:L2.aC (L2.dz KX) mg "least_divisor" (K.top 39):=K.dH KX G
  have d_least_divisor_from:L2.aC (L2.dz KX) mg "least_divisor_from" (K.top 40):=K.dH KX G
  have d_parted:L2.aC (L2.dz KX) mg "parted" (K.top 41):=K.dH KX G
  have d_prime_paper:L2.aC (L2.dz KX) mg "prime_paper" (K.top 43):=K.dH KX G
  have d_parting_paper:L2.aC (L2.dz KX) mg "parting_paper" (K.top 44):=K.dH KX G
  have d_least_full:L2.aC (L2.dz KX) mg "least_full" (K.top 45):=K.dH KX G
  have d__law_is_prime:L2.aC (L2.dz KX) mg "_law_is_prime" (K.top 47):=K.dH KX G
  have d__law_prime:L2.aC (L2.dz KX) mg "_law_prime" (K.top 48):=K.dH KX G
  have d__law_tape:L2.aC (L2.dz KX) mg "_law_tape" (K.top 49):=K.dH KX G
  have d__law_draw:L2.aC (L2.dz KX) mg "_law_draw" (K.top 50):=K.dH KX G
  have d__law_far:L2.aC (L2.dz KX) mg "_law_far" (K.top 51):=K.dH KX G
  have d__law_k:L2.aC (L2.dz KX) mg "_law_k" (K.top 52):=K.dH KX G
  have d__law_number:L2.aC (L2.dz KX) mg "_law_number" (K.top 53):=K.dH KX G
  have d__law_power:L2.aC (L2.dz KX) mg "_law_power" (K.top 54):=K.dH KX G
  have d__law_common:L2.aC (L2.dz KX) mg "_law_common" (K.top 55):=K.dH KX G
  have d__law_order:L2.aC (L2.dz KX) mg "_law_order" (K.top 56):=K.dH KX G
  have d__law_turn:L2.aC (L2.dz KX) mg "_law_turn" (K.top 57):=K.dH KX G
  have d__law_due:L2.aC (L2.dz KX) mg "_law_due" (K.top 58):=K.dH KX G
  have d__law_same:L2.aC (L2.dz KX) mg "_law_same" (K.top 59):=K.dH KX G
  have d__law_whole:L2.aC (L2.dz KX) mg "_law_whole" (K.top 60):=K.dH KX G
  have d__law_shown:L2.aC (L2.dz KX) mg "_law_shown" (K.top 61):=K.dH KX G
  have d__law_odd:L2.aC (L2.dz KX) mg "_law_odd" (K.top 62):=K.dH KX G
  have d__law_bent_within:L2.aC (L2.dz KX) mg "_law_bent_within" (K.top 63):=K.dH KX G
  have d__law_bent_paper:L2.aC (L2.dz KX) mg "_law_bent_paper" (K.top 64):=K.dH KX G
  have d__law_bent_row:L2.aC (L2.dz KX) mg "_law_bent_row" (K.top 65):=K.dH KX G
  have d__law_thing:L2.aC (L2.dz KX) mg "_law_thing" (K.top 66):=K.dH KX G
  have d_law:L2.aC (L2.dz KX) mg "law" (K.top 67):=K.dH KX G
  have n_abs:mg "abs"=none:=PySem.W.mg_none_of KX G (by k_is)
  have n_int:mg "int"=none:=PySem.W.mg_none_of KX G (by k_is)
  have n_bool:mg "bool"=none:=PySem.W.mg_none_of KX G (by k_is)
  have n_isinstance:mg "isinstance"=none:=PySem.W.mg_none_of KX G (by k_is)
  have n_range:mg "range"=none:=PySem.W.mg_none_of KX G (by k_is)
  have n_tuple:mg "tuple"=none:=PySem.W.mg_none_of KX G (by k_is)
  have n_all:mg "all"=none:=PySem.W.mg_none_of KX G (by k_is)
  have n_list:mg "list"=none:=PySem.W.mg_none_of KX G (by k_is)
  have n_len:mg "len"=none:=PySem.W.mg_none_of KX G (by k_is)
  have n_zip:mg "zip"=none:=PySem.W.mg_none_of KX G (by k_is)
  have n_min:mg "min"=none:=PySem.W.mg_none_of KX G (by k_is)
  have n_max:mg "max"=none:=PySem.W.mg_none_of KX G (by k_is)
  have n_sorted:mg "sorted"=none:=PySem.W.mg_none_of KX G (by k_is)
  have n_repr:mg "repr"=none:=PySem.W.mg_none_of KX G (by k_is)
  refine' L2.fA (PySem.W.mg_of (n := "PrimeError") KX G ?xa) (λa_PrimeError=>?g1)
  (case xa=>k_is)
  refine' L2.fA (L2.iO KX a_PrimeError ?l ?c2 ?c3 ?e1 ?e2 ?e3 ?e4 ?e5 ?e6 ?ob ?kp) (λc_PrimeError=>?g2)
  (case l=>k_is);(case c2=>rfl);(case c3=>rfl);(case e1=>k_is);(case e2=>k_is);(case e3=>k_is);(case e4=>k_is);(case e5=>k_is);(case e6=>k_is);(case ob=>exact⟨_,_,_,_,_,_,_,_,_,_,_,_,_,_,_,_,rfl,rfl,rfl,rfl⟩);(case kp=>k_is)
  refine' L2.fA (L2.rV a_PrimeError c_PrimeError.2 c_PrimeError.1 ?i) (λx_PrimeError=>?g3)
  (case i=>k_is)
  refine' L2.fA (PySem.W.mg_of (n := "NoNumber") KX G ?xa) (λa_NoNumber=>?g4)
  (case xa=>k_is)
  refine' L2.fA (L2.iO KX a_NoNumber ?l ?c2 ?c3 ?e1 ?e2 ?e3 ?e4 ?e5 ?e6 ?ob ?kp) (λc_NoNumber=>?g5)
  (case l=>k_is);(case c2=>rfl);(case c3=>rfl);(case e1=>k_is);(case e2=>k_is);(case e3=>k_is);(case e4=>k_is);(case e5=>k_is);(case e6=>k_is);(case ob=>exact⟨_,_,_,_,_,_,_,_,_,_,_,_,_,_,_,_,rfl,rfl,rfl,rfl⟩);(case kp=>k_is)
  refine' L2.fA (L2.rV a_NoNumber c_NoNumber.2 c_NoNumber.1 ?i) (λx_NoNumber=>?g6)
  (case i=>k_is)
  refine' L2.fA (PySem.W.mg_of (n := "TooFar") KX G ?xa) (λa_TooFar=>?g7)
  (case xa=>k_is)
  refine' L2.fA (L2.iO KX a_TooFar ?l ?c2 ?c3 ?e1 ?e2 ?e3 ?e4 ?e5 ?e6 ?ob ?kp) (λc_TooFar=>?g8)
  (case l=>k_is);(case c2=>rfl);(case c3=>rfl);(case e1=>k_is);(case e2=>k_is);(case e3=>k_is);(case e4=>k_is);(case e5=>k_is);(case e6=>k_is);(case ob=>exact⟨_,_,_,_,_,_,_,_,_,_,_,_,_,_,_,_,rfl,rfl,rfl,rfl⟩);(case kp=>k_is)
  refine' L2.fA (L2.mQ K.sI a_TooFar c_TooFar.2 c_TooFar.1 ?nf ?i ?fn ?l ?cc ?kk) (λx_TooFar=>?g9)
  (case nf=>k_is);(case i=>k_is);(case fn=>k_is);(case l=>k_is);(case cc=>k_is);(case kk=>k_is)
  refine' L2.fA (PySem.W.mg_of (n := "NoPrime") KX G ?xa) (λa_NoPrime=>?g10)
  (case xa=>k_is)
  refine' L2.fA (L2.iO KX a_NoPrime ?l ?c2 ?c3 ?e1 ?e2 ?e3 ?e4 ?e5 ?e6 ?ob ?kp) (λc_NoPrime=>?g11)
  (case l=>k_is);(case c2=>rfl);(case c3=>rfl);(case e1=>k_is);(case e2=>k_is);(case e3=>k_is);(case e4=>k_is);(case e5=>k_is);(case e6=>k_is);(case ob=>exact⟨_,_,_,_,_,_,_,_,_,_,_,_,_,_,_,_,rfl,rfl,rfl,rfl⟩);(case kp=>k_is)
  refine' L2.fA (L2.mQ K.pK a_NoPrime c_NoPrime.2 c_NoPrime.1 ?nf ?i ?fn ?l ?cc ?kk) (λx_NoPrime=>?g12)
  (case nf=>k_is);(case i=>k_is);(case fn=>k_is);(case l=>k_is);(case cc=>k_is);(case kk=>k_is)
  refine' L2.fA (PySem.W.mg_of (n := "NoInverse") KX G ?xa) (λa_NoInverse=>?g13)
  (case xa=>k_is)
  refine' L2.fA (L2.iO KX a_NoInverse ?l ?c2 ?c3 ?e1 ?e2 ?e3 ?e4 ?e5 ?e6 ?ob ?kp) (λc_NoInverse=>?g14)
  (case l=>k_is);(case c2=>rfl);(case c3=>rfl);(case e1=>k_is);(case e2=>k_is);(case e3=>k_is);(case e4=>k_is);(case e5=>k_is);(case e6=>k_is);(case ob=>exact⟨_,_,_,_,_,_,_,_,_,_,_,_,_,_,_,_,rfl,rfl,rfl,rfl⟩);(case kp=>k_is)
  refine' L2.fA (L2.mQ K.lW a_NoInverse c_NoInverse.2 c_NoInverse.1 ?nf ?i ?fn ?l ?cc ?kk) (λx_NoInverse=>?g15)
  (case nf=>k_is);(case i=>k_is);(case fn=>k_is);(case l=>k_is);(case cc=>k_is);(case kk=>k_is)
  refine' L2.fA (PySem.W.mg_of (n := "GREATEST") KX G ?xa) (λg_GREATEST=>?g16)
  (case xa=>k_is)
  refine' L2.fA (PySem.W.mg_of (n := "MOST_TOLD") KX G ?xa) (λg_MOST_TOLD=>?g17)
  (case xa=>k_is)
  refine L2.xq hmg d_law (λ_ _ _ _ _ _ _=>rfl) λbase f fd kb F=>?_
  have dvr:=λP w=>K.pT (P:=P) (w:=w) (base:=base) d_divisor n_abs
  have inv:=λP w=>K.pU (P:=P) (w:=w) (base:=base) d_inverse (dvr P w) (x_NoInverse _ _ _)
  have pw:=λP w=>K.vj (P:=P) (w:=w) (base:=base) d_power (inv P w) n_abs
  have lt:=λP w=>K.pV (P:=P) (w:=w) (base:=base) d_is_least (pw P w) n_all
  have fr:=λP w=>K.xD (P:=P) (w:=w) (base:=base) d_least_divisor_from
  have ls:=λP w=>K.ve (P:=P) (w:=w) (base:=base) d_least_divisor (fr P w) x_NoNumber (x_TooFar _ _ _) ⟨_,g_GREATEST⟩
  have pd:=λP w=>K.tq (P:=P) (w:=w) (base:=base) d_parted (fr P w) x_NoNumber (x_TooFar _ _ _) ⟨_,g_GREATEST⟩
  have pi:=λP w=>K.nX (P:=P) (w:=w) (base:=base) d_primes_in
  have pp:=λP w=>K.Aj (K.lb (P:=P) (w:=w) (base:=base) d_prime_paper d_parting_paper (ls P w) (pd P w) (K.md d_least_full (lt P w)) (pi P w) (x_NoPrime _ _ _) n_tuple 30).1
  have dwl:=λP w=>K.u9 (P:=P) (w:=w) (base:=base) d__law_draw n_len
  have dw:=λP w=>K.wW (dwl P w)
  have lp:=λP w=>K.xE (P:=P) (w:=w) (base:=base) d__law_power
  have wl:=λP w=>K.C0 (P:=P) (w:=w) (base:=base) d_is_whole n_isinstance n_int n_bool
  have tf:=λP w=>K.Ae (P:=P) (w:=w) (base:=base) d_is_tuple_of n_isinstance n_tuple n_len
  have pf:=λP w=>K.BC (P:=P) (w:=w) (base:=base) d_is_paper_form (wl P w) (tf P w) n_isinstance n_tuple
  have rf:=λP w=>K.BF (P:=P) (w:=w) (base:=base) d_is_row_form (wl P w) (tf P w) (pf P w)
  have ct:=λP w=>K.BB (P:=P) (w:=w) (base:=base) d_come_to (rf P w) (K.BG d_without)
  have rab:=λP w=>K.BE (P:=P) (w:=w) (base:=base) d_is_right_above (pf P w) (ct P w) (lt P w) (pi P w)
  have ppr:=λP w=>K.BD (P:=P) (w:=w) (base:=base) d_is_prime_paper (K.Ad d_are_prime_papers (rab P w) n_list)
  have iord:=λP w=>K.pW (P:=P) (w:=w) (base:=base) d_is_order (lt P w) (pi P w)
  have jst:=λP w=>K.qW (P:=P) (w:=w) (base:=base) (fi:=0) d_is_just d_are_just (wl P w) n_isinstance n_list n_tuple n_len n_zip n_all 7
  have hm:=λP w=>K.Ab (P:=P) (w:=w) (base:=base) d_how_many_roots (dvr P w)
  have no:=λP w=>K.xF (P:=P) (w:=w) (base:=base) d_shown_none (hm P w) (pw P w)
  have al:=λP w=>K.xA (P:=P) (w:=w) (base:=base) d_are_all_roots (K.vn d_product_of) (hm P w) (K.vq d_are_rising_below (wl P w) n_all n_zip) (K.sX d_is_root (pw P w)) ⟨_,g_MOST_TOLD⟩ n_isinstance n_list n_len n_all
  have sb:=λP w=>K.tH (P:=P) (w:=w) (base:=base) d_is_shown_by (jst P w) (tf P w) (wl P w) (iord P w) (hm P w) n_min
  have shr:=λP w=>K.pY (P:=P) (w:=w) (base:=base) d_shows_roots (ppr P w) (tf P w) (no P w) (jst P w) (al P w) (sb P w)
  have shB:=λP w=>K.pX (P:=P) (w:=w) (base:=base) d_shows_roots (ppr P w) (tf P w) (no P w) (jst P w) (al P w) (sb P w)
  have cm:=λP w=>K.sW (P:=P) (w:=w) (base:=base) d__law_common
  have fa:=λP w=>K.xC (P:=P) (w:=w) (base:=base) d__law_far (dw P w)
  have sa:=λP w=>K.nY (P:=P) (w:=w) (base:=base) d__law_same n_isinstance n_bool n_list n_tuple n_len n_zip n_all 9
  have ol:=λP w=>K.xH (P:=P) (w:=w) (base:=base) d__law_order
  have du:=λP w=>K.xB (P:=P) (w:=w) (base:=base) d__law_due (lp P w) (cm P w) (K.vv d__law_turn (dw P w) (ol P w) n_range n_len) n_range n_len
  have oz:=λP w=>K.xG (P:=P) (w:=w) (base:=base) d__law_odd (dw P w) n_len
  have rT:=λP w=>K.xJ (P:=P) (w:=w) (base:=base) d__law_bent_row (dw P w) (oz P w) n_len n_isinstance n_list
  have rL:=λP w=>K.xI (P:=P) (w:=w) (base:=base) d__law_bent_row (dw P w) (oz P w) n_len n_isinstance n_list n_tuple
  exact K.Ac F (K.xK d__law_tape) (dw _ _) (K.tu d__law_prime (K.sY d__law_is_prime n_int)) (pp _ _) (K.CZ d__law_k (dw _ _) (fa _ _) n_max) (K.vh d__law_number (dw _ _) n_int) (lp _ _) (du _ _) (K.vt d__law_thing (dwl _ _) (rT _ _) (rL _ _) n_len n_list n_sorted) (K.va d__law_shown (sa _ _) (cm _ _) (lp _ _) (K.sZ d__law_whole n_isinstance n_int n_bool) (ol _ _) n_isinstance n_tuple n_len) (shr _ _) (shB _ _) (K.l8 d__law_bent_paper (dw _ _) (K.yw (K.jW d__law_bent_within (dw _ _) n_len 30 (by decide))) (K.CY (oz _ _)) n_len n_list) (sa _ _) n_range n_repr
 case S=>exact λK H a ns hl hO hS=>⟨a,ns,rfl,hS,hl,λ_=>rfl⟩
 case C=>exact λ_ _ _ _ z=>z
