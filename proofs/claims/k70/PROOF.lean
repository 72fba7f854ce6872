import PyProof.Rows.All
import Wide.All
import OpenK.AllK
import Wide.FinOn
import Lean
import PyProof.EqAt
import PyProof.EqKinds
import PyProof.TupleCall
import KE.KRevSl
import PyProof.NeData
import PyProof.P3Eq
import PyProof.Rows.Range3
import PyProof.EnumMake
import PyProof.Draws
import PyProof.ZipIter
import KE.KDictList
import KE.KDictSum
import PyProof.WalkInts
import PyProof.Rows.SeqCalls
import PyProof.ReprRoads
import PyProof.CallFns
import PyProof.ReprLen
import PyProof.FitsInt
import PyProof.CallStr
import PyProof.StrCalls2
import PyProof.StrCalls3
import PyProof.StrBlockI
import PyProof.StrBlock2
import PyProof.StrBlockL
import PyProof.SliceStr2
import KE.KIntText
import KE.IntTextLaws
import PyProof.StrLawsIn
import PyProof.Rows.StrMul
import PyProof.Rows.StrJoinRep
import PySem.Challenge.RW_rootprime_k70_roots_let_by
set_option Elab.async false
local macro_rules | `(tactic| omega) => `(tactic| lia)
set_option linter.all false
set_option maxRecDepth 100000
namespace L2
open PySem PySem.Spec PyProof.Rows
abbrev Key:=Sum Int Str
def mE:Key->Value->Bool
 | .inl k,v=>Value.isInt k v
 | .inr x,v=>Value.isStrOf x v
def DL (w:World):Key->Int
 | .inl k=>hashInt k
 | .inr x=>hashStr w x
theorem bW:∀{k:Key} {v:Value},mE k v=true->(∃ i t,k=Sum.inl i/\v=Value.int i t)∨(∃ x t,k=Sum.inr x/\v=Value.str x t)
 | .inl i,v,h=>by
  obtain⟨t,e⟩:=Value.isInt_shape (k:=i) (v:=v) h
  exact .inl ⟨i,t,rfl,e⟩
 | .inr x,v,h=>by
  obtain⟨t,e⟩:=Value.isStrOf_shape (x:=x) (v:=v) h
  exact .inr ⟨x,t,rfl,e⟩
theorem tM (i:Int) (t:Tok):mE (.inl i) (.int i t)=true:=by simp [mE,Value.isInt]
theorem tO (x:Str) (t:Tok):mE (.inr x) (.str x t)=true:=by simp [mE,Value.isStrOf]
theorem AD (a b:Int):decide ((Sum.inl a:Key)=Sum.inl b)=(a==b):=by
 by_cases e:a=b
 ·subst e;simp
 ·have h:¬(Sum.inl a:Key)=Sum.inl b:=λq=>e (Sum.inl.inj q)
  rw [decide_eq_false h]
  exact (beq_eq_false_iff_ne.mpr e).symm
theorem AG (a b:Str):decide ((Sum.inr a:Key)=Sum.inr b)=decide (a=b):=by
 by_cases e:a=b
 ·subst e;simp
 ·have h:¬(Sum.inr a:Key)=Sum.inr b:=λq=>e (Sum.inr.inj q)
  rw [decide_eq_false h,decide_eq_false e]
theorem AE (a:Int) (b:Str):decide ((Sum.inl a:Key)=Sum.inr b)=false:=decide_eq_false (λq=>nomatch q)
theorem AF (a:Str) (b:Int):decide ((Sum.inr a:Key)=Sum.inl b)=false:=decide_eq_false (λq=>nomatch q)
def ck (prog:Program) (w:World):PySem.KeyKind prog w Key where
 is:=mE
 hash:=DL w
 inj:=λv a b ha hb=>by
  rcases bW ha with⟨i,t,rfl,rfl⟩|⟨x,t,rfl,rfl⟩
  ·rcases bW hb with⟨j,u,rfl,e⟩|⟨y,u,rfl,e⟩
   ·injection e with e1 _;rw [e1]
   ·exact nomatch e
  ·rcases bW hb with⟨j,u,rfl,e⟩|⟨y,u,rfl,e⟩
   ·exact nomatch e
   ·injection e with e1 _;rw [e1]
 byValue:=λk v h=>by
  rcases bW h with⟨i,t,rfl,rfl⟩|⟨x,t,rfl,rfl⟩<;>rfl
 pyHash:=λhv h=>by
  rcases bW hv with⟨i,t,rfl,rfl⟩|⟨x,t,rfl,rfl⟩
  ·exact wpAny_pyHash_int h
  ·exact wpAny_pyHash_str h
 eqBool:=λhu hv h=>by
  rcases bW hu with⟨i,t,rfl,rfl⟩|⟨x,t,rfl,rfl⟩
  ·rcases bW hv with⟨j,u,rfl,rfl⟩|⟨y,u,rfl,rfl⟩
   ·rw [AD] at h;exact wpAny_eqBool_int h
   ·rw [AE] at h;exact SeqAt.EqAt.int_str i t y u _ _ _ _ h
  ·rcases bW hv with⟨j,u,rfl,rfl⟩|⟨y,u,rfl,rfl⟩
   ·rw [AF] at h;exact SeqAt.EqAt.str_int x t j u _ _ _ _ h
   ·rw [AG] at h;exact wpAny_eqBool_str h
 «strs»:=λk x t v h=>by
  rcases bW h with⟨i,u,rfl,e⟩|⟨y,u,rfl,e⟩
  ·exact nomatch e
  ·injection e with e1 _
   subst e1
   cases v<;>rfl
theorem oZ (prog:Program) (w:World) (i:Int) (t:Tok):(ck prog w).is (.inl i) (.int i t)=true:=tM i t
theorem ph (prog:Program) (w:World) (x:Str) (t:Tok):(ck prog w).is (.inr x) (.str x t)=true:=tO x t
inductive V where
 | bY | bl (b:Bool) | int (i:Int) | str (x:Str) | byt (b:Array UInt8) | flt (b:UInt64) | ref (a:Addr) | ty (n:String)
 deriving DecidableEq
def RelV:V->Value->Prop
 | .bY,u=>u=Value.none
 | .bl b,u=>u=Value.bool b
 | .int i,u=>∃ t,u=Value.int i t
 | .str x,u=>∃ t,u=Value.str x t
 | .byt b,u=>∃ t,u=Value.bytes b t
 | .flt b,u=>∃ t,u=Value.float b t
 | .ref a,u=>u=Value.ref a
 | .ty n,u=>u=Value.type n
abbrev Vals:List V->List Value->Prop:=Paired RelV
theorem Vals.length {xs:List V} {us:List Value} (r:Vals xs us):xs.length=us.length:=Paired.length r
theorem Vals.get:∀{xs:List V} {us:List Value} {i:Nat} {x:V},Vals xs us->xs[i]?=some x->∃ u,us[i]?=some u/\RelV x u
 | _,_,_,_,.nil,e=>by simp at e
 | _,_,0,_,.cons r _,e=>by simp at e;subst e;exact⟨_,rfl,r⟩
 | _,_,i+1,x,.cons _ t,e=>by
  obtain⟨u,h1,h2⟩:=Vals.get (i:=i) (x:=x) t (by simpa using e)
  exact⟨u,by simpa using h1,h2⟩
theorem Vals.set {x:V} {u:Value} (r:RelV x u):∀{xs:List V} {us:List Value} (i:Nat),Vals xs us->Vals (xs.set i x) (us.set i u)
 | _,_,_,.nil=>.nil
 | _,_,0,.cons _ t=>.cons r t
 | _,_,i+1,.cons q t=>.cons q (Vals.set r i t)
theorem Vals.append:∀{xs ys:List V} {us ws:List Value},Vals xs us->Vals ys ws->Vals (xs++ys) (us++ws)
 | _,_,_,_,.nil,s=>s
 | _,_,_,_,.cons r t,s=>.cons r (Vals.append t s)
theorem Vals.take:∀{xs:List V} {us:List Value} (n:Nat),Vals xs us->Vals (xs.take n) (us.take n)
 | _,_,0,_=>.nil
 | _,_,_+1,.nil=>.nil
 | _,_,n+1,.cons r t=>.cons r (Vals.take n t)
theorem Vals.drop:∀{xs:List V} {us:List Value} (n:Nat),Vals xs us->Vals (xs.drop n) (us.drop n)
 | _,_,0,r=>r
 | _,_,_+1,.nil=>.nil
 | _,_,n+1,.cons _ t=>Vals.drop n t
def ji:Option V->Option Value->Prop
 | some v,some u=>RelV v u
 | none,none=>True
 | _,_=>False
def KV {κ:Type}:List (κ × V)->List (κ × Value)->Prop:=Paired fun(p:κ × V) (q:κ × Value)=>p.1=q.1/\RelV p.2 q.2
def kV:Key->V
 | .inl i=>.int i
 | .inr x=>.str x
inductive HO where
  | lst (xs:List V)
  | tup (xs:List V)
  | dK (kvs:List (Key × V)) | dT (kvs:List (List Key × V))
  | set (S:Int->Bool) (n:Nat)
  | ins (C dx:Addr) (fs:List (Str × V))
  | own (x:Addr)
  | xd (fs:List (Str × V))
  | met (f x:Addr)
  | rng (lo hi:Int)
  | frz (o:Obj) (u:HO)
  | tbl (ps:Array Value)
  | ext (φ:Heap->Prop)
abbrev Hp:=Addr->Option HO
def upd (H:Hp) (a:Addr) (o:HO):Hp:=λb=>if b=a then some o else H b
theorem ai {H:Hp} {a:Addr} {o:HO}:upd H a o a=some o:=by unfold upd;rw [if_pos rfl]
theorem aJ {H:Hp} {a b:Addr} {o:HO} (h:b≠a):upd H a o b=H b:=by unfold upd;rw [if_neg h]
theorem rW {H:Hp} {a b:Addr} {o u:HO} (h:H a=some o) (h':H b=some u) (d:o≠u):a≠b:=by
 intro e;subst e;rw [h] at h';exact d (Option.some.inj h')
theorem bR {H:Hp} {a b:Addr} {o:HO} (h:H a=some o) (h':H b=none):a≠b:=by
 intro e;subst e;rw [h] at h';cases h'
section
variable (P:Program) (w:World)
def bV (H:Hp) (h:Heap) (a:Addr):HO->Prop
 | .lst xs=>xs.length<=sizeLine/\∃(its:List Value) (n:Nat),Vals xs its/\h.get? a=some { cls:=.type "list",data:=.seq its.toArray n }
 | .tup xs=>xs.length<=sizeLine/\∃ its:List Value,Vals xs its/\IsTup h a its.toArray
 | .dK kvs=>kvs.length<=sizeLine/\(a==sysModules)=false/\∃ vs,KV kvs vs/\h.DictOf (ck P w) a vs
 | .dT kvs=>kvs.length<=sizeLine/\(a==sysModules)=false/\∃ xs:List (List Key × Addr × Value),
   Paired (fun(p:List Key × V) (q:List Key × Addr × Value)=>p.1=q.1/\H q.2.1=some (.tup (p.1.map kV))/\RelV p.2 q.2.2) kvs xs /\
   ∃ o es ep,h.get? a=some o/\o.ExactDict/\o.data=.dict es ep/\es.toList=xs.map (entryOfKey (tupleKind (ck P w)))/\(xs.map (·.1)).Nodup
 | .set S n=>h.SetOf (intKind P w) a S n
 | .ins C dx fs=>H dx=some (.own a)/\fs.length<=1000/\dx≠a/\h.get? a=some (PySem.W.instObj C dx) /\
   ∃ mA,h.Ns1 dx mA/\(∀ f,ji (fs.lookup f) (mA f))/\PySem.Within mA (fs.map (·.1))
 | .own _=>∃ o,h.get? a=some o
 | .xd fs=>∃ mA,h.Ns1 a mA/\∀ f,ji (fs.lookup f) (mA f)
 | .rng lo hi=>∃ t u v,h.get? a=some { cls:=.type "range",data:=.fields #[.int lo t,.int hi u,.int 1 v] }
 | .frz o u=>h.get? a=some o/\bV H h a u
 | .tbl ps=>h.get? a=some { cls:=.none,data:=.fields ps }
 | .met f x=>h.get? a=some (PySem.W.methodObj (.ref f) (.ref x))
 | .ext φ=>φ h/\(∃ o,h.get? a=some o)/\∀ h1 h2:Heap,φ h1->(∀ o,h1.get? a=some o->h2.get? a=some o)->φ h2
def gQ (H:Hp) (h:Heap):Prop:=∀ a o,H a=some o->bV P w H h a o
end
section
variable {P:Program} {w:World} {H H':Hp} {h h':Heap} {a:Addr} {o:HO}
theorem bV.lt (x:bV P w H h a o):a<h.objs.size:=by
 cases o with
 | lst xs=>obtain⟨_,_,_,_,e⟩:=x;exact Heap.lt_size e
 | tup xs=>obtain⟨_,_,_,p⟩:=x;exact p.lt
 | dK kvs=>obtain⟨_,_,_,_,o,_,_,e,_⟩:=x;exact Heap.lt_size e
 | dT kvs=>obtain⟨_,_,_,_,o,_,_,e,_⟩:=x;exact Heap.lt_size e
 | set S n=>obtain⟨o,_,_,_,e,_⟩:=x;exact Heap.lt_size e
 | ins C dx fs=>obtain⟨_,_,_,e,_⟩:=x;exact Heap.lt_size e
 | own y=>obtain⟨_,e⟩:=x;exact Heap.lt_size e
 | xd fs=>obtain⟨_,⟨_,_,_,e,_⟩,_⟩:=x;exact Heap.lt_size e
 | rng lo hi=>obtain⟨_,_,_,e⟩:=x;exact Heap.lt_size e
 | frz ob u=>obtain⟨e,_⟩:=x;exact Heap.lt_size e
 | tbl ps=>exact Heap.lt_size (show h.get? a=some _ from x)
 | met f y=>exact Heap.lt_size (show h.get? a=some _ from x)
 | ext φ=>obtain⟨_,⟨_,e⟩,_⟩:=x;exact Heap.lt_size e
theorem Paired.AK {α β:Type} {F G:α->β->Prop}:∀{l₁:List α} {l₂:List β},Paired F l₁ l₂->(∀ a b,F a b->G a b)->Paired G l₁ l₂
 | _,_,.nil,_=>.nil
 | _,_,.cons r t,f=>.cons (f _ _ r) (Paired.AK t f)
theorem bV.pZ (x:bV P w H h a o) (k:∀ b u,(b=a∨H b=some (.own a))->h.get? b=some u->h'.get? b=some u)
  (ho:∀ b,H b=some (.own a)->H' b=some (.own a)) (ht:∀ b xs,H b=some (.tup xs)->H' b=some (.tup xs)):bV P w H' h' a o:=by
 induction o with
 | lst xs=>obtain⟨z,its,n,r,e⟩:=x;exact⟨z,its,n,r,k _ _ (.inl rfl) e⟩
 | tup xs=>obtain⟨z,its,r,ob,e,c⟩:=x;exact⟨z,its,r,ob,k _ _ (.inl rfl) e,c⟩
 | dK kvs=>obtain⟨z,y,vs,r,ob,es,ep,e,c⟩:=x;exact⟨z,y,vs,r,ob,es,ep,k _ _ (.inl rfl) e,c⟩
 | dT kvs =>
  obtain⟨z,y,xs,r,ob,es,ep,e,c⟩:=x
  exact⟨z,y,xs,Paired.AK r λp q z=>⟨z.1,ht _ _ z.2.1,z.2.2⟩,ob,es,ep,k _ _ (.inl rfl) e,c⟩
 | set S n=>obtain⟨ob,es,ep,t,e,c⟩:=x;exact⟨ob,es,ep,t,k _ _ (.inl rfl) e,c⟩
 | ins C dx fs =>
  obtain⟨d,z,ne,e,mA,⟨od,es,ep,e2,c⟩,r⟩:=x
  exact⟨ho _ d,z,ne,k _ _ (.inl rfl) e,mA,⟨od,es,ep,k _ _ (.inr d) e2,c⟩,r⟩
 | own y=>obtain⟨ob,e⟩:=x;exact⟨ob,k _ _ (.inl rfl) e⟩
 | xd fs=>obtain⟨mA,⟨od,es,ep,e,c⟩,r⟩:=x;exact⟨mA,⟨od,es,ep,k _ _ (.inl rfl) e,c⟩,r⟩
 | rng lo hi=>obtain⟨t,u,v,e⟩:=x;exact⟨t,u,v,k _ _ (.inl rfl) e⟩
 | frz ob u ih=>obtain⟨e,q⟩:=x;exact⟨k _ _ (.inl rfl) e,ih q⟩
 | tbl ps =>
  have e:h.get? a=some { cls:=.none,data:=.fields ps }:=x
  show h'.get? a=some { cls:=.none,data:=.fields ps }
  exact k a _ (.inl rfl) e
 | met f y =>
  have e:h.get? a=some (PySem.W.methodObj (.ref f) (.ref y)):=x
  show h'.get? a=some (PySem.W.methodObj (.ref f) (.ref y))
  exact k a _ (.inl rfl) e
 | ext φ=>obtain⟨p,⟨o,e⟩,st⟩:=x;exact⟨st _ _ p λo q=>k _ _ (.inl rfl) q,⟨o,k _ _ (.inl rfl) e⟩,st⟩
theorem gQ.lt (x:gQ P w H h) (e:H a=some o):a<h.objs.size:=(x a o e).lt
theorem gQ.fresh (x:gQ P w H h) (e:h.objs.size<=a):H a=none:=by
 cases q:H a with
 | none=>rfl
 | some u=>exact absurd (Nat.lt_of_lt_of_le (x.lt q) e) (Nat.lt_irrefl _)
theorem gQ.kept (x:gQ P w H h) (k:∀ b u,h.get? b=some u->h'.get? b=some u):gQ P w H h':=λa o e =>
 (x a o e).pZ (λb u _ q=>k b u q) (λ_ q=>q) λ_ _ q=>q
theorem gQ.laid (x:gQ P w H h) (k:∀ b u,h.get? b=some u->h'.get? b=some u) (hp:h.objs.size<=a) (new:bV P w (upd H a o) h' a o):gQ P w (upd H a o) h':=λb u e=>by
 have hn:=x.fresh hp
 by_cases hb:b=a
 ·subst hb;rw [ai] at e;cases e;exact new
 ·rw [aJ hb] at e
  exact (x b u e).pZ (λc v _ q=>k c v q) (λc q=>by rw [aJ (bR q hn)];exact q) λc xs q=>by rw [aJ (bR q hn)];exact q
end
def Rd (H:Hp) (a:Addr) (u:HO):Prop:=H a=some u∨∃ o,H a=some (.frz o u)
theorem Rd.of {H:Hp} {a:Addr} {u:HO} (h:H a=some u):Rd H a u:=.inl h
theorem Rd.ok {P:Program} {w:World} {H:Hp} {h:Heap} {a:Addr} {u:HO} (r:Rd H a u) (x:gQ P w H h):bV P w H h a u:=by
 rcases r with r | ⟨o,r⟩
 ·exact x a u r
 ·obtain⟨_,q⟩:=x a _ r
  exact q
def BF:Option HO->Prop
 | some (.lst _)=>True
 | some (.dK _)=>True
 | some (.dT _)=>True
 | some (.set _ _)=>True
 | some (.ins _ _ _)=>True
 | some (.ext _)=>True
 | _=>False
section
variable {P:Program} {w:World} {H:Hp} {h h':Heap} {x e:Addr} {o':HO}
theorem gQ.write (ok:gQ P w H h) (mu:BF (H x)) (he:e=x∨H e=some (.own x)) (k:∀ b u,b≠e->h.get? b=some u->h'.get? b=some u) (heo:∃ u,h'.get? e=some u)
  (new:bV P w (upd H x o') h' x o'):gQ P w (upd H x o') h':=λb u q=>by
 have nown:∀ c y,H c=some (.own y)->c≠x:=λc y r z=>by subst z;rw [r] at mu;exact mu
 have ntup:∀ c xs,H c=some (.tup xs)->c≠x:=λc xs r z=>by subst z;rw [r] at mu;exact mu
 by_cases hb:b=x
 ·subst hb;rw [ai] at q;cases q;exact new
 ·rw [aJ hb] at q
  by_cases hbe:b=e
  ·have q':H b=some (.own x):=by
    rcases he with z | z
    ·exact absurd (hbe.trans z) hb
    ·rw [hbe];exact z
   rw [q] at q';cases q'
   obtain⟨v,hv⟩:=heo
   exact⟨v,by rw [hbe];exact hv⟩
  ·refine (ok b u q).pZ (λc v hc r=>k c v ?_ r) (λc r=>by rw [aJ (nown c b r)];exact r) λc xs r=>by rw [aJ (ntup c xs r)];exact r
   rcases hc with rfl | hc
   ·exact hbe
   ·rintro rfl
    rcases he with z | z
    ·exact nown c b hc z
    ·rw [hc] at z;cases z;exact hb rfl
end
structure Un (fs ex:List Addr) (H H':Hp) (h h':Heap):Prop where
 keep:∀ b o,h.get? b=some o->H b=none->b∉fs->b∉ex->h'.get? b=some o
 slot:∀ b o,h.get? b=some o->H b=none->b∈fs->b∉ex->∃ sl,h'.get? b=some { o with slots:=sl }
 free:∀ b o,h.get? b=some o->H b=none->b∉ex->H' b=none
 there:∀ b o,h.get? b=some o->b∉ex->∃ o',h'.get? b=some o'
 tups:∀ b xs,H b=some (.tup xs)->H' b=some (.tup xs)
 frzs:∀ b o u,H b=some (.frz o u)->H' b=some (.frz o u)
 tbls:∀ b ps,H b=some (.tbl ps)->∃ more,H' b=some (.tbl (ps++more))
section
variable {fs fs' ex ex':List Addr} {H H1 H2:Hp} {h h1 h2 h':Heap} {a x e:Addr} {o:HO}
theorem Un.any (u:Un fs ex H H1 h h1) {b:Addr} {ob:Obj} (q:h.get? b=some ob) (n:H b=none) (hx:b∉ex):∃ sl,h1.get? b=some { ob with slots:=sl }:=by
 by_cases hb:b∈fs
 ·exact u.slot b ob q n hb hx
 ·exact⟨ob.slots,u.keep b ob q n hb hx⟩
theorem Un.trans (a:Un fs ex H H1 h h1) (b:Un fs ex H1 H2 h1 h2):Un fs ex H H2 h h2 where
 keep:=λc ob q n hc hx=>b.keep c ob (a.keep c ob q n hc hx) (a.free c ob q n hx) hc hx
 slot:=λc ob q n hc hx=>by
  obtain⟨sl,e1⟩:=a.slot c ob q n hc hx
  obtain⟨sl',e2⟩:=b.slot c _ e1 (a.free c ob q n hx) hc hx
  exact⟨sl',e2⟩
 free:=λc ob q n hx=>by
  obtain⟨o',e1⟩:=a.there c ob q hx
  exact b.free c o' e1 (a.free c ob q n hx) hx
 there:=λc ob q hx=>by
  obtain⟨o',e1⟩:=a.there c ob q hx
  exact b.there c o' e1 hx
 tups:=λc xs q=>b.tups c xs (a.tups c xs q)
 frzs:=λc ob xs q=>b.frzs c ob xs (a.frzs c ob xs q)
 tbls:=λc ps q=>by
  obtain⟨m1,e1⟩:=a.tbls c ps q
  obtain⟨m2,e2⟩:=b.tbls c _ e1
  exact⟨m1++m2,by rw [e2,Array.append_assoc]⟩
theorem Un.kept (k:∀ b u,h.get? b=some u->h'.get? b=some u):Un fs ex H H h h' :=
 ⟨λb ob q _ _ _=>k b ob q,λb ob q _ _ _=>⟨ob.slots,k b ob q⟩,λ_ _ _ n _=>n,λb ob q _=>⟨ob,k b ob q⟩,λ_ _ q=>q,λ_ _ _ q=>q,λ_ ps q=>⟨#[],by rw [q];simp⟩⟩
theorem Un.refl:Un fs ex H H h h:=Un.kept λ_ _ q=>q
theorem Un.laid (k:∀ b u,h.get? b=some u->h'.get? b=some u) (hp:h.objs.size<=a) (hn:H a=none):Un fs ex H (upd H a o) h h' where
 keep:=λb u q _ _ _=>k b u q
 slot:=λb u q _ _ _=>⟨u.slots,k b u q⟩
 free:=λb u q n _=>by rw [aJ (Nat.ne_of_lt (Nat.lt_of_lt_of_le (Heap.lt_size q) hp))];exact n
 there:=λb u q _=>⟨u,k b u q⟩
 tups:=λb xs q=>by rw [aJ (bR q hn)];exact q
 frzs:=λb u xs q=>by rw [aJ (bR q hn)];exact q
 tbls:=λb ps q=>⟨#[],by rw [aJ (bR q hn),q];simp⟩
theorem Un.write (mu:BF (H x)) (he:e=x∨H e=some (.own x)) (k:∀ b u,b≠e->h.get? b=some u->h'.get? b=some u) (heo:∃ u,h'.get? e=some u):Un fs ex H (upd H x o) h h':=by
 have hx:∀ b,H b=none->b≠x:=λb n z=>by subst z;rw [n] at mu;exact mu
 have hb:∀ b,H b=none->b≠e:=λb n z=>by
  subst z
  rcases he with r | r
  ·exact hx b n r
  ·rw [n] at r;cases r
 have hm:∀ b u,H b=some u->¬BF (some u)->b≠x:=λb u q nm z=>by subst z;rw [q] at mu;exact nm mu
 refine⟨λb u q n _ _=>k b u (hb b n) q,λb u q n _ _=>⟨u.slots,k b u (hb b n) q⟩,λb u q n _=>by rw [aJ (hx b n)];exact n,λb u q _=>?_,
  λb xs q=>by rw [aJ (hm b _ q λz=>z)];exact q,λb u xs q=>by rw [aJ (hm b _ q λz=>z)];exact q,λb ps q=>⟨#[],by rw [aJ (hm b _ q λz=>z),q];simp⟩⟩
 by_cases hbe:b=e
 ·subst hbe;exact heo
 ·exact⟨u,k b u hbe q⟩
theorem Un.mono (u:Un fs ex H H1 h h1) (hs:∀ b∈fs,b∈fs') (hx:∀ b∈ex,b∈ex'):Un fs' ex' H H1 h h1 :=
 ⟨λb ob q n hb he=>u.keep b ob q n (λz=>hb (hs b z)) λz=>he (hx b z),λ_ _ q n _ he=>u.any q n λz=>he (hx _ z),λb ob q n he=>u.free b ob q n λz=>he (hx b z),λb ob q he=>u.there b ob q λz=>he (hx b z),u.tups,u.frzs,u.tbls⟩
end
def Dd (h:Heap) (H:Hp):List Addr:=(List.range h.objs.size).filter λa=>(H a).isSome
def nF (h:Heap) (H:Hp):Heap:=PySem.W.hideAll h (Dd h H)
theorem tJ (h:Heap) (H:Hp):(nF h H).objs.size=h.objs.size:=PySem.W.hideAll_size _ _
theorem vq {h:Heap} {H:Hp} {b:Addr} {o:Obj} (e:h.get? b=some o) (n:H b=none):(nF h H).get? b=some o :=
 PySem.W.hideAll_get _ e λhm=>by
  have q:(H b).isSome=true:=(List.mem_filter.mp hm).2
  rw [n] at q;simp at q
theorem yo {h:Heap} {H:Hp} {b:Addr} {o:Obj} (e:(nF h H).get? b=some o):h.get? b=some o/\H b=none:=by
 have e':h.get? b=some o:=PySem.W.of_hideAll (Dd h H) e
 refine⟨e',?_⟩
 cases q:H b with
 | none=>rfl
 | some x =>
  have hm:b∈Dd h H:=List.mem_filter.mpr ⟨List.mem_range.mpr (Heap.lt_size e'),by simp [q]⟩
  have z:(nF h H).get? b=none:=PySem.W.hideAll_none (Dd h H) hm
  rw [z] at e;cases e
def xP (g h:Heap) (L:Addr):List (Addr × Obj):=(List.range h.objs.size).filterMap λa=>if a=L∨(g.get? a).isSome=true then none else (h.get? a).map λo=>(a,o)
def rest (g h:Heap) (L d:Addr):List (Addr × Obj):=(xP g h L).filter λp=>decide (p.1≠d)
structure Mod (K:PySem.W.Frag) (mg:Str->Option Value) (base:Heap):Prop where
 kin:K.In base
 glob:base.Ns mainGlobals mg
 blt:∃ mb,base.Ns builtinsNs mb/\∀ x:Str,x ≠ "__name__"->mb x=bootBuiltins x
 nolimit:base.NoLimit
structure Cx where
 prog:Program
 w:World
 K:PySem.W.Frag
 mg:Str->Option Value
 base:Heap
 A:Around
 N:List Str
 s₀:Shared
 H₀:Hp
 env:Env
 outer:List Env
 stack:List Env
 ex:List Addr
 fn:Str->Bool
 calm:Bool
 pn:List (Addr × Obj)
 xe:Value->Shared->Prop
def uD (l:List Env):List Addr:=l.filterMap (·.frame)
abbrev Cx.fs (X:Cx):List Addr:=uD X.outer
def Bv (sc:Scope) (x:Str):Prop:=sc.names.lookup x=some .local∨sc.names.lookup x=some .cell∨sc.names.lookup x=some .free
def Loc (sc:Scope) (x:Str):Prop:=sc.names.lookup x=some .local∨sc.names.lookup x=some .cell
def Look (env:Env) (h:Heap) (m:Str->Option Value) (x:Str) (u:Value):Prop :=
 (env.kindOf x=some .local/\m x=some u)∨((env.kindOf x=some .cell∨env.kindOf x=some .free)/\∃ c,env.cells.lookup x=some c/\h.IsCell c (some u))
structure Cx.Ok (X:Cx):Prop where
 mod:Mod X.K X.mg X.base
 kind:X.env.scope.kind=.function
 glob:X.env.globals=mainGlobals
 blt:X.env.builtins=builtinsNs
 above:X.s₀.heap.objs.size<=X.env.locals
 inj:∀ x y c,X.env.cells.lookup x=some c->X.env.cells.lookup y=some c->x=y
 has:∀ x,(X.env.kindOf x=some .cell∨X.env.kindOf x=some .free)->∃ c,X.env.cells.lookup x=some c
 cab:∀ x c,X.fn x=true->X.env.cells.lookup x=some c->X.s₀.heap.objs.size<=c
 hd:X.calm=true->X.A.handled=none
 frames:X.A.frames=some X.stack
 stk:X.stack=X.outer∨(X.stack=X.env::X.outer/\X.env.frame=some X.env.locals)
 exf:∀ b∈X.ex,b≠X.env.locals/\∀ x c,X.env.cells.lookup x=some c->c≠b
 bs:∀ b o,X.base.get? b=some o->X.s₀.heap.get? b=some o/\X.H₀ b=none
 bsz:X.base.objs.size<=X.s₀.heap.objs.size
 noex:∀ b o,X.base.get? b=some o->b∉X.ex
 exfs:∀ b∈X.ex,b∉X.fs
 kN:X.s₀.heap.FunFrames X.base X.outer
 frf:∀ b∈X.fs,X.H₀ b=none
structure Inv (X:Cx) (pins:List (Addr × Obj)) (σ:List (Option V)) (H:Hp) (s:Shared):Prop where
 ok:X.Ok
 os:s.os=X.s₀.os
 bare:AllBare s.gens
 base:Un X.fs X.ex X.H₀ H X.s₀.heap s.heap
 loc:∃ m,s.heap.Ns X.env.locals m/\∀(i:Nat) (x:Str) (v:V),X.N[i]?=some x->σ[i]?=some (some v)->Bv X.env.scope x->∃ u,RelV v u/\Look X.env s.heap m x u
 cell:∀ x c,X.env.cells.lookup x=some c->∃ v,s.heap.IsCell c v
 free:H X.env.locals=none
 freeC:∀ x c,X.env.cells.lookup x=some c->H c=none
 pin:∀ p∈X.pn++pins,s.heap.get? p.1=some p.2/\H p.1=none/\p.1≠X.env.locals/\p.1∉X.fs/\∀ v,p.2.data≠.cell v
 hok:gQ X.prog X.w H s.heap
 len:σ.length=X.N.length
section
variable {X:Cx} {pins:List (Addr × Obj)} {σ:List (Option V)} {H H':Hp} {s:Shared} {h':Heap}
theorem Cx.Ok.DP (ok:X.Ok) {b:Addr} {o:Obj} (e:X.base.get? b=some o):b∉X.fs:=λhb=>by
 have:=(ok.kN.mem hb).1
 rw [e] at this;cases this
theorem Inv.bs (I:Inv X pins σ H s):∀ b o,X.base.get? b=some o->s.heap.get? b=some o/\H b=none:=λb o e =>
 ⟨I.base.keep b o (I.ok.bs b o e).1 (I.ok.bs b o e).2 (I.ok.DP e) (I.ok.noex b o e),I.base.free b o (I.ok.bs b o e).1 (I.ok.bs b o e).2 (I.ok.noex b o e)⟩
theorem Inv.bk (I:Inv X pins σ H s):∀ b o,X.base.get? b=some o->s.heap.get? b=some o:=λb o e=>(I.bs b o e).1
theorem Inv.mod (I:Inv X pins σ H s):Mod X.K X.mg X.base:=I.ok.mod
theorem Inv.nH (I:Inv X pins σ H s):X.K.In s.heap:=I.ok.mod.kin.keeps I.bk
theorem Inv.fr (I:Inv X pins σ H s):∃ m,Fr X.base X.env.locals s.heap m :=
 let ⟨m,hn,_⟩:=I.loc
 ⟨m,hn,I.bk,Nat.le_trans I.ok.bsz I.ok.above⟩
theorem Inv.lt (I:Inv X pins σ H s):X.env.locals<s.heap.objs.size:=let ⟨_,hn,_⟩:=I.loc;hn.lt
theorem Inv.sz (I:Inv X pins σ H s):X.s₀.heap.objs.size<=s.heap.objs.size:=Nat.le_trans I.ok.above (Nat.le_of_lt I.lt)
theorem Inv.yk (I:Inv X pins σ H s) {a:Addr} (h:s.heap.objs.size<=a):a∉X.fs:=λhb=>by
 obtain⟨_,o,ho,_⟩:=I.ok.kN.mem hb
 exact absurd (Nat.lt_of_lt_of_le (Heap.lt_size ho) (Nat.le_trans I.sz h)) (Nat.lt_irrefl _)
theorem Inv.Ak (I:Inv X pins σ H s):∀ x c,X.env.cells.lookup x=some c->c≠X.env.locals:=λx c e z=>by
 obtain⟨v,o,ho,hd⟩:=I.cell x c e
 obtain⟨m,⟨o',es,ep,ho',hd',_⟩,_⟩:=I.loc
 rw [z,ho'] at ho;cases ho;rw [hd'] at hd;cases hd
theorem Inv.kN (I:Inv X pins σ H s):s.heap.FunFrames X.base X.outer:=by
 have all:∀(l:List Env),(∀ b∈uD l,b∈X.fs)->X.s₀.heap.FunFrames X.base l->s.heap.FunFrames X.base l:=by
  intro l
  induction l with
  | nil=>intro _ _;trivial
  | cons env r ih =>
   intro hs hl
   obtain⟨hk,⟨L,o,hf,hn,ho,hd⟩,hr⟩:=hl
   have hL:L∈X.fs:=hs L (by unfold uD;rw [List.filterMap_cons,hf];exact List.mem_cons_self)
   obtain⟨sl,e⟩:=I.base.slot L o ho (I.ok.frf L hL) hL λz=>I.ok.exfs L z hL
   exact⟨hk,⟨L,_,hf,hn,e,hd⟩,ih (λb hb=>hs b (by unfold uD;rw [List.filterMap_cons,hf];exact List.mem_cons_of_mem _ hb)) hr⟩
 exact all X.outer (λ_ hb=>hb) I.ok.kN
theorem Inv.stack (I:Inv X pins σ H s):s.heap.FunFrames X.base X.stack:=by
 rcases I.ok.stk with e | ⟨e,hf⟩
 ·rw [e];exact I.kN
 ·rw [e]
  obtain⟨m,hn,_⟩:=I.loc
  refine .cons (by rw [I.ok.kind];decide) hf hn ?_ I.kN
  exact Heap.get?_none_of_le (Nat.le_trans I.ok.bsz I.ok.above)
theorem Inv.jI (I:Inv X pins σ H s):∀ b∈uD X.stack,b∈X.env.locals::X.fs:=λb hb=>by
 rcases I.ok.stk with e | ⟨e,hf⟩
 ·rw [e] at hb;exact List.mem_cons_of_mem _ hb
 ·rw [e] at hb
  unfold uD at hb
  rw [List.filterMap_cons,hf] at hb
  exact hb
theorem Inv.sS (I:Inv X pins σ H s):∀ b∈uD X.stack,H b=none:=λb hb=>by
 rcases List.mem_cons.mp (I.jI b hb) with e | hb
 ·rw [e];exact I.free
 ·obtain⟨_,o,ho,_⟩:=I.ok.kN.mem hb
  exact I.base.free b o ho (I.ok.frf b hb) λz=>I.ok.exfs b z hb
theorem Inv.step {g':Array GenState} {t':Nat} {d':Drawn} {ch:List Addr} (I:Inv X pins σ H s)
  (hch:∀ b∈ch,(b∈X.ex∨X.s₀.heap.objs.size<=b)/\b≠X.env.locals/\(∀ x c,X.env.cells.lookup x=some c->c≠b)/\∀ p∈X.pn++pins,p.1≠b)
  (keep:∀ b o,b≠X.env.locals->b∉X.fs->b∉ch->s.heap.get? b=some o->H b=none->h'.get? b=some o)
  (slot:∀ b o,b≠X.env.locals->b∈X.fs->b∉ch->s.heap.get? b=some o->H b=none->∃ sl,h'.get? b=some { o with slots:=sl }) (free:∀ b o,b∉ch->s.heap.get? b=some o->H b=none->H' b=none)
  (there:∀ b o,b∉ch->s.heap.get? b=some o->∃ o',h'.get? b=some o')
  (tups:∀ b xs,H b=some (.tup xs)->H' b=some (.tup xs)) (frzs:∀ b o u,H b=some (.frz o u)->H' b=some (.frz o u)) (tbls:∀ b ps,H b=some (.tbl ps)->∃ more,H' b=some (.tbl (ps++more)))
  (ns:∀ m,s.heap.Ns X.env.locals m->h'.Ns X.env.locals m) (hok:gQ X.prog X.w H' h') (hg:AllBare g') :
  Inv X pins σ H' { s with heap:=h',gens:=g',drawn:=d',toks:=t' }:=by
 have neL:∀ b o,X.s₀.heap.get? b=some o->b≠X.env.locals:=λb o e=>Nat.ne_of_lt (Nat.lt_of_lt_of_le (Heap.lt_size e) I.ok.above)
 have neC:∀ b o,X.s₀.heap.get? b=some o->b∉X.ex->b∉ch:=λb o e hx hb=>by
  rcases (hch b hb).1 with z | z
  ·exact hx z
  ·exact absurd (Nat.lt_of_lt_of_le (Heap.lt_size e) z) (Nat.lt_irrefl _)
 have cellK:∀ x c,X.env.cells.lookup x=some c->∀ v,s.heap.IsCell c v->h'.IsCell c v:=λx c e v ⟨o,ho,hd⟩=>by
  have nch:c∉ch:=λz=>(hch c z).2.2.1 x c e rfl
  by_cases hc:c∈X.fs
  ·obtain⟨sl,q⟩:=slot c o (I.Ak x c e) hc nch ho (I.freeC x c e)
   exact⟨_,q,hd⟩
  ·exact⟨o,keep c o (I.Ak x c e) hc nch ho (I.freeC x c e),hd⟩
 refine⟨I.ok,I.os,hg,⟨λb o e n hb hx=>?_,λb o e n hb hx=>?_,λb o e n hx=>?_,λb o e hx=>?_,λb xs e=>tups b xs (I.base.tups b xs e),λb o xs e=>frzs b o xs (I.base.frzs b o xs e),λb ps e=>?_⟩,?_,λx c e=>?_,?_,λx c e=>?_,λp hp=>?_,hok,I.len⟩
 ·exact keep b o (neL b o e) hb (neC b o e hx) (I.base.keep b o e n hb hx) (I.base.free b o e n hx)
 ·obtain⟨sl,e1⟩:=I.base.slot b o e n hb hx
  obtain⟨sl',e2⟩:=slot b _ (neL b o e) hb (neC b o e hx) e1 (I.base.free b o e n hx)
  exact⟨sl',e2⟩
 ·obtain⟨o',e1⟩:=I.base.there b o e hx
  exact free b o' (neC b o e hx) e1 (I.base.free b o e n hx)
 ·obtain⟨o',e1⟩:=I.base.there b o e hx
  exact there b o' (neC b o e hx) e1
 ·obtain⟨m1,e1⟩:=I.base.tbls b ps e
  obtain⟨m2,e2⟩:=tbls b _ e1
  exact⟨m1++m2,by rw [e2,Array.append_assoc]⟩
 ·obtain⟨m,hn,hl⟩:=I.loc
  refine⟨m,ns m hn,λi x v e1 e2 e3=>?_⟩
  obtain⟨u,r,l⟩:=hl i x v e1 e2 e3
  refine⟨u,r,?_⟩
  rcases l with l | ⟨k,c,e,z⟩
  ·exact .inl l
  ·exact .inr ⟨k,c,e,cellK x c e _ z⟩
 ·obtain⟨v,z⟩:=I.cell x c e
  exact⟨v,cellK x c e v z⟩
 ·obtain⟨m,⟨o,_,_,ho,_⟩,_⟩:=I.loc
  exact free _ o (λz=>(hch _ z).2.1 rfl) ho I.free
 ·obtain⟨v,o,ho,hd⟩:=I.cell x c e
  exact free c o (λz=>(hch c z).2.2.1 x c e rfl) ho (I.freeC x c e)
 ·obtain⟨e,n,ne,nf,d⟩:=I.pin p hp
  have nch:p.1∉ch:=λz=>(hch p.1 z).2.2.2 p hp rfl
  exact⟨keep p.1 p.2 ne nf nch e n,free p.1 p.2 nch e n,ne,nf,d⟩
theorem Inv.un {t':Nat} (I:Inv X pins σ H s) (u:Un X.fs [] H H' s.heap h') (hok:gQ X.prog X.w H' h'):Inv X pins σ H' { s with heap:=h',toks:=t' }:=by
 obtain⟨m,⟨o,es,ep,ho,r⟩,_⟩:=id I.loc
 obtain⟨sl,hL⟩:=u.any ho I.free (by simp)
 exact I.step (g':=s.gens) (d':=s.drawn) (ch:=[]) (λ_ z=>nomatch z) (λb o _ hb _ e n=>u.keep b o e n hb (by simp)) (λb o _ hb _ e n=>u.slot b o e n hb (by simp)) (λb o _ e n=>u.free b o e n (by simp)) (λb o _ e=>u.there b o e (by simp)) u.tups u.frzs u.tbls (λm' hm=>by
  obtain⟨o',es',ep',ho',r'⟩:=hm
  rw [ho] at ho';cases ho'
  exact⟨_,es',ep',hL,r'⟩) hok I.bare
theorem Inv.call {g':Array GenState} {t':Nat} {d':Drawn} {ch:List Addr} (I:Inv X pins σ H s) (u:Un (uD X.stack) ch H H' s.heap h') (hok:gQ X.prog X.w H' h') (hg:AllBare g')
  (hch:∀ b∈ch,(b∈X.ex∨X.s₀.heap.objs.size<=b)/\b≠X.env.locals/\(∀ x c,X.env.cells.lookup x=some c->c≠b)/\∀ p∈X.pn++pins,p.1≠b) :
  Inv X pins σ H' { s with heap:=h',gens:=g',drawn:=d',toks:=t' }:=by
 obtain⟨m,⟨o,es,ep,ho,r⟩,_⟩:=id I.loc
 obtain⟨sl,hL⟩:=u.any ho I.free λz=>(hch _ z).2.1 rfl
 exact I.step (ch:=ch) hch (λb o hL hb hc e n=>u.keep b o e n (λz=>(List.mem_cons.mp (I.jI b z)).elim hL hb) hc) (λb o _ _ hc e n=>u.any e n hc) (λb o hc e n=>u.free b o e n hc) (λb o hc e=>u.there b o e hc) u.tups u.frzs u.tbls (λm' hm=>by
  obtain⟨o',es',ep',ho',r'⟩:=hm
  rw [ho] at ho';cases ho'
  exact⟨_,es',ep',hL,r'⟩) hok hg
theorem Inv.turned {t':Nat} {it:Addr} (I:Inv X pins σ H s) (k:∀ b o,b≠it->s.heap.get? b=some o->h'.get? b=some o) (hn:H it=none) (hL:it≠X.env.locals)
  (h1:it∈X.ex∨X.s₀.heap.objs.size<=it) (h2:∀ x c,X.env.cells.lookup x=some c->c≠it) (h3:∀ p∈X.pn++pins,p.1≠it):Inv X pins σ H { s with heap:=h',toks:=t' }:=by
 have nit:∀ b u,H b=some u->b≠it:=λb u e z=>by rw [z,hn] at e;cases e
 refine I.step (g':=s.gens) (d':=s.drawn) (ch:=[it]) (λb hb=>?_) (λb o _ _ hc e _=>k b o (λz=>hc (by simp [z])) e) (λb o _ _ hc e _=>⟨o.slots,k b o (λz=>hc (by simp [z])) e⟩) (λ_ _ _ _ n=>n)
  (λb o hc e=>⟨o,k b o (λz=>hc (by simp [z])) e⟩) (λ_ _ e=>e) (λ_ _ _ e=>e) (λb ps e=>⟨#[],by rw [e];simp⟩) (λm hm=>?_) (λb u e=>?_) I.bare
 ·have e:b=it:=by simpa using hb
  subst e
  exact⟨h1,hL,h2,h3⟩
 ·obtain⟨o,es,ep,ho,r⟩:=hm
  exact⟨o,es,ep,k _ o (Ne.symm hL) ho,r⟩
 ·refine (I.hok b u e).pZ (λc v hc q=>k c v ?_ q) (λ_ q=>q) λ_ _ q=>q
  rcases hc with z | z
  ·rw [z];exact nit b u e
  ·exact nit c _ z
theorem Inv.tok (I:Inv X pins σ H s) (t:Nat):Inv X pins σ H { s with toks:=t }:=I.un (h':=s.heap) (t':=t) Un.refl I.hok
theorem Inv.kept {t':Nat} (I:Inv X pins σ H s) (k:∀ b u,s.heap.get? b=some u->h'.get? b=some u):Inv X pins σ H { s with heap:=h',toks:=t' }:=I.un (Un.kept k) (I.hok.kept k)
theorem Inv.laid {a:Addr} {o:HO} {t':Nat} (I:Inv X pins σ H s) (k:∀ b u,s.heap.get? b=some u->h'.get? b=some u) (hp:s.heap.objs.size<=a) (new:bV X.prog X.w (upd H a o) h' a o) :
  Inv X pins σ (upd H a o) { s with heap:=h',toks:=t' }:=I.un (Un.laid k hp (I.hok.fresh hp)) (I.hok.laid k hp new)
theorem Inv.write {x e:Addr} {o:HO} {t':Nat} (I:Inv X pins σ H s) (mu:BF (H x)) (he:e=x∨H e=some (.own x)) (k:∀ b u,b≠e->s.heap.get? b=some u->h'.get? b=some u) (heo:∃ u,h'.get? e=some u)
  (new:bV X.prog X.w (upd H x o) h' x o):Inv X pins σ (upd H x o) { s with heap:=h',toks:=t' }:=I.un (Un.write mu he k heo) (I.hok.write mu he k heo new)
theorem Inv.weak {σ':List (Option V)} (I:Inv X pins σ H s) (hl:σ'.length=σ.length) (w:∀(i:Nat) v,σ'[i]?=some (some v)->σ[i]?=some (some v)):Inv X pins σ' H s :=
 ⟨I.ok,I.os,I.bare,I.base,let ⟨m,hn,hl'⟩:=I.loc;⟨m,hn,λi x v e1 e2 e3=>hl' i x v e1 (w i v e2) e3⟩,I.cell,I.free,I.freeC,I.pin,I.hok,hl.trans I.len⟩
theorem Inv.gL {pins':List (Addr × Obj)} (I:Inv X pins σ H s) (h:∀ p∈pins',s.heap.get? p.1=some p.2/\H p.1=none/\p.1≠X.env.locals/\p.1∉X.fs/\∀ v,p.2.data≠.cell v):Inv X pins' σ H s :=
 ⟨I.ok,I.os,I.bare,I.base,I.loc,I.cell,I.free,I.freeC,λp hp=>(List.mem_append.mp hp).elim (λz=>I.pin p (List.mem_append_left _ z)) (h p),I.hok,I.len⟩
theorem pB {N:List Str} (hN:N.Nodup) {i j:Nat} {x:Str} (a:N[i]?=some x) (b:N[j]?=some x):i=j:=by
 obtain⟨h1,e1⟩:=List.getElem?_eq_some_iff.mp a
 obtain⟨h2,e2⟩:=List.getElem?_eq_some_iff.mp b
 exact (List.getElem_inj hN).mp (e1.trans e2.symm)
theorem uz {M:Model} {A:Around} {E:Value->Shared->Prop} {i:Nat} {x:Str} {v:V} {u:Value} {Q:Unit->Shared->Prop} (I:Inv X pins σ H s) (hN:X.N.Nodup) (hi:X.N[i]?=some x) (hx:Loc X.env.scope x) (r:RelV v u)
  (h:∀ s',Inv X pins (σ.set i (some v)) H s'->(∃ a,Heap.SameBut a s.heap s'.heap/\(a=X.env.locals∨X.env.cells.lookup x=some a))->Q () s') (hf:X.fn x=true∨X.env.scope.names.lookup x=some .local:=by first | exact .inl rfl | exact .inr rfl | assumption):wpAny M A (storeName X.env x u) Q E s:=by
 obtain⟨m,hn,hl⟩:=id I.loc
 have hcls:(X.env.scope.kind==.class || (X.env.scope.kind==.module && X.env.locals != X.env.globals))=false:=by rw [I.ok.kind];rfl
 have hiσ:i<σ.length:=by rw [I.len];exact (List.getElem?_eq_some_iff.mp hi).1
 have Ak:=I.Ak
 have tracked:∀{a:Addr} {h':Heap},(∃ o,s.heap.get? a=some o/\H a=none)->Heap.SameBut a s.heap h'->gQ X.prog X.w H h':=λ{a h'} ha hs b ob e=>by
  obtain⟨_,_,hfree⟩:=ha
  refine (I.hok b ob e).pZ (λc w' hc q=>(hs.2 c ?_).trans q) (λ_ q=>q) λ_ _ q=>q
  rintro rfl
  rcases hc with rfl | hc
  ·rw [hfree] at e;cases e
  ·rw [hfree] at hc;cases hc
 rcases hx with hk | hk
 ·refine wpAny_storeName_local hk hn (λh' hn' hs=>?_) hcls
  obtain⟨oL,_,_,hoL,_⟩:=id hn
  refine h _ ⟨I.ok,I.os,I.bare,⟨λb o e n hb hx=>?_,λb o e n hb hx=>?_,I.base.free,λb o e hx=>?_,I.base.tups,I.base.frzs,I.base.tbls⟩,⟨_,hn',λj y v' e1 e2 e3=>?_⟩,λy c e=>?_,I.free,I.freeC,λp hp=>?_,tracked ⟨oL,hoL,I.free⟩ hs,by simpa using I.len⟩ ⟨_,hs,.inl rfl⟩
  ·exact (hs.2 b (Nat.ne_of_lt (Nat.lt_of_lt_of_le (Heap.lt_size e) I.ok.above))).trans (I.base.keep b o e n hb hx)
  ·obtain⟨sl,e1⟩:=I.base.slot b o e n hb hx
   exact⟨sl,(hs.2 b (Nat.ne_of_lt (Nat.lt_of_lt_of_le (Heap.lt_size e) I.ok.above))).trans e1⟩
  ·obtain⟨o',e1⟩:=I.base.there b o e hx
   exact⟨o',(hs.2 b (Nat.ne_of_lt (Nat.lt_of_lt_of_le (Heap.lt_size e) I.ok.above))).trans e1⟩
  ·by_cases hj:j=i
   ·subst hj
    rw [hi] at e1;cases e1
    rw [List.getElem?_set_self hiσ] at e2
    cases e2
    exact⟨u,r,.inl ⟨hk,by simp⟩⟩
   ·rw [List.getElem?_set_ne (Ne.symm hj)] at e2
    obtain⟨u',r',q⟩:=hl j y v' e1 e2 e3
    refine⟨u',r',?_⟩
    rcases q with⟨k,e⟩|⟨k,c,e,z⟩
    ·refine .inl ⟨k,?_⟩
     have:y≠x:=λe=>hj (pB hN e1 (e▸hi))
     simp [this,e]
    ·exact .inr ⟨k,c,e,z.sameBut hs (Ak y c e)⟩
  ·obtain⟨w',z⟩:=I.cell y c e
   exact⟨w',z.sameBut hs (Ak y c e)⟩
  ·obtain⟨e,n,ne,nf,d⟩:=I.pin p hp
   exact⟨(hs.2 p.1 ne).trans e,n,ne,nf,d⟩
 ·have hfn:X.fn x=true:=by
   rcases hf with z | z
   ·exact z
   ·rw [z] at hk;cases hk
  obtain⟨c,hc⟩:=I.ok.has x (.inl hk)
  obtain⟨w',z⟩:=I.cell x c hc
  refine wpAny_storeName_cell I.ok.kind hk hc z (λh' hc' hs=>?_)
  obtain⟨oc,hoc,hocd⟩:=id z
  refine h { s with heap:=h' } ⟨I.ok,I.os,I.bare,⟨λb o e n hb hx=>?_,λb o e n hb hx=>?_,I.base.free,λb o e hx=>?_,I.base.tups,I.base.frzs,I.base.tbls⟩,⟨m,hn.sameBut hs (Ne.symm (Ak x c hc)),λj y v' e1 e2 e3=>?_⟩,λy c' e=>?_,I.free,I.freeC,λp hp=>?_,tracked ⟨oc,hoc,I.freeC x c hc⟩ hs,by simpa using I.len⟩ ⟨c,hs,.inr hc⟩
  ·exact (hs.2 b (Nat.ne_of_lt (Nat.lt_of_lt_of_le (Heap.lt_size e) (I.ok.cab x c hfn hc)))).trans (I.base.keep b o e n hb hx)
  ·obtain⟨sl,e1⟩:=I.base.slot b o e n hb hx
   exact⟨sl,(hs.2 b (Nat.ne_of_lt (Nat.lt_of_lt_of_le (Heap.lt_size e) (I.ok.cab x c hfn hc)))).trans e1⟩
  ·obtain⟨o',e1⟩:=I.base.there b o e hx
   exact⟨o',(hs.2 b (Nat.ne_of_lt (Nat.lt_of_lt_of_le (Heap.lt_size e) (I.ok.cab x c hfn hc)))).trans e1⟩
  ·by_cases hj:j=i
   ·subst hj
    rw [hi] at e1;cases e1
    rw [List.getElem?_set_self hiσ] at e2
    cases e2
    exact⟨u,r,.inr ⟨.inl hk,c,hc,hc'⟩⟩
   ·rw [List.getElem?_set_ne (Ne.symm hj)] at e2
    obtain⟨u',r',q⟩:=hl j y v' e1 e2 e3
    refine⟨u',r',?_⟩
    rcases q with q | ⟨k,c',e,z'⟩
    ·exact .inl q
    ·refine .inr ⟨k,c',e,z'.sameBut hs ?_⟩
     rintro rfl
     exact hj (pB hN e1 (I.ok.inj _ _ _ e hc▸hi))
  ·by_cases hcc:c'=c
   ·subst hcc;exact⟨_,hc'⟩
   ·obtain⟨w2,z2⟩:=I.cell y c' e
    exact⟨w2,z2.sameBut hs hcc⟩
  ·obtain⟨e,n,ne,nf,d⟩:=I.pin p hp
   refine⟨(hs.2 p.1 ?_).trans e,n,ne,nf,d⟩
   intro q
   rw [q,hoc] at e
   have q':oc=p.2:=Option.some.inj e
   exact d w' (by rw [<- q'];exact hocd)
theorem cY {M:Model} {A:Around} {E:Value->Shared->Prop} {i:Nat} {x:Str} {v:V} {u:Value} {Q:Unit->Shared->Prop} (I:Inv X pins σ H s) (hN:X.N.Nodup) (hi:X.N[i]?=some x) (hx:Loc X.env.scope x) (r:RelV v u)
  (h:∀ s',Inv X pins (σ.set i (some v)) H s'->Q () s') (hf:X.fn x=true∨X.env.scope.names.lookup x=some .local:=by first | exact .inl rfl | exact .inr rfl | assumption):wpAny M A (storeName X.env x u) Q E s :=
 uz I hN hi hx r (λs' I' _=>h s' I') hf
theorem Inv.BN {s':Shared} {ch:List Addr} (I:Inv X pins σ H s) (ho:s'.os=s.os) (u:Un (uD X.stack) ch H H' s.heap s'.heap) (hok:gQ X.prog X.w H' s'.heap) (hg:AllBare s'.gens)
  (hch:∀ b∈ch,(b∈X.ex∨X.s₀.heap.objs.size<=b)/\b≠X.env.locals/\(∀ x c,X.env.cells.lookup x=some c->c≠b)/\∀ p∈X.pn++pins,p.1≠b):Inv X pins σ H' s':=by
 obtain⟨h',g',d',t',o'⟩:=s'
 have e:o'=s.os:=ho
 subst e
 exact I.call (g':=g') (t':=t') (d':=d') u hok hg hch
end
abbrev XK:=Value->Option Addr->Hp->Prop
abbrev St:=List (Option V)
abbrev VK:=V->Hp->Prop
abbrev TE:=St->Hp->VK->Prop
abbrev TT:=St->Hp->(Bool->Hp->Prop)->Prop
abbrev TA:=St->Hp->(List V->Hp->Prop)->Prop
structure Ends where
 nx:St->Hp->Prop
 rt:VK
 bk:St->Hp->Prop:=λ_ _=>False
 ct:St->Hp->Prop:=λ_ _=>False
abbrev TS:=Ends->St->Hp->Prop
def EP (X:Cx) (pins:List (Addr × Obj)) (σ:St) (Q:VK) (u:Value) (s':Shared):Prop:=∃ v H',Inv X pins σ H' s'/\RelV v u/\Q v H'
def TP (X:Cx) (pins:List (Addr × Obj)) (σ:St) (Q:Bool->Hp->Prop) (b:Bool) (s':Shared):Prop:=∃ H',Inv X pins σ H' s'/\Q b H'
def AP (X:Cx) (pins:List (Addr × Obj)) (σ:St) (Q:List V->Hp->Prop) (us:List Value) (s':Shared):Prop:=∃ vs H',Inv X pins σ H' s'/\Vals vs us/\Q vs H'
def SP (X:Cx) (pins:List (Addr × Obj)) (D:Ends) (f:Flow) (s':Shared):Prop :=
 match f with
 | .next=>∃ σ' H',Inv X pins σ' H' s'/\D.nx σ' H'
 | .brk=>∃ σ' H',Inv X pins σ' H' s'/\D.bk σ' H'
 | .cont=>∃ σ' H',Inv X pins σ' H' s'/\D.ct σ' H'
 | .ret u=>∃ v σ' H',Inv X pins σ' H' s'/\RelV v u/\D.rt v H'
def PE (X:Cx) (e:Expr) (t:TE):Prop :=
 ∀(pins:List (Addr × Obj)) (s:Shared) (σ:St) (H:Hp) (Q:VK),Inv X pins σ H s->t σ H Q->wpAny (model X.prog X.w) X.A (eval e X.env) (EP X pins σ Q) X.xe s
def PT (X:Cx) (e:Expr) (t:TT):Prop :=
 ∀(pins:List (Addr × Obj)) (s:Shared) (σ:St) (H:Hp) (Q:Bool->Hp->Prop),Inv X pins σ H s->t σ H Q->wpAny (model X.prog X.w) X.A (isTrue e X.env (eval e X.env)) (TP X pins σ Q) X.xe s
def PW (X:Cx) (e:Expr) (t:TT):Prop :=
 ∀(whole:Sem Value) (pins:List (Addr × Obj)) (s:Shared) (σ:St) (H:Hp) (Q:Bool->Hp->Prop),Inv X pins σ H s->t σ H Q->wpAny (model X.prog X.w) X.A (isTrue e X.env whole) (TP X pins σ Q) X.xe s
theorem PW.pt {X:Cx} {e:Expr} {t:TT} (h:PW X e t):PT X e t:=h _
def PA (X:Cx) (es:List Expr) (t:TA):Prop :=
 ∀(pos:Pos) (pins:List (Addr × Obj)) (s:Shared) (σ:St) (H:Hp) (Q:List V->Hp->Prop),Inv X pins σ H s->t σ H Q->wpAny (model X.prog X.w) X.A (spliced (backTo pos (starEach es X.env))) (AP X pins σ Q) X.xe s
def PS (X:Cx) (st:Stmt) (t:TS):Prop :=
 ∀(pins:List (Addr × Obj)) (s:Shared) (σ:St) (H:Hp) (D:Ends),Inv X pins σ H s->t D σ H->wpAny (model X.prog X.w) X.A (exec st X.env) (SP X pins D) X.xe s
def oo (X:Cx) (st:List Stmt) (t:TS):Prop :=
 ∀(pins:List (Addr × Obj)) (s:Shared) (σ:St) (H:Hp) (D:Ends),Inv X pins σ H s->t D σ H->wpAny (model X.prog X.w) X.A (execs st X.env) (SP X pins D) X.xe s
theorem bS {α:Type} {t:Sem α} {Q Q':α->Shared->Prop} {M:Model} {A:Around} {E:Value->Shared->Prop} {s:Shared} (h:wpAny M A t Q E s) (hQ:∀ a s,Q a s->Q' a s):wpAny M A t Q' E s:=wpAny_mono h hQ λ_ _ x=>x
section
variable {X:Cx}
def xn (i:Nat):TE:=λσ H Q=>∃ v,σ[i]?=some (some v)/\Q v H
def tC (v:V):TE:=λ_ H Q=>Q v H
theorem A3 {i:Nat} {x:Str} {pos:Pos} (hN:X.N[i]?=some x) (hv:Bv X.env.scope x) (hd:(x==("__debug__":Str))=false:=by decide) (hcd:(x==("__classdict__":Str))=false:=by decide):PE X (.Name x pos) (xn i):=by
 intro pins s σ H Q I h
 obtain⟨v,e,h⟩:=h
 obtain⟨m,hn,hl⟩:=I.loc
 obtain⟨u,r,l⟩:=hl i x v hN e hv
 have fin:EP X pins σ Q u s:=⟨v,H,I,r,h⟩
 rcases l with⟨hk,hm⟩|⟨hk,c,hc,hcell⟩
 ·exact wpAny_Name (wpAny_loadName_local I.ok.kind hk hn hm fin) hd
 ·rcases hk with hk | hk
  ·exact wpAny_Name (wpAny_loadName_cell I.ok.kind hk hc hcell fin) hd
  ·exact wpAny_Name (wpAny_loadName_free I.ok.kind hk hc hcell fin hcd) hd
theorem af {i j pos}:PE X (.Constant (.int i) j pos) (tC (.int i)):=λ_ _ _ H _ I h=>wpAny_Constant_int ⟨.int i,H,I.tok _,⟨_,rfl⟩,h⟩
theorem bO {b j pos}:PE X (.Constant (.bool b) j pos) (tC (.bl b)):=λ_ _ _ H _ I h=>Constant_bool ⟨.bl b,H,I,rfl,h⟩
theorem fU {j pos}:PE X (.Constant .none j pos) (tC .bY):=λ_ _ _ H _ I h=>Constant_none ⟨.bY,H,I,rfl,h⟩
theorem aT {x j pos}:PE X (.Constant (.str x) j pos) (tC (.str x)):=λ_ _ _ H _ I h=>Calls.Constant_str ⟨.str x,H,I.tok _,⟨_,rfl⟩,h⟩
def Gl (X:Cx) (x:Str):Prop:=X.env.kindOf x=some .globalImplicit
theorem rS {E:Value->Shared->Prop} {pins:List (Addr × Obj)} {s:Shared} {σ:St} {H:Hp} {x:Str} {u:Value} {pos:Pos} {Q:Value->Shared->Prop} (I:Inv X pins σ H s) (hg:Gl X x) (hm:X.mg x=some u) (h:Q u s)
  (hd:(x==("__debug__":Str))=false:=by decide):wpAny (model X.prog X.w) X.A (eval (.Name x pos) X.env) Q E s :=
 Calls.Name_function_global I.ok.kind hg (Calls.loadGlobal_global (by rw [I.ok.glob];exact I.mod.glob.keeps I.bk) hm h) hd
theorem fQ {E:Value->Shared->Prop} {pins:List (Addr × Obj)} {s:Shared} {σ:St} {H:Hp} {x:Str} {u:Value} {pos:Pos} {Q:Value->Shared->Prop} (I:Inv X pins σ H s) (hg:Gl X x) (hm:X.mg x=none) (hv:bootBuiltins x=some u) (h:Q u s)
  (hn:x ≠ "__name__":=by decide) (hd:(x==("__debug__":Str))=false:=by decide):wpAny (model X.prog X.w) X.A (eval (.Name x pos) X.env) Q E s:=by
 obtain⟨mb,h1,h2⟩:=I.mod.blt
 exact Calls.Name_function_global I.ok.kind hg (Calls.loadGlobal_builtin (by rw [I.ok.glob];exact I.mod.glob.keeps I.bk) hm (by rw [I.ok.blt];exact h1.keeps I.bk) ((h2 x hn).trans hv) h) hd
theorem sx {x:Str} {v:V} {u:Value} {pos:Pos} (hg:Gl X x) (hm:X.mg x=some u) (r:RelV v u) (hd:(x==("__debug__":Str))=false:=by decide):PE X (.Name x pos) (tC v) :=
 λ_ _ _ H _ I h=>rS I hg hm ⟨v,H,I,r,h⟩ hd
theorem bZ {x:Str} {v:V} {u:Value} {pos:Pos} (hg:Gl X x) (hm:X.mg x=none) (hv:bootBuiltins x=some u) (r:RelV v u) (hn:x ≠ "__name__":=by decide) (hd:(x==("__debug__":Str))=false:=by decide):PE X (.Name x pos) (tC v) :=
 λ_ _ _ H _ I h=>fQ I hg hm hv ⟨v,H,I,r,h⟩ hn hd
variable {a b:Expr} {ta tb:TE} {pos:Pos}
def tB (t:TE):TT:=λσ H Q=>t σ H λx H1=>∃ c,x=.bl c/\Q c H1
variable {tA tB':TT} {rest:List Expr}
def CF (t u:TT):TT:=λσ H Q=>t σ H λc H1=>if c=true then u σ H1 Q else Q false H1
def Eu (t u:TT):TT:=λσ H Q=>t σ H λc H1=>if c=true then Q true H1 else u σ H1 Q
def CP (t:TT):TT:=λσ H Q=>t σ H λc H1=>Q (!c) H1
theorem cI (ha:PT X a tA):PW X (.BoolOp .And [a] pos) tA:=by
 intro wh pins s σ H Q I h
 refine isTrue_and (bS (ha pins s σ H Q I h) λc s1 e=>?_)
 cases c with
 | true=>exact isTrue_and_nil e
 | false=>exact e
theorem d5 (ha:PT X a tA):PW X (.BoolOp .Or [a] pos) tA:=by
 intro wh pins s σ H Q I h
 refine isTrue_or (bS (ha pins s σ H Q I h) λc s1 e=>?_)
 cases c with
 | false=>exact isTrue_or_nil e
 | true=>exact e
theorem cN (ha:PT X a tA) (hb:PW X (.BoolOp .And (b::rest) pos) tB'):PW X (.BoolOp .And (a::b::rest) pos) (CF tA tB'):=by
 intro wh pins s σ H Q I h
 refine isTrue_and (bS (ha pins s σ H _ I h) λc s1 ⟨H1,I1,q1⟩=>?_)
 cases c with
 | true=>exact hb wh pins s1 σ H1 Q I1 q1
 | false=>exact⟨H1,I1,q1⟩
theorem cF (ha:PT X a tA) (hb:PW X (.BoolOp .Or (b::rest) pos) tB'):PW X (.BoolOp .Or (a::b::rest) pos) (Eu tA tB'):=by
 intro wh pins s σ H Q I h
 refine isTrue_or (bS (ha pins s σ H _ I h) λc s1 ⟨H1,I1,q1⟩=>?_)
 cases c with
 | true=>exact⟨H1,I1,q1⟩
 | false=>exact hb wh pins s1 σ H1 Q I1 q1
theorem bX (ha:PT X a tA):PT X (.UnaryOp .Not a pos) (CP tA):=by
 intro pins s σ H Q I h
 exact isTrue_not (ha pins s σ H (λc H1=>Q (!c) H1) I h)
def zW (ta tb:TE):TE:=λσ H Q=>ta σ H λx H1=>∃ c,x=.bl c/\if c=true then tb σ H1 Q else Q (.bl false) H1
def D9 (ta tb:TE):TE:=λσ H Q=>ta σ H λx H1=>∃ c,x=.bl c/\if c=true then Q (.bl true) H1 else tb σ H1 Q
def z6 (ta:TE):TE:=λσ H Q=>ta σ H λx H1=>∃ c,x=.bl c/\Q (.bl (!c)) H1
theorem cA {op} {t:TE} (h:PE X a t):PE X (.BoolOp op [a] pos) t:=λpins s σ H Q I hw=>BoolOp_one (h pins s σ H Q I hw)
theorem bG (ha:PE X a ta) (hb:PE X (.BoolOp .And (b::rest) pos) tb):PE X (.BoolOp .And (a::b::rest) pos) (zW ta tb):=by
 intro pins s σ H Q I h
 refine BoolOp_and (bS (ha pins s σ H _ I h) λv s1 ⟨x,H1,I1,r1,q1⟩=>?_)
 obtain⟨c,rfl,q1⟩:=q1
 cases r1
 refine wpAny_truthy_bool ?_
 cases c with
 | true=>exact hb pins s1 σ H1 Q I1 q1
 | false=>exact⟨.bl false,H1,I1,rfl,q1⟩
theorem A2 (ha:PE X a ta):PE X (.UnaryOp .Not a pos) (z6 ta):=by
 intro pins s σ H Q I h
 refine UnaryOp_ (bS (ha pins s σ H _ I h) λv s1 ⟨x,H1,I1,r1,q1⟩=>?_)
 obtain⟨c,rfl,q1⟩:=q1
 cases r1
 exact not_of (wpAny_truthy_bool ⟨.bl (!c),H1,I1,rfl,q1⟩)
def Et (t:TT) (ta tb:TE):TE:=λσ H Q=>t σ H λc H1=>if c=true then ta σ H1 Q else tb σ H1 Q
theorem fS {c:Expr} (hc:PT X c tA) (ha:PE X a ta) (hb:PE X b tb):PE X (.IfExp c a b pos) (Et tA ta tb):=by
 intro pins s σ H Q I h
 refine wpAny_IfExp (bS (hc pins s σ H _ I h) λd s1 ⟨H1,I1,q1⟩=>?_)
 cases d with
 | true=>exact ha pins s1 σ H1 Q I1 q1
 | false=>exact hb pins s1 σ H1 Q I1 q1
end
def aS (K:PySem.W.Frag) (H:Hp) (a:Addr) (xs:List V):Prop :=
 Rd H a (.lst xs) ∨
  ∃(o:Obj) (its:Array Value) (n:Nat),K.lookup a=some o/\o.cls=.type "list"/\o.dict=none/\o.data=.seq its n/\its.size<=sizeLine/\Vals xs its.toList
def aY (K:PySem.W.Frag) (H:Hp) (a:Addr) (xs:List V):Prop :=
 Rd H a (.tup xs) ∨
  ∃(o:Obj) (its:Array Value) (n:Nat),K.lookup a=some o/\o.cls=.type "tuple"/\o.data=.seq its n/\its.size<=sizeLine/\Vals xs its.toList
def Dz:Value->Option V
 | .none=>some .bY
 | .bool b=>some (.bl b)
 | .int i _=>some (.int i)
 | .str x _=>some (.str x)
 | .bytes b _=>some (.byt b)
 | .float b _=>some (.flt b)
 | .ref a=>some (.ref a)
 | .type n=>some (.ty n)
 | _=>none
theorem RelV.abs {x:V} {u:Value} (r:RelV x u):Dz u=some x:=by
 cases x with
 | bY=>cases r;rfl
 | bl _=>cases r;rfl
 | int _=>obtain⟨t,rfl⟩:=r;rfl
 | str _=>obtain⟨t,rfl⟩:=r;rfl
 | byt _=>obtain⟨t,rfl⟩:=r;rfl
 | flt _=>obtain⟨t,rfl⟩:=r;rfl
 | ref _=>cases r;rfl
 | ty _=>cases r;rfl
theorem RelV.inj {x y:V} {u:Value} (r:RelV x u) (q:RelV y u):x=y:=Option.some.inj (r.abs.symm.trans q.abs)
theorem Vals.inj:∀{xs ys:List V} {us:List Value},Vals xs us->Vals ys us->xs=ys
 | _,_,_,.nil,.nil=>rfl
 | _,_,_,.cons r t,.cons r' t'=>by rw [r.inj r',Vals.inj t t']
section
variable {X:Cx} {pins:List (Addr × Obj)} {σ:St} {H:Hp} {s:Shared} {a:Addr} {xs ys:List V}
theorem aS.of {K:PySem.W.Frag} (h:H a=some (.lst xs)):aS K H a xs:=.inl (.inl h)
theorem aY.of {K:PySem.W.Frag} (h:H a=some (.tup xs)):aY K H a xs:=.inl (.inl h)
theorem Inv.list (I:Inv X pins σ H s) (h:aS X.K H a xs):∃ its:List Value,Vals xs its/\PlainL s.heap a its.toArray/\xs.length<=sizeLine:=by
 rcases h with h | ⟨o,its,n,hk,hc,hd,hs,hz,r⟩
 ·obtain⟨z,its,n,r,e⟩:=h.ok I.hok
  exact⟨its,r,⟨_,n,e,rfl,rfl,rfl⟩,z⟩
 ·refine⟨its.toList,r,⟨o,n,I.nH a o hk,hc,hd,by simpa using hs⟩,?_⟩
  have e:=r.length
  simp only [Array.length_toList] at e
  omega
theorem Inv.tuple (I:Inv X pins σ H s) (h:aY X.K H a xs):∃ its:List Value,Vals xs its/\IsTup s.heap a its.toArray/\xs.length<=sizeLine:=by
 rcases h with h | ⟨o,its,n,hk,hc,hs,hz,r⟩
 ·obtain⟨z,its,r,p⟩:=h.ok I.hok
  exact⟨its,r,p,z⟩
 ·refine⟨its.toList,r,⟨o,I.nH a o hk,hc,n,by simpa using hs⟩,?_⟩
  have e:=r.length
  simp only [Array.length_toList] at e
  omega
theorem Inv.oY (I:Inv X pins σ H s) (h:aS X.K H a xs) (h':aS X.K H a ys):xs=ys:=by
 obtain⟨its,r,⟨o,n,e,_,_,d⟩,_⟩:=I.list h
 obtain⟨its',r',⟨o',n',e',_,_,d'⟩,_⟩:=I.list h'
 rw [e] at e';cases e'
 rw [d] at d'
 injection d' with d1 _
 have:its=its':=by simpa using congrArg Array.toList d1
 subst this
 exact r.inj r'
theorem Inv.mR (I:Inv X pins σ H s) (h:aY X.K H a xs) (h':aY X.K H a ys):xs=ys:=by
 obtain⟨its,r,⟨o,e,_,n,d⟩,_⟩:=I.tuple h
 obtain⟨its',r',⟨o',e',_,n',d'⟩,_⟩:=I.tuple h'
 rw [e] at e';cases e'
 rw [d] at d'
 injection d' with d1 _
 have:its=its':=by simpa using congrArg Array.toList d1
 subst this
 exact r.inj r'
end
abbrev Cx.kf (X:Cx) (E:Value->Shared->Prop):Cx:={ X with xe:=E }
abbrev Cx.vS (X:Cx):Cx:=X.kf λ_ _=>False
theorem Cx.Ok.kf {X:Cx} (ok:X.Ok) (E:Value->Shared->Prop):(X.kf E).Ok :=
 ⟨ok.mod,ok.kind,ok.glob,ok.blt,ok.above,ok.inj,ok.has,ok.cab,ok.hd,ok.frames,ok.stk,ok.exf,ok.bs,ok.bsz,ok.noex,ok.exfs,ok.kN,ok.frf⟩
theorem Cx.Ok.eV {X:Cx} {E:Value->Shared->Prop} (ok:(X.kf E).Ok):X.Ok :=
 ⟨ok.mod,ok.kind,ok.glob,ok.blt,ok.above,ok.inj,ok.has,ok.cab,ok.hd,ok.frames,ok.stk,ok.exf,ok.bs,ok.bsz,ok.noex,ok.exfs,ok.kN,ok.frf⟩
section
variable {X:Cx} {pins:List (Addr × Obj)} {σ:St} {H:Hp} {s:Shared} {E:Value->Shared->Prop}
theorem Inv.kf (I:Inv X pins σ H s) (E:Value->Shared->Prop):Inv (X.kf E) pins σ H s:=⟨I.ok.kf E,I.os,I.bare,I.base,I.loc,I.cell,I.free,I.freeC,I.pin,I.hok,I.len⟩
theorem Inv.eV (I:Inv (X.kf E) pins σ H s):Inv X pins σ H s:=⟨I.ok.eV,I.os,I.bare,I.base,I.loc,I.cell,I.free,I.freeC,I.pin,I.hok,I.len⟩
theorem SP.eV {D:Ends} {f:Flow} {s':Shared} (h:SP (X.kf E) pins D f s'):SP X pins D f s':=by
 cases f with
 | next=>obtain⟨σ',H',I,q⟩:=h;exact⟨σ',H',I.eV,q⟩
 | brk=>obtain⟨σ',H',I,q⟩:=h;exact⟨σ',H',I.eV,q⟩
 | cont=>obtain⟨σ',H',I,q⟩:=h;exact⟨σ',H',I.eV,q⟩
 | ret u=>obtain⟨v,σ',H',I,r,q⟩:=h;exact⟨v,σ',H',I.eV,r,q⟩
theorem PE.vS {e:Expr} {t:TE} (h:PE X.vS e t):PE X e t:=λpins s σ H Q I hw =>
 wpAny_mono (h pins s σ H Q (I.kf _) hw) (λ_ _ ⟨v,H',I',r,q⟩=>⟨v,H',I'.eV,r,q⟩) λ_ _ z=>False.elim z
theorem PT.vS {e:Expr} {t:TT} (h:PT X.vS e t):PT X e t:=λpins s σ H Q I hw =>
 wpAny_mono (h pins s σ H Q (I.kf _) hw) (λ_ _ ⟨H',I',q⟩=>⟨H',I'.eV,q⟩) λ_ _ z=>False.elim z
theorem oo.vS {st:List Stmt} {t:TS} (h:oo X.vS st t):oo X st t:=λpins s σ H D I hw =>
 wpAny_mono (h pins s σ H D (I.kf _) hw) (λ_ _ q=>q.eV) λ_ _ z=>False.elim z
end
section
variable {X:Cx} {st:Stmt} {rest:List Stmt} {t u:TS} {e:Expr} {te:TE} {pos:Pos}
def z4:TS:=λD σ H=>D.nx σ H
def b9 (t u:TS):TS:=λD σ H=>t { D with nx:=u D } σ H
theorem aD:oo X [] z4:=λ_ _ σ H _ I h=>wpAny_execs_nil ⟨σ,H,I,h⟩
theorem ag (h1:PS X st t) (h2:oo X rest u):oo X (st::rest) (b9 t u):=by
 intro pins s σ H D I h
 refine wpAny_execs_cons (bS (h1 pins s σ H { D with nx:=u D } I h) λf s1 q=>?_)
 cases f with
 | next =>
  obtain⟨σ',H',I',q⟩:=q
  exact h2 pins s1 σ' H' D I' q
 | ret v=>exact q
 | brk=>exact q
 | cont=>exact q
theorem ak (h1:PS X st t):oo X [st] t:=by
 intro pins s σ H D I h
 refine wpAny_execs_cons (bS (h1 pins s σ H D I h) λf s1 q=>?_)
 cases f with
 | next=>exact wpAny_execs_nil q
 | ret v=>exact q
 | brk=>exact q
 | cont=>exact q
theorem Inv.quiet {pins:List (Addr × Obj)} {σ:St} {H:Hp} {s:Shared} (I:Inv X pins σ H s):interactive X.env=false:=by simp [interactive,I.ok.kind]
def zZ (te:TE):TS:=λD σ H=>te σ H λ_ H1=>D.nx σ H1
theorem gO (he:PE X e te) (hs:swapsWith e none pos.line X.env=pure false:=by rfl):PS X (.Expr e pos) (zZ te):=by
 intro pins s σ H D I h
 exact wpAny_Expr_any (bS (he pins s σ H _ I h) λv s1 ⟨x,H1,I1,r1,q1⟩=>⟨σ,H1,I1,q1⟩) I.quiet hs
def gT (te:TE):TS:=λD σ H=>te σ H D.rt
theorem au (he:PE X e te):PS X (.Return (some e) pos) (gT te):=by
 intro pins s σ H D I h
 exact wpAny_Return_some (bS (he pins s σ H _ I h) λv s1 ⟨x,H1,I1,r1,q1⟩=>⟨x,σ,H1,I1,r1,q1⟩)
def CU:TS:=λD _ H=>D.rt .bY H
def CJ (c:TT) (t u:TS):TS:=λD σ H=>c σ H λb H1=>if b=true then t D σ H1 else u D σ H1
theorem aQ {c:Expr} {a b:List Stmt} {tc:TT} (hc:PT X c tc) (ha:oo X a t) (hb:oo X b u):PS X (.If c a b pos) (CJ tc t u):=by
 intro pins s σ H D I h
 refine wpAny_If (bS (hc pins s σ H _ I h) λd s1 ⟨H1,I1,q1⟩=>?_)
 cases d with
 | true=>exact ha pins s1 σ H1 D I1 q1
 | false=>exact hb pins s1 σ H1 D I1 q1
end
abbrev TG:=V->St->Hp->(St->Hp->Prop)->Prop
abbrev zi:=List V->St->Hp->(St->Hp->Prop)->Prop
def PG (X:Cx) (target:Expr) (t:TG):Prop :=
 ∀(pins:List (Addr × Obj)) (s:Shared) (σ:St) (H:Hp) (v:V) (u:Value) (Q:St->Hp->Prop),Inv X pins σ H s->RelV v u->t v σ H Q ->
  wpAny (model X.prog X.w) X.A (assign target X.env u) (λ_ s'=>∃ σ' H',Inv X pins σ' H' s'/\Q σ' H') X.xe s
def BH (X:Cx) (ts:List Expr) (t:zi):Prop :=
 ∀(pins:List (Addr × Obj)) (s:Shared) (σ:St) (H:Hp) (vs:List V) (us:List Value) (Q:St->Hp->Prop),Inv X pins σ H s->Vals vs us->t vs σ H Q ->
  wpAny (model X.prog X.w) X.A (assignInOrder ((assignEach ts X.env).map (·.2)) us) (λ_ s'=>∃ σ' H',Inv X pins σ' H' s'/\Q σ' H') X.xe s
abbrev Af:=V->V->V->Hp->(Hp->Prop)->Prop
def BI (X:Cx) (t:Af):Prop :=
 ∀(pins:List (Addr × Obj)) (s:Shared) (σ:St) (H:Hp) (o i v:V) (ov iv u:Value) (Q:Hp->Prop),Inv X pins σ H s->RelV o ov->RelV i iv->RelV v u->t o i v H Q ->
  wpAny (model X.prog X.w) X.A (setItem ov iv u) (λ_ s'=>∃ H',Inv X pins σ H' s'/\Q H') X.xe s
abbrev Du:=V->V->Hp->VK->Prop
def Ej (X:Cx) (op:Operator) (t:Du):Prop :=
 ∀(pins:List (Addr × Obj)) (s:Shared) (σ:St) (H:Hp) (x y:V) (v u:Value) (Q:VK),Inv X pins σ H s->RelV x v->RelV y u->t x y H Q ->
  wpAny (model X.prog X.w) X.A (inplaceOp op v u) (EP X pins σ Q) X.xe s
section
variable {X:Cx} {pos:Pos}
def cK (i:Nat):TG:=λv σ H Q=>Q (σ.set i (some v)) H
theorem aF {i:Nat} {x:Str} (hN:X.N.Nodup) (hi:X.N[i]?=some x) (hx:Loc X.env.scope x) (hf:X.fn x=true∨X.env.scope.names.lookup x=some .local:=by first | exact .inl rfl | exact .inr rfl | assumption):PG X (.Name x pos) (cK i):=by
 intro pins s σ H v u Q I r h
 exact wpAny_assign_Name (cY I hN hi hx r (λs' I'=>⟨_,H,I',h⟩) hf)
def B0:zi:=λvs σ H Q=>vs=[]/\Q σ H
def zu (t:TG) (u:zi):zi:=λvs σ H Q=>∃ v r,vs=v::r/\t v σ H λσ' H'=>u r σ' H' Q
theorem cW:BH X [] B0:=by
 intro pins s σ H vs us Q I r h
 obtain⟨e,h⟩:=h
 subst e
 cases r
 exact assignInOrder_nil ⟨σ,H,I,h⟩
theorem bc {e:Expr} {es:List Expr} {t:TG} {u:zi} (h1:PG X e t) (h2:BH X es u)
  (hs:(assignEach (e::es) X.env).map (·.2)=assign e X.env::(assignEach es X.env).map (·.2):=by rfl):BH X (e::es) (zu t u):=by
 intro pins s σ H vs us Q I r h
 obtain⟨v,vr,e1,h⟩:=h
 subst e1
 cases r with
 | cons r rr =>
  rw [hs]
  refine assignInOrder_cons (bS (h1 pins s σ H _ _ _ I r h) λ_ s1 ⟨σ1,H1,I1,q1⟩=>?_)
  exact h2 pins s1 σ1 H1 _ _ Q I1 rr q1
def tI (K:PySem.W.Frag) (n:Nat) (t:zi):TG:=λv σ H Q=>∃ a xs,v=.ref a/\aY K H a xs/\xs.length=n/\t xs σ H Q
theorem ie {es:List Expr} {k:Nat} {t:zi} {n:Nat} (hc:X.calm=true) (h:BH X es t)
  (hn:(assignEach es X.env).length=n:=by rfl) (hst:(assignEach es X.env).findIdx? (·.1)=none:=by rfl):PG X (.Tuple es k pos) (tI X.K n t):=by
 intro pins s σ H v u Q I r hw
 obtain⟨a,xs,e1,hq,hl,hw⟩:=hw
 subst e1
 cases r
 obtain⟨its,rv,ht,hz⟩:=I.tuple hq
 refine assign_Tuple_tuple (I.ok.hd hc) ht (by simp [hn,<- hl,rv.length]) hst λh' hx=>?_
 have I1:Inv X pins σ H { s with heap:=h' }:=I.kept (t':=s.toks) λb o e=>hx b o (Nat.ne_of_lt (Heap.lt_size e)) e
 exact h pins _ σ H xs _ Q I1 (by simpa using rv) hw
def B1 (to ti:TE) (t:Af):TG:=λv σ H Q=>to σ H λo H1=>ti σ H1 λi H2=>t o i v H2 λH3=>Q σ H3
theorem qQ {o i:Expr} {to ti:TE} {t:Af} (ho:PE X o to) (hi:PE X i ti) (hs:BI X t)
  (ha:∀ v,assign (.Subscript o i pos) X.env v=(do
   let ov <- holding [v] (eval o X.env)
   let iv <- holding [v,ov] (eval i X.env)
   standAt pos
   holding [v,ov,iv] (setItem ov iv v)
   release [v,ov,iv] []):=by intro _;rfl):PG X (.Subscript o i pos) (B1 to ti t):=by
 intro pins s σ H v u Q I r h
 rw [ha]
 refine wpAny_bind (wpAny_holding (bS (ho pins s σ H _ I h) λov s1 ⟨x,H1,I1,r1,q1⟩=>?_))
 refine wpAny_bind (wpAny_holding (bS (hi pins s1 σ H1 _ I1 q1) λiv s2 ⟨y,H2,I2,r2,q2⟩=>?_))
 refine wpAny_bind (wpAny_standAt (wpAny_bind (wpAny_holding (bS (hs pins s2 σ H2 x y v ov iv u _ I2 r1 r2 r q2) λ_ s3 ⟨H3,I3,q3⟩=>?_))))
 exact wpAny_release ⟨σ,H3,I3,q3⟩
def uA (te:TE) (g:TG):TS:=λD σ H=>te σ H λx H1=>g x σ H1 D.nx
theorem fz {tg e:Expr} {te:TE} {g:TG} (he:PE X e te) (hg:PG X tg g) (hs:swapsWithSole [tg] e pos.line X.env=pure false:=by rfl) (hw:swappedStores [tg] e X.env=pure none:=by rfl)
  (h1:(assignEach [tg] X.env).map (·.2)=[assign tg X.env]:=by rfl):PS X (.Assign [tg] e pos) (uA te g):=by
 intro pins s σ H D I h
 refine wpAny_Assign_stores (bS (he pins s σ H _ I h) λv s1 ⟨x,H1,I1,r1,q1⟩=>?_) hs hw
 rw [h1]
 exact bS (hg pins s1 σ H1 x v _ I1 r1 q1) λ_ s2 q=>q
theorem fW {i:Nat} {x:Str} {e:Expr} {te:TE} {pos':Pos} (hN:X.N.Nodup) (hi:X.N[i]?=some x) (hx:Loc X.env.scope x) (he:PE X e te) (hs:swapsWith e (some (.Name x pos')) pos.line X.env=pure false:=by rfl) (hf:X.fn x=true∨X.env.scope.names.lookup x=some .local:=by first | exact .inl rfl | exact .inr rfl | assumption) :
  PS X (.Assign [.Name x pos'] e pos) (uA te (cK i)):=by
 intro pins s σ H D I h
 refine wpAny_Assign_Name (bS (he pins s σ H _ I h) λv s1 ⟨y,H1,I1,r1,q1⟩=>?_) hs
 exact cY I1 hN hi hx r1 (λs2 I2=>⟨_,H1,I2,q1⟩) hf
def CS (i j:Nat) (ta:TA):TS:=λD σ H=>ta σ H λvs H1=>∃ v w,vs=[v,w]/\D.nx ((σ.set i (some v)).set j (some w)) H1
theorem jz {i j:Nat} {x y:Str} {a b:Expr} {ta:TA} {px py pt:Pos} {kt k2 pt2} (hc:X.calm=true) (hN:X.N.Nodup) (hi:X.N[i]?=some x) (hj:X.N[j]?=some y) (hij:i≠j)
  (hx:X.env.scope.names.lookup x=some .local) (hy:X.env.scope.names.lookup y=some .local) (ha:PA X [a,b] ta)
  (hw:swappedStores [.Tuple [.Name x px,.Name y py] kt pt] (.Tuple [a,b] k2 pt2) X.env=pure (some [x,y]))
  (hs:swapsWithSole [.Tuple [.Name x px,.Name y py] kt pt] (.Tuple [a,b] k2 pt2) pos.line X.env=pure false:=by rfl) :
  PS X (.Assign [.Tuple [.Name x px,.Name y py] kt pt] (.Tuple [a,b] k2 pt2) pos) (CS i j ta):=by
 intro pins s σ H D I h
 rw [exec_Assign_arm]
 refine wpAny_bind (wpAny_standAt ?_)
 rw [hs]
 refine wpAny_bind (wpAny_pure ?_)
 rw [if_neg (by decide)]
 refine wpAny_bind (Tuple_ (bS (ha _ pins s σ H _ I h) λus s1 ⟨vs,H1,I1,r1,q1⟩=>?_))
 obtain⟨v,w,e1,q1⟩:=q1
 subst e1
 obtain⟨u1,u2,rfl,rv,rw'⟩:∃ u1 u2,us=[u1,u2]/\RelV v u1/\RelV w u2:=by
  cases r1 with
  | cons p q =>
   cases q with
   | cons p' q' =>
    cases q'
    exact⟨_,_,rfl,p,p'⟩
 refine wpAny_newObj_type ?_ (by show 2<=sizeLine;decide)
 have I2:Inv X pins σ H1 { s1 with heap:=s1.heap.push { cls:=.type "tuple",data:=.seq [u1,u2].toArray } }:=I1.kept (t':=s1.toks) λb o e=>Heap.get?_push_of_some _ e
 rw [hw]
 refine wpAny_bind (wpAny_pure ?_)
 show wpAny (model X.prog X.w) X.A (do rule "assign.swapped-stores";let items <- unpackItems (.ref s1.heap.objs.size) 2 none;assignInOrder [λv=>bindName X.env y v,λv=>bindName X.env x v] items.reverse;pure Flow.next) _ _ _
 refine wpAny_bind (wpAny_rule (wpAny_bind (unpackItems_tuple (items:=#[u1,u2]) (I.ok.hd hc) (IsTup.new s1.heap _) λh' hx'=>?_)))
 have I3:=I2.kept (h':=h') (t':=s1.toks) λb o e=>hx' b o (Nat.ne_of_lt (Heap.lt_size e)) e
 show wpAny _ _ (assignInOrder [λv=>bindName X.env y v,λv=>bindName X.env x v] [u2,u1] >>= λ_=>pure Flow.next) _ _ _
 refine wpAny_bind (assignInOrder_cons (wpAny_bindName (cY I3 hN hj (.inl hy) rw' (λs2 I4=>?_) (.inr hy))))
 refine assignInOrder_cons (wpAny_bindName (cY I4 hN hi (.inl hx) rv (λs3 I5=>assignInOrder_nil (wpAny_pure ?_)) (.inr hx)))
 rw [List.set_comm _ _ (Ne.symm hij)] at I5
 exact⟨_,H1,I5,q1⟩
def CG (i:Nat) (te:TE) (ti:Du):TS:=λD σ H=>∃ x,σ[i]?=some (some x)/\te σ H λy H1=>ti x y H1 λz H2=>D.nx (σ.set i (some z)) H2
theorem nN {i:Nat} {x:Str} {e:Expr} {te:TE} {op:Operator} {ti:Du} {pos':Pos} (hN:X.N.Nodup) (hi:X.N[i]?=some x) (hx:Loc X.env.scope x) (he:PE X e te) (ho:Ej X op ti) (hf:X.fn x=true∨X.env.scope.names.lookup x=some .local:=by first | exact .inl rfl | exact .inr rfl | assumption) :
  PS X (.AugAssign (.Name x pos') op e pos) (CG i te ti):=by
 intro pins s σ H D I h
 obtain⟨v,e1,h⟩:=h
 obtain⟨m,hn,hl⟩:=I.loc
 have vis:Bv X.env.scope x:=by rcases hx with k | k;exact .inl k;exact .inr (.inl k)
 obtain⟨u,r,l⟩:=hl i x v hi e1 vis
 refine wpAny_AugAssign_Name ?_
 have go:wpAny (model X.prog X.w) X.A (eval e X.env) (λw s₂=>wpAny (model X.prog X.w) X.A (inplaceOp op u w) (λr s₃=>wpAny (model X.prog X.w) X.A (storeName X.env x r) (λ_=>SP X pins D .next) X.xe s₃) X.xe s₂) X.xe s:=by
  refine bS (he pins s σ H _ I h) λw s1 ⟨y,H1,I1,r1,q1⟩=>?_
  refine bS (ho pins s1 σ H1 v y u w _ I1 r r1 q1) λz s2 ⟨zv,H2,I2,r2,q2⟩=>?_
  exact cY I2 hN hi hx r2 (λs3 I3=>⟨_,H2,I3,q2⟩) hf
 rcases l with⟨hk,hm⟩|⟨hk,c,hc,hcell⟩
 ·exact wpAny_loadName_local I.ok.kind hk hn hm go
 ·rcases hk with hk | hk
  ·exact wpAny_loadName_cell I.ok.kind hk hc hcell go
  ·rcases hx with k | k
   ·have:X.env.scope.names.lookup x=some .free:=hk
    rw [k] at this;cases this
   ·have:X.env.scope.names.lookup x=some .free:=hk
    rw [k] at this;cases this
end
section
variable {X:Cx} {pos:Pos}
def xp (c:TT) (tb:TS):TS:=λD σ H=>∃ W:Nat->St->Hp->Prop,(∃ m,W m σ H)/\∀ m σ H,W m σ H ->
 c σ H λb H1=>if b=true then ∃ N:St->Hp->Prop,(∀ σ' H',N σ' H'->∃ m',m'<m/\W m' σ' H')/\tb { D with nx:=N,ct:=N,bk:=D.nx } σ H1 else D.nx σ H1
theorem cL {c:Expr} {body:List Stmt} {tc:TT} {tb:TS} (hp:PassesOwn (model X.prog X.w) X.A X.env X.xe) (hc:PT X c tc) (hb:oo X body tb):PS X (.While c body [] pos) (xp tc tb):=by
 intro pins s σ H D I h
 obtain⟨W,⟨m0,w0⟩,turn⟩:=h
 refine wpAny_While (codeAny_whileLoop (λn s'=>∃ σ' H',Inv X pins σ' H' s'/\W n σ' H') ?_ m0 ⟨σ,H,I,w0⟩)
 rintro n s1 ⟨σ1,H1,I1,w1⟩
 refine wpAny_passesOwn hp (bS (hc pins s1 σ1 H1 _ I1 (turn n σ1 H1 w1)) λb s2 ⟨H2,I2,q2⟩=>?_)
 cases b with
 | true =>
  obtain⟨N,hN,q2⟩:=q2
  rw [if_pos rfl]
  refine wpAny_passesOwn hp (bS (hb pins s2 σ1 H2 _ I2 q2) λf s3 q3=>?_)
  cases f with
  | next =>
   obtain⟨σ3,H3,I3,n3⟩:=q3
   obtain⟨m',hm,w3⟩:=hN σ3 H3 n3
   exact⟨m',hm,σ3,H3,I3,w3⟩
  | cont =>
   obtain⟨σ3,H3,I3,n3⟩:=q3
   obtain⟨m',hm,w3⟩:=hN σ3 H3 n3
   exact⟨m',hm,σ3,H3,I3,w3⟩
  | brk=>exact q3
  | ret v=>exact q3
 | false =>
  rw [if_neg Bool.false_ne_true]
  exact wpAny_execs_nil ⟨σ1,H2,I2,q2⟩
end
structure It where
 go:Nat->Hp->Prop
 yld:Nat->Hp->V->Hp->Prop
 stop:Nat->Hp->Prop
def lO (X:Cx) (pins:List (Addr × Obj)) (H:Hp) (b:Addr):Prop :=
 H b=none/\b≠X.env.locals/\b∉X.fs/\(b∈X.ex∨X.s₀.heap.objs.size<=b)/\(∀ x c,X.env.cells.lookup x=some c->c≠b)/\∀ p∈X.pn++pins,p.1≠b
theorem Inv.lV {X:Cx} {pins:List (Addr × Obj)} {σ:St} {H H':Hp} {s:Shared} {b:Addr} (I:Inv X pins σ H s) (hb:s.heap.objs.size<=b) (hn:H' b=none):lO X pins H' b:=by
 refine⟨hn,Nat.ne_of_gt (Nat.lt_of_lt_of_le I.lt hb),I.yk hb,.inr (Nat.le_trans I.sz hb),λx c e z=>?_,λp hp z=>?_⟩
 ·obtain⟨v,q⟩:=I.cell x c e
  exact absurd (Nat.lt_of_lt_of_le q.lt (by rw [z];exact hb)) (Nat.lt_irrefl _)
 ·exact absurd (Nat.lt_of_lt_of_le (Heap.lt_size (I.pin p hp).1) (by rw [z];exact hb)) (Nat.lt_irrefl _)
structure Turn (P:Program) (w:World) (K:PySem.W.Frag) (tg:Expr) (J:It) (fp:List Addr) (it:Addr) (tn:Nat->Heap->Prop):Prop where
 mem:it∈fp
 obj:∀ i h,tn i h->∀ b∈fp,∃ o,h.get? b=some o/\∀ v,o.data≠.cell v
 keep:∀ i h h',tn i h->(∀ b∈fp,∀ o,h.get? b=some o->h'.get? b=some o)->tn i h'
 item:∀(X:Cx),X.prog=P->X.w=w->X.K=K->X.calm=true->∀(i:Nat) (pins:List (Addr × Obj)) (s:Shared) (σ:St) (H:Hp) (E:Value->Shared->Prop),Inv X pins σ H s->(∀ b∈fp,lO X pins H b)->tn i s.heap->J.go i H ->
  wpAny (model P w) X.A (pyNext (.ref it)) (λr s1=>∃ u,r=some u /\
   wpAny (model P w) X.A (letOwnedTupleGo tg (.ref it) u) (λ_ s2=>∃ x H',Inv X pins σ H' s2/\RelV x u/\J.yld i H x H'/\tn (i+1) s2.heap/\∀ b∈fp,H' b=none) E s1) E s
 done:∀(X:Cx),X.prog=P->X.w=w->X.K=K->X.calm=true->∀(i:Nat) (pins:List (Addr × Obj)) (s:Shared) (σ:St) (H:Hp) (E:Value->Shared->Prop),Inv X pins σ H s->(∀ b∈fp,lO X pins H b)->tn i s.heap->J.stop i H ->
  wpAny (model P w) X.A (pyNext (.ref it)) (λr s1=>r=none/\Inv X pins σ H s1) E s
 self:∀(A:Around) (i:Nat) (s:Shared) (Q:Value->Shared->Prop) (E:Value->Shared->Prop),tn i s.heap->Q (.ref it) s->wpAny (model P w) A (pyIter (.ref it)) Q E s
abbrev TI:=St->Hp->(It->Hp->Prop)->Prop
def C6 (X:Cx) (pins:List (Addr × Obj)) (σ:St) (tg:Expr) (R:It->Hp->Prop) (itv:Value) (s2:Shared):Prop :=
 ∃(it:Addr) (fp:List Addr) (tn:Nat->Heap->Prop) (J:It) (H':Hp),itv=.ref it/\Inv X pins σ H' s2/\Turn X.prog X.w X.K tg J fp it tn/\tn 0 s2.heap/\(∀ b∈fp,lO X pins H' b)/\R J H'
def PI (X:Cx) (tg iter:Expr) (wi:TI):Prop :=
 ∀(pins:List (Addr × Obj)) (s:Shared) (σ:St) (H:Hp) (R:It->Hp->Prop),Inv X pins σ H s->wi σ H R ->
  wpAny (model X.prog X.w) X.A (eval iter X.env) (λv s1=>wpAny (model X.prog X.w) X.A (pyIter v) (C6 X pins σ tg R) X.xe s1) X.xe s
theorem vn {M:Model} {A:Around} {E:Value->Shared->Prop} {s:Shared} {tg:Expr} {it:Addr} {u:Value} {o:Obj} {n:String} {vs:Array Value} {Q:Unit->Shared->Prop} (ho:s.heap.get? it=some o) (hc:o.cls=.type n) (hd:o.data=.fields vs)
    (hn:["enumerate","zip","dict_itemiterator","dict_reverseitemiterator","odict_iterator","itertools.zip_longest","itertools.pairwise"].contains n=false) (hQ:Q () s):wpAny M A (letOwnedTupleGo tg (.ref it) u) Q E s:=by
  unfold letOwnedTupleGo
  cases tg<;>first
    | exact wpAny_pure hQ
    | (cases u<;>first
        | exact wpAny_pure hQ
        | (refine wpAny_bind (wpAny_load ho ?_)
           rw [hc,hd]
           show wpAny M A (if (["enumerate","zip","dict_itemiterator","dict_reverseitemiterator","odict_iterator","itertools.zip_longest","itertools.pairwise"].contains n && vs[0]?==some (rawInt _))=true then _ else _) Q E s
           rw [if_neg (by intro h;rw [hn,Bool.false_and] at h;cases h)]
           exact wpAny_pure hQ))
def xE (K:PySem.W.Frag) (a:Addr):It :=
 ⟨λi H=>∃ xs x,aS K H a xs/\xs[i]?=some x,λi H x H'=>H'=H/\∀ xs,aS K H a xs->xs[i]?=some x,λi H=>∃ xs,aS K H a xs/\xs.length<=i⟩
def zg (K:PySem.W.Frag) (a:Addr):It :=
 ⟨λi H=>∃ xs x,aY K H a xs/\xs[i]?=some x,λi H x H'=>H'=H/\∀ xs,aY K H a xs->xs[i]?=some x,λi H=>∃ xs,aY K H a xs/\xs.length<=i⟩
def xH (lo:Int) (n:Nat):It:=⟨λi _=>i<n,λi H x H'=>H'=H/\x=.int (lo+i),λi _=>n<=i⟩
theorem uB {P:Program} {w:World} {K:PySem.W.Frag} {tg:Expr} (a it:Addr):Turn P w K tg (xE K a) [it] it (λi h=>h.IsListIter it a i) where
 mem:=by simp
 obj:=λi h st b hb=>by
  have e:b=it:=by simpa using hb
  subst e
  obtain⟨o,e,c,d⟩:=st
  exact⟨o,e,λv z=>by rw [d] at z;cases z⟩
 keep:=λi h h' st k=>st.at λo e=>k it (by simp) o e
 item:=by
  intro X hP hw hK hc i pins s σ H E I hf st hg
  subst hP hw hK
  obtain⟨xs,x,hq,hx⟩:=hg
  obtain⟨its,rv,p,hz⟩:=I.list hq
  obtain⟨u,hu,ru⟩:=rv.get hx
  obtain⟨f0,f1,f2,f3,f4,f5⟩:=hf it (by simp)
  refine wpAny_pyNext_list_item st p.isList (x:=u) (by simpa using hu) λh' st' sb=>?_
  have I1:Inv X pins σ H { s with heap:=h' }:=I.turned (t':=s.toks) (λb o hb e=>(sb.2 b hb).trans e) f0 f1 f3 f4 f5
  obtain⟨o,e,c,d⟩:=id st'
  exact⟨u,rfl,vn (s:={ s with heap:=h' }) e c d (by decide) ⟨x,H,I1,ru,⟨rfl,λys hy=>by rw [I.oY hy hq];exact hx⟩,st',λb hb=>(hf b hb).1⟩⟩
 done:=by
  intro X hP hw hK hc i pins s σ H E I hf st hg
  subst hP hw hK
  obtain⟨xs,hq,hx⟩:=hg
  obtain⟨its,rv,p,hz⟩:=I.list hq
  obtain⟨f0,f1,f2,f3,f4,f5⟩:=hf it (by simp)
  have hl:=rv.length
  exact wpAny_pyNext_list_end (I.ok.hd hc) st p.isList (by simp;omega) λh' eb=>⟨rfl,I.turned (t':=s.toks) (λb o hb e=>eb b o hb e) f0 f1 f3 f4 f5⟩
 self:=λ_ _ _ _ _ st h=>wpAny_pyIter_listiter st h
theorem qZ {P:Program} {w:World} {K:PySem.W.Frag} {tg:Expr} (a it:Addr):Turn P w K tg (zg K a) [it] it (λi h=>h.IsTupleIter it a i) where
 mem:=by simp
 obj:=λi h st b hb=>by
  have e:b=it:=by simpa using hb
  subst e
  obtain⟨o,e,c,d⟩:=st
  exact⟨o,e,λv z=>by rw [d] at z;cases z⟩
 keep:=λi h h' st k=>st.at λo e=>k it (by simp) o e
 item:=by
  intro X hP hw hK hc i pins s σ H E I hf st hg
  subst hP hw hK
  obtain⟨xs,x,hq,hx⟩:=hg
  obtain⟨its,rv,p,hz⟩:=I.tuple hq
  obtain⟨u,hu,ru⟩:=rv.get hx
  obtain⟨f0,f1,f2,f3,f4,f5⟩:=hf it (by simp)
  refine wpAny_pyNext_tuple_item st (show s.heap.IsTuple a its.toArray from p) (x:=u) (by simpa using hu) λh' st' sb=>?_
  have I1:Inv X pins σ H { s with heap:=h' }:=I.turned (t':=s.toks) (λb o hb e=>(sb.2 b hb).trans e) f0 f1 f3 f4 f5
  obtain⟨o,e,c,d⟩:=id st'
  exact⟨u,rfl,vn (s:={ s with heap:=h' }) e c d (by decide) ⟨x,H,I1,ru,⟨rfl,λys hy=>by rw [I.mR hy hq];exact hx⟩,st',λb hb=>(hf b hb).1⟩⟩
 done:=by
  intro X hP hw hK hc i pins s σ H E I hf st hg
  subst hP hw hK
  obtain⟨xs,hq,hx⟩:=hg
  obtain⟨its,rv,p,hz⟩:=I.tuple hq
  obtain⟨f0,f1,f2,f3,f4,f5⟩:=hf it (by simp)
  have hl:=rv.length
  exact wpAny_pyNext_tuple_end (I.ok.hd hc) st (show s.heap.IsTuple a its.toArray from p) (by simp;omega) λh' eb=>⟨rfl,I.turned (t':=s.toks) (λb o hb e=>eb b o hb e) f0 f1 f3 f4 f5⟩
 self:=λ_ _ _ _ _ st h=>wpAny_pyIter_tupleiter st h
theorem qY {P:Program} {w:World} {K:PySem.W.Frag} {tg:Expr} (it:Addr) (lo:Int) (n:Nat):Turn P w K tg (xH lo n) [it] it (λi h=>IsRangeIter h it (lo+(i:Nat)*1) ((n:Int)-(i:Nat)) 1) where
 mem:=by simp
 obj:=λi h st b hb=>by
  have e:b=it:=by simpa using hb
  subst e
  exact⟨_,st,λv z=>by
   have z':Data.fields _=Data.cell v:=z
   cases z'⟩
 keep:=λi h h' st k=>k it (by simp) _ st
 item:=by
  intro X hP hw hK hc i pins s σ H E I hf st hg
  subst hP hw hK
  obtain⟨f0,f1,f2,f3,f4,f5⟩:=hf it (by simp)
  have W:=Walks.range (prog:=X.prog) (w:=X.w) (I.ok.hd hc) it lo 1 n
  refine W.item i s _ _ hg st λv h' tk hv st' kk=>?_
  obtain⟨t,rfl⟩:=hv
  have I1:Inv X pins σ H { s with heap:=h',toks:=tk }:=I.turned (λb o hb e=>kk b o (by simpa using hb) e) f0 f1 f3 f4 f5
  refine⟨_,rfl,vn (s:={ s with heap:=h',toks:=tk }) (n := "range_iterator") st' rfl rfl (by decide) ⟨.int (lo+i),H,I1,⟨t,?_⟩,⟨rfl,rfl⟩,st',λb hb=>(hf b hb).1⟩⟩
  rw [Int.mul_one]
 done:=by
  intro X hP hw hK hc i pins s σ H E I hf st hg
  subst hP hw hK
  obtain⟨f0,f1,f2,f3,f4,f5⟩:=hf it (by simp)
  exact wpAny_pyNext_range_end (I.ok.hd hc) st (by have:n<=i:=hg;omega) λh' eb=>⟨rfl,I.turned (t':=s.toks) (λb o hb e=>eb b o hb e) f0 f1 f3 f4 f5⟩
 self:=λ_ _ _ _ _ st h=>wpAny_pyIter_rangeiter st h
section
variable {X:Cx} {tg:Expr}
def rK (K:PySem.W.Frag) (tl:TE):TI:=λσ H R=>tl σ H λx H1=>∃ a,x=.ref a/\(∃ xs,aS K H1 a xs)/\R (xE K a) H1
def Ay (K:PySem.W.Frag) (tl:TE):TI:=λσ H R=>tl σ H λx H1=>∃ a,x=.ref a/\(∃ xs,aY K H1 a xs)/\R (zg K a) H1
theorem bP {l:Expr} {tl:TE} (hl:PE X l tl):PI X tg l (rK X.K tl):=by
 intro pins s σ H R I h
 refine bS (hl pins s σ H _ I h) λv s1 ⟨x,H1,I1,r1,q1⟩=>?_
 obtain⟨a,e,⟨xs,hq⟩,q⟩:=q1
 subst e
 cases r1
 obtain⟨its,rv,p,hz⟩:=I1.list hq
 refine wpAny_pyIter_list p.isList ?_
 refine⟨s1.heap.objs.size,[s1.heap.objs.size],_,_,H1,rfl,I1.kept (t':=s1.toks) λb o e=>Heap.get?_push_of_some _ e,uB a _,⟨_,Heap.get?_push_size _ rfl,rfl,rfl⟩,λb hb=>?_,q⟩
 have e:b=s1.heap.objs.size:=by simpa using hb
 subst e
 exact I1.lV (Nat.le_refl _) (I1.hok.fresh (Nat.le_refl _))
theorem nL {l:Expr} {tl:TE} (hl:PE X l tl):PI X tg l (Ay X.K tl):=by
 intro pins s σ H R I h
 refine bS (hl pins s σ H _ I h) λv s1 ⟨x,H1,I1,r1,q1⟩=>?_
 obtain⟨a,e,⟨xs,hq⟩,q⟩:=q1
 subst e
 cases r1
 obtain⟨its,rv,p,hz⟩:=I1.tuple hq
 refine wpAny_pyIter_tuple (show s1.heap.IsTuple a its.toArray from p) ?_
 refine⟨s1.heap.objs.size,[s1.heap.objs.size],_,_,H1,rfl,I1.kept (t':=s1.toks) λb o e=>Heap.get?_push_of_some _ e,qZ a _,⟨_,Heap.get?_push_size _ rfl,rfl,rfl⟩,λb hb=>?_,q⟩
 have e:b=s1.heap.objs.size:=by simpa using hb
 subst e
 exact I1.lV (Nat.le_refl _) (I1.hok.fresh (Nat.le_refl _))
theorem pJ {pins:List (Addr × Obj)} {σ:St} {H:Hp} {s:Shared} {R:It->Hp->Prop} {E:Value->Shared->Prop} {lo hi:Int} {t u v:Tok} {tk:Nat} (I:Inv X pins σ H s) (h1:-(2^62)<=lo) (h2:lo<2^62) (h3:-(2^62)<=hi) (h4:hi<2^62)
  (q:R (xH lo (hi-lo).toNat) H):wpAny (model X.prog X.w) X.A (pyIter (.ref s.heap.objs.size)) (C6 X pins σ tg R) E { s with heap:=s.heap.push { cls:=.type "range",data:=.fields #[.int lo t,.int hi u,.int 1 v] },toks:=tk }:=by
 refine wpAny_pyIter_range (IsRange.new ..) (small_one h1 h2 h3 h4) ?_
 have I1:Inv X pins σ H { s with heap:=s.heap.push { cls:=.type "range",data:=.fields #[.int lo t,.int hi u,.int 1 v] },toks:=tk }:=I.kept λb o e=>Heap.get?_push_of_some _ e
 refine⟨(s.heap.push { cls:=.type "range",data:=.fields #[.int lo t,.int hi u,.int 1 v] }).objs.size,[(s.heap.push { cls:=.type "range",data:=.fields #[.int lo t,.int hi u,.int 1 v] }).objs.size],_,_,H,rfl,
  I1.kept (t':=tk) λb o e=>Heap.get?_push_of_some _ e,qY _ lo (hi-lo).toNat,?_,λb hb=>?_,q⟩
 ·have e1:lo+((0:Nat):Int)*1=lo:=by simp
  have e2:(((hi-lo).toNat:Nat):Int)-((0:Nat):Int)=Builtin.Range.rangeSize lo hi 1:=by rw [rangeSize_one];split<;>omega
  show IsRangeIter _ _ (lo+((0:Nat):Int)*1) ((((hi-lo).toNat:Nat):Int)-((0:Nat):Int)) 1
  rw [e1,e2]
  exact Heap.get?_push_size _ rfl
 ·have e:b=(s.heap.push { cls:=.type "range",data:=.fields #[.int lo t,.int hi u,.int 1 v] }).objs.size:=by simpa using hb
  subst e
  exact I1.lV (Nat.le_refl _) (I1.hok.fresh (Nat.le_refl _))
def zy (ta:TA):TI:=λσ H R=>ta σ H λvs H1=>∃ j:Int,vs=[.int j] /\ -(2^62)<=j/\j<2^62/\R (xH 0 j.toNat) H1
def zA (ta:TA):TI:=λσ H R=>ta σ H λvs H1=>∃ i j:Int,vs=[.int i,.int j]/\(-(2^62)<=i/\i<2^62 /\ -(2^62)<=j/\j<2^62)/\R (xH i (j-i).toNat) H1
theorem cG {a:Expr} {ta:TA} {p pos:Pos} (hg:Gl X "range") (hm:X.mg "range"=none) (ha:PA X [a] ta) (hs:starEach [a] X.env=[(false,eval a X.env)]:=by rfl):PI X tg (.Call (.Name "range" p) [a] [] pos) (zy ta):=by
 intro pins s σ H R I h
 refine Call_ (fQ I hg hm boot_range (PyProof.Rows.callWith_type1 (bS (ha pos pins s σ H _ I h) λus s1 ⟨vs,H1,I1,r1,q1⟩=>?_) hs rfl))
 obtain⟨j,e,q1,q2,q⟩:=q1
 subst e
 cases r1 with
 | cons r rr =>
  cases rr
  obtain⟨t,rfl⟩:=r
  exact call_range_1 (pJ I1 (by omega) (by omega) q1 q2 (by simpa using q))
theorem mK {a b:Expr} {ta:TA} {p pos:Pos} (hg:Gl X "range") (hm:X.mg "range"=none) (ha:PA X [a,b] ta) (hs:starEach [a,b] X.env=[(false,eval a X.env),(false,eval b X.env)]:=by rfl) (hs2:starEach [b] X.env=[(false,eval b X.env)]:=by rfl) :
  PI X tg (.Call (.Name "range" p) [a,b] [] pos) (zA ta):=by
 intro pins s σ H R I h
 refine Call_ (fQ I hg hm boot_range (PyProof.Rows.callWith_type1 (bS (ha pos pins s σ H _ I h) λus s1 ⟨vs,H1,I1,r1,q1⟩=>?_) (by rw [hs,hs2]) (by rw [hs2];rfl)))
 obtain⟨i,j,e,⟨q1,q2,q3,q4⟩,q⟩:=q1
 subst e
 cases r1 with
 | cons r rr =>
  cases rr with
  | cons r' rr =>
   cases rr
   obtain⟨t,rfl⟩:=r
   obtain⟨t',rfl⟩:=r'
   exact call_range_2 (pJ I1 q1 q2 q3 q4 q)
def CI (wi:TI) (g:TG) (tb:TS):TS:=λD σ H=>wi σ H λJ H1=>∃ W:Nat->Nat->St->Hp->Prop,(∃ m,W 0 m σ H1)/\∀ i m σ H,W i m σ H ->
 (J.stop i H/\D.nx σ H)∨(J.go i H/\∃ N:St->Hp->Prop,(∀ σ' H',N σ' H'->∃ m',m'<m/\W (i+1) m' σ' H')/\∀ x H',J.yld i H x H'->g x σ H' λσ2 H2=>tb { D with nx:=N,ct:=N,bk:=D.nx } σ2 H2)
def fV (fp:List Addr) (h:Heap):List (Addr × Obj):=fp.filterMap λb=>(h.get? b).map λo=>(b,o)
theorem c9 {fp:List Addr} {h:Heap} {b:Addr} {o:Obj} (hb:b∈fp) (e:h.get? b=some o):(b,o)∈fV fp h:=List.mem_filterMap.mpr ⟨b,hb,by rw [e];rfl⟩
theorem jx {fp:List Addr} {h:Heap} {p:Addr × Obj} (hp:p∈fV fp h):p.1∈fp/\h.get? p.1=some p.2:=by
 obtain⟨b,hb,e⟩:=List.mem_filterMap.mp hp
 cases q:h.get? b with
 | none=>rw [q] at e;cases e
 | some o =>
  rw [q] at e
  have e':(b,o)=p:=Option.some.inj e
  subst e'
  exact⟨hb,q⟩
theorem Inv.pinned {pins:List (Addr × Obj)} {σ:St} {H:Hp} {s:Shared} {fp:List Addr} (I:Inv X pins σ H s) (hf:∀ b∈fp,lO X pins H b) (ho:∀ b∈fp,∃ o,s.heap.get? b=some o/\∀ v,o.data≠.cell v):Inv X (pins++fV fp s.heap) σ H s :=
 I.gL λp hp=>(List.mem_append.mp hp).elim (λz=>I.pin p (List.mem_append_right _ z)) λz=>by
  obtain⟨hb,e⟩:=jx z
  obtain⟨f0,f1,f2,_⟩:=hf p.1 hb
  obtain⟨o,e',d⟩:=ho p.1 hb
  rw [e] at e';cases e'
  exact⟨e,f0,f1,f2,d⟩
theorem Inv.gE {pins pl:List (Addr × Obj)} {σ:St} {H:Hp} {s:Shared} (I:Inv X (pins++pl) σ H s):Inv X pins σ H s:=I.gL λp hp=>I.pin p (List.mem_append_right _ (List.mem_append_left _ hp))
theorem dZ {iter:Expr} {body:List Stmt} {wi:TI} {g:TG} {tb:TS} {pos:Pos} (hp:PassesOwn (model X.prog X.w) X.A X.env X.xe) (hc:X.calm=true) (hi:PI X tg iter wi) (hg:PG X tg g) (hb:oo X body tb)
  (hs:∀ x,foldedSetIterable iter X.env x=pure x:=by intro _;rfl):PS X (.For tg iter body [] pos) (CI wi g tb):=by
 intro pins s σ H D I h
 refine wpAny_For (bS (hi pins s σ H _ I h) λv s1 h1=>bS h1 λitv s2 h2=>?_) hs
 obtain⟨it,fp,tn,J,H2,e,I2,T,st2,f2,W,⟨m0,w0⟩,turn⟩:=h2
 subst e
 -- what stays true of the iterator's objects through the loop
 have stat:∀{H':Hp},(∀ b∈fp,H' b=none)->∀ b∈fp,lO X pins H' b:=λhn b hb=>⟨hn b hb,(f2 b hb).2⟩
 refine codeAny_forLoop_any (λn s'=>∃ i σ' H',Inv X pins σ' H' s'/\tn i s'.heap/\(∀ b∈fp,H' b=none)/\W i n σ' H') ?_ m0 ⟨0,σ,H2,I2,st2,λb hb=>(f2 b hb).1,w0⟩
 rintro n s3 ⟨i,σ3,H3,I3,st3,fr3,w3⟩
 rcases turn i n σ3 H3 w3 with⟨stop,qn⟩|⟨go,N,hN,step⟩
 ·refine wpAny_passesOwn hp (bS (T.done X rfl rfl rfl hc i pins s3 σ3 H3 X.xe I3 (stat fr3) st3 stop) λr s4 ⟨hr,I4⟩=>?_)
  subst hr
  exact wpAny_execs_nil ⟨σ3,H3,I4,qn⟩
 ·refine wpAny_passesOwn hp (bS (T.item X rfl rfl rfl hc i pins s3 σ3 H3 X.xe I3 (stat fr3) st3 go) λr s4 ⟨u,hr,h4⟩=>?_)
  subst hr
  refine wpAny_passesOwn hp (bS h4 λ_ s5 ⟨x,H5,I5,r5,y5,st5,fr5⟩=>?_)
  have I5':=I5.pinned (stat fr5) (T.obj _ _ st5)
  refine wpAny_passesOwn hp (bS (hg _ s5 σ3 H5 x u _ I5' r5 (step x H5 y5)) λ_ s6 ⟨σ6,H6,I6,q6⟩=>?_)
  refine wpAny_passesOwn hp (bS (hb _ s6 σ6 H6 _ I6 q6) λf s7 q7=>?_)
  have again:∀{σ7:St} {H7:Hp},Inv X (pins++fV fp s5.heap) σ7 H7 s7->N σ7 H7->∃ m,m<n/\∃ i σ' H',Inv X pins σ' H' s7/\tn i s7.heap/\(∀ b∈fp,H' b=none)/\W i m σ' H':=λ{σ7 H7} I7 n7=>by
   obtain⟨m',hm,w7⟩:=hN σ7 H7 n7
   refine⟨m',hm,i+1,σ7,H7,I7.gE,T.keep _ _ _ st5 λb hb o e=>(I7.pin (b,o) (List.mem_append_right _ (List.mem_append_right _ (c9 hb e)))).1,λb hb=>?_,w7⟩
   obtain⟨o,e,d⟩:=T.obj _ _ st5 b hb
   exact (I7.pin (b,o) (List.mem_append_right _ (List.mem_append_right _ (c9 hb e)))).2.1
  cases f with
  | next=>obtain⟨σ7,H7,I7,n7⟩:=q7;exact again I7 n7
  | cont=>obtain⟨σ7,H7,I7,n7⟩:=q7;exact again I7 n7
  | brk=>obtain⟨σ7,H7,I7,q7⟩:=q7;exact⟨σ7,H7,I7.gE,q7⟩
  | ret v=>obtain⟨x7,σ7,H7,I7,r7,q7⟩:=q7;exact⟨x7,σ7,H7,I7.gE,r7,q7⟩
end
theorem vj {K:PySem.W.Frag} {a:Addr} {xs:List V} {g:TG} {tb:TS} {D:Ends} {σ:St} {H:Hp} (Pv:Nat->St->Hp->Prop) (h0:Pv 0 σ H) (hl:∀ i σ H,i<=xs.length->Pv i σ H->aS K H a xs)
  (hs:∀ i x σ H,xs[i]?=some x->Pv i σ H->g x σ H λσ2 H2=>tb { D with nx:=Pv (i+1),ct:=Pv (i+1),bk:=D.nx } σ2 H2) (hd:∀ σ H,Pv xs.length σ H->D.nx σ H) :
  ∃ W:Nat->Nat->St->Hp->Prop,(∃ m,W 0 m σ H)/\∀ i m σ H,W i m σ H ->
   ((xE K a).stop i H/\D.nx σ H)∨((xE K a).go i H/\∃ N:St->Hp->Prop,(∀ σ' H',N σ' H'->∃ m',m'<m/\W (i+1) m' σ' H')/\∀ x H',(xE K a).yld i H x H'->g x σ H' λσ2 H2=>tb { D with nx:=N,ct:=N,bk:=D.nx } σ2 H2):=by
 refine⟨λi m σ H=>m=xs.length-i/\i<=xs.length/\Pv i σ H,⟨xs.length,by simp,Nat.zero_le _,h0⟩,?_⟩
 rintro i m σ H ⟨rfl,hi,p⟩
 have q:=hl i σ H hi p
 by_cases hlt:i<xs.length
 ·refine .inr ⟨⟨xs,xs[i],q,by simp [hlt]⟩,Pv (i+1),λσ' H' p'=>⟨xs.length-(i+1),by omega,rfl,hlt,p'⟩,λx H' y=>?_⟩
  obtain⟨e,y⟩:=y
  subst e
  exact hs i x σ _ (y xs q) p
 ·have e:i=xs.length:=by omega
  subst e
  exact .inl ⟨⟨xs,q,Nat.le_refl _⟩,hd σ H p⟩
theorem x9 {K:PySem.W.Frag} {a:Addr} {xs:List V} {g:TG} {tb:TS} {D:Ends} {σ:St} {H:Hp} (Pv:Nat->St->Hp->Prop) (h0:Pv 0 σ H) (hl:∀ i σ H,i<=xs.length->Pv i σ H->aY K H a xs)
  (hs:∀ i x σ H,xs[i]?=some x->Pv i σ H->g x σ H λσ2 H2=>tb { D with nx:=Pv (i+1),ct:=Pv (i+1),bk:=D.nx } σ2 H2) (hd:∀ σ H,Pv xs.length σ H->D.nx σ H) :
  ∃ W:Nat->Nat->St->Hp->Prop,(∃ m,W 0 m σ H)/\∀ i m σ H,W i m σ H ->
   ((zg K a).stop i H/\D.nx σ H)∨((zg K a).go i H/\∃ N:St->Hp->Prop,(∀ σ' H',N σ' H'->∃ m',m'<m/\W (i+1) m' σ' H')/\∀ x H',(zg K a).yld i H x H'->g x σ H' λσ2 H2=>tb { D with nx:=N,ct:=N,bk:=D.nx } σ2 H2):=by
 refine⟨λi m σ H=>m=xs.length-i/\i<=xs.length/\Pv i σ H,⟨xs.length,by simp,Nat.zero_le _,h0⟩,?_⟩
 rintro i m σ H ⟨rfl,hi,p⟩
 have q:=hl i σ H hi p
 by_cases hlt:i<xs.length
 ·refine .inr ⟨⟨xs,xs[i],q,by simp [hlt]⟩,Pv (i+1),λσ' H' p'=>⟨xs.length-(i+1),by omega,rfl,hlt,p'⟩,λx H' y=>?_⟩
  obtain⟨e,y⟩:=y
  subst e
  exact hs i x σ _ (y xs q) p
 ·have e:i=xs.length:=by omega
  subst e
  exact .inl ⟨⟨xs,q,Nat.le_refl _⟩,hd σ H p⟩
theorem tH {lo:Int} {n:Nat} {g:TG} {tb:TS} {D:Ends} {σ:St} {H:Hp} (Pv:Nat->St->Hp->Prop) (h0:Pv 0 σ H)
  (hs:∀ i σ H,i<n->Pv i σ H->g (.int (lo+i)) σ H λσ2 H2=>tb { D with nx:=Pv (i+1),ct:=Pv (i+1),bk:=D.nx } σ2 H2) (hd:∀ σ H,Pv n σ H->D.nx σ H) :
  ∃ W:Nat->Nat->St->Hp->Prop,(∃ m,W 0 m σ H)/\∀ i m σ H,W i m σ H ->
   ((xH lo n).stop i H/\D.nx σ H)∨((xH lo n).go i H/\∃ N:St->Hp->Prop,(∀ σ' H',N σ' H'->∃ m',m'<m/\W (i+1) m' σ' H')/\∀ x H',(xH lo n).yld i H x H'->g x σ H' λσ2 H2=>tb { D with nx:=N,ct:=N,bk:=D.nx } σ2 H2):=by
 refine⟨λi m σ H=>m=n-i/\i<=n/\Pv i σ H,⟨n,by simp,Nat.zero_le _,h0⟩,?_⟩
 rintro i m σ H ⟨rfl,hi,p⟩
 by_cases hlt:i<n
 ·refine .inr ⟨hlt,Pv (i+1),λσ' H' p'=>⟨n-(i+1),by omega,rfl,hlt,p'⟩,λx H' y=>?_⟩
  obtain⟨e,y⟩:=y
  subst e y
  exact hs i σ _ hlt p
 ·have e:i=n:=by omega
  subst e
  exact .inl ⟨Nat.le_refl _,hd σ H p⟩
abbrev R2:=V->V->Hp->VK->Prop
def fE (X:Cx) (f:Value->Value->Sem Value) (r:R2):Prop :=
 ∀(pins:List (Addr × Obj)) (s:Shared) (σ:St) (H:Hp) (x y:V) (v u:Value) (Q:VK),Inv X pins σ H s->RelV x v->RelV y u->r x y H Q ->
  wpAny (model X.prog X.w) X.A (f v u) (EP X pins σ Q) X.xe s
def Dx (X:Cx) (f:Value->Sem Value) (r:V->Hp->VK->Prop):Prop :=
 ∀(pins:List (Addr × Obj)) (s:Shared) (σ:St) (H:Hp) (x:V) (v:Value) (Q:VK),Inv X pins σ H s->RelV x v->r x H Q ->
  wpAny (model X.prog X.w) X.A (f v) (EP X pins σ Q) X.xe s
def dG (X:Cx) (f:Value) (r:List V->Hp->VK->Prop):Prop :=
 ∀(pins:List (Addr × Obj)) (s:Shared) (σ:St) (H:Hp) (xs:List V) (us:List Value) (Q:VK),Inv X pins σ H s->Vals xs us->r xs H Q ->
  wpAny (model X.prog X.w) X.A (call f us) (EP X pins σ Q) X.xe s
def Dw (X:Cx) (r:V->Hp->(Bool->Hp->Prop)->Prop):Prop :=
 ∀(pins:List (Addr × Obj)) (s:Shared) (σ:St) (H:Hp) (x:V) (v:Value) (Q:Bool->Hp->Prop),Inv X pins σ H s->RelV x v->r x H Q ->
  wpAny (model X.prog X.w) X.A (truthy v) (TP X pins σ Q) X.xe s
def CQ (r:R2) (ta tb:TE):TE:=λσ H Q=>ta σ H λx H1=>tb σ H1 λy H2=>r x y H2 Q
def Ey (r:V->Hp->VK->Prop) (ta:TE):TE:=λσ H Q=>ta σ H λx H1=>r x H1 Q
def rI (C:Int->Int->Prop) (g:Int->Int->V):R2:=λx y H Q=>∃ i j,x=.int i/\y=.int j/\C i j/\Q (g i j) H
def wK (g:Int->Int->V):R2:=λx y H Q=>∃ i j,x=.int i/\y=.int j/\Q (g i j) H
def rU (g:Int->V):V->Hp->VK->Prop:=λx H Q=>∃ i,x=.int i/\Q (g i) H
section
variable {X:Cx} {a b c:Expr} {ta tb tc:TE} {pos:Pos}
theorem Aj (ha:PE X a ta) (hb:PE X b tb) {pins:List (Addr × Obj)} {s:Shared} {σ:St} {H:Hp} {R:V->V->Hp->Prop} (I:Inv X pins σ H s)
  (h:ta σ H λx H1=>tb σ H1 λy H2=>R x y H2) {Q:Value->Shared->Prop} {f:Value->Value->Sem Value}
  (hf:∀ v u s2 x y H2,Inv X pins σ H2 s2->RelV x v->RelV y u->R x y H2->wpAny (model X.prog X.w) X.A (f v u) Q X.xe s2) :
  wpAny (model X.prog X.w) X.A (eval a X.env) (λv s₁=>wpAny (model X.prog X.w) X.A (eval b X.env) (λu s₂=>wpAny (model X.prog X.w) X.A (f v u) Q X.xe s₂) X.xe s₁) X.xe s:=by
 refine bS (ha pins s σ H _ I h) λv s1 ⟨x,H1,I1,r1,q1⟩=>?_
 refine bS (hb pins s1 σ H1 _ I1 q1) λu s2 ⟨y,H2,I2,r2,q2⟩=>?_
 exact hf v u s2 x y H2 I2 r1 r2 q2
theorem aw {op:Operator} {r:R2} (ho:fE X (binaryOp op) r) (ha:PE X a ta) (hb:PE X b tb):PE X (.BinOp a op b pos) (CQ r ta tb):=by
 intro pins s σ H Q I h
 exact wpAny_BinOp (Aj ha hb I h λv u s2 x y H2 I2 rx ry q=>ho pins s2 σ H2 x y v u Q I2 rx ry q)
theorem eZ {op:UnaryOp} {r:V->Hp->VK->Prop} (ho:Dx X (unaryOp op) r) (ha:PE X a ta):PE X (.UnaryOp op a pos) (Ey r ta):=by
 intro pins s σ H Q I h
 exact UnaryOp_ (bS (ha pins s σ H _ I h) λv s1 ⟨x,H1,I1,r1,q1⟩=>ho pins s1 σ H1 x v Q I1 r1 q1)
theorem Bw {f:Value->Value->Sem Value} {C:Int->Int->Prop} {g:Int->Int->Int}
  (rule:∀(i j:Int) (t u:Tok) (s:Shared) (Q:Value->Shared->Prop) (E:Value->Shared->Prop),C i j->Q (.int (g i j) s.toks) { s with toks:=s.toks+1 }->wpAny (model X.prog X.w) X.A (f (.int i t) (.int j u)) Q E s) :
  fE X f (rI C λi j=>.int (g i j)):=by
 intro pins s σ H x y v u Q I rx ry h
 obtain⟨i,j,rfl,rfl,hc,q⟩:=h
 obtain⟨t,rfl⟩:=rx
 obtain⟨t',rfl⟩:=ry
 exact rule i j t t' s _ _ hc ⟨.int (g i j),H,I.tok _,⟨_,rfl⟩,q⟩
theorem AX {f:Value->Value->Sem Value} {g:Int->Int->Int}
  (rule:∀(i j:Int) (t u:Tok) (s:Shared) (Q:Value->Shared->Prop) (E:Value->Shared->Prop),Q (.int (g i j) s.toks) { s with toks:=s.toks+1 }->wpAny (model X.prog X.w) X.A (f (.int i t) (.int j u)) Q E s) :
  fE X f (wK λi j=>.int (g i j)):=by
 intro pins s σ H x y v u Q I rx ry h
 obtain⟨i,j,rfl,rfl,q⟩:=h
 obtain⟨t,rfl⟩:=rx
 obtain⟨t',rfl⟩:=ry
 exact rule i j t t' s _ _ ⟨.int (g i j),H,I.tok _,⟨_,rfl⟩,q⟩
theorem yz {f:Value->Value->Sem Value} {g:Int->Int->Bool}
  (rule:∀(i j:Int) (t u:Tok) (s:Shared) (Q:Value->Shared->Prop) (E:Value->Shared->Prop),Q (.bool (g i j)) s->wpAny (model X.prog X.w) X.A (f (.int i t) (.int j u)) Q E s) :
  fE X f (wK λi j=>.bl (g i j)):=by
 intro pins s σ H x y v u Q I rx ry h
 obtain⟨i,j,rfl,rfl,q⟩:=h
 obtain⟨t,rfl⟩:=rx
 obtain⟨t',rfl⟩:=ry
 exact rule i j t t' s _ _ ⟨.bl (g i j),H,I,rfl,q⟩
def By (i j:Int):Prop:=0<=j/\j<=1000000/\i.natAbs<2^64
def Bx (i j:Int):Prop:=(-(2^64)<i/\i<2^64)∨(-(2^64)<j/\j<2^64)
theorem Bx.ok {i j:Int} (h:Bx i j):IntMulOk i j:=by
 rcases h with⟨h1,h2⟩|⟨h1,h2⟩
 ·exact .of_left (intBits_le_64 h1 h2)
 ·exact .of_right (intBits_le_64 h1 h2)
theorem b8:fE X (binaryOp .Add) (wK λi j=>.int (i+j)):=AX λ_ _ _ _ _ _ _ q=>add_int q
theorem cq:fE X (binaryOp .Sub) (wK λi j=>.int (i-j)):=AX λ_ _ _ _ _ _ _ q=>sub_int q
theorem aU:fE X (binaryOp .Mod) (rI (λ_ j=>0<j) λi j=>.int (i%j)):=Bw λi j _ _ _ _ _ hc q=>by
 have h1:(0:Int)<j:=hc
 exact mod_int' (by omega) (by rw [Int.fmod_eq_emod_of_nonneg i (by omega)];exact q)
theorem nK:fE X (binaryOp .Pow) (rI By λi j=>.int (i^j.toNat)):=Bw λ_ _ _ _ _ _ _ hc q=>pow_int_small hc.1 hc.2.1 hc.2.2 q
theorem yf:fE X (inplaceOp .Sub) (wK λi j=>.int (i-j)):=AX λ_ _ _ _ _ _ _ q=>isub_int q
theorem EO {f:Value->Sem Value} {g:Int->Int}
  (rule:∀(i:Int) (t:Tok) (s:Shared) (Q:Value->Shared->Prop) (E:Value->Shared->Prop),Q (.int (g i) s.toks) { s with toks:=s.toks+1 }->wpAny (model X.prog X.w) X.A (f (.int i t)) Q E s) :
  Dx X f (rU λi=>.int (g i)):=by
 intro pins s σ H x v Q I rx h
 obtain⟨i,rfl,q⟩:=h
 obtain⟨t,rfl⟩:=rx
 exact rule i t s _ _ ⟨.int (g i),H,I.tok _,⟨_,rfl⟩,q⟩
theorem dc:Dx X (unaryOp .USub) (rU λi=>.int (-i)):=EO λ_ _ _ _ _ q=>neg_int q
end
def nS:V->V->Bool
 | .bY,.bY=>true | .bY,.int _=>true | .int _,.bY=>true | .bY,.bl _=>true | .bl _,.bY=>true | .bY,.str _=>true | .str _,.bY=>true
 | .int _,.int _=>true | .bl _,.bl _=>true | .str _,.str _=>true | .byt _,.byt _=>true
 | .int _,.str _=>true | .str _,.int _=>true | .bl _,.str _=>true | .str _,.bl _=>true
 | _,_=>false
def En:R2:=λx y H Q=>nS x y=true/\Q (.bl (decide (x=y))) H
def Ep:R2:=λx y H Q=>nS x y=true/\Q (.bl (!decide (x=y))) H
theorem rC {i j:Int}:decide (V.int i=V.int j)=(i==j):=by
 rw [Bool.eq_iff_iff]
 simp
theorem uU {i j:Bool}:decide (V.bl i=V.bl j)=(i==j):=by
 rw [Bool.eq_iff_iff]
 simp
theorem rE {i j:Str}:decide (V.str i=V.str j)=(i==j):=by
 rw [Bool.eq_iff_iff]
 simp
theorem rB {i j:Array UInt8}:decide (V.byt i=V.byt j)=(i.toList==j.toList):=by
 rw [Bool.eq_iff_iff]
 cases i
 cases j
 simp
section
variable {X:Cx} {a b c:Expr} {ta tb tc:TE} {pos:Pos}
theorem bw {pins:List (Addr × Obj)} {σ:St} {H:Hp} {s:Shared} {Q:VK} {k k':Bool} (I:Inv X pins σ H s) (q:Q (.bl k) H) (e:k=k'):EP X pins σ Q (.bool k') s:=by
 subst e
 exact⟨.bl k,H,I,rfl,q⟩
theorem ba:fE X (compareOp .Eq) En:=by
 intro pins s σ H x y v u Q I rx ry h
 obtain⟨hs,q⟩:=h
 cases x with
 | bY =>
  cases rx
  cases y with
  | bY=>cases ry;exact PySem.EqNone.eq_none_none (bw I q (by simp))
  | bl j=>cases ry;exact PySem.EqNone.eq_none_bool (bw I q (by simp))
  | int j=>obtain⟨t',rfl⟩:=ry;exact PySem.EqNone.eq_none_int (bw I q (by simp))
  | str j=>obtain⟨t',rfl⟩:=ry;exact PySem.EqNone.eq_none_str (bw I q (by simp))
  | _=>exact absurd (show false=true from hs) Bool.false_ne_true
 | bl i =>
  cases rx
  cases y with
  | bY=>cases ry;exact PySem.EqNone.eq_bool_none (bw I q (by simp))
  | bl j=>cases ry;exact eq_bool (bw I q uU)
  | str j=>obtain⟨t',rfl⟩:=ry;exact PySem.EqMixed.eq_bool_str (bw I q (by simp))
  | _=>exact absurd (show false=true from hs) Bool.false_ne_true
 | int i =>
  obtain⟨t,rfl⟩:=rx
  cases y with
  | bY=>cases ry;exact PySem.EqNone.eq_int_none (bw I q (by simp))
  | int j=>obtain⟨t',rfl⟩:=ry;exact eq_int (bw I q rC)
  | str j=>obtain⟨t',rfl⟩:=ry;exact PySem.EqMixed.eq_int_str (bw I q (by simp))
  | _=>exact absurd (show false=true from hs) Bool.false_ne_true
 | str i =>
  obtain⟨t,rfl⟩:=rx
  cases y with
  | bY=>cases ry;exact PySem.EqNone.eq_str_none (bw I q (by simp))
  | bl j=>cases ry;exact PySem.EqMixed.eq_str_bool (bw I q (by simp))
  | int j=>obtain⟨t',rfl⟩:=ry;exact PySem.EqMixed.eq_str_int (bw I q (by simp))
  | str j=>obtain⟨t',rfl⟩:=ry;exact eq_str (bw I q rE)
  | _=>exact absurd (show false=true from hs) Bool.false_ne_true
 | byt i =>
  obtain⟨t,rfl⟩:=rx
  cases y with
  | byt j=>obtain⟨t',rfl⟩:=ry;exact PySem.W.eq_bytes (bw I q rB)
  | _=>exact absurd (show false=true from hs) Bool.false_ne_true
 | _=>cases y<;>exact absurd (show false=true from hs) Bool.false_ne_true
theorem fF:fE X (compareOp .NotEq) Ep:=by
 intro pins s σ H x y v u Q I rx ry h
 obtain⟨hs,q⟩:=h
 cases x with
 | bY =>
  cases rx
  cases y with
  | bY=>cases ry;exact PySem.EqNone.ne_none_none (bw I q (by simp))
  | bl j=>cases ry;exact PySem.EqNone.ne_none_bool (bw I q (by simp))
  | int j=>obtain⟨t',rfl⟩:=ry;exact PySem.EqNone.ne_none_int (bw I q (by simp))
  | str j=>obtain⟨t',rfl⟩:=ry;exact PySem.EqNone.ne_none_str (bw I q (by simp))
  | _=>exact absurd (show false=true from hs) Bool.false_ne_true
 | bl i =>
  cases rx
  cases y with
  | bY=>cases ry;exact PySem.EqNone.ne_bool_none (bw I q (by simp))
  | bl j=>cases ry;exact ne_bool (bw I q (congrArg not uU))
  | str j=>obtain⟨t',rfl⟩:=ry;exact PySem.EqMixed.ne_bool_str (bw I q (by simp))
  | _=>exact absurd (show false=true from hs) Bool.false_ne_true
 | int i =>
  obtain⟨t,rfl⟩:=rx
  cases y with
  | bY=>cases ry;exact PySem.EqNone.ne_int_none (bw I q (by simp))
  | int j=>obtain⟨t',rfl⟩:=ry;exact ne_int (bw I q (congrArg not rC))
  | str j=>obtain⟨t',rfl⟩:=ry;exact PySem.EqMixed.ne_int_str (bw I q (by simp))
  | _=>exact absurd (show false=true from hs) Bool.false_ne_true
 | str i =>
  obtain⟨t,rfl⟩:=rx
  cases y with
  | bY=>cases ry;exact PySem.EqNone.ne_str_none (bw I q (by simp))
  | bl j=>cases ry;exact PySem.EqMixed.ne_str_bool (bw I q (by simp))
  | int j=>obtain⟨t',rfl⟩:=ry;exact PySem.EqMixed.ne_str_int (bw I q (by simp))
  | str j=>obtain⟨t',rfl⟩:=ry;exact ne_str (bw I q (congrArg not rE))
  | _=>exact absurd (show false=true from hs) Bool.false_ne_true
 | byt i =>
  obtain⟨t,rfl⟩:=rx
  cases y with
  | byt j=>obtain⟨t',rfl⟩:=ry;exact PySem.W.ne_bytes (bw I q (congrArg not rB))
  | _=>exact absurd (show false=true from hs) Bool.false_ne_true
 | _=>cases y<;>exact absurd (show false=true from hs) Bool.false_ne_true
theorem cU:fE X (compareOp .Lt) (wK λi j=>.bl (decide (i<j))):=yz λ_ _ _ _ _ _ _ q=>lt_int q
theorem lb:fE X (compareOp .LtE) (wK λi j=>.bl (decide (i<=j))):=yz λ_ _ _ _ _ _ _ q=>le_int q
theorem gY:fE X (compareOp .Gt) (wK λi j=>.bl (decide (j<i))):=yz λ_ _ _ _ _ _ _ q=>gt_int q
theorem we:fE X (compareOp .GtE) (wK λi j=>.bl (decide (j<=i))):=yz λ_ _ _ _ _ _ _ q=>ge_int q
theorem yC:fE X (compareOp .IsNot) (λx y H Q=>y=.bY/\Q (.bl (!decide (x=.bY))) H):=by
 intro pins s σ H x y v u Q I rx ry h
 obtain⟨rfl,q⟩:=h
 cases ry
 refine isnot_none_gen (bw I q ?_)
 cases x<;>first
  | (cases rx;rfl)
  | (obtain⟨t,rfl⟩:=rx;rfl)
theorem aq (b:Expr) {op:CmpOp} (h:op≠.In:=by decide) (h2:op≠.NotIn:=by decide):behindInMarks op b=false:=by
 have e1:(op==CmpOp.In)=false:=by cases op<;>first | rfl | exact absurd rfl h
 have e2:(op==CmpOp.NotIn)=false:=by cases op<;>first | rfl | exact absurd rfl h2
 cases b<;>simp [behindInMarks,e1,e2]
theorem bh {op:CmpOp} {r:R2} (ho:fE X (compareOp op) r) (ha:PE X a ta) (hb:PE X b tb) (hm:behindInMarks op b=false):PE X (.Compare a [op] [b] pos) (CQ r ta tb):=by
 intro pins s σ H Q I h
 exact wpAny_Compare1 (Aj ha hb I h λv u s2 x y H2 I2 rx ry q=>ho pins s2 σ H2 x y v u Q I2 rx ry q) hm
def xm (t:TE):TT:=λσ H Q=>t σ H λx H'=>∃ k,x=.bl k/\Q k H'
theorem ax {op:CmpOp} {r:R2} (ho:fE X (compareOp op) r) (ha:PE X a ta) (hb:PE X b tb) (hm:behindInMarks op b=false):PT X (.Compare a [op] [b] pos) (xm (CQ r ta tb)):=by
 intro pins s σ H Q I h
 refine wpAny_isTrue_Compare1 (bS (ha pins s σ H _ I h) λv s1 ⟨x,H1,I1,r1,q1⟩=>bS (hb pins s1 σ H1 _ I1 q1) λu s2 ⟨y,H2,I2,r2,q2⟩ =>
  bS (ho pins s2 σ H2 x y v u _ I2 r1 r2 q2) λc s3 ⟨z,H3,I3,r3,k,e,q3⟩=>?_) hm
 subst e
 cases r3
 exact wpAny_truthy_bool ⟨H3,I3,q3⟩
def jJ (r r':R2) (ta tb tc:TE):TE:=λσ H Q=>ta σ H λx H1=>tb σ H1 λy H2=>r x y H2 λz H3=>∃ k,z=.bl k /\
 (if k=true then tc σ H3 λw' H4=>r' y w' H4 Q else Q (.bl false) H3)
theorem lh {op op':CmpOp} {r r':R2} (ho:fE X (compareOp op) r) (ho':fE X (compareOp op') r') (ha:PE X a ta) (hb:PE X b tb) (hc:PE X c tc)
  (hm:lastMarks [op,op'] [b,c]=false:=by with_unfolding_all rfl):PE X (.Compare a [op,op'] [b,c] pos) (jJ r r' ta tb tc):=by
 intro pins s σ H Q I h
 refine Compare_chain (bS (ha pins s σ H _ I h) λv s1 ⟨x,H1,I1,r1,q1⟩=>chain_link (bS (hb pins s1 σ H1 _ I1 q1) λu s2 ⟨y,H2,I2,r2,q2⟩ =>
  bS (ho pins s2 σ H2 x y v u _ I2 r1 r2 q2) λd s3 ⟨z,H3,I3,r3,k,e,q3⟩=>?_)) hm
 subst e
 cases r3
 refine wpAny_truthy_bool ?_
 cases k with
 | false=>exact ite_ff ⟨.bl false,H3,I3,rfl,q3⟩
 | true=>exact ite_tt (chain_last (bS (hc pins s3 σ H3 _ I3 q3) λw' s4 ⟨z',H4,I4,r4,q4⟩=>ho' pins s4 σ H4 y z' u w' Q I4 r2 r4 q4))
theorem wG {op op':CmpOp} {r r':R2} (ho:fE X (compareOp op) r) (ho':fE X (compareOp op') r') (ha:PE X a ta) (hb:PE X b tb) (hc:PE X c tc)
  (hm:lastMarks [op,op'] [b,c]=false:=by with_unfolding_all rfl):PT X (.Compare a [op,op'] [b,c] pos) (xm (jJ r r' ta tb tc)):=by
 intro pins s σ H Q I h
 refine isTrue_chain (bS (ha pins s σ H _ I h) λv s1 ⟨x,H1,I1,r1,q1⟩=>test_link (bS (hb pins s1 σ H1 _ I1 q1) λu s2 ⟨y,H2,I2,r2,q2⟩ =>
  bS (ho pins s2 σ H2 x y v u _ I2 r1 r2 q2) λd s3 ⟨z,H3,I3,r3,k,e,q3⟩=>?_)) hm
 subst e
 cases r3
 refine wpAny_truthy_bool ?_
 cases k with
 | false =>
  obtain⟨k',e',q'⟩:=q3
  cases e'
  exact ite_ff ⟨H3,I3,q'⟩
 | true =>
  refine ite_tt (test_last (bS (hc pins s3 σ H3 _ I3 q3) λw' s4 ⟨z',H4,I4,r4,q4⟩=>bS (ho' pins s4 σ H4 y z' u w' _ I4 r2 r4 q4) λd' s5 ⟨z2,H5,I5,r5,k2,e2,q5⟩=>?_))
  subst e2
  cases r5
  exact wpAny_truthy_bool ⟨H5,I5,q5⟩
def uK (K:PySem.W.Frag) (x:V) (H:Hp) (k:Bool):Prop :=
 match x with
 | .bY=>k=false
 | .bl b=>k=b
 | .int i=>k=(i != 0)
 | .str y=>y.length<=sizeLine/\k=((y.length:Int) != 0)
 | .byt y=>y.size<=sizeLine/\k=((y.size:Int) != 0)
 | .ref p=>(∃ xs,aS K H p xs/\k=!xs.isEmpty)∨(∃ xs,aY K H p xs/\k=!xs.isEmpty)∨∃ kvs,H p=some (.dK kvs)/\k=!kvs.isEmpty
 | _=>False
theorem qB {κ:Type} {kvs:List (κ × V)} {vs:List (κ × Value)} (r:KV kvs vs):(!vs.isEmpty)=!kvs.isEmpty:=by
 cases r<;>rfl
theorem kP {xs:List V} {its:List Value} (r:Vals xs its):(!its.toArray.isEmpty)=!xs.isEmpty:=by
 cases r<;>simp
theorem kU:(sizeLine:Nat)<2^63:=by rw [sizeLine_eq];decide
theorem Bo:Dw X (λx H Q=>∃ k,uK X.K x H k/\Q k H):=by
 intro pins s σ H x v Q I rx h
 obtain⟨k,e,q⟩:=h
 have hl:=kU
 have hs:sizeLine=16777216:=sizeLine_eq
 cases x with
 | bY =>
  cases rx
  have e':k=false:=e
  subst e'
  exact truthy_none ⟨H,I,q⟩
 | bl b =>
  cases rx
  have e':k=b:=e
  subst e'
  exact wpAny_truthy_bool ⟨H,I,q⟩
 | int i =>
  obtain⟨t,rfl⟩:=rx
  have e':k=(i != 0):=e
  subst e'
  exact PySem.P.truthy_int ⟨H,I,q⟩
 | str y =>
  obtain⟨t,rfl⟩:=rx
  obtain⟨hy,e'⟩:y.length<=sizeLine/\k=((y.length:Int) != 0):=e
  subst e'
  exact PySem.P.truthy_str (by omega) ⟨H,I.tok _,q⟩
 | byt y =>
  obtain⟨t,rfl⟩:=rx
  obtain⟨hy,e'⟩:y.size<=sizeLine/\k=((y.size:Int) != 0):=e
  subst e'
  exact PySem.W.truthy_bytes (by omega) ⟨H,I.tok _,q⟩
 | ref p =>
  cases rx
  have e':(∃ xs,aS X.K H p xs/\k=!xs.isEmpty)∨(∃ xs,aY X.K H p xs/\k=!xs.isEmpty)∨∃ kvs,H p=some (.dK kvs)/\k=!kvs.isEmpty:=e
  rcases e' with⟨xs,hx,e'⟩|⟨xs,hx,e'⟩|⟨kvs,hx,e'⟩
  ·subst e'
   obtain⟨its,r,pl,hz⟩:=I.list hx
   have hlen:=r.length
   exact wpAny_truthy_list pl.isList (by simp only [List.size_toArray];omega) ⟨H,I.tok _,by rw [kP r];exact q⟩
  ·subst e'
   obtain⟨its,r,pl,hz⟩:=I.tuple hx
   have hlen:=r.length
   exact truthy_tuple pl (by simp only [List.size_toArray];omega) ⟨H,I.tok _,by rw [kP r];exact q⟩
  ·subst e'
   obtain⟨hz,hS,vs,r,m⟩:kvs.length<=sizeLine/\(p==sysModules)=false/\∃ vs,KV kvs vs/\s.heap.DictOf (ck X.prog X.w) p vs:=I.hok p _ hx
   have hlen:kvs.length=vs.length:=Paired.length r
   exact wpAny_truthy_dict hS m (by omega) ⟨H,I.tok _,by rw [qB r];exact q⟩
 | _=>exact (show False from e).elim
theorem aM (ha:PE X a ta) (he:∀ whole,isTrue a X.env whole=(do let v <- whole;standAt a.pos;holding [v] (truthy v))) :
  PT X a (λσ H Q=>ta σ H λx H'=>∃ k,uK X.K x H' k/\Q k H'):=by
 intro pins s σ H Q I h
 exact isTrue_plain (bS (ha pins s σ H _ I h) λv s1 ⟨x,H1,I1,r1,q1⟩=>Bo pins s1 σ H1 x v Q I1 r1 q1) (he _)
theorem vals1 {x:V} {us:List Value} (r:Vals [x] us):∃ u,us=[u]/\RelV x u:=by
 cases r with
 | cons r1 r2=>cases r2;exact⟨_,rfl,r1⟩
theorem vals2 {x y:V} {us:List Value} (r:Vals [x,y] us):∃ u w',us=[u,w']/\RelV x u/\RelV y w':=by
 cases r with
 | cons r1 r2 =>
  cases r2 with
  | cons r3 r4=>cases r4;exact⟨_,_,rfl,r1,r3⟩
theorem kC:dG X (.builtin "abs") (λxs H Q=>∃ i,xs=[.int i]/\Q (.int (if i<0 then -i else i)) H):=by
 intro pins s σ H xs us Q I r h
 obtain⟨i,rfl,q⟩:=h
 obtain⟨u,rfl,t,rfl⟩:=vals1 r
 exact call_abs_int λu tk=>⟨.int (if i<0 then -i else i),H,I.tok _,⟨_,rfl⟩,q⟩
theorem mv:dG X (.type "int") (λxs H Q=>(∃ i,xs=[.int i]/\Q (.int i) H)∨∃ k,xs=[.bl k]/\Q (.int (if k then 1 else 0)) H):=by
 intro pins s σ H xs us Q I r h
 rcases h with⟨i,rfl,q⟩|⟨k,rfl,q⟩
 ·obtain⟨u,rfl,t,rfl⟩:=vals1 r
  exact call_int_int ⟨.int i,H,I,⟨_,rfl⟩,q⟩
 ·obtain⟨u,rfl,r1⟩:=vals1 r
  cases r1
  exact call_int_bool ⟨.int (if k then 1 else 0),H,I.tok _,⟨_,rfl⟩,q⟩
end
structure Ae (h:Heap) (x dx C:Addr) (mA:Str->Option Value):Prop where
 obj:h.get? x=some (PySem.W.instObj C dx)
 ns:h.Ns1 dx mA
 ne:dx≠x
theorem tX {h:Heap} {dx:Addr} {mA:Str->Option Value} (n:h.Ns1 dx mA):∃ od,h.get? dx=some od/\∀ name,PySem.W.lookIn name od=some (mA name):=by
 obtain⟨o,es,ep,ho,hd,hk,_,hm⟩:=n
 refine⟨o,ho,λname=>?_⟩
 have e:=hm name
 unfold nsFind findBy at e
 rw [<- Array.find?_toList] at e
 unfold PySem.W.lookIn
 rw [hd]
 dsimp only
 split
 ·rename_i y q
  rw [q] at e
  exact congrArg some e
 ·rename_i q
  rw [q] at e
  have a:es.toList.any (·.refKey)=false:=by
   rw [List.any_eq_false]
   intro y hy
   obtain⟨z,t,hkey⟩:=hk y (Array.mem_toList_iff.mp hy)
   simp [DictEntry.refKey,hkey]
  have a':¬es.toList.any (·.refKey)=true:=by rw [a];exact Bool.false_ne_true
  rw [if_neg a']
  exact congrArg some e
theorem Ae.look {h:Heap} {x dx C:Addr} {mA:Str->Option Value} (I:Ae h x dx C mA):∃ od,PySem.W.InstAt h x (PySem.W.instObj C dx) C (some od)/\∀ name,PySem.W.lookIn name od=some (mA name) :=
 let ⟨od,ho,hl⟩:=tX I.ns
 ⟨od,⟨I.obj,rfl,rfl,ho⟩,hl⟩
section
variable {prog:Program} {w:World} {A:Around} {E:Value->Shared->Prop} {s:Shared} {K:PySem.W.Frag} {x dx C f:Addr} {mA:Str->Option Value} {name:Str} {v:Value}
end
def A6 (f:Str) (v:V):List (Str × V)->List (Str × V)
 | []=>[(f,v)]
 | (g,x)::r=>if g=f then (g,v)::r else (g,x)::A6 f v r
theorem ji.some_of {v:V} {o:Option Value} (r:ji (some v) o):∃ u,o=some u/\RelV v u:=by
 cases o with
 | none=>exact (show False from r).elim
 | some u=>exact⟨u,rfl,r⟩
section
variable {P:Program} {w:World} {H H':Hp} {h h':Heap} {a C dx:Addr} {fs fs':List (Str × V)}
theorem ye (hok:gQ P w H h) (e:H a=some (.ins C dx fs)):∃ mA,Ae h a dx C mA/\(∀ f,ji (fs.lookup f) (mA f))/\PySem.Within mA (fs.map (·.1))/\fs.length<=1000/\H dx=some (.own a):=by
 obtain⟨d,z,ne,ob,mA,n,r,q⟩:=(show bV P w H h a (.ins C dx fs) from hok a _ e)
 exact⟨mA,⟨ob,n,ne⟩,r,q,z,d⟩
end
structure Bp (K:PySem.W.Frag) (C:Addr):Prop where
 pg:PySem.W.plainGet K C Str.empty=true
 hd:PySem.W.hasDictIn K C=true
 po:PySem.W.plainOver K C=true
 sa:PySem.W.findIn K (.ref C) "__setattr__"=some (some (.builtin "object.__setattr__"))
theorem Bp.get {K:PySem.W.Frag} {C:Addr} (c:Bp K C) (f:Str):PySem.W.plainGet K C f=true:=c.pg
def qh (K:PySem.W.Frag) (C:Addr) (f:Str):Prop:=PySem.W.findIn K (.ref C) f=some none
structure Meth (K:PySem.W.Frag) (C:Addr) (m:Str) (f:Addr):Prop where
 at_:PySem.W.findIn K (.ref C) m=some (some (.ref f))
 fn:PySem.W.isFn K (.ref f)=true
 kp:PySem.W.keepIn K (.ref f)=true
section
variable {X:Cx} {pins:List (Addr × Obj)} {σ:St} {H:Hp} {s:Shared} {a C dx:Addr} {fs:List (Str × V)} {f:Str} {v:V} {A:Around} {E:Value->Shared->Prop}
end
def D0 (K:PySem.W.Frag) (ta:TE) (f:Str):TE:=λσ H Q=>ta σ H λx H1=>∃ a C dx fs v,x=.ref a/\H1 a=some (.ins C dx fs)/\Bp K C/\qh K C f/\fs.lookup f=some v/\Q v H1
def DW (K:PySem.W.Frag) (ta tv:TE) (f:Str):TS:=λD σ H=>tv σ H λy H1=>ta σ H1 λx H2=>∃ a C dx fs,x=.ref a/\H2 a=some (.ins C dx fs)/\Bp K C/\qh K C f/\fs.length<1000 /\
 D.nx σ (upd H2 a (.ins C dx (A6 f y fs)))
def yO (K:PySem.W.Frag) (ta tv:TE) (rd:V->V->Hp->VK->Prop) (f:Str):TS:=λD σ H=>ta σ H λx H1=>∃ a C dx fs v,x=.ref a/\H1 a=some (.ins C dx fs)/\Bp K C/\qh K C f/\fs.lookup f=some v /\
 tv σ H1 λy H2=>rd v y H2 λz H3=>∃ dx' fs',H3 a=some (.ins C dx' fs')/\fs'.length<1000/\D.nx σ (upd H3 a (.ins C dx' (A6 f z fs')))
section
variable {X:Cx} {o e value:Expr} {f:Str} {pos pos' tpos:Pos} {ta tv:TE}
end
section
variable {X:Cx} {pins:List (Addr × Obj)} {σ:St} {H:Hp} {s:Shared} {A:Around} {E:Value->Shared->Prop} {Q:Value->Shared->Prop} {c:Value} {b:Bool}
inductive gS (K:PySem.W.Frag) (H:Hp):V->Value->Prop where
 | bY:gS K H .bY (.type "NoneType")
 | bl (x:Bool):gS K H (.bl x) (.type "bool")
 | int (i:Int):gS K H (.int i) (.type "int")
 | str (x:Str):gS K H (.str x) (.type "str")
 | flt (x:UInt64):gS K H (.flt x) (.type "float")
 | lst {a:Addr} {xs:List V} (e:H a=some (.lst xs)):gS K H (.ref a) (.type "list")
 | frz {a:Addr} {o:Obj} {xs:List V} (e:H a=some (.frz o (.lst xs))):gS K H (.ref a) (.type "list")
 | tup {a:Addr} {xs:List V} (e:H a=some (.tup xs)):gS K H (.ref a) (.type "tuple")
 | dK {a:Addr} {kvs:List (Key × V)} (e:H a=some (.dK kvs)):gS K H (.ref a) (.type "dict")
 | dT {a:Addr} {kvs:List (List Key × V)} (e:H a=some (.dT kvs)):gS K H (.ref a) (.type "dict")
 | ins {a C dx:Addr} {fs:List (Str × V)} (e:H a=some (.ins C dx fs)) (cl:Bp K C) (ha:PySem.W.findIn K (.ref C) "__class__"=some (some (.builtin "object.__class__")))
   (hn:PySem.W.specialIn K (.builtin "object.__class__") "__get__"=some (some (.builtin "getset_descriptor.__get__"))) (htk:PySem.W.takesIn K (.builtin "object.__class__")=some true)
   (hm:PySem.W.mroIn K C (.type "object")=some true):gS K H (.ref a) (.ref C)
theorem gI {x:V} {u t:Value} (I:Inv X pins σ H s) (rx:RelV x u) (ty:gS X.K H x t) (e:PySem.W.kitOne X.K t c=some b) (h:∀ tk,Q (.bool b) { s with toks:=tk }) :
  wpAny (model X.prog X.w) A (call (.builtin "isinstance") [u,c]) Q E s:=by
 cases ty with
 | bY=>cases (show u=Value.none from rx);exact PySem.W.kia_one PySem.W.kitx_none I.nH True.intro e (λz=>nomatch z) h
 | bl y=>cases (show u=Value.bool y from rx);exact PySem.W.kia_one PySem.W.kitx_bool I.nH True.intro e (λz=>nomatch z) h
 | int i=>obtain⟨t,q⟩:=(show ∃ t,u=Value.int i t from rx);cases q;exact PySem.W.kia_one PySem.W.kitx_int I.nH True.intro e (λz=>nomatch z) h
 | str y=>obtain⟨t,q⟩:=(show ∃ t,u=Value.str y t from rx);cases q;exact PySem.W.kia_one PySem.W.kitx_str I.nH True.intro e (λz=>nomatch z) h
 | flt y=>obtain⟨t,q⟩:=(show ∃ t,u=Value.float y t from rx);cases q;exact PySem.W.kia_one PySem.W.kitx_float I.nH True.intro e (λz=>nomatch z) h
 | @lst a xs ea =>
  cases (show u=Value.ref a from rx)
  obtain⟨_,_,n,_,h1⟩:=(show bV X.prog X.w H s.heap a (.lst xs) from I.hok a _ ea)
  exact PySem.W.kia_one PySem.W.kitx_list I.nH ⟨_,h1,rfl⟩ e (λz=>nomatch z) h
 | @frz a ob xs ea =>
  cases (show u=Value.ref a from rx)
  obtain⟨_,_,_,n,_,h1⟩:=(show bV X.prog X.w H s.heap a (.frz ob (.lst xs)) from I.hok a _ ea)
  exact PySem.W.kia_one PySem.W.kitx_list I.nH ⟨_,h1,rfl⟩ e (λz=>nomatch z) h
 | @tup a xs ea =>
  cases (show u=Value.ref a from rx)
  obtain⟨_,_,_,p⟩:=(show bV X.prog X.w H s.heap a (.tup xs) from I.hok a _ ea)
  obtain⟨o,h1,h2,_⟩:=p
  exact PySem.W.kia_one PySem.W.kitx_tuple I.nH ⟨o,h1,h2⟩ e (λz=>nomatch z) h
 | @dK a kvs ea =>
  cases (show u=Value.ref a from rx)
  obtain⟨_,_,vs,_,p⟩:=(show bV X.prog X.w H s.heap a (.dK kvs) from I.hok a _ ea)
  obtain⟨o,es,ep,h1,h2,_⟩:=p
  exact PySem.W.kia_one PySem.W.kitx_dict I.nH ⟨o,h1,h2.1⟩ e (λz=>nomatch z) h
 | @dT a kvs ea =>
  cases (show u=Value.ref a from rx)
  obtain⟨_,_,xs,_,o,es,ep,h1,h2,_⟩:=(show bV X.prog X.w H s.heap a (.dT kvs) from I.hok a _ ea)
  exact PySem.W.kia_one PySem.W.kitx_dict I.nH ⟨o,h1,h2.1⟩ e (λz=>nomatch z) h
 | @ins a C dx fs ea cl ha hn htk hm =>
  cases (show u=Value.ref a from rx)
  obtain⟨mA,O,_⟩:=ye I.hok ea
  obtain⟨od,J,_⟩:=O.look
  exact PySem.W.kia_one (PySem.W.kitx_own (cl.get _) cl.hd ha hn htk hm) I.nH J e (λz=>nomatch z) h
end
structure dN (k:Nat) (A:Around):Prop where
 hd:A.handled=none
 dp:A.depth+3*k+5<recursionLimit
 un:A.units+16*k+200<cLine
 gs:A.guards=some []
theorem dN.mono {j k:Nat} {A:Around} (r:dN k A) (h:j<=k):dN j A:=⟨r.hd,by have:=r.dp;omega,by have:=r.un;omega,r.gs⟩
theorem dN.deeper {k:Nat} {A:Around} (r:dN (k+1) A) (env:Env):dN k (A.deeper env) :=
 ⟨r.hd,by have:=r.dp;show A.depth+1+3*k+5<_;omega,by have:=r.un;show A.units+3+16*k+200<_;omega,r.gs⟩
theorem dN.depth {k:Nat} {A:Around} (r:dN k A):A.depth<recursionLimit:=by have:=r.dp;omega
theorem dN.units {k:Nat} {A:Around} (r:dN k A):A.units+64<cLine:=by have:=r.un;omega
def Bm:TA:=λ_ H Q=>Q [] H
def xi (ta:TE) (tr:TA):TA:=λσ H Q=>ta σ H λx H1=>tr σ H1 λxs H2=>Q (x::xs) H2
section
variable {X:Cx} {e:Expr} {es:List Expr} {te:TE} {t:TA} {pos:Pos}
theorem ae:PA X [] Bm:=λ_ _ _ _ H Q I h=>Calls.spliced_nil ⟨[],H,I,.nil,h⟩
theorem aa (ha:PE X e te) (hr:PA X es t) (hs:starEach (e::es) X.env=(false,eval e X.env)::starEach es X.env:=by rfl):PA X (e::es) (xi te t):=by
 intro pos pins s σ H Q I h
 rw [hs]
 show wpAny _ _ (spliced ((false,eval e X.env)::backTo pos (starEach es X.env))) _ _ s
 refine Calls.spliced_cons (bS (ha pins s σ H _ I h) λu s1 ⟨x,H1,I1,r1,q1⟩=>?_)
 exact bS (hr pos pins s1 σ H1 _ I1 q1) λus s2 ⟨xs,H2,I2,r2,q2⟩=>⟨x::xs,H2,I2,.cons r1 r2,q2⟩
def CY (t:TA):TE:=λσ H Q=>t σ H λxs H1=>xs.length<=sizeLine/\∀ p,H1 p=none->Q (.ref p) (upd H1 p (.tup xs))
def CM (t:TA):TE:=λσ H Q=>t σ H λxs H1=>xs.length<=sizeLine/\∀ p,H1 p=none->Q (.ref p) (upd H1 p (.lst xs))
theorem aR {x1} (h:PA X es t):PE X (.Tuple es x1 pos) (CY t):=by
 intro pins s σ H Q I hq
 refine wpAny_Tuple_spliced (bS (h pos pins s σ H _ I hq) λus s1 ⟨xs,H1,I1,r,z,q⟩=>⟨by rw [<- r.length];exact z,?_⟩)
 have hf:H1 s1.heap.objs.size=none:=I1.hok.fresh (Nat.le_refl _)
 refine⟨.ref s1.heap.objs.size,upd H1 s1.heap.objs.size (.tup xs),I1.laid (t':=s1.toks) (λb u e=>Heap.get?_push_of_some _ e) (Nat.le_refl _) ?_,rfl,q _ hf⟩
 exact⟨z,us,r,⟨_,Heap.get?_push_size _ rfl,rfl,_,rfl⟩⟩
theorem aX (h:PA X es t):PE X (.List es pos) (CM t):=by
 intro pins s σ H Q I hq
 refine wpAny_List_spliced (bS (h pos pins s σ H _ I hq) λus s1 ⟨xs,H1,I1,r,z,q⟩=>⟨by rw [<- r.length];exact z,?_⟩)
 have hf:H1 s1.heap.objs.size=none:=I1.hok.fresh (Nat.le_refl _)
 refine⟨.ref s1.heap.objs.size,upd H1 s1.heap.objs.size (.lst xs),I1.laid (t':=s1.toks) (λb u e=>Heap.get?_push_of_some _ e) (Nat.le_refl _) ?_,rfl,q _ hf⟩
 exact⟨z,us,0,r,Heap.get?_push_size _ rfl⟩
end
abbrev Sp:=List V->Hp->VK->XK->Prop
abbrev kA:=List Env->Hp->Shared->XK->Value->Shared->Prop
structure xF (P:Program) (w:World) (K:PySem.W.Frag) (mg:Str->Option Value) (base:Heap) (A:Around) (outer:List Env) (s:Shared) (H:Hp):Prop where
 frames:A.frames=some outer
 mod:Mod K mg base
 bs:∀ b o,base.get? b=some o->s.heap.get? b=some o/\H b=none
 bsz:base.objs.size<=s.heap.objs.size
 kN:s.heap.FunFrames base outer
 frf:∀ b∈uD outer,H b=none
 hok:gQ P w H s.heap
 bare:AllBare s.gens
def CE (outer:List Env) (P:Program) (w:World) (H:Hp) (s:Shared) (Q:VK) (u:Value) (s':Shared):Prop :=
 ∃ v H',s'.os=s.os/\AllBare s'.gens/\Un (uD outer) [] H H' s.heap s'.heap/\gQ P w H' s'.heap/\RelV v u/\Q v H'
def CR (CX:kA) (outer:List Env) (P:Program) (w:World) (H:Hp) (s:Shared) (Q:VK) (E:XK) (r:Result) (s':Shared):Prop :=
 match r with
 | .ok (.ret u)=>CE outer P w H s Q u s'
 | .ok _=>False
 | .error e=>CX outer H s E e s'
structure eE (P:Program) (w:World) (K:PySem.W.Frag) (mg:Str->Option Value) (base:Heap) (CX:kA) (k:Nat) (f:Addr) (fd:FuncData) (ps:List Str) (sp:Sp):Prop where
 len:∀ vs H Q E,sp vs H Q E->vs.length=ps.length
 run:∀(A:Around) (outer:List Env) (s:Shared) (H:Hp) (args:Args) (us:List Value) (vs:List V) (Q:VK) (E:XK),dN k A->xF P w K mg base A outer s H->BindsTo s fd args (ps.zip us)->Vals vs us->sp vs H Q E ->
  codeAny (model P w) A (.call (.ref f) args) (CR CX outer P w H s Q E) s
theorem eE.mono {P:Program} {w:World} {K:PySem.W.Frag} {mg:Str->Option Value} {base:Heap} {CX:kA} {j k:Nat} {f:Addr} {fd:FuncData} {ps:List Str} {sp:Sp} (F:eE P w K mg base CX j f fd ps sp) (h:j<=k) :
  eE P w K mg base CX k f fd ps sp:=⟨F.len,λA outer s H args us vs Q E hr=>F.run A outer s H args us vs Q E (hr.mono h)⟩
theorem eE.imp {P:Program} {w:World} {K:PySem.W.Frag} {mg:Str->Option Value} {base:Heap} {CX:kA} {k:Nat} {f:Addr} {fd:FuncData} {ps:List Str} {sp sp':Sp} (F:eE P w K mg base CX k f fd ps sp)
  (h:∀ vs H Q E,sp' vs H Q E->sp vs H Q E):eE P w K mg base CX k f fd ps sp' :=
 ⟨λvs H Q E q=>F.len vs H Q E (h _ _ _ _ q),λA outer s H args us vs Q E hr he hb hv hs=>F.run A outer s H args us vs Q E hr he hb hv (h _ _ _ _ hs)⟩
section
variable {X:Cx} {pins:List (Addr × Obj)} {σ:St} {H:Hp} {s s':Shared}
theorem Inv.DG (I:Inv X pins σ H s):xF X.prog X.w X.K X.mg X.base X.A X.stack s H :=
 ⟨I.ok.frames,I.ok.mod,I.bs,Nat.le_trans I.ok.bsz I.sz,I.stack,I.sS,I.hok,I.bare⟩
theorem Inv.after {Q:VK} {u:Value} (I:Inv X pins σ H s) (h:CE X.stack X.prog X.w H s Q u s'):EP X pins σ Q u s':=by
 obtain⟨v,H',os,bare,un,hok,r,q⟩:=h
 obtain⟨hh,g,d,t,os'⟩:=s'
 obtain rfl:os'=s.os:=os
 exact⟨v,H',I.call (h':=hh) (g':=g) (d':=d) (t':=t) (ch:=[]) un hok bare (λb z=>absurd z (by simp)),r,q⟩
end
def sT (sp:Sp) (bo:List V) (E:XK) (t:TA):TE:=λσ H Q=>t σ H λvs H1=>sp (vs++bo) H1 Q E
def CO (C:Addr) (m:Str) (sp:Sp) (bo:List V) (E:XK) (ta:TE) (t:TA):TE:=λσ H Q=>ta σ H λx H1=>∃ a dx fs,x=.ref a/\H1 a=some (.ins C dx fs)/\fs.lookup m=none /\
 t σ H1 λvs H2=>sp (x::(vs++bo)) H2 Q E
def CN (C:Addr) (sp:Sp) (bo:List V) (E:XK) (t:TA):TE:=λσ H Q=>t σ H λvs H1=>∀ x dx,H1 x=none->H1 dx=none->dx≠x ->
 sp (.ref x::(vs++bo)) (upd (upd H1 dx (.own x)) x (.ins C dx [])) (λv H2=>v=.bY/\Q (.ref x) H2) E
def Binds (K:PySem.W.Frag) (fd:FuncData) (ps:List Str) (ds:List Value):Prop :=
 ∀(s:Shared) (us:List Value),K.In s.heap->(us++ds).length=ps.length->BindsTo s fd ⟨us,[]⟩ (ps.zip (us++ds))
theorem Binds.all {K:PySem.W.Frag} {fd:FuncData} {ps:List Str} (h:∀ us:List Value,us.length=ps.length->bindArgs fd ⟨us,[]⟩=pure (ps.zip us)):Binds K fd ps []:=λs us _ hl=>by
 rw [List.append_nil] at hl ⊢
 exact .of_eq (h us hl)
def Passes (CX:kA) (X:Cx) (E:XK):Prop:=∀(pins:List (Addr × Obj)) (σ:St) (H:Hp) (s:Shared) (e:Value) (s':Shared),Inv X pins σ H s->CX X.stack H s E e s'->X.xe e s'
section
variable {X:Cx} {CX:kA} {k:Nat} {f C:Addr} {fd:FuncData} {ps:List Str} {sp:Sp} {bo:List V} {ds:List Value} {E:XK} {x m:Str} {p pos apos:Pos} {e o:Expr} {es:List Expr} {ta:TE} {t:TA}
theorem Bc {pins:List (Addr × Obj)} {σ:St} {H:Hp} {s:Shared} {Q:VK} {us:List Value} {vs:List V} (F:eE X.prog X.w X.K X.mg X.base CX k f fd ps sp) (hr:dN k X.A) (hb:Binds X.K fd ps ds) (hd:Vals bo ds) (hx:Passes CX X E)
  (I:Inv X pins σ H s) (r:Vals vs us) (h:sp (vs++bo) H Q E):wpAny (model X.prog X.w) X.A (call (.ref f) us) (EP X pins σ Q) X.xe s:=by
 have r2:Vals (vs++bo) (us++ds):=r.append hd
 have hl:(us++ds).length=ps.length:=by rw [<- r2.length];exact F.len _ _ _ _ h
 refine wpAny_call (codeAny_mono (F.run X.A X.stack s H ⟨us,[]⟩ (us++ds) (vs++bo) Q E hr I.DG (hb s us I.nH hl) r2 h) λr s' hq=>?_)
 cases r with
 | error e=>exact hx pins σ H s e s' I hq
 | ok fl =>
  cases fl with
  | ret u=>exact I.after hq
  | next=>exact False.elim hq
  | brk=>exact False.elim hq
  | cont=>exact False.elim hq
theorem yG (F:eE X.prog X.w X.K X.mg X.base CX k f fd ps sp) (hr:dN k X.A) (hg:Gl X x) (hm:X.mg x=some (.ref f)) (hk:PySem.W.keepIn X.K (.ref f)=true) (hb:Binds X.K fd ps ds) (hd:Vals bo ds) (hx:Passes CX X E)
  (ha:PA X (e::es) t) (hdb:(x==("__debug__":Str))=false:=by decide) (he:starEach (e::es) X.env=(false,eval e X.env)::starEach es X.env:=by rfl) (hpl:(backTo pos (starEach es X.env)).any (·.1)=false:=by rfl) :
  PE X (.Call (.Name x p) (e::es) [] pos) (sT sp bo E t):=by
 intro pins s σ H Q I h
 refine wpAny_Call_Name_kw (rS I hg hm ?_ hdb)
 refine PySem.W.callWith_K (h₀:=X.base) I.ok.mod.kin hk (bS (ha pos pins s σ H _ I h) λus s1 ⟨vs,H1,I1,r,q⟩=>⟨I1.nH,?_⟩) he hpl
 exact Bc F hr hb hd hx I1 r q
end
section
variable {X:Cx} {CX:kA} {k:Nat} {f C:Addr} {fd:FuncData} {ps ks:List Str} {sp:Sp} {E:XK} {x m:Str} {p pos apos kpos:Pos} {e o:Expr} {es:List Expr} {kws:List Keyword} {te ta:TE} {t tk:TA} {nm:Option Str}
variable {g:List Value->List Value->List Value} {gV:List V->List V->List V}
end
structure aC (N P:List Str) (sc:Scope):Prop where
 kind:sc.kind=.function
 co:sc.isCoroutine=false
 gen:sc.isGenerator=false
 nd:N.Nodup
 pre:N.take P.length=P
 par:∀ x∈P,sc.names.lookup x=some .local∨sc.names.lookup x=some .cell
 nofree:∀ y∈sc.names,y.2≠.free
theorem mr {kindOf:Str->Option NameKind} {x:Str}:∀{binds:List (Str × Value)} {m:Str->Option Value},(∀ v,(x,v)∉binds)->bindL kindOf binds m x=m x
 | [],_,_=>rfl
 | (n,v)::r,m,h=>by
  unfold bindL
  rw [mr λw hw=>h w (List.mem_cons_of_mem _ hw)]
  split
  ·have:x≠n:=by rintro rfl;exact h v List.mem_cons_self
   simp [this]
  ·rfl
theorem mj {kindOf:Str->Option NameKind} {x:Str}:∀{binds:List (Str × Value)} {m:Str->Option Value},(∀ v,(x,v)∉binds)->bindC kindOf binds m x=m x
 | [],_,_=>rfl
 | (n,v)::r,m,h=>by
  unfold bindC
  rw [mj λw hw=>h w (List.mem_cons_of_mem _ hw)]
  split
  ·rfl
  ·have:x≠n:=by rintro rfl;exact h v List.mem_cons_self
   simp [this]
theorem mq {kindOf:Str->Option NameKind} {x:Str} {v:Value}:∀{P:List Str} {vs:List Value} {i:Nat} {m:Str->Option Value},P.Nodup->P[i]?=some x->vs[i]?=some v->kindOf x=some .local ->
  bindL kindOf (P.zip vs) m x=some v
 | [],_,_,_,_,h,_,_=>by simp at h
 | _::_,[],_,_,_,_,h,_=>by simp at h
 | p::P,w::vs,0,m,nd,h1,h2,hk=>by
  simp at h1 h2;subst h1;subst h2
  show bindL kindOf ((p,w)::P.zip vs) m p=_
  unfold bindL
  rw [mr λv hv=>(List.nodup_cons.mp nd).1 (List.of_mem_zip hv).1,if_pos hk]
  simp
 | p::P,w::vs,i+1,m,nd,h1,h2,hk=>by
  show bindL kindOf ((p,w)::P.zip vs) m x=_
  unfold bindL
  exact mq (i:=i) (List.nodup_cons.mp nd).2 (by simpa using h1) (by simpa using h2) hk
theorem mi {kindOf:Str->Option NameKind} {x:Str} {v:Value}:∀{P:List Str} {vs:List Value} {i:Nat} {m:Str->Option Value},P.Nodup->P[i]?=some x->vs[i]?=some v->kindOf x≠some .local ->
  bindC kindOf (P.zip vs) m x=some v
 | [],_,_,_,_,h,_,_=>by simp at h
 | _::_,[],_,_,_,_,h,_=>by simp at h
 | p::P,w::vs,0,m,nd,h1,h2,hk=>by
  simp at h1 h2;subst h1;subst h2
  show bindC kindOf ((p,w)::P.zip vs) m p=_
  unfold bindC
  rw [mj λv hv=>(List.nodup_cons.mp nd).1 (List.of_mem_zip hv).1,if_neg hk]
  simp
 | p::P,w::vs,i+1,m,nd,h1,h2,hk=>by
  show bindC kindOf ((p,w)::P.zip vs) m x=_
  unfold bindC
  exact mi (i:=i) (List.nodup_cons.mp nd).2 (by simpa using h1) (by simpa using h2) hk
def start (N:List Str) (vs:List V):St:=vs.map some++List.replicate (N.length-vs.length) none
def lU (CX:kA) (P:Program) (w:World) (K:PySem.W.Frag) (mg:Str->Option Value) (base:Heap) (N:List Str) (qual:Str) (scope:Scope) (f:Addr) (cd:Value) (A:Around) (outer:List Env) (s:Shared) (H:Hp) (E:XK):Cx where
 prog:=P
 w:=w
 K:=K
 mg:=mg
 base:=base
 A:=A.deeper (envOfC qual scope s.heap.objs.size f cd)
 N:=N
 s₀:=s
 H₀:=H
 env:=envOfC qual scope s.heap.objs.size f cd
 outer:=outer
 stack:=envOfC qual scope s.heap.objs.size f cd::outer
 ex:=[]
 calm:=true
 fn:=λ_=>true
 pn:=[]
 xe:=λe s'=>wpAny (model P w) (A.deeper (envOfC qual scope s.heap.objs.size f cd)) (leaving (envOfC qual scope s.heap.objs.size f cd) e) (λ_ s''=>CX outer H s E e s'') (λe' s''=>CX outer H s E e' s'') s'
theorem oE {sc:Scope} {n:Nat} {x:Str} (h:sc.names.lookup x=some .cell):∃ c,(cellsFrom n sc.names []).lookup x=some c:=by
 have q:=PySem.W.cellsFrom_some sc.names n [] (.inl h)
 exact Option.isSome_iff_exists.mp q
theorem tK {CX:kA} {P:Program} {w:World} {K:PySem.W.Frag} {mg:Str->Option Value} {base:Heap} {N ps:List Str} {qual:Str} {scope:Scope} {f:Addr} {cd:Value} {A:Around} {outer:List Env} {s s1:Shared} {H:Hp} {E:XK} {us:List Value} {vs:List V}
  (S:aC N ps scope) (hd:A.handled=none) (e0:xF P w K mg base A outer s H) (hl:vs.length=ps.length) (r:Vals vs us)
  (x:InCallC s s.heap.objs.size (bindL (envOfC qual scope s.heap.objs.size f cd).kindOf (ps.zip us) λ_=>none) (cellsFrom (s.heap.objs.size+1) scope.names []) (bindC (envOfC qual scope s.heap.objs.size f cd).kindOf (ps.zip us) λ_=>none) s1) :
  Inv (lU CX P w K mg base N qual scope f cd A outer s H E) [] (start N vs) H s1:=by
 have hpl:ps.length<=N.length:=by have:=congrArg List.length S.pre;rw [List.length_take] at this;omega
 obtain⟨h1,tk,rfl,hk⟩:=x.done
 have noA:∀ b:Addr,b∉(lU CX P w K mg base N qual scope f cd A outer s H E).ex:=λb z=>absurd (show b∈([]:List Addr) from z) (by simp)
 refine⟨⟨e0.mod,S.kind,rfl,rfl,Nat.le_refl _,λy z c h1 h2=>?_,λy hy=>?_,λy c _ h=>?_,λ_=>hd,Around.frames_deeper e0.frames,.inr ⟨rfl,rfl⟩,λb z=>absurd z (noA b),e0.bs,e0.bsz,λb _ _=>noA b,λb z=>absurd z (noA b),e0.kN,e0.frf⟩,
  rfl,e0.bare,Un.kept hk,⟨_,x.toInCall.ns,λi y v h1 h2 h3=>?_⟩,λy c h=>⟨_,x.cell y c h⟩,e0.hok.fresh (Nat.le_refl _),λy c h=>?_,λp hp=>absurd (show p∈([]:List (Addr × Obj)) from hp) (by simp),e0.hok.kept hk,?_⟩
 ·exact name_of_addr x.apart (PySem.mem_of_lookup h1) (PySem.mem_of_lookup h2)
 ·have hy:scope.names.lookup y=some .cell∨scope.names.lookup y=some .free:=hy
  rcases hy with hy | hy
  ·exact oE hy
  ·exact absurd rfl (S.nofree _ (PySem.mem_of_lookup hy))
 ·exact Nat.le_of_lt (x.above y c (PySem.mem_of_lookup h))
 ·have hi:i<vs.length:=by
   unfold start at h2
   by_cases hi:i<vs.length
   ·exact hi
   ·rw [List.getElem?_append_right (by simpa using hi)] at h2
    rw [List.getElem?_replicate] at h2
    split at h2<;>cases h2
  have ha:vs[i]?=some v:=by
   unfold start at h2
   rw [List.getElem?_append_left (by simpa using hi),List.getElem?_map] at h2
   cases e:vs[i]? with
   | none=>rw [e] at h2;cases h2
   | some a=>rw [e] at h2;cases h2;rfl
  obtain⟨u,hu,rv⟩:=r.get ha
  have hp:ps[i]?=some y:=by
   rw [<- S.pre,List.getElem?_take_of_lt (by omega)];exact h1
  have ndP:ps.Nodup:=by rw [<- S.pre];exact S.nd.sublist (List.take_sublist _ _)
  refine⟨u,rv,?_⟩
  rcases S.par y (List.mem_of_getElem? hp) with k | k
  ·exact .inl ⟨k,mq ndP hp hu k⟩
  ·obtain⟨c,e⟩:=oE (n:=s.heap.objs.size+1) k
   refine .inr ⟨.inl k,c,e,?_⟩
   have q:=x.cell y c e
   rw [mi ndP hp hu (by show scope.names.lookup y≠_;rw [k];decide)] at q
   exact q
 ·exact e0.hok.fresh (Nat.le_of_lt (x.above y c (PySem.mem_of_lookup h)))
 ·unfold start
  show _=N.length
  rw [List.length_append,List.length_map,List.length_replicate]
  omega
theorem BY {CX:kA} {P:Program} {w:World} {K:PySem.W.Frag} {mg:Str->Option Value} {base:Heap} {k:Nat} {f:Addr} {name qual:Str} {params:Arguments} {body:List Stmt} {scope:Scope} {dV kV doc pm cdv ct oc:Value} {an od:Option Addr}
  {osl:Array (Option Value)} {N ps:List Str} {sp:Sp} (lk:K.lookup f=some ⟨oc,od,.func (PySem.W.fnOf name qual params body scope dV kV doc pm an cdv ct),osl⟩) (hcd:PySem.W.codeIn K cdv qual=true) (S:aC N ps scope)
  (len:∀ vs H Q E,sp vs H Q E->vs.length=ps.length)
  (hbody:∀(A:Around) (outer:List Env) (s:Shared) (H:Hp) (vs:List V) (Q:VK) (E:XK),dN k (A.deeper (envOfC qual scope s.heap.objs.size f cdv))->sp vs H Q E ->
   ∃ t,oo (lU CX P w K mg base N qual scope f cdv A outer s H E) body t/\t { nx:=λ_ H'=>Q .bY H',rt:=Q } (start N vs) H) :
  eE P w K mg base CX (k+1) f (PySem.W.fnOf name qual params body scope dV kV doc pm an cdv ct) ps sp:=by
 refine⟨len,λA outer s H args us vs Q E hr e0 hb r hsp=>?_⟩
 have hl:=len _ _ _ _ hsp
 have KX:K.In s.heap:=e0.mod.kin.keeps λb o e=>(e0.bs b o e).1
 have lim:s.heap.NoLimit:=e0.mod.nolimit.keeps λb o e=>(e0.bs b o e).1
 have hkind:∀ y∈ps.zip us,scope.names.lookup y.1=some .local∨(scope.names.lookup y.1=some .cell/\((cellsFrom (s.heap.objs.size+1) scope.names []).lookup y.1).isSome=true):=fun⟨n,v⟩ hy=>by
  rcases S.par n (List.of_mem_zip hy).1 with q | q
  ·exact .inl q
  ·exact .inr ⟨q,PySem.W.cellsFrom_some _ _ _ (.inl q)⟩
 refine codeAny_call_function hr.depth (KX _ _ lk) rfl S.co S.gen rfl (PySem.W.codeRec_of KX hcd) (hb _ _ _ _ ?_)
 refine wpAny_newFunctionEnv_cells S.kind hkind λenv he s1 x=>?_
 subst he
 refine⟨lim.keeps x.toInCall.keep,codeAny_func ?_⟩
 obtain⟨t,ht,hq⟩:=hbody A outer s H vs Q E (hr.deeper _) hsp
 have I:Inv (lU CX P w K mg base N qual scope f cdv A outer s H E) [] (start N vs) H s1:=tK S hr.hd e0 hl r x
 refine wpAny_mono (ht [] s1 (start N vs) H _ I hq) (λfl s' hs=>?_) λe s' hs=>hs
 have fin:∀{σ':St} {H':Hp} {v:V} {u:Value},Inv (lU CX P w K mg base N qual scope f cdv A outer s H E) [] σ' H' s'->RelV v u->Q v H'->CE outer P w H s Q u s' :=
  λ{σ' H' v u} J rv q=>⟨v,H',J.os,J.bare,J.base,J.hok,rv,q⟩
 cases fl with
 | ret u =>
  obtain⟨v,σ',H',J,rv,q⟩:=hs
  exact fin J rv q
 | next =>
  obtain⟨σ',H',J,q⟩:=hs
  exact fin (v:=V.bY) (u:=Value.none) J rfl q
 | brk =>
  obtain⟨_,_,_,q⟩:=hs
  exact False.elim q
 | cont =>
  obtain⟨_,_,_,q⟩:=hs
  exact False.elim q
section
variable {X:Cx} {x:Str} {p pos:Pos} {e:Expr} {es:List Expr} {t:TA} {id T:String} {r:List V->Hp->VK->Prop}
def DX (r:List V->Hp->VK->Prop) (t:TA):TE:=λσ H Q=>t σ H λvs H1=>r vs H1 Q
theorem av (hc:dG X (.builtin id) r) (hg:Gl X x) (hm:X.mg x=none) (hv:bootBuiltins x=some (.builtin id)) (ha:PA X (e::es) t) (hn:x ≠ "__name__":=by decide) (hdb:(x==("__debug__":Str))=false:=by decide)
  (he:starEach (e::es) X.env=(false,eval e X.env)::starEach es X.env:=by rfl) (hpl:(backTo pos (starEach es X.env)).any (·.1)=false:=by rfl):PE X (.Call (.Name x p) (e::es) [] pos) (DX r t):=by
 intro pins s σ H Q I h
 refine wpAny_Call_Name_kw (fQ I hg hm hv ?_ hn hdb)
 exact PyProof.Rows.callWith_builtin1 (bS (ha pos pins s σ H _ I h) λus s1 ⟨vs,H1,I1,r1,q1⟩=>hc pins s1 σ H1 vs us Q I1 r1 q1) he hpl
theorem bp (hc:dG X (.type T) r) (hg:Gl X x) (hm:X.mg x=none) (hv:bootBuiltins x=some (.type T)) (ha:PA X (e::es) t) (hn:x ≠ "__name__":=by decide) (hdb:(x==("__debug__":Str))=false:=by decide)
  (he:starEach (e::es) X.env=(false,eval e X.env)::starEach es X.env:=by rfl) (hpl:(backTo pos (starEach es X.env)).any (·.1)=false:=by rfl):PE X (.Call (.Name x p) (e::es) [] pos) (DX r t):=by
 intro pins s σ H Q I h
 refine wpAny_Call_Name_kw (fQ I hg hm hv ?_ hn hdb)
 exact PyProof.Rows.callWith_type1 (bS (ha pos pins s σ H _ I h) λus s1 ⟨vs,H1,I1,r1,q1⟩=>hc pins s1 σ H1 vs us Q I1 r1 q1) he hpl
end
end L2
namespace HT
open PySem PyProof.Rows
section
open PySem.SeqAt
open PySem.AutoSeq1 (wpAny_loadPart')
open PySem.MeetsSeq PySem.MeetsSeq2 PySem.MeetsSeq3
end
section
variable {prog:Program} {w:World} {A:Around} {E:Value->Shared->Prop} {s:Shared}
theorem xU {t b:Addr} {vs ws:List Value} {Q:Value->Shared->Prop} (ht:IsTup s.heap t vs.toArray) (hb:IsTup s.heap b ws.toArray) (hv:vs≠[])
  (h1:ws=[]->Q (.ref t) s) (h2:ws≠[]->Q (.ref s.heap.objs.size) { s with heap:=s.heap.push { cls:=.type "tuple",data:=.seq (vs++ws).toArray } })
  (hsz:vs.length+ws.length<=sizeLine):wpAny (model prog w) A (binaryOp .Add (.ref t) (.ref b)) Q E s:=by
 obtain⟨⟨cls,dd,data,sl⟩,ho,hc,n,hd⟩:=id ht
 obtain⟨⟨cls2,dd2,data2,sl2⟩,ho2,hc2,n2,hd2⟩:=id hb
 simp only at hc hd hc2 hd2
 subst hc hd hc2 hd2
 have e:vs.toArray++ws.toArray=(vs++ws).toArray:=by simp
 by_cases hw:ws=[]
 ·exact concat_meets ⟨_,ho,rfl⟩ ⟨_,ho2,rfl⟩ noFill_tuple_add seq_tuple_add PySem.F.slot_tuple_add PySem.F.entry_tuple_add (PySem.F.args_tuple_add_2 _ _)
   (tuple_addW1 t b vs.toArray ws.toArray n n2 dd dd2 sl sl2 (by simpa using hv) (by simp [hw])) ⟨ho,ho2,h1 hw⟩
 ·refine concat_meets ⟨_,ho,rfl⟩ ⟨_,ho2,rfl⟩ noFill_tuple_add seq_tuple_add PySem.F.slot_tuple_add PySem.F.entry_tuple_add (PySem.F.args_tuple_add_2 _ _)
   (tuple_addW2 t b vs.toArray ws.toArray n n2 dd dd2 sl sl2 (by simpa using hv) (by simpa using hw) (by rw [List.size_toArray,List.size_toArray];exact hsz)) ⟨ho,ho2,?_⟩
  rw [e]
  exact h2 hw
def cP (n d:Nat):Option Int->Nat
 | none=>d
 | some v=>if v<0 then (v+(n:Int)).toNat else min v.toNat n
theorem Be (n d:Nat) (hd:d<=n) (o:Option Int):cP n d o<=n:=by
 cases o with
 | none=>exact hd
 | some v =>
  show (if v<0 then (v+(n:Int)).toNat else min v.toNat n)<=n
  by_cases hv:v<0
  ·rw [if_pos hv];omega
  ·rw [if_neg hv];exact Nat.min_le_right _ _
theorem rA (v:Int) (n d:Nat):(if v<0 then max (v+(n:Int)) 0 else min v (n:Int))=((cP n d (some v):Nat):Int):=by
 show (if v<0 then max (v+(n:Int)) 0 else min v (n:Int))=(((if v<0 then (v+(n:Int)).toNat else min v.toNat n):Nat):Int)
 by_cases hv:v<0
 ·simp only [if_pos hv];omega
 ·simp only [if_neg hv];omega
theorem qj (lo hi:Option Int) (n:Nat):Builtin.Slice.sliceAdjust lo hi 1 (n:Int)=(((cP n 0 lo:Nat):Int),((cP n n hi:Nat):Int)):=by
 have h1:¬((1:Int)<0):=by omega
 unfold Builtin.Slice.sliceAdjust
 simp only [h1,if_false]
 refine Prod.ext ?_ ?_
 ·cases lo with
  | none=>rfl
  | some v=>exact rA v n 0
 ·cases hi with
  | none=>rfl
  | some v=>exact rA v n n
theorem qR (i j:Nat):Builtin.Slice.slicePlaces (i:Int) (j:Int) 1=j-i:=by
 unfold Builtin.Slice.slicePlaces
 have h1:(1:Int) > 0:=by omega
 simp only [h1,if_true,Int.ediv_one]
 split<;>omega
theorem iq {v:Value} {o:Option Int} {Q:Option Int->Shared->Prop} (p:IsPart v o) (h:Q o s):wpAny (model prog w) A (Builtin.Slice.slicePartIndex v) Q E s:=by
 cases p with
 | none=>exact slicePart_none h
 | int i t=>exact slicePart_int h
theorem ff {sl:Addr} {vl vu:Value} {lo hi:Option Int} {n:Nat} {Q:Int × Int × Nat->Shared->Prop} (hs:s.heap.IsSliceOf sl vl vu .none) (pl:IsPart vl lo) (pu:IsPart vu hi)
  (h:Q (((cP n 0 lo:Nat):Int),1,cP n n hi-cP n 0 lo) s):wpAny (model prog w) A (Builtin.Slice.sliceApplied (.ref sl) (pure (n:Int))) Q E s:=by
 obtain⟨os,hos,hcs,hds⟩:=id hs
 unfold Builtin.Slice.sliceApplied Builtin.Slice.sliceFields
 refine wpAny_bind (wpAny_bind (wpAny_field hos hds (x:=vl) rfl (wpAny_bind (wpAny_field hos hds (x:=vu) rfl (wpAny_bind (wpAny_field hos hds (x:=.none) rfl (wpAny_pure ?_)))))))
 refine wpAny_bind (slicePart_none ?_)
 show wpAny _ _ (if ((1:Int)==0)=true then _ else _) _ _ s
 rw [if_neg (by decide)]
 refine wpAny_bind (iq pl (wpAny_bind (iq pu (wpAny_bind (wpAny_pure ?_)))))
 show wpAny _ _ (match Builtin.Slice.sliceAdjust lo hi 1 (n:Int) with | (lo,hi)=>pure (lo,(1:Int),Builtin.Slice.slicePlaces lo hi 1)) _ _ s
 rw [qj lo hi n]
 show wpAny _ _ (pure (((cP n 0 lo:Nat):Int),(1:Int),Builtin.Slice.slicePlaces ((cP n 0 lo:Nat):Int) ((cP n n hi:Nat):Int) 1)) _ _ s
 rw [qR]
 exact wpAny_pure h
theorem wA (xs:Array Value) (i k:Nat):((List.range k).filterMap fun(m:Nat)=>xs[((i:Int)+(m:Int)*1).toNat]?).toArray=((xs.toList.drop i).take k).toArray:=by
 have e:(fun(m:Nat)=>xs[((i:Int)+(m:Int)*1).toNat]?)=λm=>xs[i+m]?:=by
  funext m
  have:((i:Int)+(m:Int)*1).toNat=i+m:=by omega
  rw [this]
 rw [e]
 have:=pick_run xs i k
 rw [List.filterMap_map] at this
 have e2:((λx=>xs[x]?)∘λx=>i+x)=λm=>xs[i+m]?:=rfl
 rw [e2] at this
 rw [this]
theorem iE {t sl:Addr} {items:Array Value} {vl vu:Value} {lo hi:Option Int} {Q:Value->Shared->Prop} (ht:IsTup s.heap t items) (hs:s.heap.IsSliceOf sl vl vu .none) (pl:IsPart vl lo) (pu:IsPart vu hi)
  (hw:¬(cP items.size 0 lo=0/\cP items.size items.size hi=items.size))
  (h:Q (.ref s.heap.objs.size) { s with heap:=s.heap.push { cls:=.type "tuple",data:=.seq ((items.toList.drop (cP items.size 0 lo)).take (cP items.size items.size hi-cP items.size 0 lo)).toArray } })
  (hsz:items.size<=sizeLine):wpAny (model prog w) A (getItem (.ref t) (.ref sl)) Q E s:=by
 have htake:sizeOk (.seq ((items.toList.drop (cP items.size 0 lo)).take (cP items.size items.size hi-cP items.size 0 lo)).toArray):=by
  show ((items.toList.drop (cP items.size 0 lo)).take (cP items.size items.size hi-cP items.size 0 lo)).toArray.size<=sizeLine
  rw [List.size_toArray,List.length_take,List.length_drop,Array.length_toList]
  exact Nat.le_trans (Nat.min_le_right _ _) (Nat.le_trans (Nat.sub_le _ _) hsz)
 have hj:cP items.size items.size hi<=items.size:=Be _ _ (Nat.le_refl _) hi
 obtain⟨os,hos,hcs,hds⟩:=id hs
 have hTs:s.TypeIs (.ref sl) "slice":=⟨os,hos,hcs⟩
 unfold getItem
 try with_reducible refine wpAny_holding ?_
 first | refine wpAny_bind (wpAny_pure ?_) | skip
 refine wpAny_bind (wpAny_sequenceKey ht.typeIs (by decide) ?_)
 refine wpAny_bind (wpAny_callSpecial?_slot (name:=Str.ofString "__getitem__") ht.typeIs PyProof.Rows.slot_tuple_getitem
  (wpAny_call_entry PyProof.Rows.slot_tuple_getitem ht.typeIs entry_tuple_getitem ?_ (args_tuple_getitem _ _)))
 show wpAny _ _ (Builtin.Tuple.tupleItemsOf (.ref t) >>= _) _ _ s
 refine wpAny_bind (tupleItemsOf_ ht ?_)
 refine wpAny_bind (wpAny_typeOf hTs ?_)
 rw [if_pos (by decide)]
 refine wpAny_bind (ff hs pl pu ?_)
 have hno:¬((((cP items.size 0 lo:Nat):Int)==0 && (1:Int)==1 && (cP items.size items.size hi-cP items.size 0 lo)==items.size)=true):=by
  intro q
  rw [Bool.and_eq_true,Bool.and_eq_true] at q
  have q1:((cP items.size 0 lo:Nat):Int)=0:=eq_of_beq q.1.1
  have q2:cP items.size items.size hi-cP items.size 0 lo=items.size:=eq_of_beq q.2
  exact hw ⟨by omega,by omega⟩
 show wpAny _ _ (if (((cP items.size 0 lo:Nat):Int)==0 && (1:Int)==1 && (cP items.size items.size hi-cP items.size 0 lo)==items.size)=true then _ else _) _ _ s
 rw [if_neg hno,wA]
 first
  | exact wpAny_bind (m:=Builtin.Tuple.tupleExact _) (wpAny_newObj_type (wpAny_pure ⟨_,rfl,wpAny_pure h⟩) htake)
  | exact wpAny_bind (m:=Builtin.Tuple.tupleExact _) (wpAny_newObj_type (wpAny_bind (wpAny_pure (wpAny_pure ⟨_,rfl,wpAny_pure h⟩))) htake)
  | exact wpAny_bind (wpAny_bind (m:=Builtin.Tuple.tupleExact _) (wpAny_newObj_type (wpAny_pure (wpAny_pure ⟨_,rfl,wpAny_pure h⟩)) htake))
  | exact wpAny_bind (wpAny_bind (m:=Builtin.Tuple.tupleExact _) (wpAny_newObj_type (wpAny_pure ⟨_,rfl,wpAny_pure h⟩) htake))
end
end HT
namespace L2
open PySem PySem.Spec PyProof.Rows
abbrev TO:=St->Hp->(Option Int->Hp->Prop)->Prop
def PO (X:Cx) (e:Option Expr) (t:TO):Prop :=
 ∀(pins:List (Addr × Obj)) (s:Shared) (σ:St) (H:Hp) (Q:Option Int->Hp->Prop),Inv X pins σ H s->t σ H Q ->
  wpAny (model X.prog X.w) X.A (evalPart e X.env) (λu s'=>∃ o H',Inv X pins σ H' s'/\IsPart u o/\Q o H') X.xe s
def sU:TO:=λ_ H Q=>Q none H
def z8 (t:TE):TO:=λσ H Q=>t σ H λx H1=>∃ i,x=.int i/\Q (some i) H1
theorem intsAre_of {ns:List Int}:∀{us:List Value},Vals (ns.map V.int) us->IntsAre us ns:=by
 induction ns with
 | nil=>intro us r;rw [List.map_nil] at r;cases r;exact .nil
 | cons n ns ih =>
  intro us r
  rw [List.map_cons] at r
  cases r with
  | cons r1 r2 =>
   obtain⟨t,e⟩:=r1
   subst e
   exact .cons n t (ih r2)
section
variable {X:Cx} {e:Expr} {te:TE} {lo hi:Option Expr} {tl th:TO} {pos p2:Pos}
theorem aW:PO X none sU:=by
 intro pins s σ H Q I h
 rw [evalPart_none]
 exact wpAny_pure ⟨none,H,I,.none,h⟩
theorem aN (h:PE X e te):PO X (some e) (z8 te):=by
 intro pins s σ H Q I hw
 rw [evalPart_some]
 refine bS (h pins s σ H _ I hw) λu s1 ⟨x,H1,I1,r1,q1⟩=>?_
 obtain⟨i,rfl,q⟩:=q1
 obtain⟨t,rfl⟩:=r1
 exact⟨some i,H1,I1,.int i t,q⟩
def C7 (X:Cx) (r:V->Option Int->Option Int->Hp->VK->Prop):Prop :=
 ∀(pins:List (Addr × Obj)) (s:Shared) (σ:St) (H:Hp) (x:V) (v vl vu:Value) (lo hi:Option Int) (sl:Addr) (Q:VK),Inv X pins σ H s->RelV x v->s.heap.IsSliceOf sl vl vu .none->IsPart vl lo->IsPart vu hi->r x lo hi H Q ->
  ∃ T id,typeLookup (.type T) "__getitem__"=pure (some (.builtin id))/\s.TypeIs v T/\wpAny (model X.prog X.w) X.A (getItem v (.ref sl)) (EP X pins σ Q) X.xe s
def Ew (r:V->Option Int->Option Int->Hp->VK->Prop) (te:TE) (tl th:TO):TE:=λσ H Q=>te σ H λx H1=>tl σ H1 λl H2=>th σ H2 λu H3=>r x l u H3 Q
theorem aK {r:V->Option Int->Option Int->Hp->VK->Prop} (hr:C7 X r) (he:PE X e te) (hl:PO X lo tl) (hu:PO X hi th):PE X (.Subscript e (.Slice lo hi none p2) pos) (Ew r te tl th):=by
 intro pins s σ H Q I h
 refine Subscript_ (bS (he pins s σ H _ I h) λv s1 ⟨x,H1,I1,r1,q1⟩=>?_)
 refine wpAny_Slice (bS (hl pins s1 σ H1 _ I1 q1) λvl s2 ⟨l,H2,I2,pl,q2⟩=>bS (hu pins s2 σ H2 _ I2 q2) λvu s3 ⟨u,H3,I3,pu,q3⟩=>?_)
 rw [evalPart_none]
 refine wpAny_pure ?_
 have I4:Inv X pins σ H3 { s3 with heap:=s3.heap.push { cls:=.type "slice",data:=.fields #[vl,vu,.none] } }:=I3.kept (t':=s3.toks) λb ob q=>Heap.get?_push_of_some _ q
 obtain⟨T,id,hT,ht,hg⟩:=hr pins { s3 with heap:=s3.heap.push { cls:=.type "slice",data:=.fields #[vl,vu,.none] } } σ H3 x v vl vu l u s3.heap.objs.size Q I4 r1 (Heap.IsSliceOf.new ..) pl pu q3
 show wpAny (model X.prog X.w) X.A (subscriptTail e (.Slice lo hi none p2) v (.ref s3.heap.objs.size)) (EP X pins σ Q) X.xe { s3 with heap:=s3.heap.push { cls:=.type "slice",data:=.fields #[vl,vu,.none] } }
 exact tail_any (ops:=[.ref s3.heap.objs.size,v]) ht hT hg (by with_unfolding_all rfl)
def cz (xs:List V) (lo hi:Option Int):List V:=(xs.drop (HT.cP xs.length 0 lo)).take (HT.cP xs.length xs.length hi-HT.cP xs.length 0 lo)
theorem eG (xs:List V) (lo hi:Option Int):(cz xs lo hi).length<=xs.length:=by
 unfold cz
 rw [List.length_take,List.length_drop]
 omega
def DV (K:PySem.W.Frag):V->Option Int->Option Int->Hp->VK->Prop:=λx lo hi H Q=>∃ a xs,x=.ref a/\aY K H a xs /\
 ¬(HT.cP xs.length 0 lo=0/\HT.cP xs.length xs.length hi=xs.length)/\∀ p,H p=none->Q (.ref p) (upd H p (.tup (cz xs lo hi)))
theorem wU:C7 X (DV X.K):=by
 intro pins s σ H x v vl vu lo hi sl Q I rx hs pl pu h
 obtain⟨a,xs,rfl,hx,hw,q⟩:=h
 cases rx
 obtain⟨its,r,ht,hz⟩:=I.tuple hx
 have hlen:its.toArray.size=xs.length:=by rw [List.size_toArray];exact r.length.symm
 refine⟨"tuple",_,PyProof.Rows.slot_tuple_getitem.lookup,ht.typeIs,?_⟩
 refine HT.iE ht hs pl pu (by rw [hlen];exact hw) ?_ (by rw [hlen];exact hz)
 rw [hlen]
 refine⟨.ref s.heap.objs.size,_,I.laid (t':=s.toks) (o:=.tup (cz xs lo hi)) (λb ob q=>Heap.get?_push_of_some _ q) (Nat.le_refl _) ?_,rfl,q _ (I.hok.fresh (Nat.le_refl _))⟩
 exact⟨Nat.le_trans (eG xs lo hi) hz,_,(r.drop (HT.cP xs.length 0 lo)).take (HT.cP xs.length xs.length hi-HT.cP xs.length 0 lo),IsTup.new _ _⟩
def Cs (K:PySem.W.Frag):R2:=λx y H Q=>∃ a b xs ys,x=.ref a/\y=.ref b/\aY K H a xs/\aY K H b ys/\xs≠[]/\xs.length+ys.length<=sizeLine /\
 (ys=[]->Q (.ref a) H)/\(ys≠[]->∀ p,H p=none->Q (.ref p) (upd H p (.tup (xs++ys))))
theorem Vals.ko {xs:List V} {us:List Value} (r:Vals xs us):us=[]↔xs=[]:=by
 cases r with
 | nil=>simp
 | cons _ _=>simp
theorem yA:fE X (binaryOp .Add) (Cs X.K):=by
 intro pins s σ H x y v u Q I rx ry h
 obtain⟨a,b,xs,ys,rfl,rfl,ha,hb,hx,hz,q1,q2⟩:=h
 cases rx
 cases ry
 obtain⟨its,r1,p1,_⟩:=I.tuple ha
 obtain⟨its2,r2,p2,_⟩:=I.tuple hb
 refine HT.xU p1 p2 (λz=>hx (r1.ko.mp z)) (λz=>⟨.ref a,H,I,rfl,q1 (r2.ko.mp z)⟩) (λz=>?_) (by rw [<- r1.length,<- r2.length];exact hz)
 refine⟨.ref s.heap.objs.size,_,I.laid (t':=s.toks) (o:=.tup (xs++ys)) (λb ob q=>Heap.get?_push_of_some _ q) (Nat.le_refl _) ?_,rfl,q2 (λw=>z (r2.ko.mpr w)) _ (I.hok.fresh (Nat.le_refl _))⟩
 exact⟨by rw [List.length_append];exact hz,_,r1.append r2,IsTup.new _ _⟩
end
def qC (n:Nat) (i:Int):Option Nat:=if 0<=i then (if i<n then some i.toNat else none) else if -(n:Int)<=i then some (i+n).toNat else none
def qp {α:Type} (xs:List α) (i:Int):Option α:=(qC xs.length i).bind λj=>xs[j]?
theorem rP {n:Nat} {i:Int} {j:Nat} (h:qC n i=some j):seqIndex? i n=some j/\j<n /\ -(n:Int)<=i/\i<n:=by
 unfold qC at h
 by_cases h0:0<=i
 ·rw [if_pos h0] at h
  by_cases h1:i<n
  ·rw [if_pos h1] at h
   have e:i.toNat=j:=Option.some.inj h
   exact⟨by rw [seqIndex_of h0 h1,e],by omega,by omega,h1⟩
  ·rw [if_neg h1] at h;cases h
 ·rw [if_neg h0] at h
  by_cases h1:-(n:Int)<=i
  ·rw [if_pos h1] at h
   have e:(i+n).toNat=j:=Option.some.inj h
   exact⟨by rw [seqIndex_neg (by omega) h1,e],by omega,h1,by omega⟩
  ·rw [if_neg h1] at h;cases h
theorem rq {α:Type} {xs:List α} {i:Int} {v:α} (h:qp xs i=some v):∃ j,seqIndex? i xs.length=some j/\xs[j]?=some v/\j<xs.length /\ -(xs.length:Int)<=i/\i<xs.length:=by
 unfold qp at h
 cases e:qC xs.length i with
 | none=>rw [e] at h;cases h
 | some j =>
  rw [e] at h
  obtain⟨h1,h2,h3,h4⟩:=rP e
  exact⟨j,h1,h,h2,h3,h4⟩
theorem bF {α:Type} {xs:List α} {j:Nat} {v:α} (h:xs[j]?=some v):qp xs (j:Int)=some v:=by
 have hj:j<xs.length:=(List.getElem?_eq_some_iff.mp h).1
 have e:qC xs.length (j:Int)=some j:=by
  unfold qC
  rw [if_pos (by omega),if_pos (by omega)];simp
 unfold qp;rw [e];exact h
theorem uN {α:Type} (xs:List α) (v:α):qp (xs++[v]) (-1)=some v:=by
 have hl:(xs++[v]).length=xs.length+1:=by simp
 have e:qC (xs++[v]).length (-1)=some xs.length:=by
  unfold qC
  rw [hl,if_neg (by decide),if_pos (by omega)]
  congr 1
  omega
 unfold qp
 rw [e]
 show (xs++[v])[xs.length]?=some v
 simp
def xM (b:Expr):Prop:=∀ o i,subscripted b false o i=operate [o,i] (getItem o i)
def BC (X:Cx) (r:R2):Prop :=
 ∀(value slice:Expr) (pins:List (Addr × Obj)) (s:Shared) (σ:St) (H:Hp) (x y:V) (v u:Value) (Q:VK),Inv X pins σ H s->RelV x v->RelV y u->r x y H Q ->
  subscripted slice false v u=operate [v,u] (getItem v u)->wpAny (model X.prog X.w) X.A (subscriptTail value slice v u) (EP X pins σ Q) X.xe s
def Dt (X:Cx) (id:String) (r:V->List V->Hp->VK->Prop):Prop :=
 ∀(pins:List (Addr × Obj)) (s:Shared) (σ:St) (H:Hp) (x:V) (xs:List V) (v:Value) (us:List Value) (Q:VK),Inv X pins σ H s->RelV x v->Vals xs us->r x xs H Q ->
  wpAny (model X.prog X.w) X.A (call (.builtin id) (v::us)) (EP X pins σ Q) X.xe s
section
variable {X:Cx} {a b:Expr} {ta tb:TE} {pos:Pos}
theorem aB {r:R2} (hr:BC X r) (ha:PE X a ta) (hb:PE X b tb) (hs:xM b):PE X (.Subscript a b pos) (CQ r ta tb):=by
 intro pins s σ H Q I h
 exact Subscript_ (Aj ha hb I h λv u s2 x y H2 I2 rx ry q=>hr a b pins s2 σ H2 x y v u Q I2 rx ry q (hs _ _))
def qT (K:PySem.W.Frag):R2:=λx y H Q=>∃ p xs i v,x=.ref p/\y=.int i/\aS K H p xs/\qp xs i=some v/\Q v H
def wL (K:PySem.W.Frag):R2:=λx y H Q=>∃ p xs i v,x=.ref p/\y=.int i/\aY K H p xs/\qp xs i=some v/\Q v H
theorem aP:BC X (qT X.K):=by
 intro value slice pins s σ H x y v u Q I rx ry h hs
 obtain⟨p,xs,i,z,rfl,rfl,hq,he,q⟩:=h
 cases rx
 obtain⟨t,rfl⟩:=ry
 obtain⟨its,r,pl,hz⟩:=I.list hq
 obtain⟨j,h1,h2,h3,h4,h5⟩:=rq he
 obtain⟨w,ew,rw'⟩:=r.get h2
 have hl:=r.length
 have hn:=kU
 have fin:EP X pins σ Q w s:=⟨z,H,I,rw',q⟩
 by_cases h0:0<=i
 ·have hj:i.toNat=j:=by
   rw [seqIndex_of h0 h5] at h1
   exact Option.some.inj h1
  exact item_listR pl.isList h0 (by omega) (by rw [hj];simpa using ew) fin hs
 ·have hj:(i+(its.toArray.size:Int)).toNat=j:=by
   rw [seqIndex_neg (by omega) h4] at h1
   rw [List.size_toArray,<- hl]
   exact Option.some.inj h1
  exact subscriptTail_builtinR (x:=w) pl.isList.typeIs slot_list_getitem.lookup
   (wpAny_getItem_list_neg (Q:=λr s'=>r=w/\EP X pins σ Q r s') pl.isList (by omega) (by rw [List.size_toArray]<;>omega) (by omega) (by rw [hj];simpa using ew) ⟨rfl,fin⟩) hs
theorem aI:BC X (wL X.K):=by
 intro value slice pins s σ H x y v u Q I rx ry h hs
 obtain⟨p,xs,i,z,rfl,rfl,hq,he,q⟩:=h
 cases rx
 obtain⟨t,rfl⟩:=ry
 obtain⟨its,r,pl,hz⟩:=I.tuple hq
 obtain⟨j,h1,h2,h3,h4,h5⟩:=rq he
 obtain⟨w,ew,rw'⟩:=r.get h2
 have hl:=r.length
 have hn:=kU
 have fin:EP X pins σ Q w s:=⟨z,H,I,rw',q⟩
 exact subscriptTail_builtinR (x:=w) pl.typeIs slot_tuple_getitem.lookup
  (getItem_tuple (j:=j) (Q:=λr s'=>r=w/\EP X pins σ Q r s') pl (by omega) (by omega) (by rw [List.size_toArray,<- hl];exact h1) (by simpa using ew) ⟨rfl,fin⟩) hs
theorem qF (its:List Value) (n j:Nat) (u:Value):Obj.mapSeq (·.setIfInBounds j u) { cls:=.type "list",data:=.seq its.toArray n }={ cls:=.type "list",data:=.seq (its.set j u).toArray n }:=by
 simp [Obj.mapSeq]
theorem Inv.lst {pins:List (Addr × Obj)} {σ:St} {H:Hp} {s:Shared} {p:Addr} {xs:List V} (I:Inv X pins σ H s) (h:H p=some (.lst xs)) :
  ∃(its:List Value) (n:Nat),Vals xs its/\s.heap.get? p=some { cls:=.type "list",data:=.seq its.toArray n }/\xs.length<=sizeLine:=by
 obtain⟨z,its,n,r,e⟩:=I.hok p _ h
 exact⟨its,n,r,e,z⟩
theorem Inv.AJ {pins:List (Addr × Obj)} {σ:St} {H:Hp} {s:Shared} {p:Addr} {xs ys:List V} {its its':List Value} {n n':Nat} {f:Obj->Obj} (I:Inv X pins σ H s) (h:H p=some (.lst xs))
  (ho:s.heap.get? p=some { cls:=.type "list",data:=.seq its.toArray n }) (hf:f { cls:=.type "list",data:=.seq its.toArray n }={ cls:=.type "list",data:=.seq its'.toArray n' }) (r:Vals ys its') (hz:ys.length<=sizeLine) (t:Nat) :
  Inv X pins σ (upd H p (.lst ys)) { s with heap:=s.heap.update p f,toks:=t }:=by
 have e:(s.heap.update p f).get? p=some { cls:=.type "list",data:=.seq its'.toArray n' }:=by
  rw [Heap.get?_update_self f ho (by rw [hf]<;>rfl),hf]
 refine I.write (x:=p) (e:=p) (by rw [h];trivial) (.inl rfl) (λb u hb q=>(Heap.get?_update_other _ _ (Ne.symm hb)).trans q) ⟨_,e⟩ ?_
 exact⟨hz,its',n',r,e⟩
def Cu:V->V->V->Hp->(Hp->Prop)->Prop:=λo i v H Q=>∃ p xs k j,o=.ref p/\i=.int k/\H p=some (.lst xs)/\qC xs.length k=some j/\Q (upd H p (.lst (xs.set j v)))
theorem set_list:BI X Cu:=by
 intro pins s σ H o i v ov iv u Q I ro ri rv h
 obtain⟨p,xs,k,j,rfl,rfl,hp,hj,q⟩:=h
 cases ro
 obtain⟨t,rfl⟩:=ri
 obtain⟨its,n,r,ho,hz⟩:=I.lst hp
 obtain⟨h1,h2,h3,h4⟩:=rP hj
 have hl:=r.length
 have hn:=kU
 have I':Inv X pins σ (upd H p (.lst (xs.set j v))) { s with heap:=s.heap.update p (Obj.mapSeq (·.setIfInBounds j u)) } :=
  I.AJ hp ho (qF its n j u) (r.set rv j) (by rw [List.length_set];exact hz) s.toks
 by_cases h0:0<=k
 ·have hk:k.toNat=j:=by
   rw [seqIndex_of h0 h4] at h1
   exact Option.some.inj h1
  exact PySem.W.ki_setAt ho h0 (by omega) (by rw [List.size_toArray,<- hl];exact h4) (by rw [hk];exact⟨_,I',q⟩)
 ·have hk:(k+(its.toArray.size:Int)).toNat=j:=by
   rw [seqIndex_neg (by omega) h3] at h1
   rw [List.size_toArray,<- hl]
   exact Option.some.inj h1
  exact PySem.W.ki_setBack ho (by omega) (by rw [List.size_toArray,<- hl];exact h3) (by omega) (by rw [hk];exact⟨_,I',q⟩)
theorem nU (lo hi:Option Int) (n:Nat):(sliceBounds lo hi none n).1=((HT.cP n 0 lo:Nat):Int)/\(sliceBounds lo hi none n).2.1=((HT.cP n n hi:Nat):Int)/\(sliceBounds lo hi none n).2.2=1:=by
 refine⟨?_,?_,rfl⟩
 ·cases lo with
  | none=>simp [sliceBounds,HT.cP]
  | some i =>
   simp only [sliceBounds,HT.cP,Option.getD_none,show (1:Int) > 0 by decide,if_true]
   by_cases h:i<0
   ·simp only [h,if_true]<;>omega
   ·simp only [h,if_false]<;>omega
 ·cases hi with
  | none=>simp [sliceBounds,HT.cP]
  | some i =>
   simp only [sliceBounds,HT.cP,Option.getD_none,show (1:Int) > 0 by decide,if_true]
   by_cases h:i<0
   ·simp only [h,if_true]<;>omega
   ·simp only [h,if_false]<;>omega
theorem lZ (its:List Value) (lo hi:Option Int):slicePick its.toArray lo hi none=((its.drop (HT.cP its.length 0 lo)).take (HT.cP its.length its.length hi-HT.cP its.length 0 lo)).toArray:=by
 obtain⟨h1,h2,h3⟩:=nU lo hi its.toArray.size
 unfold slicePick
 rw [h1,h2,h3]
 simp only [sliceRange_one,pick_run,List.size_toArray]<;>rfl
def Cv (K:PySem.W.Frag):V->Option Int->Option Int->Hp->VK->Prop:=λx lo hi H Q=>∃ a xs,x=.ref a/\aS K H a xs/\∀ p,H p=none->Q (.ref p) (upd H p (.lst (cz xs lo hi)))
theorem bI:C7 X (Cv X.K):=by
 intro pins s σ H x v vl vu lo hi sl Q I rx hs pl pu h
 obtain⟨a,xs,rfl,hx,q⟩:=h
 cases rx
 obtain⟨its,r,ht,hz⟩:=I.list hx
 have hlen:=r.length
 refine⟨"list",_,slot_list_getitem.lookup,ht.isList.typeIs,?_⟩
 refine wpAny_getItem_list_slice ht.isList hs pl pu .none (by simp) ?_ (by rw [List.size_toArray]<;>omega)
 rw [lZ,<- hlen]
 refine⟨.ref s.heap.objs.size,_,I.laid (t':=s.toks) (o:=.lst (cz xs lo hi)) (λb ob q=>Heap.get?_push_of_some _ q) (Nat.le_refl _) ?_,rfl,q _ (I.hok.fresh (Nat.le_refl _))⟩
 exact⟨Nat.le_trans (eG xs lo hi) hz,_,0,(r.drop (HT.cP xs.length 0 lo)).take (HT.cP xs.length xs.length hi-HT.cP xs.length 0 lo),Heap.get?_push_size _ rfl⟩
def fO:V->Bool
 | .bY=>true
 | .bl _=>true
 | .int _=>true
 | .str _=>true
 | _=>false
def xZ:V->V->Bool
 | .bY,.bY=>true
 | .bl a,.bl b=>a==b
 | .bl a,.int b=>(if a then 1 else 0)==b
 | .int a,.bl b=>a==(if b then 1 else 0)
 | .int a,.int b=>a==b
 | .str a,.str b=>a==b
 | _,_=>false
theorem Au {A:Around} {s:Shared} {y x:V} {u v:Value} (ry:RelV y u) (rx:RelV x v) (fy:fO y=true) (fx:fO x=true):SeqAt.EqAt A s u v (xZ y x):=by
 cases y with
 | bY =>
  cases ry
  cases x with
  | bY=>cases rx;exact SeqAt.EqAt.same _
  | bl b=>cases rx;exact SeqAt.EqAt.none_bool b
  | int b=>obtain⟨t,rfl⟩:=rx;exact SeqAt.EqAt.none_int b t
  | str b=>obtain⟨t,rfl⟩:=rx;exact SeqAt.EqAt.none_str b t
  | _=>exact absurd (show false=true from fx) Bool.false_ne_true
 | bl a =>
  cases ry
  cases x with
  | bY=>cases rx;exact SeqAt.EqAt.bool_none a
  | bl b=>cases rx;exact SeqAt.EqAt.bool_bool a b
  | int b=>obtain⟨t,rfl⟩:=rx;exact SeqAt.EqAt.bool_int a b t
  | str b=>obtain⟨t,rfl⟩:=rx;exact SeqAt.EqAt.bool_str a b t
  | _=>exact absurd (show false=true from fx) Bool.false_ne_true
 | int a =>
  obtain⟨t',rfl⟩:=ry
  cases x with
  | bY=>cases rx;exact SeqAt.EqAt.int_none a t'
  | bl b=>cases rx;exact SeqAt.EqAt.int_bool a t' b
  | int b=>obtain⟨t,rfl⟩:=rx;exact SeqAt.EqAt.int_int a t' b t
  | str b=>obtain⟨t,rfl⟩:=rx;exact SeqAt.EqAt.int_str a t' b t
  | _=>exact absurd (show false=true from fx) Bool.false_ne_true
 | str a =>
  obtain⟨t',rfl⟩:=ry
  cases x with
  | bY=>cases rx;exact SeqAt.EqAt.str_none a t'
  | bl b=>cases rx;exact SeqAt.EqAt.str_bool a t' b
  | int b=>obtain⟨t,rfl⟩:=rx;exact SeqAt.EqAt.str_int a t' b t
  | str b=>obtain⟨t,rfl⟩:=rx;exact SeqAt.EqAt.str_str a t' b t
  | _=>exact absurd (show false=true from fx) Bool.false_ne_true
 | _=>exact absurd (show false=true from fy) Bool.false_ne_true
def xY (x:V) (u:Value):Bool:=match u with
 | .none=>xZ .bY x
 | .bool b=>xZ (.bl b) x
 | .int i _=>xZ (.int i) x
 | .str z _=>xZ (.str z) x
 | _=>false
theorem ve {x y:V} {u:Value} (r:RelV y u) (f:fO y=true):xY x u=xZ y x:=by
 cases y with
 | bY=>cases r;rfl
 | bl b=>cases r;rfl
 | int i=>obtain⟨t,rfl⟩:=r;rfl
 | str z=>obtain⟨t,rfl⟩:=r;rfl
 | _=>exact absurd (show false=true from f) Bool.false_ne_true
theorem mX {x:V}:∀{xs:List V} {us:List Value},Vals xs us->xs.all fO=true->us.any (xY x)=xs.any λy=>xZ y x
 | _,_,.nil,_=>rfl
 | y::xs,u::us,.cons r t,f=>by
  rw [List.all_cons,Bool.and_eq_true] at f
  rw [List.any_cons,List.any_cons,ve r f.1,mX t f.2]
theorem kW {A:Around} {s:Shared} {x:V} {v:Value} (rx:RelV x v) (fx:fO x=true):∀{xs:List V} {us:List Value},Vals xs us->xs.all fO=true->∀ u∈us,SeqAt.EqAt A s u v (xY x u)
 | _,_,.nil,_=>λu hu=>by cases hu
 | y::xs,u::us,.cons r t,f=>λu' hu=>by
  rw [List.all_cons,Bool.and_eq_true] at f
  rcases List.mem_cons.mp hu with rfl | hu
  ·rw [ve r f.1];exact Au r rx f.1 fx
  ·exact kW rx fx t f.2 u' hu
def C8 (x:V) (xs:List V):Bool:=xs.any λy=>xZ y x
def Eo (K:PySem.W.Frag) (neg:Bool):R2:=λx y H Q=>∃ p xs,y=.ref p/\(aS K H p xs∨aY K H p xs)/\fO x=true/\xs.all fO=true/\Q (.bl (if neg then !C8 x xs else C8 x xs)) H
theorem nJ:fE X (compareOp .NotIn) (Eo X.K true):=by
 intro pins s σ H x y v u Q I rx ry h
 obtain⟨p,xs,rfl,hq,fx,fs,q⟩:=h
 cases ry
 rcases hq with hq | hq
 ·obtain⟨its,r,pl,hz⟩:=I.list hq
  refine SeqAt.notIn_listAt (xY x) pl.isList (λw hw=>kW rx fx r fs w (by simpa using hw)) ⟨.bl _,H,I,rfl,?_⟩
  rw [show its.toArray.any (xY x)=its.any (xY x) by simp,mX r fs]
  exact q
 ·obtain⟨its,r,pl,hz⟩:=I.tuple hq
  refine SeqAt.notIn_tupleAt (xY x) pl (λw hw=>kW rx fx r fs w (by simpa using hw)) ⟨.bl _,H,I,rfl,?_⟩
  rw [show its.toArray.any (xY x)=its.any (xY x) by simp,mX r fs]
  exact q
theorem mY:dG X (.builtin "len") (λxs H Q=>∃ p ys,xs=[.ref p]/\(aS X.K H p ys∨aY X.K H p ys)/\Q (.int ys.length) H):=by
 intro pins s σ H xs us Q I r h
 obtain⟨p,ys,rfl,hq,q⟩:=h
 obtain⟨u,rfl,rx⟩:=vals1 r
 cases rx
 have hn:=kU
 rcases hq with hq | hq
 ·obtain⟨its,r',pl,hz⟩:=I.list hq
  have hlen:=r'.length
  exact Calls.call_len_list pl.isList (by simp only [List.size_toArray]<;>omega) ⟨.int ys.length,H,I.tok _,⟨s.toks+1,by rw [List.size_toArray,hlen]⟩,q⟩
 ·obtain⟨its,r',pl,hz⟩:=I.tuple hq
  have hlen:=r'.length
  exact len_tuple pl (by simp only [List.size_toArray]<;>omega) ⟨.int ys.length,H,I.tok _,⟨s.toks+1,by rw [List.size_toArray,hlen]⟩,q⟩
theorem cf:dG X (.type "list") (λxs H Q=>∃ p ys,xs=[.ref p]/\(aS X.K H p ys∨aY X.K H p ys)/\∀ l,H l=none->Q (.ref l) (upd H l (.lst ys))):=by
 intro pins s σ H xs us Q I r h
 obtain⟨p,ys,rfl,hq,q⟩:=h
 obtain⟨u,rfl,rx⟩:=vals1 r
 cases rx
 have fin:∀(its:List Value),Vals ys its->ys.length<=sizeLine->∀(h':Heap) (c':Nat),(∀ b o',s.heap.get? b=some o'->h'.get? b=some o') ->
   h'.get? s.heap.objs.size=some { cls:=.type "list",dict:=none,data:=.seq its.toArray c',slots:=#[] }->EP X pins σ Q (.ref s.heap.objs.size) { s with heap:=h' }:=λits r' hz h' c' kp e =>
  ⟨.ref s.heap.objs.size,_,I.laid (t':=s.toks) kp (Nat.le_refl _) (show bV X.prog X.w _ h' _ (.lst ys) from ⟨hz,its,c',r',e⟩),rfl,q _ (I.hok.fresh (Nat.le_refl _))⟩
 rcases hq with hq | hq
 ·obtain⟨its,r',pl,hz⟩:=I.list hq
  have hlen:=r'.length
  obtain⟨o,ho,hc,n,hd⟩:=pl.isList
  exact call_list_seq p (.inl rfl) ho hc hd (λh' c' kp e=>fin its r' hz h' c' kp e) (by simp only [List.size_toArray]<;>omega)
 ·obtain⟨its,r',pl,hz⟩:=I.tuple hq
  have hlen:=r'.length
  obtain⟨o,ho,hc,n,hd⟩:=pl
  exact call_list_seq p (.inr rfl) ho hc hd (λh' c' kp e=>fin its r' hz h' c' kp e) (by simp only [List.size_toArray]<;>omega)
theorem bH:dG X (.type "tuple") (λxs H Q=>∃ p ys,xs=[.ref p]/\((aS X.K H p ys/\∀ l,H l=none->Q (.ref l) (upd H l (.tup ys)))∨(aY X.K H p ys/\Q (.ref p) H))):=by
 intro pins s σ H xs us Q I r h
 obtain⟨p,ys,rfl,h⟩:=h
 obtain⟨u,rfl,rx⟩:=vals1 r
 cases rx
 rcases h with⟨hq,q⟩|⟨hq,q⟩
 ·obtain⟨its,r',pl,hz⟩:=I.list hq
  have hlen:=r'.length
  refine call_tuple_list pl.isList (λh' kp=>?_) (by simp only [List.size_toArray]<;>omega)
  have I1:Inv X pins σ H { s with heap:=h' }:=I.kept (t':=s.toks) kp
  have I2:Inv X pins σ (upd H h'.objs.size (.tup ys)) { s with heap:=h'.push { cls:=.type "tuple",data:=.seq its.toArray } } :=
   I1.laid (t':=s.toks) (λb o e=>Heap.get?_push_of_some _ e) (Nat.le_refl _) (show bV X.prog X.w _ _ _ (.tup ys) from ⟨hz,its,r',IsTup.new _ _⟩)
  exact⟨.ref h'.objs.size,_,I2,rfl,q _ (I1.hok.fresh (Nat.le_refl _))⟩
 ·obtain⟨its,r',pl,hz⟩:=I.tuple hq
  exact call_tuple_same pl ⟨.ref p,H,I,rfl,q⟩
def Eg (K:PySem.W.Frag) (T:String) (x:V) (H:Hp):Prop:=match x with
 | .str _=>T = "str"
 | .int _=>T = "int"
 | .ref p=>(T = "list"/\∃ xs,aS K H p xs)∨(T = "tuple"/\∃ o,K.lookup p=some o/\o.cls=.type "tuple"/\o.dict=none) ∨
   (T = "dict"/\((∃ kvs,H p=some (.dK kvs))∨∃ kvs,H p=some (.dT kvs)))∨(T = "set"/\∃ S n,H p=some (.set S n))
 | _=>False
theorem xw {pins:List (Addr × Obj)} {σ:St} {H:Hp} {s:Shared} {T:String} {x:V} {v:Value} (I:Inv X pins σ H s) (r:RelV x v) (ty:Eg X.K T x H) :
  s.TypeIs v T/\∀ a,v=.ref a->∃ ob,s.heap.get? a=some ob/\ob.dict=none:=by
 cases x with
 | str z =>
  obtain⟨t,rfl⟩:=r
  cases (show T = "str" from ty)
  exact⟨typeIs_str s z t,λ_ e=>nomatch e⟩
 | int i =>
  obtain⟨t,rfl⟩:=r
  cases (show T = "int" from ty)
  exact⟨typeIs_int s i t,λ_ e=>nomatch e⟩
 | ref p =>
  cases r
  rcases ty with⟨rfl,xs,hq⟩|⟨rfl,o,hk,hc,hd⟩|⟨rfl,hk⟩|⟨rfl,S,n,hk⟩
  ·obtain⟨its,_,pl,_⟩:=I.list hq
   refine⟨pl.isList.typeIs,λa e=>?_⟩
   cases e
   obtain⟨o,n,e,c,hd,_⟩:=pl
   exact⟨o,e,hd⟩
  ·refine⟨⟨o,I.nH p o hk,hc⟩,λa e=>?_⟩
   cases e
   exact⟨o,I.nH _ o hk,hd⟩
  ·have z:∃ o,s.heap.get? p=some o/\o.ExactDict:=by
    rcases hk with⟨kvs,hk⟩|⟨kvs,hk⟩
    ·obtain⟨_,_,_,_,o,_,_,e,ex,_⟩:=I.hok p _ hk
     exact⟨o,e,ex⟩
    ·obtain⟨_,_,_,_,o,_,_,e,ex,_⟩:=I.hok p _ hk
     exact⟨o,e,ex⟩
   obtain⟨o,e,ex⟩:=z
   refine⟨⟨o,e,ex.1⟩,λa e2=>?_⟩
   cases e2
   exact⟨o,e,ex.2.1⟩
  ·obtain⟨o,_,_,_,e,ex,_⟩:=I.hok p _ hk
   refine⟨⟨o,e,ex.1⟩,λa e2=>?_⟩
   cases e2
   exact⟨o,e,ex.2.1⟩
 | _=>exact False.elim ty
def CH (K:PySem.W.Frag) (T:String) (r:V->List V->Hp->VK->Prop) (to:TE):TE:=λσ H Q=>to σ H λx H1=>Eg K T x H1/\r x [] H1 Q
def Es (K:PySem.W.Frag) (T:String) (r:V->List V->Hp->VK->Prop) (to:TE) (t:TA):TE:=λσ H Q=>to σ H λx H1=>Eg K T x H1/\t σ H1 λxs H2=>r x xs H2 Q
variable {o e:Expr} {es:List Expr} {to:TE} {t:TA} {name:Str} {apos cpos:Pos} {T id:String} {r:V->List V->Hp->VK->Prop}
theorem AZ (pa:PlainAttrs T) (slot:Slot T name id) (hty:typeOf (.builtin id)=pure (.type "method_descriptor")) (hm:Dt X id r) (ho:PE X o to)
  (hbase:attributeBase o name X.env (eval o X.env)=eval o X.env:=by rfl) (hline:(apos.endLine==cpos.line)=true:=by rfl):PE X (.Call (.Attribute o name apos) [] [] cpos) (CH X.K T r to):=by
 intro pins s σ H Q I h
 refine wpAny_Call_method0_late hbase hline (bS (ho pins s σ H _ I h) λv s1 ⟨x,H1,I1,r1,ty,q1⟩=>?_)
 obtain⟨h1,h2⟩:=xw I1 r1 ty
 exact⟨T,id,pa,slot,hty,h1,h2,Calls.callWith_builtin rfl (PySem.evalArgs_none (hm pins s1 σ H1 x [] v [] Q I1 r1 .nil q1))⟩
theorem mJ (pa:PlainAttrs T) (slot:Slot T name id) (hty:typeOf (.builtin id)=pure (.type "method_descriptor")) (hm:Dt X id r) (ho:PE X o to) (ha:PA X (e::es) t)
  (hbase:attributeBase o name X.env (eval o X.env)=eval o X.env:=by rfl)
  (hfew:((backTo cpos (starEach (e::es) X.env)).all (λx=>!x.1) && (backToKw cpos (keywordEach [] X.env)).all (λx=>x.1.isSome)
   && decide ((e::es).length+([]:List Keyword).length+(if ([]:List Keyword).isEmpty then 0 else 1)<30))=true:=by rfl)
  (hline:(apos.endLine==cpos.line)=true:=by rfl) (hs:starEach (e::es) X.env=(false,eval e X.env)::starEach es X.env:=by rfl) (hplain:(backTo cpos (starEach es X.env)).any (·.1)=false:=by rfl) :
  PE X (.Call (.Attribute o name apos) (e::es) [] cpos) (Es X.K T r to t):=by
 intro pins s σ H Q I h
 refine wpAny_Call_method_late hbase hfew hline rfl (bS (ho pins s σ H _ I h) λv s1 ⟨x,H1,I1,r1,ty,q1⟩=>?_)
 obtain⟨h1,h2⟩:=xw I1 r1 ty
 refine⟨T,id,pa,slot,hty,h1,h2,?_⟩
 have hA:=ha cpos pins s1 σ H1 _ I1 q1
 rw [hs] at hA ⊢
 refine Calls.callWith_builtin (by show (false || (backTo cpos (starEach es X.env)).any (·.1))=false;rw [hplain]<;>rfl) (Calls.evalArgs_plain ?_)
 exact bS hA λus s2 ⟨vs,H2,I2,r2,q2⟩=>hm pins s2 σ H2 x vs v us Q I2 r1 r2 q2
/- xs.append(e),list.index on a module's tuple .. are Dt facts of 06m -/
end
def Dr (X:Cx) (id:String) (r:V->List V->Hp->VK->Prop):Prop :=
 ∀(pins:List (Addr × Obj)) (s:Shared) (σ:St) (H:Hp) (x:V) (xs:List V) (v:Value) (us:List Value) (Q:VK),Inv X pins σ H s->RelV x v->Vals xs us->r x xs H Q ->
  wpAny (model X.prog X.w) X.A (call (.builtin id) (v::us)) (EP X pins σ Q) X.xe s
theorem Vals.zero:∀{us:List Value},Vals [] us->us=[]
 | _,.nil=>rfl
theorem Vals.zk:∀{x:V} {xs:List V} {us:List Value},Vals (x::xs) us->∃ u vs,us=u::vs/\RelV x u/\Vals xs vs
 | _,_,_,.cons r t=>⟨_,_,rfl,r,t⟩
theorem Vals.one {x:V} {us:List Value} (h:Vals [x] us):∃ u,us=[u]/\RelV x u:=by
 obtain⟨u,vs,rfl,r,t⟩:=h.zk
 exact⟨u,congrArg (u::·) t.zero,r⟩
theorem Vals.two {x y:V} {us:List Value} (h:Vals [x,y] us):∃ u v,us=[u,v]/\RelV x u/\RelV y v:=by
 obtain⟨u,vs,rfl,r,t⟩:=h.zk
 obtain⟨v,rfl,q⟩:=t.one
 exact⟨u,v,rfl,r,q⟩
theorem Vals.dropLast {xs:List V} {us:List Value} (h:Vals xs us):Vals xs.dropLast us.dropLast:=by
 induction h with
 | nil=>exact .nil
 | cons r t ih =>
  cases t with
  | nil=>exact .nil
  | cons q t'=>exact .cons r ih
theorem Vals.reverse {xs:List V} {us:List Value} (h:Vals xs us):Vals xs.reverse us.reverse:=by
 induction h with
 | nil=>exact .nil
 | cons r t ih=>rw [List.reverse_cons,List.reverse_cons];exact Vals.append ih (.cons r .nil)
theorem qy {α:Type} (l:List α):l.eraseIdx (l.length-1)=l.dropLast:=by
 induction l with
 | nil=>rfl
 | cons a r ih =>
  cases r with
  | nil=>rfl
  | cons b r =>
   have e:(a::b::r).length-1=((b::r).length-1)+1:=by
    have h1:(a::b::r).length=r.length+2:=rfl
    have h2:(b::r).length=r.length+1:=rfl
    omega
   rw [e,List.eraseIdx_cons_succ,ih]
   all_goals rfl
section
variable {X:Cx} {pins:List (Addr × Obj)} {σ:St} {H:Hp} {s:Shared} {l b:Addr} {xs ys zs:List V}
theorem Inv.AI {its its':List Value} {n:Nat} {f:Array Value->Array Value} {t':Nat} (I:Inv X pins σ H s) (hH:H l=some (.lst xs))
  (e:s.heap.get? l=some { cls:=.type "list",data:=.seq its.toArray n }) (hf:f its.toArray=its'.toArray) (hv:Vals ys its') (hz:ys.length<=sizeLine) :
  Inv X pins σ (upd H l (.lst ys)) { s with heap:=s.heap.update l (Obj.mapSeq f),toks:=t' }:=by
 have q:=PySem.IsL.update e f
 rw [hf] at q
 refine I.write (x:=l) (e:=l) (by rw [hH];exact trivial) (.inl rfl) (λb' u hb hu=>(Heap.get?_update_other s.heap (Obj.mapSeq f) (Ne.symm hb)).trans hu) ⟨_,q⟩ ?_
 exact⟨hz,its',_,hv,q⟩
theorem Inv.DN {its:List Value} {t':Nat} (I:Inv X pins σ H s) (hv:Vals ys its) (hz:ys.length<=sizeLine) :
  Inv X pins σ (upd H s.heap.objs.size (.lst ys)) { s with heap:=s.heap.push { cls:=.type "list",data:=.seq its.toArray },toks:=t' } :=
 I.laid (λ_ _ q=>Heap.get?_push_of_some _ q) (Nat.le_refl _) ⟨hz,its,0,hv,Heap.get?_push_size _ rfl⟩
theorem Inv.fresh (I:Inv X pins σ H s):H s.heap.objs.size=none:=I.hok.fresh (Nat.le_refl _)
theorem Inv.tY (I:Inv X pins σ H s) (hH:H l=some (.lst xs)):xs.length<=sizeLine/\∃(its:List Value) (n:Nat),Vals xs its/\xs.length=its.length/\s.heap.get? l=some { cls:=.type "list",data:=.seq its.toArray n }:=by
 obtain⟨z,its,n,r,e⟩:=I.hok l _ hH
 exact⟨z,its,n,r,r.length,e⟩
theorem vR {n:Nat} (h:n<=sizeLine):Builtin.List.listTooLong n=false:=by
 unfold Builtin.List.listTooLong
 exact decide_eq_false (by omega)
end
section
variable {X:Cx}
def nR:V->List V->Hp->VK->Prop:=λx vs H Q=>∃ l xs y,x=.ref l/\vs=[y]/\H l=some (.lst xs)/\xs.length<sizeLine/\Q .bY (upd H l (.lst (xs++[y])))
theorem eY:Dr X "list.append" nR:=by
 intro pins s σ H x vs v us Q I rx rv h
 obtain⟨l,xs,y,rfl,rfl,hH,hz,q⟩:=h
 cases rx
 obtain⟨u,rfl,ru⟩:=rv.one
 obtain⟨z,its,n,r,hl,e⟩:=I.tY hH
 refine call_meets F.slot_list_append ⟨_,e,rfl⟩ F.entry_list_append (F.args_list_append_2 _ _) (PySem.list_append l its.toArray n u (by rw [List.size_toArray];omega)) ⟨e,?_⟩
 refine⟨.bY,_,I.AI (its':=its++[u]) hH e (by simp) (r.append (.cons ru .nil)) ?_,rfl,q⟩
 rw [List.length_append,List.length_singleton]
 omega
def yL:V->List V->Hp->VK->Prop:=λx vs H Q=>∃ l b xs zs,x=.ref l/\vs=[.ref b]/\H l=some (.lst xs)/\H b=some (.lst zs)/\xs.length+zs.length<=sizeLine/\Q .bY (upd H l (.lst (xs++zs)))
theorem tZ:Dr X "list.extend" yL:=by
 intro pins s σ H x vs v us Q I rx rv h
 obtain⟨l,b,xs,zs,rfl,rfl,hH,hB,hz,q⟩:=h
 cases rx
 obtain⟨u,rfl,ru⟩:=rv.one
 cases ru
 obtain⟨z,its,n,r,hl,e⟩:=I.tY hH
 obtain⟨z2,its2,n2,r2,hl2,e2⟩:=I.tY hB
 have hsz:its.toArray.size+its2.toArray.size<=sizeLine:=by rw [List.size_toArray,List.size_toArray];omega
 have hlong:¬(!its.toArray.isEmpty && Builtin.List.listTooLong (its.toArray.size+its2.toArray.size))=true:=by
  rw [vR hsz,Bool.and_false]
  exact Bool.false_ne_true
 refine call_meets F.slot_list_extend ⟨_,e,rfl⟩ F.entry_list_extend (F.args_list_extend_2 _ _)
  (AutoSeq1.list_extend_list_list_0 l its.toArray n b its2.toArray n2 hlong (by rw [List.size_toArray];omega) (by omega)) ⟨e,e2,?_⟩
 refine⟨.bY,_,I.AI (its':=its++its2) hH e (by simp) (r.append r2) ?_,rfl,q⟩
 rw [List.length_append]
 omega
def DU:V->List V->Hp->VK->Prop:=λx vs H Q=>∃ l xs y,x=.ref l/\vs=[]/\H l=some (.lst xs)/\xs[xs.length-1]?=some y/\Q y (upd H l (.lst xs.dropLast))
theorem AL:Dr X "list.pop" DU:=by
 intro pins s σ H x vs v us Q I rx rv h
 obtain⟨l,xs,y,rfl,rfl,hH,hy,q⟩:=h
 cases rx
 have hus:=rv.zero
 subst hus
 obtain⟨z,its,n,r,hl,e⟩:=I.tY hH
 obtain⟨u,hu,ru⟩:=r.get hy
 have hy':its.toArray[its.toArray.size-1]?=some u:=by
  show its.toArray[its.length-1]?=some u
  rw [<- Array.getElem?_toList,<- hl]
  exact hu
 refine call_meets F.slot_list_pop ⟨_,e,rfl⟩ F.entry_list_pop (F.args_list_pop_1 _) (MeetsSeq.list_pop_last l its.toArray n u hy' (by rw [List.size_toArray];omega)) ⟨e,?_⟩
 refine⟨y,_,I.AI (its':=its.dropLast) hH e ?_ r.dropLast ?_,ru,q⟩
 ·show its.toArray.eraseIdxIfInBounds (its.toArray.size-1)=its.dropLast.toArray
  rw [List.size_toArray,List.eraseIdxIfInBounds_toArray,qy]
 ·rw [List.length_dropLast]
  omega
def Cq:R2:=λx y H Q=>∃ l b xs zs,x=.ref l/\y=.ref b/\H l=some (.lst xs)/\H b=some (.lst zs)/\xs.length+zs.length<=sizeLine/\∀ p,H p=none->Q (.ref p) (upd H p (.lst (xs++zs)))
theorem cm:fE X (binaryOp .Add) Cq:=by
 intro pins s σ H x y v u Q I rx ry h
 obtain⟨l,b,xs,zs,rfl,rfl,hH,hB,hz,q⟩:=h
 cases rx
 cases ry
 obtain⟨z,its,n,r,hl,e⟩:=I.tY hH
 obtain⟨z2,its2,n2,r2,hl2,e2⟩:=I.tY hB
 refine PySem.P.add_list e e2 ?_ (by rw [List.size_toArray,List.size_toArray];omega)
 have ea:its.toArray++its2.toArray=(its++its2).toArray:=by simp
 rw [ea]
 exact⟨.ref _,_,I.DN (t':=s.toks) (r.append r2) (by rw [List.length_append];omega),rfl,q _ I.fresh⟩
end
section
variable {prog:Program} {w:World} {A:Around} {E:Value->Shared->Prop} {s:Shared}
end
section
variable {X:Cx}
end
end L2
namespace Att
open PySem PySem.W PySem.Calls PyProof.Rows
theorem j6 {P:Params} {h:Heap}:∀(ns:List Int) (vs:List Value),WellAll P h vs (ns.map WData.int)->IntsAre vs ns:=by
 intro ns
 induction ns with
 | nil =>
  intro vs w
  rw [List.map_nil] at w
  cases w
  exact .nil
 | cons n ns ih =>
  intro vs w
  rw [List.map_cons] at w
  cases w with
  | cons a b =>
   cases a
   exact .cons _ _ (ih _ b)
theorem ux {l:OpenLaw} {n:Nat} (hn:l.most=some n) {P:Params} {h:Heap} {args:List WData} {vals:List Value}
  (hpre:l.row.toRowW.claim.pre args=true) (hwl:WellAll P h vals args) :
  ∃ a vs ns,vals=[Value.ref a]/\args=[WData.list (ns.map WData.int)]/\h.get? a=some { cls:=.type "list",data:=.seq vs.toArray }/\IntsAre vs ns/\ns.length<=n:=by
 have hsh:WShape.hasAll [] args [.list .int]=true:=(pre_splitW hpre).1
 have hc:l.pre.holds [] { args:=args }=true:=(pre_splitW hpre).2
 obtain⟨d,r,rfl,h1,h2⟩:=hasAllW_cons hsh
 obtain rfl:=hasAllW_nil h2
 obtain⟨xs,rfl,h3⟩:=hasW_list h1
 obtain⟨ns,rfl⟩:=items_int h3
 have hlen:ns.length<=n:=by
  unfold OpenLaw.pre at hc
  have h4:(WTm.not (.lt (.lit (.int (n:Int))) (.len (.arg 0)))).holds [] { args:=[.list (ns.map .int)] }=true:=by
   have h4:=(holds_andW hc).1
   rw [hn] at h4
   exact h4
  have h5:=condW_of h4 (w_not (w_lt w_lit (w_len_list (w_arg rfl))))
  rw [List.length_map] at h5
  refine Nat.le_of_not_lt λq=>?_
  have q':(n:Int)<((ns.length:Nat):Int):=by omega
  first
   | (rw [decide_eq_true q'] at h5;exact absurd h5 (by decide))
   | (simp at h5;omega)
 cases hwl with
 | cons w1 w2 =>
  cases w2
  cases w1 with
  | list ho hall=>exact⟨_,_,ns,rfl,rfl,ho,j6 ns _ hall,hlen⟩
theorem ur (l:OpenLaw) (args:List WData):l.row.toRowW.claim.post args (.bool true) args=true :=
 postW_of (r:=l.row.toRowW) (X:=(true==true))
  (show WShape.has [] (.bool true) .bool=true by first | rfl | decide | simp [WShape.has,WShape.arms,WShape.armsAll])
  (show (WTm.eq .res (.lit (.bool true))).value [] { args:=args,res:=some (.bool true),after:=args }=some (.bool (true==true)) from w_eq_bool (w_res rfl) w_lit) rfl
theorem ou {l:OpenLaw} {n:Nat} {q:Program} {loose:List Str} {XP:(Str->Option Value)->Heap->Prop} {YP:World->Heap->Prop} {d:DefRec}
  (hn:l.most=some n) (hdf:d.params.defaults=[])
  (call:∀(w:World) (s₀ s₁:Shared) (mg mb:Str->Option Value) (fa:Addr) (o:Obj) (pm cd doc:Value) (a:Addr) (vs:List Value) (ns:List Int),
   Ground q loose [] XP w s₀ mg mb s₁.heap->YP w s₁.heap ->
   s₁.heap.get? fa=some o->o.data=.func (docDef d.name d.params d.body d.scope pm cd doc)->s₁.heap.CodeRec cd d.name->mg d.name=some (.ref fa) ->
   s₁.heap.get? a=some { cls:=.type "list",data:=.seq vs.toArray }->IntsAre vs ns->ns.length<=n->s₁.gens=#[] ->
   codeAny (model l.prog w) callerA (.call (.ref fa) ⟨[.ref a],[]⟩) (λr s'=>r=.ok (.ret (.bool true))/\OldK s₁.heap s'.heap/\s'.os=s₁.os/\AllBare s'.gens) s₁) :
  WalkO q loose XP YP l.row.toRowW d [] (λf vs=>PySem.call f vs):=by
 intro w s₀ s₁ mg mb G Y fa o pm cd doc dV kV ho hd hcd hD hmg hg args vals as hpre hlay hrd hwl hlo
 obtain rfl:dV=.none:=Dflts.none hD hdf
 obtain rfl:kV=.none:=Dflts.noKw hD
 obtain⟨a,vs,ns,rfl,rfl,hobj,hints,hlen⟩:=ux hn hpre hwl
 refine enter_call (codeAny_mono (call w s₀ s₁ mg mb fa o pm cd doc a vs ns G Y ho (fd_plain hd) hcd hmg hobj hints hlen hg) λr s' hq=>?_)
 obtain⟨rfl,h2,h3,h4⟩:=hq
 exact⟨.inl ⟨.bool true,.bool true,[],rfl,λ_=>rfl,.bool true,ur l _,λ_=>⟨List.Pairwise.nil,λ_ hm=>(nomatch hm)⟩⟩,h2,h3,h4⟩
section
variable {prog:Program} {w:World} {A:Around} {E:Value->Shared->Prop} {s:Shared} {K:Frag}
end
end Att
namespace L2
open PySem PySem.Spec PyProof.Rows
theorem mT:∀{vs:List Value} {ns:List Int},IntsAre vs ns->Vals (ns.map V.int) vs
 | _,_,.nil=>.nil
 | _,_,.cons n t h=>.cons ⟨t,rfl⟩ (mT h)
def xI (H:Hp):Prop:=∀ b,H b=none∨∃ o xs,H b=some (.frz o (.lst xs))
theorem vG {P:Program} {w:World} {K:PySem.W.Frag} {mg mb:Str->Option Value} {CX:kA} {k:Nat} {fa a:Addr} {fd:FuncData} {x:Str} {sp:Sp} {s₁:Shared} {vs:List Value} {ns:List Int}
  (KX:K.In s₁.heap) (hns:s₁.heap.Ns mainGlobals mg) (hb:s₁.heap.Ns builtinsNs mb) (hbb:∀ x:Str,x ≠ "__name__"->mb x=bootBuiltins x) (hlim:s₁.heap.NoLimit) (hg:s₁.gens=#[])
  (ha:s₁.heap.get? a=some { cls:=.type "list",data:=.seq vs.toArray }) (hi:IntsAre vs ns) (hl:ns.length<=sizeLine) (hr:dN k callerA)
  (F:∀ base:Heap,K.In base->base.Ns mainGlobals mg->eE P w K mg base CX k fa fd [x] sp) (hbind:∀(s:Shared) (u:Value),BindsTo s fd ⟨[u],[]⟩ [(x,u)])
  (hsp:∀ H:Hp,xI H->aS K H a (ns.map V.int)->sp [.ref a] H (λv _=>v=.bl true) λ_ _ _=>False)
  (hCX:∀ H e s',CX [] H s₁ (λ_ _ _=>False) e s'->False) :
  codeAny (model P w) callerA (.call (.ref fa) ⟨[.ref a],[]⟩) (λr s'=>r=.ok (.ret (.bool true))/\OldK s₁.heap s'.heap/\s'.os=s₁.os/\AllBare s'.gens) s₁:=by
 have rv:=mT hi
 have lenV:=hi.length
 -- from an abstract heap in which nothing but the script may be tracked
 have core:∀ H:Hp,xI H->aS K H a (ns.map V.int)->gQ P w H s₁.heap->(∀ b,H b≠none->b=a)->(H a≠none->K.lookup a=none) ->
   codeAny (model P w) callerA (.call (.ref fa) ⟨[.ref a],[]⟩) (λr s'=>r=.ok (.ret (.bool true))/\OldK s₁.heap s'.heap/\s'.os=s₁.os/\AllBare s'.gens) s₁:=by
  intro H hO hS hok hA hK
  have base_of:∀{b:Addr} {o:Obj},s₁.heap.get? b=some o->H b=none->(nF s₁.heap H).get? b=some o:=λe n=>vq e n
  have noA:∀{b:Addr} {o:Obj} {es:Array DictEntry} {ep:Nat},s₁.heap.get? b=some o->o.data=.dict es ep->H b=none:=λ{b o es ep} e d=>by
   cases q:H b with
   | none=>rfl
   | some u =>
    have e':b=a:=hA b (by rw [q];simp)
    subst e'
    rw [ha] at e;cases e
    have d':Data.seq vs.toArray _=Data.dict es ep:=d
    cases d'
  have nsK:∀{b:Addr} {m:Str->Option Value},s₁.heap.Ns b m->(nF s₁.heap H).Ns b m:=λ{b m} ⟨o,es,ep,e,d,r⟩=>⟨o,es,ep,base_of e (noA e d),d,r⟩
  have hKb:K.In (nF s₁.heap H):=λb o e=>base_of (KX b o e) (by
   cases q:H b with
   | none=>rfl
   | some u =>
    have e':b=a:=hA b (by rw [q];simp)
    subst e'
    rw [hK (by rw [q];simp)] at e;cases e)
  have hM:Mod K mg (nF s₁.heap H):=⟨hKb,nsK hns,⟨mb,nsK hb,hbb⟩,let ⟨mc,h1,h2⟩:=hlim;⟨mc,nsK h1,h2⟩⟩
  have e0:xF P w K mg (nF s₁.heap H) callerA [] s₁ H:=⟨rfl,hM,λb o e=>yo e,Nat.le_of_eq (tJ _ _),trivial,λb hb=>absurd (show b∈([]:List Addr) from hb) (by simp),hok,.of_eq hg⟩
  refine codeAny_mono ((F _ hKb (nsK hns)).run callerA [] s₁ H ⟨[.ref a],[]⟩ [.ref a] [.ref a] _ _ hr e0 (hbind s₁ (.ref a)) (.cons rfl .nil) (hsp H hO hS)) λr s' h=>?_
  cases r with
  | error e=>exact (hCX H e s' h).elim
  | ok fl =>
   cases fl with
   | next=>exact False.elim h
   | brk=>exact False.elim h
   | cont=>exact False.elim h
   | ret u =>
    obtain⟨v,H',os,bare,un,hok',r',q⟩:=h
    have q':v=.bl true:=q
    subst q'
    obtain rfl:u=Value.bool true:=r'
    refine⟨rfl,OldK.of_keep λb o e=>?_,os,bare⟩
    cases q:H b with
    | none=>exact un.keep b o e q (by intro z;exact absurd (show b∈([]:List Addr) from z) (by simp)) (by simp)
    | some u =>
     rcases hO b with z | ⟨ob,xs,z⟩
     ·rw [q] at z;cases z
     ·have z2:=un.frzs b ob _ z
      obtain⟨e1,_⟩:=hok b _ z
      obtain⟨e2,_⟩:=hok' b _ z2
      rw [e] at e1;cases e1
      exact e2
 cases hk:K.lookup a with
 | some o =>
  -- the script is one of the module's own objects
  have e:=KX a o hk
  rw [ha] at e
  cases e
  refine core (λ_=>none) (λ_=>.inl rfl) (.inr ⟨_,vs.toArray,_,hk,rfl,rfl,rfl,by rw [List.size_toArray,lenV];exact hl,by simpa using rv⟩) (λb u z=>by have z':(none:Option HO)=some u:=z;cases z') (λb z=>absurd rfl z) λz=>absurd rfl z
 | none =>
  refine core (λb=>if b=a then some (.frz { cls:=.type "list",data:=.seq vs.toArray } (.lst (ns.map V.int))) else none) (λb=>?_) (.inl (.inr ⟨{ cls:=.type "list",data:=.seq vs.toArray },if_pos rfl⟩)) (λb u z=>?_) (λb z=>?_) λ_=>hk
  ·by_cases hb:b=a
   ·exact .inr ⟨_,_,if_pos hb⟩
   ·exact .inl (if_neg hb)
  ·by_cases hb:b=a
   ·have z':=(if_pos hb).symm.trans z
    cases z'
    subst hb
    exact⟨ha,by rw [List.length_map];exact hl,vs,_,rv,ha⟩
   ·have z':=(if_neg hb).symm.trans z
    cases z'
  ·by_cases hb:b=a
   ·exact hb
   ·exact absurd (if_neg hb) z
abbrev cQ {K:PySem.W.Frag} {h:Heap} (_:K.In h):PySem.W.Frag:=K
theorem sY {l:PySem.W.OpenLaw} {n k:Nat} {q:Program} {loose:List Str} {XP:(Str->Option Value)->Heap->Prop} {YP:World->Heap->Prop} {d:DefRec} {K:Params->PySem.W.Frag} {CX:World->kA} {sp:World->Sp} {x:Str}
  (hn:l.most=some n) (hn2:n<=sizeLine) (hdf:d.params.defaults=[]) (hr:dN k callerA)
  (hY:∀(w:World) (h:Heap),YP w h->(K w.params).In h)
  (F:∀(w:World) (mg:Str->Option Value) (fa:Addr) (h:Heap),(K w.params).In h->h.Ns mainGlobals mg->mg d.name=some (.ref fa) ->
   ∃ fd:FuncData,(∀(s:Shared) (u:Value),BindsTo s fd ⟨[u],[]⟩ [(x,u)]) /\
    ∀ base:Heap,(K w.params).In base->base.Ns mainGlobals mg->eE l.prog w (K w.params) mg base (CX w) k fa fd [x] (sp w))
  (hsp:∀(w:World) (H:Hp) (a:Addr) (ns:List Int),ns.length<=n->xI H->aS (K w.params) H a (ns.map V.int)->sp w [.ref a] H (λv _=>v=.bl true) λ_ _ _=>False)
  (hCX:∀(w:World) (H:Hp) (s:Shared) (e:Value) (s':Shared),CX w [] H s (λ_ _ _=>False) e s'->False) :
  PySem.W.WalkO q loose XP YP l.row.toRowW d [] (λf vs=>PySem.call f vs):=by
 refine Att.ou hn hdf λw s₀ s₁ mg mb fa o pm cd doc a vs ns G Y ho hd hcd hmg hobj hints hlen hg=>?_
 have KX:=hY w _ Y
 obtain⟨fd,hb,hF⟩:=F w mg fa _ KX G.T.g hmg
 exact vG KX G.T.g G.T.b G.T.builtins G.T.nolimit hg hobj hints (Nat.le_trans hlen hn2) hr hF hb (λH hO hS=>hsp w H a ns hlen hO hS) λH e s'=>hCX w H s₁ e s'
theorem xy {l:PySem.W.OpenLaw} {n k:Nat} {q:Program} {loose:List Str} {XP:(Str->Option Value)->Heap->Prop} {YP:World->Heap->Prop} {d:DefRec} {K:Params->PySem.W.Frag} {CX:kA} {sp:PySem.W.Frag->Sp} {x:Str}
  (hn:l.most=some n) (hn2:n<=sizeLine) (hdf:d.params.defaults=[]) (hr:dN k callerA)
  (hY:∀(w:World) (h:Heap),YP w h->(K w.params).In h)
  (F:∀(w:World) (mg:Str->Option Value) (fa:Addr) (h:Heap),(K w.params).In h->h.Ns mainGlobals mg->mg d.name=some (.ref fa) ->
   ∃ fd:FuncData,(∀(s:Shared) (u:Value),BindsTo s fd ⟨[u],[]⟩ [(x,u)]) /\
    ∀ base:Heap,(K w.params).In base->base.Ns mainGlobals mg->eE l.prog w (K w.params) mg base CX k fa fd [x] (sp (K w.params)))
  (hsp:∀(K:PySem.W.Frag) (H:Hp) (a:Addr) (ns:List Int),ns.length<=n->xI H->aS K H a (ns.map V.int)->sp K [.ref a] H (λv _=>v=.bl true) λ_ _ _=>False)
  (hCX:∀(H:Hp) (s:Shared) (e:Value) (s':Shared),CX [] H s (λ_ _ _=>False) e s'->False) :
  PySem.W.WalkO q loose XP YP l.row.toRowW d [] (λf vs=>PySem.call f vs) :=
 sY (K:=K) (CX:=λ_=>CX) (sp:=λw=>sp (K w.params)) hn hn2 hdf hr hY F (λw H a ns h1 h2 h3=>hsp (K w.params) H a ns h1 h2 h3) λ_ H s e s'=>hCX H s e s'
end L2
/- THE LAST THEOREM (shape;LID,My.* are yours):
   My.Adr: a structure of the addresses that your layer names (classes,functions);My.Txt K t: a structure (Prop) of the equations over K;
   My.txt_mk:{K} {implicit addresses ..} (e1:nsIn K mainGlobals "law"=some (some (.ref f))) (e2:K.lookup f=some ⟨oc,od,.func (fnOf "law" "law" params body scope dV kV doc pm an cdv ct),sl⟩) (e3:codeIn K cdv "law"=true) ..:∃ t,My.Txt K t
set_option maxRecDepth 100000 in
set_option maxHeartbeats 0 in
theorem PySem.Challenge.cw_LID_holds : PySem.Challenge.rw_LID.Holds := by
 w_on;o_law;k_head;(case hw=>w_witness2)
 k_fill
 refine L2.sY (l:=PySem.Challenge.rw_LID) (n:=63) (k:=40) (x := "script") (CX:=λw=>..) (sp:=λ_=>My.sp_law) rfl (by decide) rfl ⟨rfl,by decide,by decide⟩ (λw h Y=>PySem.W.kIn_of Y) ?F ?S ?C
 case F =>
  intro w mg fa h KX G hmg
  have T:∃ t,My.Txt (L2.cQ KX) t:=by
   dsimp only [L2.cQ]                          -- K must stand as «<heap const> w.params» for k_is
   refine' My.txt_mk ?e1 ?e2 ?e3 ..
   (case e1=>PySem.W.k_is)                    -- in the order: a name -> its address -> its object -> its parts
   (case e2=>PySem.W.k_is)
   ..
  obtain⟨t,T⟩:=T
  have e0:=hmg.symm.trans (PySem.W.mg_of KX G T.law)
  cases e0                                       -- fa is the law's own address
  exact⟨_,λs u=>.of_eq rfl,λbase kb nb=>My.law_fn T kb nb⟩     -- if «.of_eq rfl» comes too early: refine' ⟨_,?b,λbase kb nb=>My.law_fn T kb nb⟩;exact λs u=>.of_eq rfl
 case S=>exact λw H a ns hl hO hS=>..
 case C=>exact ..
(the tactic k_is has no namespace: write k_is) -/
namespace L2
open PySem PySem.Spec PyProof.Rows
def dh (s:Stmt):Arguments:=match s with
 | .FunctionDef _ a _ _ _ _ _ _ _ _=>a
 | _=>{ posonlyargs:=[],args:=[],vararg:=none,kwonlyargs:=[],kw_defaults:=[],kwarg:=none,defaults:=[] }
def cC (s:Stmt):List Stmt:=match s with
 | .FunctionDef _ _ b _ _ _ _ _ _ _=>b
 | _=>[]
def ao (s:Stmt):Scope:=match s with
 | .FunctionDef _ _ _ _ _ _ sc _ _ _=>sc
 | _=>{ kind:=.function,names:=[],isGenerator:=false,isCoroutine:=false }
abbrev aV:kA:=λ_ _ _ _ _ _=>False
abbrev E0:XK:=λ_ _ _=>False
theorem ay {X:Cx}:Passes aV X E0:=λ_ _ _ _ _ _ _ h=>h.elim
structure xG (K:PySem.W.Frag) (x qual:Str) (st:Stmt) (f:Addr) (fd:FuncData):Prop where
 ex:∃(oc:Value) (od:Option Addr) (kV doc pm:Value) (an:Option Addr) (cdv ct:Value) (osl:Array (Option Value)),
  fd=PySem.W.fnOf x qual (dh st) (cC st) (ao st) .none kV doc pm an cdv ct/\K.lookup f=some ⟨oc,od,.func fd,osl⟩/\PySem.W.codeIn K cdv qual=true
 kp:PySem.W.keepIn K (.ref f)=true
section
variable {P:Program} {w:World} {K:PySem.W.Frag} {mg:Str->Option Value} {base:Heap}
theorem xG.ok {x qual:Str} {st:Stmt} {f:Addr} {fd:FuncData} {N ps:List Str} {k:Nat} {sp:Sp} (F:xG K x qual st f fd) (S:aC N ps (ao st)) (len:∀ vs H Q E,sp vs H Q E->vs.length=ps.length)
  (hbody:∀(cdv:Value) (A:Around) (outer:List Env) (s:Shared) (H:Hp) (vs:List V) (Q:VK) (E:XK),dN k (A.deeper (envOfC qual (ao st) s.heap.objs.size f cdv))->sp vs H Q E ->
   ∃ t,oo (lU aV P w K mg base N qual (ao st) f cdv A outer s H E).vS (cC st) t/\t { nx:=λ_ H'=>Q .bY H',rt:=Q } (start N vs) H):eE P w K mg base aV (k+1) f fd ps sp:=by
 obtain⟨oc,od,kV,doc,pm,an,cdv,ct,osl,rfl,lk,hcd⟩:=F.ex
 refine BY lk hcd S len λA outer s H vs Q E hr hsp=>?_
 obtain⟨t,h,q⟩:=hbody cdv A outer s H vs Q E hr hsp
 exact⟨t,h.vS,q⟩
theorem xG.binds {x qual:Str} {st:Stmt} {f:Addr} {fd:FuncData} {ps:List Str} (F:xG K x qual st f fd)
  (h:∀(kV doc pm:Value) (an:Option Addr) (cdv ct:Value) (us:List Value),us.length=ps.length->bindArgs (PySem.W.fnOf x qual (dh st) (cC st) (ao st) .none kV doc pm an cdv ct) ⟨us,[]⟩=pure (ps.zip us)):Binds K fd ps []:=by
 obtain⟨oc,od,kV,doc,pm,an,cdv,ct,osl,rfl,lk,hcd⟩:=F.ex
 exact .all (h kV doc pm an cdv ct)
theorem Av {x qual:Str} {st:Stmt} {f:Addr} {oc:Value} {od an:Option Addr} {osl:Array (Option Value)} {kV doc pm cdv ct:Value} (l:K.lookup f=some ⟨oc,od,.func (PySem.W.fnOf x qual (dh st) (cC st) (ao st) .none kV doc pm an cdv ct),osl⟩)
  (c:PySem.W.codeIn K cdv qual=true) (k:PySem.W.keepIn K (.ref f)=true):xG K x qual st f (PySem.W.fnOf x qual (dh st) (cC st) (ao st) .none kV doc pm an cdv ct):=⟨⟨oc,od,kV,doc,pm,an,cdv,ct,osl,rfl,l,c⟩,k⟩
end
theorem jP {A:Around} {k:Nat} (hr:dN k A):A.units+1<cLine:=Nat.lt_of_le_of_lt (Nat.add_le_add_left (by decide:1<=64) _) hr.units
section
variable {X:Cx}
theorem pv (i:Nat) {x:Str} {pos:Pos} (hN:X.N[i]?=some x:=by rfl) (hv:Bv X.env.scope x:=by first | exact Or.inl rfl | exact Or.inr (Or.inl rfl) | exact Or.inr (Or.inr rfl)) (hd:(x==("__debug__":Str))=false:=by decide)
  (hcd:(x==("__classdict__":Str))=false:=by decide):PE X (.Name x pos) (xn i):=A3 hN hv hd hcd
end
theorem aH {c A B:Prop} [Decidable c] (h1:c->A) (h2:¬c->B):if c then A else B:=by
 by_cases h:c
 ·rw [if_pos h]
  exact h1 h
 ·rw [if_neg h]
  exact h2 h
def aE (H H':Hp):Prop:=∀ b o,H b=some o->H' b=some o
theorem aE.refl (H:Hp):aE H H:=λ_ _ h=>h
theorem aE.trans {H H1 H2:Hp} (a:aE H H1) (b:aE H1 H2):aE H H2:=λc o h=>b c o (a c o h)
theorem aE.free {H H':Hp} (e:aE H H') {l:Addr} (h:H' l=Option.none):H l=Option.none:=by
 cases q:H l with
 | none=>rfl
 | some o =>
  rw [e l o q] at h
  cases h
end L2
set_option maxHeartbeats 1000000
namespace L2
open PySem PySem.Spec PyProof.Rows
theorem iA {Ex:Value->Shared->Prop} {prog:Program} {w:World} {A:Around} {R:Result->Shared->Prop} {s:Shared} {elt target:Expr} {gens:List Comprehension} {scope:Scope} {pos ps:Pos} {ifs:List Expr} {d:Nat} {B:Sem Unit} {it acc:Value} {env:Env} (I:Nat->Shared->Prop)
  (ht:compTurn (.ListComp elt gens scope pos) d it acc env=(do
   standAt ps
   match <- pyNext it with
   | none=>pure (.done .next)
   | some v =>
    letOwnedTupleGo target it v
    assign target env v
    let mut ok:=true
    for c in ifs do
     if ok then ok <- isTrue c env (eval c env)
    if ok then B
    again (.compLoop (.ListComp elt gens scope pos) d it acc env)))
  (turn:∀ n s,I n s->wpAny (model prog w) A (pyNext it) (λr s₁=>match r with
   | none=>R (.ok .next) s₁
   | some v=>wpAny (model prog w) A (letOwnedTupleGo target it v) (λ_ s₁'=>wpAny (model prog w) A (assign target env v) (λ_ s₂ =>
     wpAny (model prog w) A (forIn ifs true λc r=>if r=true then do let ok <- isTrue c env (eval c env);pure (ForInStep.yield ok) else pure (ForInStep.yield r)) (λok s₃ =>
      if ok=true then wpAny (model prog w) A B (λ_ s₅=>∃ m,m<n/\I m s₅) Ex s₃
      else ∃ m,m<n/\I m s₃) Ex s₂) Ex s₁') Ex s₁) Ex s)
  (n:Nat) (h:I n s) (hE:∀ e s',Ex e s'->notedBy (model prog w) A env (λe s''=>R (.error e) s'') e s') :
  codeAny (model prog w) A (.compLoop (.ListComp elt gens scope pos) d it acc env) R s:=by
 refine codeAny_loop rfl I (λn s hI=>?_) n h
 show wpAny _ A ((compTurn (.ListComp elt gens scope pos) d it acc env).onRaise (λx=>do noteFrame x env;theTreesLotGoes x)) _ _ s
 refine wpAny_noted ?_
 rw [ht]
 refine wpAny_bind (wpAny_standAt (wpAny_bind (wpAny_mono (turn n s hI) (λr s₁ h₁=>?_) λ_ _ h'=>hE _ _ h')))
 cases r with
 | none=>exact wpAny_pure h₁
 | some v =>
  refine wpAny_bind (wpAny_mono h₁ (λ_ s₁' h₁'=>?_) λ_ _ h'=>hE _ _ h')
  refine wpAny_bind (wpAny_mono h₁' (λ_ s₂ h₂=>wpAny_bind (wpAny_mono h₂ (λok s₃ h₃=>?_) λ_ _ h'=>hE _ _ h')) λ_ _ h'=>hE _ _ h')
  cases ok with
  | false=>exact wpAny_pure ⟨rfl,h₃⟩
  | true=>exact wpAny_bind (wpAny_mono h₃ (λ_ s₅ h₅=>wpAny_pure ⟨rfl,h₅⟩) λ_ _ h'=>hE _ _ h')
def oA (elt:Expr) (acc:Value) (env:Env):Sem Unit:=do let _ <- call (.builtin "list.append") [acc,<- eval elt env]
theorem xt (elt target iter:Expr) (ifs:List Expr) (scope:Scope) (pos:Pos) (it acc:Value) (env:Env) :
  compTurn (.ListComp elt [⟨target,iter,ifs,0⟩] scope pos) 0 it acc env=(do
   standAt iter.pos
   match <- pyNext it with
   | none=>pure (.done .next)
   | some v =>
    letOwnedTupleGo target it v
    assign target env v
    let mut ok:=true
    for c in ifs do
     if ok then ok <- isTrue c env (eval c env)
    if ok then oA elt acc env
    again (.compLoop (.ListComp elt [⟨target,iter,ifs,0⟩] scope pos) 0 it acc env)):=by rfl
theorem y4 (elt t1 i1 t2 i2:Expr) (f1 f2:List Expr) (scope:Scope) (pos:Pos) (it acc:Value) (env:Env) :
  compTurn (.ListComp elt [⟨t1,i1,f1,0⟩,⟨t2,i2,f2,0⟩] scope pos) 1 it acc env=(do
   standAt i2.pos
   match <- pyNext it with
   | none=>pure (.done .next)
   | some v =>
    letOwnedTupleGo t2 it v
    assign t2 env v
    let mut ok:=true
    for c in f2 do
     if ok then ok <- isTrue c env (eval c env)
    if ok then oA elt acc env
    again (.compLoop (.ListComp elt [⟨t1,i1,f1,0⟩,⟨t2,i2,f2,0⟩] scope pos) 1 it acc env)):=by rfl
theorem xu (elt t1 i1 t2 i2:Expr) (f1 f2:List Expr) (scope:Scope) (pos:Pos) (it acc:Value) (env:Env) :
  compTurn (.ListComp elt [⟨t1,i1,f1,0⟩,⟨t2,i2,f2,0⟩] scope pos) 0 it acc env=(do
   standAt i1.pos
   match <- pyNext it with
   | none=>pure (.done .next)
   | some v =>
    letOwnedTupleGo t1 it v
    assign t1 env v
    let mut ok:=true
    for c in f1 do
     if ok then ok <- isTrue c env (eval c env)
    if ok then
     let x <- eval i2 env
     standAt i2.pos
     let x <- foldedSetIterable i2 env x
     let _ <- runOwn (.compStart (.ListComp elt [⟨t1,i1,f1,0⟩,⟨t2,i2,f2,0⟩] scope pos) 1 (<- holding [x] (pyIter x)) acc env) env
    again (.compLoop (.ListComp elt [⟨t1,i1,f1,0⟩,⟨t2,i2,f2,0⟩] scope pos) 0 it acc env)):=by rfl
theorem nc {Ex:Value->Shared->Prop} {prog:Program} {w:World} {A:Around} {R:Result->Shared->Prop} {s:Shared} {elt t1 i1 t2 i2:Expr} {f1 f2:List Expr} {scope:Scope} {pos:Pos} {it acc:Value} {env:Env} (I:Nat->Shared->Prop) (hs:∀ x,foldedSetIterable i2 env x=pure x)
  (turn:∀ n s,I n s->wpAny (model prog w) A (pyNext it) (λr s₁=>match r with
   | none=>R (.ok .next) s₁
   | some v=>wpAny (model prog w) A (letOwnedTupleGo t1 it v) (λ_ s₁'=>wpAny (model prog w) A (assign t1 env v) (λ_ s₂ =>
     wpAny (model prog w) A (forIn f1 true λc r=>if r=true then do let ok <- isTrue c env (eval c env);pure (ForInStep.yield ok) else pure (ForInStep.yield r)) (λok s₃ =>
      if ok=true then wpAny (model prog w) A (eval i2 env) (λx s₄=>wpAny (model prog w) A (pyIter x) (λit2 s₅ =>
       codeAny (model prog w) A (.compStart (.ListComp elt [⟨t1,i1,f1,0⟩,⟨t2,i2,f2,0⟩] scope pos) 1 it2 acc env) (λr s₆=>match r with | .ok _=>∃ m,m<n/\I m s₆ | .error _=>False) s₅) Ex s₄) Ex s₃
      else ∃ m,m<n/\I m s₃) Ex s₂) Ex s₁') Ex s₁) Ex s)
  (n:Nat) (h:I n s) (hE:∀ e s',Ex e s'->notedBy (model prog w) A env (λe s''=>R (.error e) s'') e s'):codeAny (model prog w) A (.compLoop (.ListComp elt [⟨t1,i1,f1,0⟩,⟨t2,i2,f2,0⟩] scope pos) 0 it acc env) R s:=by
 refine codeAny_loop rfl I (λn s hI=>?_) n h
 show wpAny _ A ((compTurn (.ListComp elt [⟨t1,i1,f1,0⟩,⟨t2,i2,f2,0⟩] scope pos) 0 it acc env).onRaise (λx=>do noteFrame x env;theTreesLotGoes x)) _ _ s
 refine wpAny_noted ?_
 rw [xu]
 refine wpAny_bind (wpAny_standAt (wpAny_bind (wpAny_mono (turn n s hI) (λr s₁ h₁=>?_) λ_ _ h'=>hE _ _ h')))
 cases r with
 | none=>exact wpAny_pure h₁
 | some v =>
  refine wpAny_bind (wpAny_mono h₁ (λ_ s₁' h₁'=>?_) λ_ _ h'=>hE _ _ h')
  refine wpAny_bind (wpAny_mono h₁' (λ_ s₂ h₂=>wpAny_bind (wpAny_mono h₂ (λok s₃ h₃=>?_) λ_ _ h'=>hE _ _ h')) λ_ _ h'=>hE _ _ h')
  cases ok with
  | false=>exact wpAny_pure ⟨rfl,h₃⟩
  | true =>
   refine wpAny_bind (wpAny_mono h₃ (λx s₄ h₄=>?_) λ_ _ h'=>hE _ _ h')
   refine wpAny_bind (wpAny_standAt (wpAny_bind (wpAny_of_eq (hs x) (wpAny_bind (wpAny_holding (wpAny_mono h₄ (λit2 s₅ h₅=>?_) λ_ _ h'=>hE _ _ h'))))))
   refine wpAny_bind (wpAny_runOwn (codeAny_mono h₅ λr s₆ h₆=>?_))
   cases r with
   | ok f=>exact wpAny_pure ⟨rfl,h₆⟩
   | error e=>exact h₆.elim
theorem xh {prog:Program} {w:World} {A:Around} {R:Result->Shared->Prop} {s:Shared} {elt t1 i1 t2 i2:Expr} {f1 f2:List Expr} {scope:Scope} {pos:Pos} {it acc:Value} {env:Env}
  (h0:codeAny (model prog w) A (.compLoop (.ListComp elt [⟨t1,i1,f1,0⟩,⟨t2,i2,f2,0⟩] scope pos) 1 it acc env) R s)
  (h:wpAny (model prog w) A (pyIter it) (λit' s'=>codeAny (model prog w) A (.compLoop (.ListComp elt [⟨t1,i1,f1,0⟩,⟨t2,i2,f2,0⟩] scope pos) 1 it' acc env) R s')
   (notedBy (model prog w) A env λx s'=>R (.error x) s') s) :
  codeAny (model prog w) A (.compStart (.ListComp elt [⟨t1,i1,f1,0⟩,⟨t2,i2,f2,0⟩] scope pos) 1 it acc env) R s:=by
 refine codeAny_of_tree ?_
 show wpAny _ _ ((compStart (.ListComp elt [⟨t1,i1,f1,0⟩,⟨t2,i2,f2,0⟩] scope pos) 1 it acc env).onRaise (λx=>do noteFrame x env;standAt theWindowsPlace)) _ _ s
 refine wpAny_notedAt ?_
 unfold compStart
 show wpAny _ _ (ask >>= _) _ _ s
 refine wpAny_bind (wpAny_askSetting (wpAny_ite ?_))
 split
 ·first
   | exact wpAny_bind (wpAny_pure (wpAny_pure (And.intro rfl h0)))
   | exact wpAny_pure (And.intro rfl h0)
 ·first
   | exact wpAny_bind (wpAny_rule (wpAny_bind (wpAny_standAt (wpAny_bind (wpAny_mono h (λit' s' h'=>wpAny_pure (And.intro rfl h')) λ_ _ x=>x)))))
   | (refine wpAny_bind (wpAny_rule ?_);show wpAny _ _ (standAt i2.pos >>= _) _ _ s;exact wpAny_bind (wpAny_standAt (wpAny_bind (wpAny_mono h (λit' s' h'=>wpAny_pure (And.intro rfl h')) λ_ _ x=>x))))
def cB (X:Cx) (Ex:Value->Shared->Prop) (N':List Str) (scope:Scope) (cl:List (Str × Addr)) (C:Addr) (s₂:Shared) (H₂:Hp) (fp:List Addr):Cx :=
 { X with N:=N',s₀:=s₂,H₀:=H₂,env:=compEnvC scope (cellsFrom (C+1) scope.names cl) C X.env,outer:=X.stack,stack:=X.stack,ex:=fp,fn:=λx=>scope.names.lookup x==some .cell,pn:=[],xe:=Ex }
abbrev cS (X:Cx):=cB X λ_ _=>False
def AllIn (env:Env):List (Str × Addr)->Prop
 | []=>True
 | p::r=>env.cells.lookup p.1=some p.2/\AllIn env r
theorem AllIn.get {env:Env}:∀{l:List (Str × Addr)},AllIn env l->∀ y c,l.lookup y=some c->env.cells.lookup y=some c
 | [],_,_,_,h=>by simp at h
 | (z,d)::r,a,y,c,h=>by
  rw [List.lookup_cons] at h
  cases e:y==z with
  | true =>
   rw [e] at h
   have q:y=z:=by simpa using e
   subst q
   cases h
   exact a.1
  | false =>
   rw [e] at h
   exact AllIn.get a.2 y c h
def cn (js:List (Option Nat)) (σ:St):St:=js.map λo=>match o with | none=>none | some j=>(σ[j]?).join
structure fJ (X:Cx) (N':List Str) (js:List (Option Nat)) (scope:Scope) (cl:List (Str × Addr)):Prop where
 clos:closureFor scope X.env=pure cl
 kind:scope.kind=.function
 nocell:∀ y∈scope.names,y.2=.cell->scope.names.lookup y.1=some .cell/\∀ p∈js.zip N',p.1.isSome=true->p.2≠y.1
 names:∀ y∈scope.names,y.2=.local->scope.names.lookup y.1=some .local
 sub:AllIn X.env cl
 has:∀ y∈scope.names,y.2=.free->(cl.lookup y.1).isSome=true
 jlen:js.length=N'.length
 jok:∀(i j:Nat) x,js[i]?=some (some j)->N'[i]?=some x->X.N[j]?=some x/\(cl.lookup x).isSome=true/\Bv X.env.scope x/\X.env.kindOf x≠some .local/\((relabel scope X.env).names.lookup x=some .cell∨(relabel scope X.env).names.lookup x=some .free)
theorem jR {scope:Scope} {env:Env} {x:Str} {k:NameKind} (h:(relabel scope env).names.lookup x=some k) (hk:k=.cell∨k=.free):∃ y∈scope.names,y.1=x/\(y.2=.free∨y.2=.cell):=by
 have hm:=PySem.mem_of_lookup h
 obtain⟨⟨n,q⟩,hm',e⟩:=List.mem_map.mp hm
 dsimp only at e
 split at e
 ·rename_i hc
  have e1:n=x:=congrArg Prod.fst e
  refine⟨(n,q),hm',e1,.inl ?_⟩
  have:(q==NameKind.free)=true:=by
   simp only [Bool.and_eq_true] at hc
   exact hc.1.1
  simpa using this
 ·have e1:n=x:=congrArg Prod.fst e
  have e2:q=k:=congrArg Prod.snd e
  refine⟨(n,q),hm',e1,?_⟩
  rcases hk with hk | hk
  ·exact .inr (e2.trans hk)
  ·exact .inl (e2.trans hk)
theorem iz {x:Str} {c:Addr}:∀(ns:List (Str × NameKind)) (n:Nat) (acc:List (Str × Addr)),(cellsFrom n ns acc).lookup x=some c->acc.lookup x=some c∨n<=c
 | [],_,_,h=>.inl h
 | (y,k)::r,n,acc,h=>by
  unfold cellsFrom at h
  split at h
  ·rcases iz r _ _ h with z | z
   ·rw [List.lookup_cons] at z
    split at z
    ·cases z;exact .inr (Nat.le_refl _)
    ·exact .inl z
   ·exact .inr (Nat.le_of_succ_le z)
  ·exact iz r _ _ h
theorem qt {x:Str} {c:Addr}:∀(ns:List (Str × NameKind)) (n:Nat) (acc:List (Str × Addr)),ns.lookup x=some .cell->(cellsFrom n ns acc).lookup x=some c->n<=c
 | [],_,_,h,_=>by cases h
 | (y,k)::r,n,acc,h,e=>by
  rw [List.lookup_cons] at h
  unfold cellsFrom at e
  split at h
  ·rename_i hy
   cases h
   rcases iz r _ _ e with z | z
   ·rw [List.lookup_cons,hy] at z
    cases z;exact Nat.le_refl _
   ·exact Nat.le_of_succ_le z
  ·split at e
   ·exact Nat.le_of_succ_le (qt r _ _ h e)
   ·exact qt r _ _ h e
theorem m8 {x:Str}:∀(ns:List (Str × NameKind)) (n:Nat) (acc:List (Str × Addr)),(∀ y∈ns,y.2=.cell->x≠y.1)->(cellsFrom n ns acc).lookup x=acc.lookup x
 | [],_,_,_=>rfl
 | (y,k)::r,n,acc,h=>by
  unfold cellsFrom
  split
  ·rename_i hk
   rw [m8 r _ _ λz hz=>h z (List.mem_cons_of_mem _ hz),List.lookup_cons]
   have:(x==y)=false:=by simpa using h (y,k) List.mem_cons_self (by simpa using hk)
   rw [this]
  ·exact m8 r _ _ λz hz=>h z (List.mem_cons_of_mem _ hz)
theorem qr:∀(ns:List (Str × NameKind)) (n:Nat) (acc:List (Str × Addr)),(∀ x c,acc.lookup x=some c->c<n)->(∀ x y c,acc.lookup x=some c->acc.lookup y=some c->x=y) ->
  ∀ x y c,(cellsFrom n ns acc).lookup x=some c->(cellsFrom n ns acc).lookup y=some c->x=y
 | [],_,_,_,h=>h
 | (z,k)::r,n,acc,hl,hi=>by
  unfold cellsFrom
  split
  ·refine qr r _ _ (λx c e=>?_) λx y c e1 e2=>?_
   ·rw [List.lookup_cons] at e
    split at e
    ·cases e;exact Nat.lt_succ_self _
    ·exact Nat.lt_succ_of_lt (hl x c e)
   ·rw [List.lookup_cons] at e1 e2
    split at e1<;>split at e2
    ·rename_i a _ b
     rw [eq_of_beq a,eq_of_beq b]
    ·cases e1;exact absurd (hl y _ e2) (Nat.lt_irrefl _)
    ·cases e2;exact absurd (hl x _ e1) (Nat.lt_irrefl _)
    ·exact hi x y c e1 e2
  ·exact qr r _ _ hl hi
theorem m7:∀(ns:List (Str × NameKind)) (h:Heap) (acc:List (Str × Addr)),(∀ x c,acc.lookup x=some c->∃ v,h.IsCell c v)->∀ x c,(cellsFrom h.objs.size ns acc).lookup x=some c->∃ v,(pushCells h ns).IsCell c v
 | [],_,_,h=>h
 | (z,k)::r,h,acc,hl=>by
  unfold cellsFrom pushCells
  split
  ·have:=m7 r (h.push { cls:=.type "cell",data:=.cell none }) ((z,h.objs.size)::acc) λx c e=>by
    rw [List.lookup_cons] at e
    split at e
    ·cases e;exact⟨none,_,Heap.get?_push_size _ rfl,rfl⟩
    ·obtain⟨v,q⟩:=hl x c e
     exact⟨v,q.keeps λb o e=>Heap.get?_push_of_some _ e⟩
   rwa [Heap.size_push] at this
  ·exact m7 r h acc hl
theorem l8 {M:Model} {A:Around} {E:Value->Shared->Prop} {s:Shared} {scope:Scope} {g:Addr} {cl:List (Str × Addr)} {qual:Str} {env:Env} {Q:Env->Shared->Prop}
  (h:Q (newEnv scope s.heap.objs.size g (cellsFrom (s.heap.objs.size+1) scope.names cl) qual none .none (some env) builtinsNs) { s with heap:=pushCells (s.heap.push { cls:=.type "dict",data:=.dict #[] }) scope.names }) :
  wpAny M A (newFunctionEnv scope g cl [] qual none .none (some env)) Q E s:=by
 simp only [newFunctionEnv,Option.isSome_some,if_true]
 refine wpAny_bind (wpAny_alloc ?_)
 refine wpAny_bind (wpAny_layCells _ (λname kind cells=>by cases hkc:kind==NameKind.cell<;>simp [hkc]) _ _ _ _ ?_)
 rw [show ({ s with heap:=s.heap.push { cls:=.type "dict",data:=.dict #[] } }:Shared).heap.objs.size=s.heap.objs.size+1 from Heap.size_push ..]
 exact wpAny_bind (wpAny_pure (wpAny_pure h))
def lobj (ys:List Value):Obj:={ cls:=.type "list",data:=.seq ys.toArray ys.length }
def lR (X:Cx) (ifs:List Expr) (t:TT):Prop :=
 ∀(pins:List (Addr × Obj)) (s:Shared) (σ:St) (H:Hp) (Q:Bool->Hp->Prop),Inv X pins σ H s->t σ H Q ->
  wpAny (model X.prog X.w) X.A (forIn ifs true λc r=>if r=true then do let ok <- isTrue c X.env (eval c X.env);pure (ForInStep.yield ok) else pure (ForInStep.yield r)) (TP X pins σ Q) X.xe s
def z5:TT:=λ_ H Q=>Q true H
theorem bD {X:Cx}:lR X [] z5:=λpins s σ H Q I h=>wpAny_tests_nil ⟨H,I,h⟩
theorem dE {X:Cx} {c:Expr} {t:TT} (h:PT X c t):lR X [c] t:=λpins s σ H Q I q=>wpAny_tests_one (h pins s σ H Q I q)
def bM:List (Option V)->List (Option V)->Prop
 | [],[]=>True
 | none::r,_::r'=>bM r r'
 | some v::r,some u::r'=>u=v/\bM r r'
 | _,_=>False
theorem bM.len:∀{a b:List (Option V)},bM a b->a.length=b.length
 | [],[],_=>rfl
 | none::r,_::r',h=>by simp [bM.len (a:=r) (b:=r') h]
 | some v::r,some u::r',h=>by simp [bM.len (a:=r) (b:=r') h.2]
 | some v::r,none::r',h=>h.elim
 | some v::r,[],h=>h.elim
 | none::r,[],h=>h.elim
 | [],_::_,h=>h.elim
theorem bM.get:∀{a b:List (Option V)},bM a b->∀(i:Nat) v,a[i]?=some (some v)->b[i]?=some (some v)
 | [],[],_,i,v,h=>by simp at h
 | none::r,_::r',h,0,v,e=>by simp at e
 | none::r,_::r',h,i+1,v,e=>by
  have:=bM.get (a:=r) (b:=r') h i v (by simpa using e)
  simpa using this
 | some v::r,some u::r',h,0,v',e=>by
  have q:v=v':=by simpa using e
  have:=h.1
  simp [this,q]
 | some v::r,some u::r',h,i+1,v',e=>by
  have:=bM.get (a:=r) (b:=r') h.2 i v' (by simpa using e)
  simpa using this
 | some v::r,none::r',h,_,_,_=>h.elim
 | some v::r,[],h,_,_,_=>h.elim
 | none::r,[],h,_,_,_=>h.elim
 | [],_::_,h,_,_,_=>h.elim
def Dc (js:List (Option Nat)) (wi:TI) (g:TG) (tt:TT) (te:TE):TE:=λσ H Q=>wi σ H λJ H1=>∃ W:Nat->Nat->List V->Hp->Prop,(∃ m,W 0 m [] H1)/\∀ i m ys H,W i m ys H ->
 (J.stop i H/\ys.length<=sizeLine/\∀ p,H p=none->Q (.ref p) (upd H p (.lst ys))) ∨
 (J.go i H/\ys.length<sizeLine/\∃ N:List V->Hp->Prop,(∀ ys' H',N ys' H'->∃ m',m'<m/\W (i+1) m' ys' H') /\
  ∀ x H',J.yld i H x H'->g x (cn js σ) H' λσ2 H2=>bM (cn js σ) σ2/\tt σ2 H2 λb H3=>if b=true then te σ2 H3 λv H4=>N (ys++[v]) H4 else N ys H3)
structure lQ (X:Cx) (C:Addr) (s₂:Shared) (H₂:Hp) (fp:List Addr):Prop where
 inv:∃ pins σ,Inv X pins σ H₂ s₂
 new:∀ b∈fp,X.s₀.heap.objs.size<=b∨b∈X.ex
 nof:∀ b∈uD X.stack,b∉fp
 le:s₂.heap.objs.size<=C
def Ad (X:Cx) (elt target:Expr) (gens:List Comprehension) (ifs:List Expr) (scope:Scope) (pos:Pos) (Bd:(Value->Shared->Prop)->Value->Env->(Shared->Prop)->Shared->Prop):Prop :=
 ∀(Ex:Value->Shared->Prop) (R:Result->Shared->Prop) (s:Shared) (it acc:Value) (env:Env) (I:Nat->Shared->Prop),
  (∀ n s,I n s->wpAny (model X.prog X.w) X.A (pyNext it) (λr s₁=>match r with
   | none=>R (.ok .next) s₁
   | some v=>wpAny (model X.prog X.w) X.A (letOwnedTupleGo target it v) (λ_ s₁'=>wpAny (model X.prog X.w) X.A (assign target env v) (λ_ s₂ =>
     wpAny (model X.prog X.w) X.A (forIn ifs true λc r=>if r=true then do let ok <- isTrue c env (eval c env);pure (ForInStep.yield ok) else pure (ForInStep.yield r)) (λok s₃ =>
      if ok=true then Bd Ex acc env (λs₅=>∃ m,m<n/\I m s₅) s₃ else ∃ m,m<n/\I m s₃) Ex s₂) Ex s₁') Ex s₁) Ex s) ->
  ∀ n,I n s->(∀ e s',Ex e s'->notedBy (model X.prog X.w) X.A env (λe s''=>R (.error e) s'') e s')->codeAny (model X.prog X.w) X.A (.compLoop (.ListComp elt gens scope pos) 0 it acc env) R s
structure ma (Y:Cx) (D:Addr) (P:List (Addr × Obj)):Prop where
 ne:∀ p∈P,p.1≠D
 new:Y.s₀.heap.objs.size<=D
 cell:∀ x c,Y.env.cells.lookup x=some c->c≠D
theorem vI {X:Cx} {Ex:Addr->Shared->Hp->List Addr->Value->Shared->Prop} {elt target iter:Expr} {rest:List Comprehension} {ifs:List Expr} {scope:Scope} {pos:Pos} {N':List Str} {js:List (Option Nat)} {cl:List (Str × Addr)} {g:TG} {tt:TT} {Cc:List V->Prop} {tb:List V->St->Hp->(List V->Hp->Prop)->Prop} {Bd:(Value->Shared->Prop)->Value->Env->(Shared->Prop)->Shared->Prop} (hcalm:X.calm=true) (hloop:Ad X elt target (⟨target,iter,ifs,0⟩::rest) ifs scope pos Bd)
  (K:fJ X N' js scope cl)
  (hg:∀ C s₂ H₂ fp,lQ X C s₂ H₂ fp->PG (cB X (Ex C s₂ H₂ fp) N' scope cl C s₂ H₂ fp) target g) (ht:∀ C s₂ H₂ fp,lQ X C s₂ H₂ fp->lR (cB X (Ex C s₂ H₂ fp) N' scope cl C s₂ H₂ fp) ifs tt) (hB:∀ C s₂ H₂ fp,lQ X C s₂ H₂ fp->∀(D:Addr) ys vys P σ H s N Ps,Inv (cB X (Ex C s₂ H₂ fp) N' scope cl C s₂ H₂ fp) ([(D,lobj ys)]++P) σ H s->Vals vys ys->ma (cB X (Ex C s₂ H₂ fp) N' scope cl C s₂ H₂ fp) D P->Cc vys->tb vys σ H N ->
   (∀ ys' vys' H' s',Inv (cB X (Ex C s₂ H₂ fp) N' scope cl C s₂ H₂ fp) ([(D,lobj ys')]++P) σ H' s'->Vals vys' ys'->N vys' H'->Ps s')->Bd (Ex C s₂ H₂ fp) (.ref D) (cB X (Ex C s₂ H₂ fp) N' scope cl C s₂ H₂ fp).env Ps s)
  (herr:∀ C s₂ H₂ fp use Q' acc e s',Ex C s₂ H₂ fp e s'->notedBy (model X.prog X.w) X.A (compEnvC scope (cellsFrom (C+1) scope.names cl) C X.env) (λe s''=>compPost (model X.prog X.w) X.A X.xe use Q' acc C (.error e) s'') e s')
  {pins:List (Addr × Obj)} {σ:St} {Q:VK} {use:Option (Value->Sem Unit)} {Q':Value->Shared->Prop} {itv:Value} {s2:Shared}
  (h2:C6 X pins σ target (λJ H1=>∃ W:Nat->Nat->List V->Hp->Prop,(∃ m,W 0 m [] H1)/\∀ i m ys H,W i m ys H ->
 (J.stop i H/\ys.length<=sizeLine/\∀ p,H p=none->Q (.ref p) (upd H p (.lst ys))) ∨
 (J.go i H/\Cc ys/\∃ N:List V->Hp->Prop,(∀ ys' H',N ys' H'->∃ m',m'<m/\W (i+1) m' ys' H') /\
  ∀ x H',J.yld i H x H'->g x (cn js σ) H' λσ2 H2=>bM (cn js σ) σ2/\tt σ2 H2 λb H3=>if b=true then tb ys σ2 H3 N else N ys H3)) itv s2)
  (hok:∀ C D vys H4 s5,(∃ m,s5.heap.Ns C m)->s2.heap.objs.size<=D->D<=C->D≠C->H4 D=none->H4 C=none->(∀ h',Heap.SameBut C s5.heap h'->Inv X pins σ (upd H4 D (.lst vys)) { s5 with heap:=h' })->Q (.ref D) (upd H4 D (.lst vys))->compPost (model X.prog X.w) X.A X.xe use Q' (.ref D) C (.ok .next) s5) :
  wpAny (model X.prog X.w) X.A (newList []) (λacc s₃=>wpAny (model X.prog X.w) X.A (newFunctionEnv scope X.env.globals cl [] X.env.qual none .none (some X.env)) (λcenv s₄ =>
   codeAny (model X.prog X.w) X.A (.compStart (.ListComp elt (⟨target,iter,ifs,0⟩::rest) scope pos) 0 itv acc { cenv with scope:=relabel scope X.env }) (compPost (model X.prog X.w) X.A X.xe use Q' acc cenv.locals) s₄) X.xe s₃) X.xe s2:=by
 obtain⟨it,fp,tn,J,H2,e,I2,T,st2,f2,W,⟨m0,w0⟩,turn⟩:=h2
 subst e
 refine wpAny_newObj_type (l8 ?_)
 dsimp only
 generalize hP2:s2.heap.push { cls:=.type "list",dict:=none,data:=.seq ([]:List Value).toArray }=P2
 generalize hh₁:pushCells (P2.push { cls:=.type "dict",data:=.dict #[] }) scope.names=h₁
 have hns₁:h₁.Ns P2.objs.size λ_=>none:=hh₁▸(Heap.Ns.new P2 (.type "dict")).keeps (pushCells_keeps _ _)
 have upP:∀ b o,P2.get? b=some o->h₁.get? b=some o:=λb o e=>hh₁▸pushCells_keeps _ _ b o (Heap.get?_push_of_some _ e)
 have hcel:∀ x c,(cellsFrom (P2.objs.size+1) scope.names cl).lookup x=some c->∃ v,h₁.IsCell c v:=by
  have:=m7 scope.names (P2.push { cls:=.type "dict",data:=.dict #[] }) cl λx c e=>by
   obtain⟨v,q⟩:=I2.cell x c (K.sub.get x c e)
   exact⟨v,q.keeps λb o e=>Heap.get?_push_of_some _ (hP2▸Heap.get?_push_of_some _ e)⟩
  rw [Heap.size_push,hh₁] at this
  exact this
 have hC:P2.objs.size=s2.heap.objs.size+1:=by rw [<- hP2,Heap.size_push]
 have hDC:s2.heap.objs.size≠P2.objs.size:=by rw [hC];exact Nat.ne_of_lt (Nat.lt_succ_self _)
 have below:∀ b,b<s2.heap.objs.size->b≠P2.objs.size/\b≠s2.heap.objs.size:=λb hb=>⟨by rw [hC];exact Nat.ne_of_lt (Nat.lt_succ_of_lt hb),Nat.ne_of_lt hb⟩
 have old:∀ b o,s2.heap.get? b=some o->h₁.get? b=some o:=λb o e=>upP b o (hP2▸Heap.get?_push_of_some _ e)
 have hacc:h₁.get? s2.heap.objs.size=some (lobj []):=upP _ _ (hP2▸Heap.get?_push_size _ rfl)
 generalize hCe:P2.objs.size=C at *
 generalize hDe:s2.heap.objs.size=D at *
 let Y:Cx:=cB X (Ex C s2 H2 fp) N' scope cl C s2 H2 fp
 have clLt:∀ y c,cl.lookup y=some c->c<D:=λy c e=>by
  obtain⟨v,q⟩:=I2.cell y c (K.sub.get y c e)
  rw [<- hDe]
  exact q.lt
 have cellsX:∀ y c,Y.env.cells.lookup y=some c->cl.lookup y=some c∨C+1<=c:=λy c e=>iz _ _ _ e
 have cellNe:∀ y c,Y.env.cells.lookup y=some c->c≠D:=λy c e=>by
  rcases cellsX y c e with z | z
  ·exact Nat.ne_of_lt (clLt y c z)
  ·exact Nat.ne_of_gt (by omega)
 have freshH:∀ a,D<=a->H2 a=none:=λa ha=>I2.hok.fresh (by rw [hDe];exact ha)
 have hDleC:D<=C:=by rw [hC];exact Nat.le_succ _
 have lc:lQ X C s2 H2 fp:=⟨⟨pins,σ,I2⟩,λb hb=>((f2 b hb).2.2.2.1).symm,λb hf hb=>by
   rcases List.mem_cons.mp (I2.jI b hf) with z | z
   ·exact (f2 b hb).2.1 z
   ·exact (f2 b hb).2.2.1 z,by rw [hDe];exact hDleC⟩
 have hbelowfp:∀ b∈fp,b<D:=λb hb=>by
  obtain⟨o,e,_⟩:=T.obj _ _ st2 b hb
  rw [<- hDe]
  exact Heap.lt_size e
 have okY:Y.Ok:=by
  refine⟨I2.ok.mod,K.kind,I2.ok.glob,I2.ok.blt,?_,qr _ _ _ (λx c e=>Nat.lt_succ_of_lt (Nat.lt_of_lt_of_le (clLt x c e) hDleC)) (λx y c e1 e2=>I2.ok.inj x y c (K.sub.get x c e1) (K.sub.get y c e2)),λx hx=>?_,λx c hf hc=>?_,I2.ok.hd,I2.ok.frames,.inl rfl,λb hb=>?_,I2.bs,Nat.le_trans I2.ok.bsz I2.sz,λb o e hb=>?_,λb hb hf=>?_,I2.stack,I2.sS⟩
  ·show s2.heap.objs.size<=C
   rw [hDe];exact hDleC
  ·have hx':(relabel scope X.env).names.lookup x=some .cell∨(relabel scope X.env).names.lookup x=some .free:=hx
   have:∃ y∈scope.names,y.1=x/\(y.2=.free∨y.2=.cell):=by
    rcases hx' with q | q
    ·exact jR q (.inl rfl)
    ·exact jR q (.inr rfl)
   obtain⟨y,hm,e1,e2⟩:=this
   refine Option.isSome_iff_exists.mp (PySem.W.cellsFrom_some _ _ _ ?_)
   rcases e2 with e2 | e2
   ·have q:=K.has y hm e2
    rw [e1] at q
    exact .inr q
   ·exact .inl (e1▸(K.nocell y hm e2).1)
  ·have hf':scope.names.lookup x=some .cell:=by simpa using (show (scope.names.lookup x==some .cell)=true from hf)
   have:=qt _ _ _ hf' hc
   show s2.heap.objs.size<=c
   rw [hDe];exact Nat.le_trans hDleC (Nat.le_of_succ_le this)
  ·refine⟨Nat.ne_of_lt (Nat.lt_of_lt_of_le (hbelowfp b hb) hDleC),λx c e=>?_⟩
   rcases cellsX x c e with z | z
   ·exact (f2 b hb).2.2.2.2.1 x c (K.sub.get x c z)
   ·exact Nat.ne_of_gt (Nat.lt_of_lt_of_le (Nat.lt_of_lt_of_le (hbelowfp b hb) hDleC) (Nat.le_of_succ_le z))
  ·rcases (f2 b hb).2.2.2.1 with z | z
   ·exact I2.ok.noex b o e z
   ·exact absurd (Nat.lt_of_lt_of_le (Heap.lt_size e) (Nat.le_trans I2.ok.bsz z)) (Nat.lt_irrefl _)
  ·rcases List.mem_cons.mp (I2.jI b hf) with z | z
   ·exact (f2 b hb).2.1 z
   ·exact (f2 b hb).2.2.1 z
 -- the block's names
 have locY:∀{s':Shared} {H':Hp} {σ':St},True:=λ{_ _ _}=>trivial
 have invY0:Inv Y [(D,lobj [])] (cn js σ) H2 { s2 with heap:=h₁ }:=by
  refine⟨okY,rfl,I2.bare,Un.kept old,⟨_,hns₁,λi x v e1 e2 vis=>?_⟩,hcel,freshH C hDleC,λy c e=>?_,λp hp=>?_,I2.hok.kept old,?_⟩
  ·-- a name of the block that has a value stands outside in a cell
   have e2':(cn js σ)[i]?=some (some v):=e2
   unfold cn at e2'
   rw [List.getElem?_map] at e2'
   cases ej:js[i]? with
   | none=>rw [ej] at e2';cases e2'
   | some o =>
    rw [ej] at e2'
    cases o with
    | none=>cases e2'
    | some j =>
     obtain⟨n1,n2,n3,n4,n5⟩:=K.jok i j x ej e1
     have e3:(σ[j]?).join=some v:=by simpa using e2'
     have e4:σ[j]?=some (some v):=by
      cases q:σ[j]? with
      | none=>rw [q] at e3;cases e3
      | some z=>rw [q] at e3;simpa using e3
     obtain⟨m,hn,hl⟩:=I2.loc
     obtain⟨u,r,l⟩:=hl j x v n1 e4 n3
     refine⟨u,r,.inr ⟨n5,?_⟩⟩
     rcases l with⟨k,_⟩|⟨k,c,ec,z⟩
     ·exact absurd k n4
     ·obtain⟨c',ec'⟩:=Option.isSome_iff_exists.mp n2
      have ee:=K.sub.get x c' ec'
      rw [ec] at ee
      cases ee
      refine⟨c,(m8 _ _ _ λy hy hk=>(K.nocell y hy hk).2 (some j,x) ?_ rfl).trans ec',?_⟩
      ·exact List.mem_of_getElem? (i:=i) (by rw [List.getElem?_zip_eq_some];exact⟨ej,e1⟩)
      obtain⟨o,ho,hd⟩:=z
      exact⟨o,old c o ho,hd⟩
  ·rcases cellsX y c e with z | z
   ·exact I2.freeC y c (K.sub.get y c z)
   ·exact freshH c (by omega)
  ·have hp':p∈[(D,lobj [])]:=hp
   have e:p=(D,lobj []):=by simpa using hp'
   subst e
   refine⟨hacc,freshH D (Nat.le_refl _),hDC,λz=>?_,λv z=>by cases z⟩
   rcases List.mem_cons.mp (I2.jI D z) with q | q
   ·exact absurd (q▸I2.lt) (by rw [hDe];exact Nat.lt_irrefl _)
   ·exact I2.yk (by rw [hDe];exact Nat.le_refl _) q
  ·show (cn js σ).length=N'.length
   unfold cn
   rw [List.length_map]
   exact K.jlen
 have hDfs:D∉Y.fs:=λz=>by
  rcases List.mem_cons.mp (I2.jI D z) with q | q
  ·exact absurd (q▸I2.lt) (by rw [hDe];exact Nat.lt_irrefl _)
  ·exact I2.yk (by rw [hDe];exact Nat.le_refl _) q
 have stat:∀{H':Hp} {ys:List Value},(∀ b∈fp,H' b=none)->∀ b∈fp,lO Y [(D,lobj ys)] H' b:=λ{H' ys} hn b hb=>by
  refine⟨hn b hb,Nat.ne_of_lt (Nat.lt_of_lt_of_le (hbelowfp b hb) hDleC),okY.exfs b hb,.inl hb,okY.exf b hb |>.2,λp hp=>?_⟩
  have hp':p∈[(D,lobj ys)]:=hp
  have e:p=(D,lobj ys):=by simpa using hp'
  subst e
  exact Nat.ne_of_gt (hbelowfp b hb)
 have loop:∀ s3:Shared,s3={ s2 with heap:=h₁ } ->
   codeAny (model X.prog X.w) X.A (.compLoop (.ListComp elt (⟨target,iter,ifs,0⟩::rest) scope pos) 0 (.ref it) (.ref D) (compEnvC scope (cellsFrom (C+1) scope.names cl) C X.env)) (compPost (model X.prog X.w) X.A X.xe use Q' (.ref D) C) s3:=by
  rintro s3 rfl
  refine hloop _ _ _ _ _ _ (λn s'=>∃ i ys vys H',Inv Y [(D,lobj ys)] (cn js σ) H' s'/\tn i s'.heap/\(∀ b∈fp,H' b=none)/\Vals vys ys/\W i n vys H') ?_ m0
   ⟨0,[],[],H2,invY0,T.keep _ _ _ st2 λb _ o e=>old b o e,λb hb=>(f2 b hb).1,.nil,w0⟩ λe s' z=>herr C s2 H2 fp use Q' (.ref D) e s' z
  rintro n s4 ⟨i,ys,vys,H4,I4,st4,fr4,rv,w4⟩
  rcases turn i n vys H4 w4 with⟨stop,hz,qn⟩|⟨go,hz,Nn,hN,step⟩
  ·refine bS (T.done Y rfl rfl rfl hcalm i _ s4 _ H4 (Ex C s2 H2 fp) I4 (stat fr4) st4 stop) λr s5 ⟨hr,I5⟩=>?_
   subst hr
   obtain⟨m5,hn5,_⟩:=I5.loc
   obtain⟨pD,nD,_,_,_⟩:=I5.pin (D,lobj ys) (by show _∈[(D,lobj ys)];simp)
   have nC:H4 C=none:=I5.free
   refine hok C D vys H4 s5 ⟨m5,hn5⟩ (Nat.le_refl _) hDleC hDC nD nC (λh' hsb=>?_) (qn D nD)
   have pD':h'.get? D=some (lobj ys):=hsb.extBut _ _ hDC pD
   refine I2.BN (s':={ s5 with heap:=h' }) (ch:=fp) I5.os ?_ ?_ I5.bare (λb hb=>?_)
   ·-- kept
    have u:=I5.base
    have neC:∀ b o,s2.heap.get? b=some o->b≠C/\b≠D:=λb o e=>by
     have:=Heap.lt_size e
     rw [hDe] at this
     exact⟨Nat.ne_of_lt (Nat.lt_of_lt_of_le this hDleC),Nat.ne_of_lt this⟩
    refine⟨λb o e nn hb hx=>hsb.extBut b o (neC b o e).1 (u.keep b o e nn hb hx),λb o e nn hb hx=>?_,λb o e nn hx=>?_,λb o e hx=>?_,λb xs e=>?_,λb o xs e=>?_,λb ps e=>?_⟩
    ·obtain⟨sl,q⟩:=u.slot b o e nn hb hx
     exact⟨sl,hsb.extBut b _ (neC b o e).1 q⟩
    ·rw [aJ (neC b o e).2]
     exact u.free b o e nn hx
    ·obtain⟨o',q⟩:=u.there b o e hx
     exact⟨o',hsb.extBut b _ (neC b o e).1 q⟩
    ·rw [aJ (bR (u.tups b xs e) nD)]
     exact u.tups b xs e
    ·rw [aJ (bR (u.frzs b o xs e) nD)]
     exact u.frzs b o xs e
    ·obtain⟨more,q⟩:=u.tbls b ps e
     exact⟨more,by rw [aJ (bR q nD)];exact q⟩
   ·intro b o e
    by_cases hb:b=D
    ·subst hb
     rw [ai] at e
     cases e
     exact⟨hz,ys,_,rv,pD'⟩
    ·rw [aJ hb] at e
     refine (I5.hok b o e).pZ (λc w' hc q=>hsb.extBut c w' ?_ q) (λc q=>by rw [aJ (bR q nD)];exact q) λc xs q=>by rw [aJ (bR q nD)];exact q
     rintro rfl
     rcases hc with rfl | hc
     ·rw [nC] at e;cases e
     ·rw [nC] at hc;cases hc
   ·exact⟨(f2 b hb).2.2.2.1,(f2 b hb).2.1,(f2 b hb).2.2.2.2.1,(f2 b hb).2.2.2.2.2⟩
  ·refine bS (T.item Y rfl rfl rfl hcalm i _ s4 _ H4 (Ex C s2 H2 fp) I4 (stat fr4) st4 go) λr s5 ⟨u,hr,h5⟩=>?_
   subst hr
   refine bS h5 λ_ s6 ⟨x,H6,I6,r6,y6,st6,fr6⟩=>?_
   have I6':=I6.pinned (stat fr6) (T.obj _ _ st6)
   refine bS (hg C s2 H2 fp lc _ s6 _ H6 x u _ I6' r6 (step x H6 y6)) λ_ s7 ⟨σ7,H7,I7,k7,q7⟩=>?_
   refine bS (ht C s2 H2 fp lc _ s7 σ7 H7 _ I7 q7) λb s8 ⟨H8,I8,q8⟩=>?_
   -- behind the tests and the element: the state goes back to what the next turn wants
   have again:∀{ys':List Value} {s9:Shared} {H9:Hp},Inv Y ([(D,lobj ys')]++fV fp s6.heap) σ7 H9 s9->Inv Y [(D,lobj ys')] (cn js σ) H9 s9/\tn (i+1) s9.heap/\∀ b∈fp,H9 b=none:=λ{ys' s9 H9} I9=>by
    refine⟨(I9.gE).weak k7.len k7.get,T.keep _ _ _ st6 λb hb o e=>(I9.pin (b,o) (List.mem_append_right _ (List.mem_append_right _ (c9 hb e)))).1,λb hb=>?_⟩
    obtain⟨o,e,d⟩:=T.obj _ _ st6 b hb
    exact (I9.pin (b,o) (List.mem_append_right _ (List.mem_append_right _ (c9 hb e)))).2.1
   cases b with
   | false =>
    rw [if_neg Bool.false_ne_true] at q8 ⊢
    obtain⟨m',hm,w8⟩:=hN _ _ q8
    obtain⟨J8,t8,f8⟩:=again I8
    exact⟨m',hm,i+1,ys,vys,H8,J8,t8,f8,rv,w8⟩
   | true =>
    rw [if_pos rfl] at q8 ⊢
    have aok:ma Y D (fV fp s6.heap):=⟨λp hp z=>absurd (hbelowfp p.1 (jx hp).1) (by rw [z];exact Nat.lt_irrefl _),by show s2.heap.objs.size<=D;rw [hDe];exact Nat.le_refl _,λx c e=>cellNe x c e⟩
    refine hB C s2 H2 fp lc D ys vys _ σ7 H8 s8 Nn _ I8 rv aok hz q8 λys' vys' H9 s9 I9 rv' q9=>?_
    obtain⟨J9,t9,f9⟩:=again I9
    obtain⟨m',hm,w9⟩:=hN _ _ q9
    exact⟨m',hm,i+1,ys',vys',H9,J9,t9,f9,rv',w9⟩
 exact codeAny_compStart_list (loop _ rfl) (T.self _ 0 _ _ _ (T.keep _ _ _ st2 λb _ o e=>old b o e) (loop _ rfl))
theorem xT {Y:Cx} {D:Addr} {ys:List Value} {P:List (Addr × Obj)} {σ:St} {H:Hp} {s:Shared} {y:Value} {Q:Value->Shared->Prop} {E:Value->Shared->Prop} (hpn:Y.pn=[]) (I:Inv Y ([(D,lobj ys)]++P) σ H s) (ok:ma Y D P) (z:ys.length<sizeLine)
  (q:∀ s',Inv Y ([(D,lobj (ys++[y]))]++P) σ H s'->Q .none s'):wpAny (model Y.prog Y.w) Y.A (call (.builtin "list.append") [.ref D,y]) Q E s:=by
 obtain⟨pD,nD,neD,nfD,_⟩:=I.pin (D,lobj ys) (by rw [hpn];simp)
 refine append_at (hsz:=by show ys.toArray.size<=sizeLine;rw [List.size_toArray];exact Nat.le_of_lt z) (show s.heap.get? D=some { cls:=.type "list",data:=.seq ys.toArray ys.length } from pD) λh' hsb hD'=>q _ ?_
 have eD:h'.get? D=some (lobj (ys++[y])):=by
  rw [hD']
  unfold lobj
  rw [List.length_append,List.length_singleton,List.push_toArray]
 have J1:Inv Y P σ H s:=I.gL λp hp=>I.pin p (List.mem_append_right _ (List.mem_append_right _ hp))
 have J2:Inv Y P σ H { s with heap:=h' }:=J1.turned (t':=s.toks) (it:=D) (λb o hb e=>hsb.extBut b o hb e) nD neD (.inr ok.new) ok.cell λp hp=>ok.ne p (by rw [hpn] at hp;simpa using hp)
 refine J2.gL λp hp=>?_
 rcases List.mem_append.mp hp with hp | hp
 ·have e:p=(D,lobj (ys++[y])):=by simpa using hp
  subst e
  exact⟨eD,nD,neD,nfD,λv z=>by cases z⟩
 ·exact J2.pin p (List.mem_append_right _ hp)
theorem oB {Y:Cx} {D:Addr} {ys:List Value} {vys:List V} {P:List (Addr × Obj)} {σ:St} {H:Hp} {s:Shared} {elt:Expr} {te:TE} {N:List V->Hp->Prop} {Ps:Shared->Prop} (hpn:Y.pn=[]) (he:PE Y elt te) (I:Inv Y ([(D,lobj ys)]++P) σ H s) (rv:Vals vys ys) (ok:ma Y D P) (z:vys.length<sizeLine) (q:te σ H λv H4=>N (vys++[v]) H4)
  (k:∀ ys' vys' H' s',Inv Y ([(D,lobj ys')]++P) σ H' s'->Vals vys' ys'->N vys' H'->Ps s'):wpAny (model Y.prog Y.w) Y.A (oA elt (.ref D) Y.env) (λ_ s'=>Ps s') Y.xe s:=by
 unfold oA
 refine wpAny_bind (bS (he _ s σ H _ I q) λy s9 ⟨vy,H9,I9,r9,q9⟩=>?_)
 exact wpAny_bind (xT hpn I9 ok (by rw [<- rv.length];exact z) λs' I'=>wpAny_pure (k _ _ _ _ I' (rv.append (.cons r9 .nil)) q9))
theorem rR {X:Cx} {Ex:Addr->Shared->Hp->List Addr->Value->Shared->Prop} {elt target iter:Expr} {ifs:List Expr} {scope:Scope} {pos:Pos} {N':List Str} {js:List (Option Nat)} {cl:List (Str × Addr)} {g:TG} {tt:TT} {te:TE} (hcalm:X.calm=true)
  (K:fJ X N' js scope cl)
  (hg:∀ C s₂ H₂ fp,lQ X C s₂ H₂ fp->PG (cB X (Ex C s₂ H₂ fp) N' scope cl C s₂ H₂ fp) target g) (ht:∀ C s₂ H₂ fp,lQ X C s₂ H₂ fp->lR (cB X (Ex C s₂ H₂ fp) N' scope cl C s₂ H₂ fp) ifs tt) (he:∀ C s₂ H₂ fp,lQ X C s₂ H₂ fp->PE (cB X (Ex C s₂ H₂ fp) N' scope cl C s₂ H₂ fp) elt te)
  (herr:∀ C s₂ H₂ fp use Q' acc e s',Ex C s₂ H₂ fp e s'->notedBy (model X.prog X.w) X.A (compEnvC scope (cellsFrom (C+1) scope.names cl) C X.env) (λe s''=>compPost (model X.prog X.w) X.A X.xe use Q' acc C (.error e) s'') e s')
  {pins:List (Addr × Obj)} {σ:St} {Q:VK} {use:Option (Value->Sem Unit)} {Q':Value->Shared->Prop} {itv:Value} {s2:Shared}
  (h2:C6 X pins σ target (λJ H1=>∃ W:Nat->Nat->List V->Hp->Prop,(∃ m,W 0 m [] H1)/\∀ i m ys H,W i m ys H ->
 (J.stop i H/\ys.length<=sizeLine/\∀ p,H p=none->Q (.ref p) (upd H p (.lst ys))) ∨
 (J.go i H/\ys.length<sizeLine/\∃ N:List V->Hp->Prop,(∀ ys' H',N ys' H'->∃ m',m'<m/\W (i+1) m' ys' H') /\
  ∀ x H',J.yld i H x H'->g x (cn js σ) H' λσ2 H2=>bM (cn js σ) σ2/\tt σ2 H2 λb H3=>if b=true then te σ2 H3 λv H4=>N (ys++[v]) H4 else N ys H3)) itv s2)
  (hok:∀ C D vys H4 s5,(∃ m,s5.heap.Ns C m)->s2.heap.objs.size<=D->D<=C->D≠C->H4 D=none->H4 C=none->(∀ h',Heap.SameBut C s5.heap h'->Inv X pins σ (upd H4 D (.lst vys)) { s5 with heap:=h' })->Q (.ref D) (upd H4 D (.lst vys))->compPost (model X.prog X.w) X.A X.xe use Q' (.ref D) C (.ok .next) s5) :
  wpAny (model X.prog X.w) X.A (newList []) (λacc s₃=>wpAny (model X.prog X.w) X.A (newFunctionEnv scope X.env.globals cl [] X.env.qual none .none (some X.env)) (λcenv s₄ =>
   codeAny (model X.prog X.w) X.A (.compStart (.ListComp elt [⟨target,iter,ifs,0⟩] scope pos) 0 itv acc { cenv with scope:=relabel scope X.env }) (compPost (model X.prog X.w) X.A X.xe use Q' acc cenv.locals) s₄) X.xe s₃) X.xe s2 :=
 vI (Bd:=λEx acc env Ps s=>wpAny (model X.prog X.w) X.A (oA elt acc env) (λ_ s'=>Ps s') Ex s) (Cc:=λys=>ys.length<sizeLine) (tb:=λys σ2 H3 N=>te σ2 H3 λv H4=>N (ys++[v]) H4) hcalm
  (λ_ _ _ it acc env I turn n h hE=>iA I (xt elt target iter ifs scope pos it acc env) turn n h hE) K hg ht
  (λC s₂ H₂ fp lc D ys vys P σ H s N Ps I rv ok z q k=>oB rfl (he C s₂ H₂ fp lc) I rv ok z q k) herr h2 hok
theorem c8 {X:Cx} {elt target iter:Expr} {ifs:List Expr} {scope:Scope} {pos:Pos} {N':List Str} {js:List (Option Nat)} {cl:List (Str × Addr)} {wi:TI} {g:TG} {tt:TT} {te:TE} (hcalm:X.calm=true)
  (K:fJ X N' js scope cl) (hi:PI X target iter wi)
  (hg:∀ C s₂ H₂ fp,PG (cS X N' scope cl C s₂ H₂ fp) target g) (ht:∀ C s₂ H₂ fp,lR (cS X N' scope cl C s₂ H₂ fp) ifs tt) (he:∀ C s₂ H₂ fp,PE (cS X N' scope cl C s₂ H₂ fp) elt te)
  (hs:∀ x,foldedSetIterable iter X.env x=pure x:=by intro _;rfl):PE X (.ListComp elt [⟨target,iter,ifs,0⟩] scope pos) (Dc js wi g tt te):=by
 intro pins s σ H Q I h
 rw [eval_ListComp]
 refine wpAny_comprehension_free (use:=none) rfl hs K.clos K.kind K.names (bS (hi pins s σ H _ I h) λv s1 h1=>bS h1 λitv s2 h2=>?_)
 exact rR (Ex:=λ_ _ _ _ _ _=>False) hcalm K (λC s H f _=>hg C s H f) (λC s H f _=>ht C s H f) (λC s H f _=>he C s H f) (λ_ _ _ _ _ _ _ _ _ z=>z.elim) h2 λC D vys H4 s5 ⟨m,hn⟩ _ _ _ _ _ hI q=>⟨m,hn,λh' hsb=>⟨.ref D,_,hI h' hsb,rfl,q⟩⟩
def Br (wi:TI) (g:TG) (tt:TT) (te:TE) (ys:List V) (σ:St) (H:Hp) (N:List V->Hp->Prop):Prop:=wi σ H λJ H1=>∃ W:Nat->Nat->List V->Hp->Prop,(∃ m,W 0 m ys H1)/\∀ i m zs H,W i m zs H ->
 (J.stop i H/\N zs H) ∨
 (J.go i H/\zs.length<sizeLine/\∃ N2:List V->Hp->Prop,(∀ zs' H',N2 zs' H'->∃ m',m'<m/\W (i+1) m' zs' H') /\
  ∀ x H',J.yld i H x H'->g x σ H' λσ2 H2=>bM σ σ2/\tt σ2 H2 λb H3=>if b=true then te σ2 H3 λv H4=>N2 (zs++[v]) H4 else N2 zs H3)
def CK (js:List (Option Nat)) (wi1:TI) (g1:TG) (tt1:TT) (wi2:TI) (g2:TG) (tt2:TT) (te:TE):TE:=λσ H Q=>wi1 σ H λJ H1=>∃ W:Nat->Nat->List V->Hp->Prop,(∃ m,W 0 m [] H1)/\∀ i m ys H,W i m ys H ->
 (J.stop i H/\ys.length<=sizeLine/\∀ p,H p=none->Q (.ref p) (upd H p (.lst ys))) ∨
 (J.go i H/\True/\∃ N:List V->Hp->Prop,(∀ ys' H',N ys' H'->∃ m',m'<m/\W (i+1) m' ys' H') /\
  ∀ x H',J.yld i H x H'->g1 x (cn js σ) H' λσ2 H2=>bM (cn js σ) σ2/\tt1 σ2 H2 λb H3=>if b=true then Br wi2 g2 tt2 te ys σ2 H3 N else N ys H3)
theorem uQ {Y:Cx} {D:Addr} {ys:List Value} {vys:List V} {P:List (Addr × Obj)} {σ:St} {H:Hp} {s:Shared} {elt t1 i1 t2 i2:Expr} {f1 f2:List Expr} {scope:Scope} {pos:Pos} {wi:TI} {g:TG} {tt:TT} {te:TE} {N:List V->Hp->Prop} {Ps:Shared->Prop} (hpn:Y.pn=[]) (hcalm:Y.calm=true) (hxe:Y.xe=λ_ _=>False) (hi:PI Y t2 i2 wi) (hg:PG Y t2 g) (ht:lR Y f2 tt) (he:PE Y elt te)
  (I:Inv Y ([(D,lobj ys)]++P) σ H s) (rv:Vals vys ys) (ok:ma Y D P) (q:Br wi g tt te vys σ H N)
  (k:∀ ys' vys' H' s',Inv Y ([(D,lobj ys')]++P) σ H' s'->Vals vys' ys'->N vys' H'->Ps s') :
  wpAny (model Y.prog Y.w) Y.A (eval i2 Y.env) (λx s₄=>wpAny (model Y.prog Y.w) Y.A (pyIter x) (λit2 s₅=>codeAny (model Y.prog Y.w) Y.A (.compStart (.ListComp elt [⟨t1,i1,f1,0⟩,⟨t2,i2,f2,0⟩] scope pos) 1 it2 (.ref D) Y.env) (λr s₆=>match r with | .ok _=>Ps s₆ | .error _=>False) s₅) Y.xe s₄) Y.xe s:=by
 refine bS (hi _ s σ H _ I q) λv s1 h1=>bS h1 λitv s2 h2=>?_
 obtain⟨it,fp,tn,J,H2,e,I2,T,st2,f2',W,⟨m0,w0⟩,turn⟩:=h2
 subst e
 have nDb:∀ b∈fp,D≠b:=λb hb=>(f2' b hb).2.2.2.2.2 (D,lobj ys) (by rw [hpn];simp)
 have stat:∀{ys':List Value} {H':Hp},(∀ b∈fp,H' b=none)->∀ b∈fp,lO Y ([(D,lobj ys')]++P) H' b:=λ{ys' H'} hn b hb=>by
  refine⟨hn b hb,(f2' b hb).2.1,(f2' b hb).2.2.1,(f2' b hb).2.2.2.1,(f2' b hb).2.2.2.2.1,λp hp=>?_⟩
  rw [hpn] at hp
  have hp':p∈[(D,lobj ys')]++P:=by simpa using hp
  rcases List.mem_append.mp hp' with z | z
  ·have e:p=(D,lobj ys'):=by simpa using z
   rw [e];exact nDb b hb
  ·exact (f2' b hb).2.2.2.2.2 p (by rw [hpn];exact List.mem_append_right _ (List.mem_append_right _ z))
 have loop:codeAny (model Y.prog Y.w) Y.A (.compLoop (.ListComp elt [⟨t1,i1,f1,0⟩,⟨t2,i2,f2,0⟩] scope pos) 1 (.ref it) (.ref D) Y.env) (λr s₆=>match r with | .ok _=>Ps s₆ | .error _=>False) s2:=by
  refine iA (Ex:=Y.xe) (λn s'=>∃ i zs vzs H',Inv Y ([(D,lobj zs)]++P) σ H' s'/\tn i s'.heap/\(∀ b∈fp,H' b=none)/\Vals vzs zs/\W i n vzs H') (y4 elt t1 i1 t2 i2 f1 f2 scope pos (.ref it) (.ref D) Y.env) ?_ m0
   ⟨0,ys,vys,H2,I2,st2,λb hb=>(f2' b hb).1,rv,w0⟩ λe s' z=>by rw [hxe] at z;exact z.elim
  rintro n s4 ⟨i,zs,vzs,H4,I4,st4,fr4,rz,w4⟩
  rcases turn i n vzs H4 w4 with⟨stop,qn⟩|⟨go,hz,Nn,hN,step⟩
  ·refine bS (T.done Y rfl rfl rfl hcalm i _ s4 _ H4 Y.xe I4 (stat fr4) st4 stop) λr s5 ⟨hr,I5⟩=>?_
   subst hr
   exact k zs vzs H4 s5 I5 rz qn
  ·refine bS (T.item Y rfl rfl rfl hcalm i _ s4 _ H4 Y.xe I4 (stat fr4) st4 go) λr s5 ⟨u,hr,h5⟩=>?_
   subst hr
   refine bS h5 λ_ s6 ⟨x,H6,I6,r6,y6,st6,fr6⟩=>?_
   have I6':=I6.pinned (stat fr6) (T.obj _ _ st6)
   refine bS (hg _ s6 _ H6 x u _ I6' r6 (step x H6 y6)) λ_ s7 ⟨σ7,H7,I7,k7,q7⟩=>?_
   refine bS (ht _ s7 σ7 H7 _ I7 q7) λb s8 ⟨H8,I8,q8⟩=>?_
   have again:∀{zs':List Value} {s9:Shared} {H9:Hp},Inv Y (([(D,lobj zs')]++P)++fV fp s6.heap) σ7 H9 s9->Inv Y ([(D,lobj zs')]++P) σ H9 s9/\tn (i+1) s9.heap/\∀ b∈fp,H9 b=none:=λ{zs' s9 H9} I9=>by
    refine⟨(I9.gE).weak k7.len k7.get,T.keep _ _ _ st6 λb hb o e=>(I9.pin (b,o) (List.mem_append_right _ (List.mem_append_right _ (c9 hb e)))).1,λb hb=>?_⟩
    obtain⟨o,e,d⟩:=T.obj _ _ st6 b hb
    exact (I9.pin (b,o) (List.mem_append_right _ (List.mem_append_right _ (c9 hb e)))).2.1
   cases b with
   | false =>
    rw [if_neg Bool.false_ne_true] at q8 ⊢
    obtain⟨m',hm,w8⟩:=hN _ _ q8
    obtain⟨J8,t8,f8⟩:=again I8
    exact⟨m',hm,i+1,zs,vzs,H8,J8,t8,f8,rz,w8⟩
   | true =>
    rw [if_pos rfl] at q8 ⊢
    have aok:ma Y D (P++fV fp s6.heap):=⟨λp hp z=>by
     rcases List.mem_append.mp hp with h | h
     ·exact ok.ne p h z
     ·exact nDb p.1 (jx h).1 z.symm,ok.new,ok.cell⟩
    rw [List.append_assoc] at I8
    refine oB hpn he I8 rz aok hz q8 λys' vys' H9 s9 I9 rv' q9=>?_
    rw [<- List.append_assoc] at I9
    obtain⟨J9,t9,f9⟩:=again I9
    obtain⟨m',hm,w9⟩:=hN _ _ q9
    exact⟨m',hm,i+1,ys',vys',H9,J9,t9,f9,rv',w9⟩
 exact xh loop (T.self _ 0 _ _ _ st2 loop)
theorem A0 {X:Cx} {elt t1 i1 t2 i2:Expr} {f1 f2:List Expr} {scope:Scope} {pos:Pos} {N':List Str} {js:List (Option Nat)} {cl:List (Str × Addr)} {wi1 wi2:TI} {g1 g2:TG} {tt1 tt2:TT} {te:TE} (hcalm:X.calm=true)
  (K:fJ X N' js scope cl) (hi:PI X t1 i1 wi1)
  (hg:∀ C s₂ H₂ fp,PG (cS X N' scope cl C s₂ H₂ fp) t1 g1) (ht:∀ C s₂ H₂ fp,lR (cS X N' scope cl C s₂ H₂ fp) f1 tt1)
  (hi2:∀ C s₂ H₂ fp,PI (cS X N' scope cl C s₂ H₂ fp) t2 i2 wi2) (hg2:∀ C s₂ H₂ fp,PG (cS X N' scope cl C s₂ H₂ fp) t2 g2) (ht2:∀ C s₂ H₂ fp,lR (cS X N' scope cl C s₂ H₂ fp) f2 tt2) (he:∀ C s₂ H₂ fp,PE (cS X N' scope cl C s₂ H₂ fp) elt te)
  (hs:∀ x,foldedSetIterable i1 X.env x=pure x:=by intro _;rfl) (hs2:∀ env x,foldedSetIterable i2 env x=pure x:=by intro _ _;rfl) :
  PE X (.ListComp elt [⟨t1,i1,f1,0⟩,⟨t2,i2,f2,0⟩] scope pos) (CK js wi1 g1 tt1 wi2 g2 tt2 te):=by
 intro pins s σ H Q I h
 rw [eval_ListComp]
 refine wpAny_comprehension_free (use:=none) rfl hs K.clos K.kind K.names (bS (hi pins s σ H _ I h) λv s1 h1=>bS h1 λitv s2 h2=>?_)
 refine vI (Ex:=λ_ _ _ _ _ _=>False) (Bd:=λEx acc env Ps s=>wpAny (model X.prog X.w) X.A (eval i2 env) (λx s₄=>wpAny (model X.prog X.w) X.A (pyIter x) (λit2 s₅=>codeAny (model X.prog X.w) X.A (.compStart (.ListComp elt [⟨t1,i1,f1,0⟩,⟨t2,i2,f2,0⟩] scope pos) 1 it2 acc env) (λr s₆=>match r with | .ok _=>Ps s₆ | .error _=>False) s₅) Ex s₄) Ex s) (Cc:=λ_=>True) (tb:=Br wi2 g2 tt2 te) hcalm
  (λ_ _ _ it acc env I turn n h hE=>nc I (hs2 env) turn n h hE) K (λC s H f _=>hg C s H f) (λC s H f _=>ht C s H f)
  (λC s₂ H₂ fp lc D ys vys P σ H s N Ps I rv ok z q k=>uQ (Y:=cS X N' scope cl C s₂ H₂ fp) rfl hcalm rfl (hi2 C s₂ H₂ fp) (hg2 C s₂ H₂ fp) (ht2 C s₂ H₂ fp) (he C s₂ H₂ fp) I rv ok q k) (λ_ _ _ _ _ _ _ _ _ z=>z.elim) h2 λC D vys H4 s5 ⟨m,hn⟩ _ _ _ _ _ hI q=>⟨m,hn,λh' hsb=>⟨.ref D,_,hI h' hsb,rfl,q⟩⟩
def Bd (i:Int):Prop:=i.natAbs<2^4000
theorem uP:(10:Nat)^250<=2^4000:=by decide +kernel
theorem Bd.of {i:Int} (h1:-(10^250)<i) (h2:i<10^250):Bd i:=by
 refine Nat.lt_of_lt_of_le ?_ uP
 have:((10:Nat)^250:Nat)=((10:Int)^250).toNat:=by decide +kernel
 rw [this]
 omega
theorem Bd.mono {i j:Int} (h:Bd j) (h':i.natAbs<=j.natAbs):Bd i:=Nat.lt_of_le_of_lt h' h
theorem Bd.bits {i:Int} (h:Bd i):Builtin.Int.intBits i<=2^20 :=
 Nat.le_trans (intBits_le h) (by decide)
theorem Bd.Em {i j:Int} (h:Bd j):Builtin.divisionGoesByPylong i j=false:=by
 refine PyProof.noPylong_of_log2 ?_
 by_cases z:j.natAbs=0
 ·rw [z];decide
 ·exact Nat.lt_of_lt_of_le ((Nat.log2_lt z).mpr h) (by decide)
section
variable {X:Cx}
theorem bU:fE X (binaryOp .Mult) (rI (λi j=>Bd i/\Bd j) λi j=>.int (i*j)):=Bw λ_ _ _ _ _ _ _ hc q=>mul_int q (IntMulOk.of_bits hc.1.bits hc.2.bits)
theorem eI:fE X (binaryOp .FloorDiv) (rI (λ_ j=>0<j/\Bd j) λi j=>.int (i/j)):=Bw λi j _ _ _ _ _ hc q=>by
 have h1:(0:Int)<j:=hc.1
 exact floordiv_int (by omega) (by rw [Int.fdiv_eq_ediv_of_nonneg i (by omega)];exact q) (.inl hc.2.Em)
theorem oW:fE X (inplaceOp .FloorDiv) (rI (λ_ j=>0<j/\Bd j) λi j=>.int (i/j)):=Bw λi j _ _ _ _ _ hc q=>by
 have h1:(0:Int)<j:=hc.1
 exact ifloordiv_int (by omega) (by rw [Int.fdiv_eq_ediv_of_nonneg i (by omega)];exact q) (.inl hc.2.Em)
theorem vA:fE X (inplaceOp .Mult) (rI (λi j=>Bd i/\Bd j) λi j=>.int (i*j)):=Bw λ_ _ _ _ _ _ _ hc q=>imul_int q (IntMulOk.of_bits hc.1.bits hc.2.bits)
theorem rM {op:Operator} {r:R2} (ho:fE X (inplaceOp op) r):Ej X op r:=λpins s σ H x y v u Q I r1 r2 h=>ho pins s σ H x y v u Q I r1 r2 h
def z7 (i j k:Nat) (ta:TA):TS:=λD σ H=>ta σ H λvs H1=>∃ v w u,vs=[v,w,u]/\D.nx (((σ.set i (some v)).set j (some w)).set k (some u)) H1
theorem sE {i j k:Nat} {x y z:Str} {a b c:Expr} {ta:TA} {px py pz pt pos:Pos} {kt k2 pt2} (hc:X.calm=true) (hN:X.N.Nodup) (hi:X.N[i]?=some x) (hj:X.N[j]?=some y) (hk:X.N[k]?=some z) (hij:i≠j) (hik:i≠k) (hjk:j≠k)
  (hx:X.env.scope.names.lookup x=some .local) (hy:X.env.scope.names.lookup y=some .local) (hz:X.env.scope.names.lookup z=some .local) (ha:PA X [a,b,c] ta)
  (hw:swappedStores [.Tuple [.Name x px,.Name y py,.Name z pz] kt pt] (.Tuple [a,b,c] k2 pt2) X.env=pure (some [x,y,z]))
  (hs:swapsWithSole [.Tuple [.Name x px,.Name y py,.Name z pz] kt pt] (.Tuple [a,b,c] k2 pt2) pos.line X.env=pure false:=by rfl) :
  PS X (.Assign [.Tuple [.Name x px,.Name y py,.Name z pz] kt pt] (.Tuple [a,b,c] k2 pt2) pos) (z7 i j k ta):=by
 intro pins s σ H D I h
 rw [exec_Assign_arm]
 refine wpAny_bind (wpAny_standAt ?_)
 rw [hs]
 refine wpAny_bind (wpAny_pure ?_)
 rw [if_neg (by decide)]
 refine wpAny_bind (Tuple_ (bS (ha _ pins s σ H _ I h) λus s1 ⟨vs,H1,I1,r1,q1⟩=>?_))
 obtain⟨v,w,u,e1,q1⟩:=q1
 subst e1
 obtain⟨u1,u2,u3,rfl,rv,rw',ru⟩:∃ u1 u2 u3,us=[u1,u2,u3]/\RelV v u1/\RelV w u2/\RelV u u3:=by
  cases r1 with
  | cons p q =>
   cases q with
   | cons p' q' =>
    cases q' with
    | cons p'' q'' =>
     cases q''
     exact⟨_,_,_,rfl,p,p',p''⟩
 refine wpAny_newObj_type ?_ (by show 3<=sizeLine;decide)
 have I2:Inv X pins σ H1 { s1 with heap:=s1.heap.push { cls:=.type "tuple",data:=.seq [u1,u2,u3].toArray } }:=I1.kept (t':=s1.toks) λb o e=>Heap.get?_push_of_some _ e
 rw [hw]
 refine wpAny_bind (wpAny_pure ?_)
 show wpAny (model X.prog X.w) X.A (do rule "assign.swapped-stores";let items <- unpackItems (.ref s1.heap.objs.size) 3 none;assignInOrder [λv=>bindName X.env z v,λv=>bindName X.env y v,λv=>bindName X.env x v] items.reverse;pure Flow.next) _ _ _
 refine wpAny_bind (wpAny_rule (wpAny_bind (unpackItems_tuple (items:=#[u1,u2,u3]) (I.ok.hd hc) (IsTup.new s1.heap _) λh' hx'=>?_)))
 have I3:=I2.kept (h':=h') (t':=s1.toks) λb o e=>hx' b o (Nat.ne_of_lt (Heap.lt_size e)) e
 show wpAny _ _ (assignInOrder [λv=>bindName X.env z v,λv=>bindName X.env y v,λv=>bindName X.env x v] [u3,u2,u1] >>= λ_=>pure Flow.next) _ _ _
 refine wpAny_bind (assignInOrder_cons (wpAny_bindName (cY I3 hN hk (.inl hz) ru (λs2 I4=>?_) (.inr hz))))
 refine assignInOrder_cons (wpAny_bindName (cY I4 hN hj (.inl hy) rw' (λs3 I5=>?_) (.inr hy)))
 refine assignInOrder_cons (wpAny_bindName (cY I5 hN hi (.inl hx) rv (λs4 I6=>assignInOrder_nil (wpAny_pure ?_)) (.inr hx)))
 have e:((σ.set k (some u)).set j (some w)).set i (some v)=((σ.set i (some v)).set j (some w)).set k (some u):=by
  rw [List.set_comm _ _ (Ne.symm hij),List.set_comm _ _ (Ne.symm hik),List.set_comm _ _ (Ne.symm hjk)]
 rw [e] at I6
 exact⟨_,H1,I6,q1⟩
def A8 (K:PySem.W.Frag):List V->Hp->VK->Prop:=λxs H Q=>∃(a:Addr) (bs:List Bool),xs=[.ref a]/\aS K H a (bs.map V.bl)/\Q (.bl (bs.all id)) H
theorem dW (hc:X.calm=true):dG X (.builtin "all") (A8 X.K):=by
 intro pins s σ H xs us Q I r h
 obtain⟨a,bs,rfl,hq,q⟩:=h
 obtain⟨u,rfl,ru⟩:=vals1 r
 cases ru
 obtain⟨its,rv,p,hz⟩:=I.list hq
 have hl:=p.isList
 have hlt:a<s.heap.objs.size:=by obtain⟨_,e,_⟩:=hl;exact Heap.lt_size e
 have hb:∀(i:Nat) v,its[i]?=some v->∃ b,bs[i]?=some b/\v=.bool b:=λi v e=>by
  have hi:i<its.length:=(List.getElem?_eq_some_iff.mp e).1
  have hi2:i<bs.length:=by have:=rv.length;rw [List.length_map] at this;omega
  obtain⟨u,e1,e2⟩:=rv.get (i:=i) (x:=V.bl bs[i]) (by rw [List.getElem?_map,List.getElem?_eq_getElem hi2];rfl)
  rw [e] at e1
  cases e1
  exact⟨bs[i],List.getElem?_eq_getElem hi2,e2⟩
 have hln:its.length=bs.length:=by have:=rv.length;rw [List.length_map] at this;omega
 refine call_all_walk (wpAny_pyIter_list hl ?_)
 refine⟨s.heap.objs.size,[s.heap.objs.size,a],[s.heap.objs.size],its.toArray.size,_,_,λi=>(bs[i]?).getD true,rfl,Walks.list (A:=X.A.in1) (I.ok.hd hc) _ a (Nat.ne_of_lt hlt) its.toArray,
  ⟨⟨_,Heap.get?_push_size _ rfl,rfl,rfl⟩,hl.push _⟩,λi v s' Q' E' hP hQ=>?_,λh' tk hk=>?_⟩
 ·obtain⟨b,e,rfl⟩:=hb i v (by simpa using hP)
  simp only [e,Option.getD_some] at hQ
  exact wpAny_truthy_bool hQ
 ·have e:((List.range its.toArray.size).all λi=>(bs[i]?).getD true)=bs.all id:=by
   rw [List.size_toArray,hln,Bool.eq_iff_iff]
   simp only [List.all_eq_true,List.mem_range,id]
   constructor
   ·intro z b hb'
    obtain⟨i,hi,rfl⟩:=List.mem_iff_getElem.mp hb'
    have:=z i hi
    rwa [List.getElem?_eq_getElem hi,Option.getD_some] at this
   ·intro z i hi
    rw [List.getElem?_eq_getElem hi,Option.getD_some]
    exact z _ (List.getElem_mem hi)
  rw [e]
  exact⟨.bl _,H,I.kept λb o eb=>hk b o (λhm=>by rw [List.mem_singleton.mp hm] at eb;exact Nat.lt_irrefl _ (Heap.lt_size eb)) (Heap.get?_push_of_some _ eb),rfl,q⟩
end
def aA (K:PySem.W.Frag) (mg:Str->Option Value) (x:Str) (st:Stmt):Prop:=∃ f fd,xG K x x st f fd/\mg x=some (.ref f)
structure Callee (P:Program) (w:World) (K:PySem.W.Frag) (mg:Str->Option Value) (base:Heap) (CX:kA) (k:Nat) (x:Str) (ps:List Str) (sp:Sp):Prop where
 ex:∃ f fd,eE P w K mg base CX k f fd ps sp/\mg x=some (.ref f)/\PySem.W.keepIn K (.ref f)=true/\Binds K fd ps []
section
variable {P:Program} {w:World} {K:PySem.W.Frag} {mg:Str->Option Value} {base:Heap} {CX:kA} {k:Nat} {x:Str} {ps:List Str} {sp:Sp}
theorem Callee.imp {sp':Sp} (C:Callee P w K mg base CX k x ps sp) (h:∀ vs H Q E,sp' vs H Q E->sp vs H Q E):Callee P w K mg base CX k x ps sp':=by
 obtain⟨f,fd,F,a,b,c⟩:=C.ex
 exact⟨f,fd,F.imp h,a,b,c⟩
theorem Callee.mono {j:Nat} (C:Callee P w K mg base CX k x ps sp) (h:k<=j):Callee P w K mg base CX j x ps sp:=by
 obtain⟨f,fd,F,a,b,c⟩:=C.ex
 exact⟨f,fd,F.mono h,a,b,c⟩
theorem cV {X:Cx} {E:XK} {e:Expr} {es:List Expr} {t:TA} {p pos:Pos} (C:Callee X.prog X.w X.K X.mg X.base CX k x ps sp) (hr:dN k X.A) (hg:Gl X x) (hx:Passes CX X E)
  (ha:PA X (e::es) t) (hdb:(x==("__debug__":Str))=false:=by decide) (he:starEach (e::es) X.env=(false,eval e X.env)::starEach es X.env:=by rfl) (hpl:(backTo pos (starEach es X.env)).any (·.1)=false:=by rfl) :
  PE X (.Call (.Name x p) (e::es) [] pos) (sT sp [] E t):=by
 obtain⟨f,fd,F,hm,hk,hb⟩:=C.ex
 exact yG F hr hg hm hk hb .nil hx ha hdb he hpl
theorem tu {st:Stmt} {N:List Str} (D:aA K mg x st)
  (hb:∀(kV doc pm:Value) (an:Option Addr) (cdv ct:Value) (us:List Value),us.length=ps.length->bindArgs (PySem.W.fnOf x x (dh st) (cC st) (ao st) .none kV doc pm an cdv ct) ⟨us,[]⟩=pure (ps.zip us))
  (S:aC N ps (ao st)) (len:∀ vs H Q E,sp vs H Q E->vs.length=ps.length)
  (hbody:∀(f:Addr) (cdv:Value) (A:Around) (outer:List Env) (s:Shared) (H:Hp) (vs:List V) (Q:VK) (E:XK),dN k (A.deeper (envOfC x (ao st) s.heap.objs.size f cdv))->sp vs H Q E ->
   ∃ t,oo (lU aV P w K mg base N x (ao st) f cdv A outer s H E).vS (cC st) t/\t { nx:=λ_ H'=>Q .bY H',rt:=Q } (start N vs) H):Callee P w K mg base aV (k+1) x ps sp:=by
 obtain⟨f,fd,F,hm⟩:=D
 exact⟨f,fd,F.ok S len λcdv A outer s H vs Q E hr h=>hbody f cdv A outer s H vs Q E hr h,hm,F.kp,F.binds hb⟩
theorem uV {h:Heap} {f:Addr} {st:Stmt} {oc:Value} {od an:Option Addr} {osl:Array (Option Value)} {kV doc pm cdv ct:Value} (X:K.In h) (G:h.Ns mainGlobals mg)
  (a:PySem.W.nsIn K mainGlobals x=some (some (.ref f))) (l:K.lookup f=some ⟨oc,od,.func (PySem.W.fnOf x x (dh st) (cC st) (ao st) .none kV doc pm an cdv ct),osl⟩)
  (c:PySem.W.codeIn K cdv x=true) (kk:PySem.W.keepIn K (.ref f)=true):aA K mg x st:=⟨f,_,Av l c kk,PySem.W.mg_of X G a⟩
end
def jg (cl:List (Str × Addr)):List (Str × NameKind)->Prop
 | []=>True
 | y::r=>(match y.2 with | .free=>(cl.lookup y.1).isSome=true | _=>True)/\jg cl r
theorem jg.get {cl:List (Str × Addr)}:∀{l:List (Str × NameKind)},jg cl l->∀ y∈l,y.2=.free->(cl.lookup y.1).isSome=true
 | [],_,_,h,_=>nomatch h
 | z::r,a,y,h,e=>by
  rcases List.mem_cons.mp h with q | q
  ·subst q
   have:=a.1
   rw [e] at this
   exact this
  ·exact jg.get a.2 y q e
def iu (X:Cx) (scope:Scope) (cl:List (Str × Addr)):List (Option Nat)->List Str->Prop
 | none::r,_::n=>iu X scope cl r n
 | some j::r,x::n=>(X.N[j]?=some x/\(cl.lookup x).isSome=true/\(X.env.scope.names.lookup x=some .cell∨X.env.scope.names.lookup x=some .free)/\((relabel scope X.env).names.lookup x=some .cell∨(relabel scope X.env).names.lookup x=some .free))/\iu X scope cl r n
 | [],[]=>True
 | _,_=>False
theorem iu.len {X:Cx} {scope:Scope} {cl:List (Str × Addr)}:∀{js:List (Option Nat)} {N:List Str},iu X scope cl js N->js.length=N.length
 | [],[],_=>rfl
 | none::r,_::n,h=>by
  have h':iu X scope cl r n:=h
  simp [iu.len h']
 | some j::r,x::n,h=>by
  have h':iu X scope cl r n:=h.2
  simp [iu.len h']
 | [],_::_,h=>h.elim
 | none::_,[],h=>h.elim
 | some _::_,[],h=>h.elim
theorem iu.get {X:Cx} {scope:Scope} {cl:List (Str × Addr)}:∀{js:List (Option Nat)} {N:List Str},iu X scope cl js N->∀(i j:Nat) x,js[i]?=some (some j)->N[i]?=some x ->
  X.N[j]?=some x/\(cl.lookup x).isSome=true/\Bv X.env.scope x/\X.env.kindOf x≠some .local/\((relabel scope X.env).names.lookup x=some .cell∨(relabel scope X.env).names.lookup x=some .free)
 | [],[],_,i,j,x,e,_=>by simp at e
 | none::r,y::n,h,0,j,x,e,_=>by simp at e
 | none::r,y::n,h,i+1,j,x,e,e2=>iu.get (js:=r) (N:=n) h i j x (by simpa using e) (by simpa using e2)
 | some k::r,y::n,h,0,j,x,e,e2=>by
  have q:k=j:=by simpa using e
  have q2:y=x:=by simpa using e2
  subst q;subst q2
  obtain⟨a,b,c,d⟩:=h.1
  refine⟨a,b,?_,?_,d⟩
  ·rcases c with c | c
   ·exact .inr (.inl c)
   ·exact .inr (.inr c)
  ·intro z
   have z':X.env.scope.names.lookup y=some .local:=z
   rcases c with c | c
   ·rw [c] at z';cases z'
   ·rw [c] at z';cases z'
 | some k::r,y::n,h,i+1,j,x,e,e2=>iu.get (js:=r) (N:=n) h.2 i j x (by simpa using e) (by simpa using e2)
 | [],_::_,h,_,_,_,_,_=>h.elim
 | none::_,[],h,_,_,_,_,_=>h.elim
 | some _::_,[],h,_,_,_,_,_=>h.elim
theorem An {X:Cx} {N':List Str} {js:List (Option Nat)} {scope:Scope} {cl:List (Str × Addr)} (clos:closureFor scope X.env=pure cl) (kind:scope.kind=.function) (nocell:∀ y∈scope.names,y.2=.cell->scope.names.lookup y.1=some .cell/\∀ p∈js.zip N',p.1.isSome=true->p.2≠y.1)
  (names:∀ y∈scope.names,y.2=.local->scope.names.lookup y.1=some .local) (sub:AllIn X.env cl) (has:jg cl scope.names) (j:iu X scope cl js N'):fJ X N' js scope cl :=
 ⟨clos,kind,nocell,names,sub,has.get,j.len,j.get⟩
theorem boot_int:bootBuiltins "int"=some (.type "int"):=by decide +kernel
theorem boot_bool:bootBuiltins "bool"=some (.type "bool"):=by decide +kernel
theorem boot_tuple:bootBuiltins "tuple"=some (.type "tuple"):=by decide +kernel
theorem boot_list:bootBuiltins "list"=some (.type "list"):=by decide +kernel
theorem boot_abs:bootBuiltins "abs"=some (.builtin "abs"):=by decide +kernel
theorem boot_all:bootBuiltins "all"=some (.builtin "all"):=by decide +kernel
theorem boot_min:bootBuiltins "min"=some (.builtin "min"):=by decide +kernel
theorem aj {H:Hp} {p:Addr} {o:HO} (h:H p=none):aE H (upd H p o):=λb u q=>by rw [aJ (bR q h)];exact q
theorem cM {α:Type} {c:TT} {tb:TS} {D:Ends} {σ:St} {H:Hp} (S:α->St) (Pv:α->Hp->Prop) (μ:α->Nat) (x₀:α) (hσ:σ=S x₀) (h0:Pv x₀ H)
  (hs:∀ x H,Pv x H->c (S x) H λb H1=>if b=true then (∃ N:St->Hp->Prop,(∀ σ' H',N σ' H'->∃ y,σ'=S y/\Pv y H'/\μ y<μ x)/\tb { D with nx:=N,ct:=N,bk:=D.nx } (S x) H1) else D.nx (S x) H1):xp c tb D σ H:=by
 subst hσ
 refine⟨λm σ H=>∃ x,σ=S x/\Pv x H/\m=μ x,⟨_,x₀,rfl,h0,rfl⟩,?_⟩
 rintro m σ H ⟨x,rfl,p,rfl⟩
 have q:=hs x H p
 have e:(λb H1=>if b=true then (∃ N:St->Hp->Prop,(∀ σ' H',N σ' H'->∃ y,σ'=S y/\Pv y H'/\μ y<μ x)/\tb { D with nx:=N,ct:=N,bk:=D.nx } (S x) H1) else D.nx (S x) H1) =
   (λb H1=>if b=true then (∃ N:St->Hp->Prop,(∀ σ' H',N σ' H'->∃ m',m'<μ x/\∃ y,σ'=S y/\Pv y H'/\m'=μ y)/\tb { D with nx:=N,ct:=N,bk:=D.nx } (S x) H1) else D.nx (S x) H1):=by
  funext b H1
  cases b with
  | false=>rfl
  | true =>
   simp only [if_true]
   refine propext ⟨fun⟨N,hN,z⟩=>⟨N,λσ' H' n=>?_,z⟩,fun⟨N,hN,z⟩=>⟨N,λσ' H' n=>?_,z⟩⟩
   ·obtain⟨y,e1,e2,e3⟩:=hN σ' H' n
    exact⟨_,e3,y,e1,e2,rfl⟩
   ·obtain⟨m',l,y,e1,e2,e3⟩:=hN σ' H' n
    exact⟨y,e1,e2,e3▸l⟩
 rw [e] at q
 exact q
end L2
namespace Gcd
structure J (A B g u v ng nu nv:Int):Prop where
 g0:0<=g
 n0:0<=ng
 e1:u*A+v*B=g
 e2:nu*A+nv*B=ng
 ex:∃ s U NU V NV:Int,(s=1∨s = -1)/\0<=U/\0<=NU/\0<=V/\0<=NV/\u=s*U/\nu = -s*NU/\v = -s*V/\nv=s*NV/\g*NU+ng*U=B/\g*NV+ng*V=A /\
  (U<=1∨U<=B)/\(NU<=1∨NU<=B)/\(V<=1∨V<=A)/\(NV<=1∨NV<=A)
theorem J.start {A B:Int} (ha:0<=A) (hb:0<=B):J A B A 1 0 B 0 1 :=
 ⟨ha,hb,by grind,by grind,1,1,0,0,1,.inl rfl,by decide,by decide,by decide,by decide,by grind,by grind,by grind,by grind,by grind,by grind,.inl (by decide),.inl (by decide),.inl (by decide),.inl (by decide)⟩
theorem mF {n x B:Int} (hn:0<n) (hx:0<=x) (h:n*x<=B):x<=B:=by
 have:1*x<=n*x:=Int.mul_le_mul_of_nonneg_right hn hx
 omega
theorem J.turn {A B g u v ng nu nv:Int} (j:J A B g u v ng nu nv) (hn:0<ng) :
  J A B ng nu nv (g-g/ng*ng) (u-g/ng*nu) (v-g/ng*nv)/\(g-g/ng*ng)<ng/\0<=g/ng/\g/ng<=g:=by
 have q0:0<=g/ng:=Int.ediv_nonneg j.g0 j.n0
 have r:=Int.emod_def g ng
 have r0:=Int.emod_nonneg g (show ng≠0 by omega)
 have r1:=Int.emod_lt_of_pos g hn
 have ql:g/ng<=g:=Int.ediv_le_self ng j.g0
 have e1:=j.e1
 have e2:=j.e2
 have hc:g/ng*ng=ng*(g/ng):=Int.mul_comm _ _
 generalize g/ng=q at *
 obtain⟨s,U,NU,V,NV,hs,hU,hNU,hV,hNV,eu,enu,ev,env,b1,b2,l1,l2,l3,l4⟩:=j.ex
 have hqNU:0<=q*NU:=Int.mul_nonneg q0 hNU
 have hqNV:0<=q*NV:=Int.mul_nonneg q0 hNV
 have rr:0<=g-q*ng:=by omega
 have i1:ng*(U+q*NU)+(g-q*ng)*NU=B:=by grind
 have i2:ng*(V+q*NV)+(g-q*ng)*NV=A:=by grind
 have n1:0<=(g-q*ng)*NU:=Int.mul_nonneg rr hNU
 have n2:0<=(g-q*ng)*NV:=Int.mul_nonneg rr hNV
 refine⟨⟨j.n0,rr,e2,by grind,-s,NU,U+q*NU,NV,V+q*NV,by omega,hNU,by omega,hNV,by omega,by grind,by grind,by grind,by grind,i1,i2,l2,.inr (mF hn (by omega) (by omega)),l4,.inr (mF hn (by omega) (by omega))⟩,by omega,q0,ql⟩
structure C1 (a b g u v:Int):Prop where
 g0:0<=g
 lin:u*a+v*b=g
 da:g∣a
 db:g∣b
 bu:u.natAbs<=max 1 b.natAbs
 bv:v.natAbs<=max 1 a.natAbs
theorem BL {s U u:Int} (hs:s=1∨s = -1) (hU:0<=U) (e:u=s*U):u.natAbs=U.toNat:=by
 rcases hs with rfl | rfl<;>omega
theorem BK {s V v:Int} (hs:s=1∨s = -1) (hV:0<=V) (e:v = -s*V):v.natAbs=V.toNat:=by
 rcases hs with rfl | rfl<;>omega
theorem vt {a u:Int}:(if a<0 then -u else u).natAbs=u.natAbs:=by
 split
 ·exact Int.natAbs_neg u
 ·rfl
theorem vz {a u:Int}:(if a<0 then -u else u)*a=u*(if a<0 then -a else a):=by
 split
 ·rw [Int.neg_mul,Int.mul_neg]
 ·rfl
theorem vv {a g:Int} (h:g∣if a<0 then -a else a):g∣a:=by
 split at h
 ·exact Int.dvd_neg.mp h
 ·exact h
theorem vw {U b:Int} (h:U<=1∨U<=if b<0 then -b else b):U.toNat<=max 1 b.natAbs:=by
 split at h<;>omega
theorem J.done {a b g u v nu nv:Int} (j:J (if a<0 then -a else a) (if b<0 then -b else b) g u v 0 nu nv):C1 a b g (if a<0 then -u else u) (if b<0 then -v else v):=by
 have e1:=j.e1
 obtain⟨s,U,NU,V,NV,hs,hU,hNU,hV,hNV,eu,enu,ev,env,b1,b2,l1,l2,l3,l4⟩:=j.ex
 refine⟨j.g0,by rw [vz,vz];exact e1,vv ⟨NV,by rw [<- b2,Int.zero_mul,Int.add_zero]⟩,vv ⟨NU,by rw [<- b1,Int.zero_mul,Int.add_zero]⟩,?_,?_⟩
 ·rw [vt,BL hs hU eu]
  exact vw l1
 ·rw [vt,BK hs hV ev]
  exact vw l3
theorem J.small {A B g u v ng nu nv M:Int} (j:J A B g u v ng nu nv) (hA:0<=A) (hB:0<=B) (hAM:A<=M) (hBM:B<=M) (hM:1<=M):(-M<=u/\u<=M)/\(-M<=v/\v<=M)/\(-M<=nu/\nu<=M)/\(-M<=nv/\nv<=M):=by
 obtain⟨s,U,NU,V,NV,hs,hU,hNU,hV,hNV,eu,enu,ev,env,b1,b2,l1,l2,l3,l4⟩:=j.ex
 rcases hs with rfl | rfl
 ·refine⟨⟨?_,?_⟩,⟨?_,?_⟩,⟨?_,?_⟩,⟨?_,?_⟩⟩<;>omega
 ·refine⟨⟨?_,?_⟩,⟨?_,?_⟩,⟨?_,?_⟩,⟨?_,?_⟩⟩<;>omega
end Gcd
namespace L2
open PySem PySem.Spec PyProof.Rows
theorem aE.upd {H H1:Hp} {p:Addr} {o:HO} (h:aE H H1) (hp:H p=none):aE H (upd H1 p o):=λb u q=>by rw [aJ (bR q hp)];exact h b u q
theorem Ah {α:Type} {xs:List α} {k:Int} (h0:0<=k) (h1:k<xs.length):∃ v,qp xs k=some v/\xs[k.toNat]?=some v:=by
 have hk:k.toNat<xs.length:=by omega
 refine⟨xs[k.toNat],?_,List.getElem?_eq_getElem hk⟩
 have:=bF (xs:=xs) (j:=k.toNat) (List.getElem?_eq_getElem hk)
 rwa [Int.toNat_of_nonneg h0] at this
theorem cj {K:PySem.W.Frag} {H:Hp} {p:Addr} {xs:List V} {k:Int} {Q:VK} (h:aS K H p xs) (h0:0<=k) (h1:k<xs.length) (q:∀ v∈xs,Q v H):qT K (.ref p) (.int k) H Q:=by
 obtain⟨v,e,e2⟩:=Ah h0 h1
 exact⟨p,xs,k,v,rfl,rfl,h,e,q v (List.mem_of_getElem? e2)⟩
theorem AB {K:PySem.W.Frag} {H:Hp} {p:Addr} {xs:List V} {k:Int} {v:V} {Q:VK} (h:aS K H p xs) (h0:0<=k) (e:xs[k.toNat]?=some v) (q:Q v H):qT K (.ref p) (.int k) H Q:=by
 have:=bF e
 rw [Int.toNat_of_nonneg h0] at this
 exact⟨p,xs,k,v,rfl,rfl,h,this,q⟩
theorem xS {H:Hp} {p:Addr} {xs:List Int} {i:Int} {Q:VK} (h:H p=some (.lst (xs.map V.int))) (hz:xs.length<sizeLine) (q:Q .bY (upd H p (.lst ((xs++[i]).map V.int)))):nR (.ref p) [.int i] H Q :=
 ⟨p,xs.map V.int,.int i,rfl,rfl,h,by rw [List.length_map];exact hz,by rw [List.map_append] at q;exact q⟩
def Loop (J:It) (g:TG) (tb:TS) (D:Ends) (σ:St) (H:Hp):Prop:=∃ W:Nat->Nat->St->Hp->Prop,(∃ m,W 0 m σ H)/\∀ i m σ H,W i m σ H ->
 (J.stop i H/\D.nx σ H)∨(J.go i H/\∃ N:St->Hp->Prop,(∀ σ' H',N σ' H'->∃ m',m'<m/\W (i+1) m' σ' H')/\∀ x H',J.yld i H x H'->g x σ H' λσ2 H2=>tb { D with nx:=N,ct:=N,bk:=D.nx } σ2 H2)
theorem yY {wi:TI} {g:TG} {tb:TS} {D:Ends} {σ:St} {H:Hp}:CI wi g tb D σ H=wi σ H λJ H1=>Loop J g tb D σ H1:=rfl
theorem fu {lo:Int} {n:Nat} {g:TG} {tb:TS} {D:Ends} {σ:St} {H:Hp} (Pv:Nat->St->Hp->Prop) (h0:Pv 0 σ H)
  (hs:∀ i σ H,i<n->Pv i σ H->g (.int (lo+i)) σ H λσ2 H2=>tb { D with nx:=Pv (i+1),ct:=Pv (i+1),bk:=D.nx } σ2 H2) (hd:∀ σ H,Pv n σ H->D.nx σ H):Loop (xH lo n) g tb D σ H:=tH Pv h0 hs hd
theorem dS {K:PySem.W.Frag} {a:Addr} {xs:List V} {g:TG} {tb:TS} {D:Ends} {σ:St} {H:Hp} (Pv:Nat->St->Hp->Prop) (h0:Pv 0 σ H) (hl:∀ i σ H,i<=xs.length->Pv i σ H->aS K H a xs)
  (hs:∀ i x σ H,xs[i]?=some x->Pv i σ H->g x σ H λσ2 H2=>tb { D with nx:=Pv (i+1),ct:=Pv (i+1),bk:=D.nx } σ2 H2) (hd:∀ σ H,Pv xs.length σ H->D.nx σ H):Loop (xE K a) g tb D σ H:=vj Pv h0 hl hs hd
theorem vK {K:PySem.W.Frag} {a:Addr} {xs:List V} {g:TG} {tb:TS} {D:Ends} {σ:St} {H:Hp} (Pv:Nat->St->Hp->Prop) (h0:Pv 0 σ H) (hl:∀ i σ H,i<=xs.length->Pv i σ H->aY K H a xs)
  (hs:∀ i x σ H,xs[i]?=some x->Pv i σ H->g x σ H λσ2 H2=>tb { D with nx:=Pv (i+1),ct:=Pv (i+1),bk:=D.nx } σ2 H2) (hd:∀ σ H,Pv xs.length σ H->D.nx σ H):Loop (zg K a) g tb D σ H:=x9 Pv h0 hl hs hd
def kz (J:It) (js:List (Option Nat)) (g:TG) (tt:TT) (te:TE) (σ:St) (Q:VK) (H1:Hp):Prop:=∃ W:Nat->Nat->List V->Hp->Prop,(∃ m,W 0 m [] H1)/\∀ i m ys H,W i m ys H ->
 (J.stop i H/\ys.length<=sizeLine/\∀ p,H p=none->Q (.ref p) (upd H p (.lst ys))) ∨
 (J.go i H/\ys.length<sizeLine/\∃ N:List V->Hp->Prop,(∀ ys' H',N ys' H'->∃ m',m'<m/\W (i+1) m' ys' H') /\
  ∀ x H',J.yld i H x H'->g x (cn js σ) H' λσ2 H2=>bM (cn js σ) σ2/\tt σ2 H2 λb H3=>if b=true then te σ2 H3 λv H4=>N (ys++[v]) H4 else N ys H3)
theorem Bl {js:List (Option Nat)} {wi:TI} {g:TG} {tt:TT} {te:TE} {σ:St} {H:Hp} {Q:VK}:Dc js wi g tt te σ H Q=wi σ H λJ H1=>kz J js g tt te σ Q H1:=rfl
theorem bQ {K:PySem.W.Frag} {a:Addr} {xs:List V} {js:List (Option Nat)} {g:TG} {tt:TT} {te:TE} {σ:St} {Q:VK} {H1:Hp} (Pv:Nat->List V->Hp->Prop) (h0:Pv 0 [] H1) (hx:xs.length<=sizeLine) (hl:∀ i ys H,i<=xs.length->Pv i ys H->aS K H a xs/\ys.length<=i)
  (hs:∀ i x ys H,xs[i]?=some x->Pv i ys H->g x (cn js σ) H λσ2 H2=>bM (cn js σ) σ2/\tt σ2 H2 λb H3=>if b=true then te σ2 H3 λv H4=>Pv (i+1) (ys++[v]) H4 else Pv (i+1) ys H3)
  (hd:∀ ys H p,Pv xs.length ys H->H p=none->Q (.ref p) (upd H p (.lst ys))):kz (xE K a) js g tt te σ Q H1:=by
 refine⟨λi m ys H=>m=xs.length-i/\i<=xs.length/\Pv i ys H,⟨xs.length,by simp,Nat.zero_le _,h0⟩,?_⟩
 rintro i m ys H ⟨rfl,hi,p⟩
 obtain⟨q,hy⟩:=hl i ys H hi p
 by_cases hlt:i<xs.length
 ·refine .inr ⟨⟨xs,xs[i],q,by simp [hlt]⟩,by omega,Pv (i+1),λys' H' p'=>⟨xs.length-(i+1),by omega,rfl,hlt,p'⟩,λx H' y=>?_⟩
  obtain⟨e,y⟩:=y
  subst e
  exact hs i x ys _ (y xs q) p
 ·have e:i=xs.length:=by omega
  subst e
  exact .inl ⟨⟨xs,q,Nat.le_refl _⟩,by omega,λp' hp'=>hd ys H p' p hp'⟩
theorem jr {K:PySem.W.Frag} {a:Addr} {xs:List V} {js:List (Option Nat)} {g:TG} {tt:TT} {te:TE} {σ:St} {Q:VK} {H1:Hp} (Pv:Nat->List V->Hp->Prop) (h0:Pv 0 [] H1) (hx:xs.length<=sizeLine) (hl:∀ i ys H,i<=xs.length->Pv i ys H->aY K H a xs/\ys.length<=i)
  (hs:∀ i x ys H,xs[i]?=some x->Pv i ys H->g x (cn js σ) H λσ2 H2=>bM (cn js σ) σ2/\tt σ2 H2 λb H3=>if b=true then te σ2 H3 λv H4=>Pv (i+1) (ys++[v]) H4 else Pv (i+1) ys H3)
  (hd:∀ ys H p,Pv xs.length ys H->H p=none->Q (.ref p) (upd H p (.lst ys))):kz (zg K a) js g tt te σ Q H1:=by
 refine⟨λi m ys H=>m=xs.length-i/\i<=xs.length/\Pv i ys H,⟨xs.length,by simp,Nat.zero_le _,h0⟩,?_⟩
 rintro i m ys H ⟨rfl,hi,p⟩
 obtain⟨q,hy⟩:=hl i ys H hi p
 by_cases hlt:i<xs.length
 ·refine .inr ⟨⟨xs,xs[i],q,by simp [hlt]⟩,by omega,Pv (i+1),λys' H' p'=>⟨xs.length-(i+1),by omega,rfl,hlt,p'⟩,λx H' y=>?_⟩
  obtain⟨e,y⟩:=y
  subst e
  exact hs i x ys _ (y xs q) p
 ·have e:i=xs.length:=by omega
  subst e
  exact .inl ⟨⟨xs,q,Nat.le_refl _⟩,by omega,λp' hp'=>hd ys H p' p hp'⟩
theorem EH {CX:kA} {P:Program} {w:World} {K:PySem.W.Frag} {mg:Str->Option Value} {base:Heap} {N:List Str} {qual:Str} {scope:Scope} {f:Addr} {cd:Value} {A:Around} {outer:List Env} {s:Shared} {H:Hp} {E:XK} :
  (lU CX P w K mg base N qual scope f cd A outer s H E).K=K:=rfl
theorem BO {X:Cx} {N':List Str} {scope:Scope} {cl:List (Str × Addr)} {C:Addr} {s₂:Shared} {H₂:Hp} {fp:List Addr}:(cS X N' scope cl C s₂ H₂ fp).K=X.K:=rfl
theorem aO {K:PySem.W.Frag} {b k:Bool} {H:Hp}:uK K (.bl b) H k=(k=b):=rfl
theorem xq {K:PySem.W.Frag} {i:Int} {k:Bool} {H:Hp}:uK K (.int i) H k=(k=(i != 0)):=rfl
def wM (K:PySem.W.Frag):List V->Hp->VK->Prop:=λxs H Q=>∃ p ys,xs=[.ref p]/\(aS K H p ys∨aY K H p ys)/\Q (.int ys.length) H
theorem aG {X:Cx}:dG X (.builtin "len") (wM X.K):=mY
theorem aZ {K:PySem.W.Frag} {H:Hp} {p:Addr} {xs:List V} {Q:VK} (h:aS K H p xs) (q:Q (.int xs.length) H):wM K [.ref p] H Q:=⟨p,xs,rfl,.inl h,q⟩
theorem dj {K:PySem.W.Frag} {H:Hp} {p:Addr} {xs:List V} {Q:VK} (h:aY K H p xs) (q:Q (.int xs.length) H):wM K [.ref p] H Q:=⟨p,xs,rfl,.inr h,q⟩
theorem jj {K:PySem.W.Frag} {H:Hp} {p:Addr} {bs:List Bool} {Q:VK} (h:aS K H p (bs.map V.bl)) (q:Q (.bl (bs.all id)) H):A8 K [.ref p] H Q:=⟨p,bs,rfl,h,q⟩
theorem kr {a b:Int}:nS (.int a) (.int b)=true:=rfl
theorem yP {a b:Bool}:nS (.bl a) (.bl b)=true:=rfl
theorem yR {a:Int}:nS (.int a) .bY=true:=rfl
theorem yS {a:Int}:nS .bY (.int a)=true:=rfl
theorem yT:nS .bY .bY=true:=rfl
theorem yQ {a:Bool}:nS (.bl a) .bY=true:=rfl
theorem yU {a b:Str}:nS (.str a) (.str b)=true:=rfl
def DY (t:TS):TS:=λD σ H=>∃ R:St->Hp->Prop,t { D with nx:=R } σ H/\∀ σ' H',R σ' H'->D.nx σ' H'
theorem bf {X:Cx} {st:Stmt} {t:TS} (h:PS X st t):PS X st (DY t):=by
 intro pins s σ H D I ⟨R,hw,hR⟩
 refine bS (h pins s σ H _ I hw) λf s' q=>?_
 cases f with
 | next=>obtain⟨σ',H',I',r⟩:=q;exact⟨σ',H',I',hR _ _ r⟩
 | brk=>exact q
 | cont=>exact q
 | ret u=>exact q
theorem x8 {P:Program} {w:World} {K:PySem.W.Frag} {mg:Str->Option Value} {base:Heap} {k:Nat} {x:Str} {ps:List Str} {sp:Sp} {st:Stmt} {N:List Str} {f:Addr} {fd:FuncData} (F:xG K x x st f fd)
  (S:aC N ps (ao st)) (len:∀ vs H Q E,sp vs H Q E->vs.length=ps.length)
  (hbody:∀(cdv:Value) (A:Around) (outer:List Env) (s:Shared) (H:Hp) (vs:List V) (Q:VK) (E:XK),dN k (A.deeper (envOfC x (ao st) s.heap.objs.size f cdv))->sp vs H Q E ->
   ∃ t,oo (lU aV P w K mg base N x (ao st) f cdv A outer s H E).vS (cC st) t/\t { nx:=λ_ H'=>Q .bY H',rt:=Q } (start N vs) H):eE P w K mg base aV (k+1) f fd ps sp :=
 F.ok S len λcdv A outer s H vs Q E hr h=>hbody cdv A outer s H vs Q E hr h
theorem yg {P:Program} {w:World} {K:PySem.W.Frag} {mg:Str->Option Value} {k:Nat} {x y:Str} {sp:Sp} {st:Stmt} {fa:Addr} (hfa:mg x=some (.ref fa)) (D:aA K mg x st)
  (hb:∀(kV doc pm:Value) (an:Option Addr) (cdv ct:Value) (u:Value),bindArgs (PySem.W.fnOf x x (dh st) (cC st) (ao st) .none kV doc pm an cdv ct) ⟨[u],[]⟩=pure [(y,u)])
  (ok:∀(base:Heap) (f:Addr) (fd:FuncData),K.In base->xG K x x st f fd->eE P w K mg base aV k f fd [y] sp) :
  ∃ fd:FuncData,(∀(s:Shared) (u:Value),BindsTo s fd ⟨[u],[]⟩ [(y,u)])/\∀ base:Heap,K.In base->base.Ns mainGlobals mg->eE P w K mg base aV k fa fd [y] sp:=by
 obtain⟨f,fd,F,hm⟩:=D
 have e:=hfa.symm.trans hm
 cases e
 refine⟨fd,λs u=>?_,λbase kb _=>ok base _ _ kb F⟩
 obtain⟨oc,od,kV,doc,pm,an,cdv,ct,osl,rfl,lk,hcd⟩:=F.ex
 exact .of_eq (hb kV doc pm an cdv ct u)
end L2
namespace L2
open PySem PySem.Spec PyProof.Rows PySem.W
def nE:List Value:=[.type "ValueError",.type "Exception",.type "BaseException",.type "object"]
def kJ:List Value->Bool
 | .ref _::r=>kJ r
 | l=>l==nE
theorem x5 {l:List Value}:kJ l=true->l.contains (.type "object")=true/\l.contains (.type "BaseException")=true/\l.isEmpty=false:=by
 intro h
 induction l with
 | nil=>cases h
 | cons a r ih =>
  cases a with
  | ref c =>
   obtain⟨h1,h2,_⟩:=ih h
   exact⟨by rw [List.contains_cons,h1,Bool.or_true],by rw [List.contains_cons,h2,Bool.or_true],rfl⟩
  | type n =>
   have e:Value.type n::r=nE:=by simpa [kJ] using h
   rw [e]
   exact⟨by decide,by decide,rfl⟩
  | _=>simp [kJ,nE] at h
section
variable {prog:Program} {w:World} {A:Around} {E:Value->Shared->Prop} {s:Shared} {K:PySem.W.Frag} {x C:Addr} {name:Str} {v:Value} {cd:ClassData}
structure oq (K:PySem.W.Frag) (C:Addr):Prop where
 cls:∃ cd,clsIn K C=some cd/\kJ cd.mro=true/\cd.hasDict=true
 at_:∃ od cd sl,K.lookup C=some ⟨.type "type",od,.cls cd,sl⟩
 sa:findIn K (.ref C) "__setattr__"=some (some (.builtin "object.__setattr__"))
 ga:findIn K (.ref C) "__getattribute__"=some (some (.builtin "BaseException.__getattribute__"))
 gx:findIn K (.ref C) "__getattr__"=some none
 ca:findIn K (.ref C) "__class__"=some (some (.builtin "object.__class__"))
 gs:specialIn K (.builtin "object.__class__") "__get__"=some (some (.builtin "getset_descriptor.__get__"))
 tk:takesIn K (.builtin "object.__class__")=some true
theorem oq.there (c:oq K C) {h:Heap} (X:K.In h):∃ oc od cd sl,h.get? C=some ⟨oc,od,.cls cd,sl⟩:=by
 obtain⟨cd,hc,_⟩:=c.cls
 unfold clsIn at hc
 split at hc
 ·rename_i c' d' cd' sl' ho
  exact⟨_,_,_,_,X _ _ ho⟩
 ·cases hc
end
section
variable {prog:Program} {w:World} {A:Around} {E:Value->Shared->Prop} {h:Heap} {g:Array GenState} {d:Drawn} {t:Nat} {os:OsState}
variable {nm q:Str} {C N:Addr} {bs bm:List Value} {hdct:Bool} {sn:List Str} {sub:List Value} {ab:Bool} {col:Option Bool} {dd:Option Addr} {k0 k1 k2 k3 k5:Option Value}
end
structure Kp (fs ch:List Addr) (h h':Heap):Prop where
 keep:∀ b o,b∉ch->b∉fs->h.get? b=some o->h'.get? b=some o
 slot:∀ b o,b∉ch->h.get? b=some o->∃ sl,h'.get? b=some { o with slots:=sl }
theorem Kp.trans {fs ch:List Addr} {h h' h'':Heap} (a:Kp fs ch h h') (b:Kp fs ch h' h''):Kp fs ch h h'' :=
 ⟨λc o hc hf e=>b.keep c o hc hf (a.keep c o hc hf e),λc o hc e=>by
  obtain⟨sl,e1⟩:=a.slot c o hc e
  obtain⟨sl',e2⟩:=b.slot c _ hc e1
  exact⟨sl',e2⟩⟩
theorem Kp.mono {fs ch ch':List Addr} {h h':Heap} (a:Kp fs ch h h') (hs:∀ b∈ch,b∈ch'):Kp fs ch' h h' :=
 ⟨λc o hc hf e=>a.keep c o (λz=>hc (hs c z)) hf e,λc o hc e=>a.slot c o (λz=>hc (hs c z)) e⟩
section
variable {M:Model} {A:Around} {E:Value->Shared->Prop} {s:Shared} {base:Heap} {env:Env} {outer:List Env} {L e T:Addr} {C:Value} {dd:Option Addr} {fl:Value}
end
def XO (x C:Addr) (dd:Option Addr):HO:=.ext λh=>∃ vs sl,h.get? x=some ⟨.ref C,dd,.fields vs,sl⟩
def XN (x C:Addr) (dd:Option Addr):HO:=.ext λh=>∃ t sl,h.get? x=some ⟨.ref C,dd,.fields #[.ref t,.none,.none,.none,.bool false,.none],sl⟩
section
variable {P:Program} {w:World} {H H':Hp} {h h':Heap} {x C:Addr} {dd:Option Addr}
theorem XO.ok {vs:Array Value} {sl:Array (Option Value)} (e:h.get? x=some ⟨.ref C,dd,.fields vs,sl⟩):bV P w H h x (XO x C dd) :=
 ⟨⟨vs,sl,e⟩,⟨_,e⟩,λ_ _ ⟨vs,sl,q⟩ k=>⟨vs,sl,k _ q⟩⟩
theorem XN.ok {t:Addr} {sl:Array (Option Value)} (e:h.get? x=some ⟨.ref C,dd,.fields #[.ref t,.none,.none,.none,.bool false,.none],sl⟩):bV P w H h x (XN x C dd) :=
 ⟨⟨t,sl,e⟩,⟨_,e⟩,λ_ _ ⟨vs,sl,q⟩ k=>⟨vs,sl,k _ q⟩⟩
theorem XN.get (hok:gQ P w H h) (e:H x=some (XN x C dd)):∃ t sl,h.get? x=some ⟨.ref C,dd,.fields #[.ref t,.none,.none,.none,.bool false,.none],sl⟩:=by
 obtain⟨q,_⟩:=(show bV P w H h x (XN x C dd) from hok x _ e)
 exact q
theorem XO.get (hok:gQ P w H h) (e:H x=some (XO x C dd)):∃ vs sl,h.get? x=some ⟨.ref C,dd,.fields vs,sl⟩:=by
 obtain⟨q,_⟩:=(show bV P w H h x (XO x C dd) from hok x _ e)
 exact q
end
section
variable {prog:Program} {w:World} {A:Around} {E:Value->Shared->Prop} {s:Shared} {K:PySem.W.Frag} {env:Env}
end
def Bn (K:PySem.W.Frag) (H₀:Hp) (E:XK) (te:TE):TS:=λ_ σ H=>te σ H λv H1=>∃ x C dd,v=.ref x/\H1 x=some (XN x C dd)/\oq K C/\H₀ x=none/\E (.ref C) (some x) (upd H1 x (XO x C dd))
section
variable {P:Program} {w:World} {K:PySem.W.Frag} {mg:Str->Option Value} {base:Heap} {N:List Str} {qual:Str} {scope:Scope} {f:Addr} {cd:Value} {A:Around} {outer:List Env} {s:Shared} {H:Hp} {E:XK}
end
section
variable {prog:Program} {w:World} {A:Around} {E:Value->Shared->Prop} {h:Heap} {g:Array GenState} {d:Drawn} {t:Nat} {os:OsState}
variable {nm q:Str} {C N:Addr} {bs bm:List Value} {hdct:Bool} {sn:List Str} {sub:List Value} {ab:Bool} {col:Option Bool} {dd:Option Addr} {k0 k1 k2 k3 k5:Option Value}
end
theorem eE.any {P:Program} {w:World} {K:PySem.W.Frag} {mg:Str->Option Value} {base:Heap} {CX:kA} {k:Nat} {f:Addr} {fd:FuncData} {ps:List Str} {sp:Sp} (F:eE P w K mg base aV k f fd ps sp):eE P w K mg base CX k f fd ps sp :=
 ⟨F.len,λA outer s H args us vs Q E hr he hb hv hs=>codeAny_mono (F.run A outer s H args us vs Q E hr he hb hv hs) λr s' q=>by
  cases r with
  | error e=>exact False.elim q
  | ok fl =>
   cases fl with
   | ret u=>exact q
   | next=>exact q
   | brk=>exact q
   | cont=>exact q⟩
section
variable {X:Cx} {o value:Expr} {f:Str} {pos pos':Pos} {ta tv:TE}
end
def Ec (C:Addr) (f:Str) (t:TA):TE:=λσ H Q=>t σ H λvs H1=>∃ v,vs=[v]/\∀ x dx,H1 x=none->H1 dx=none->dx≠x->Q (.ref x) (upd (upd (upd H1 x (XN x C none)) dx (.xd [(f,v)])) x (XN x C (some dx)))
def Eb (C:Addr):TE:=λ_ H Q=>∀ x,H x=none->Q (.ref x) (upd H x (XN x C none))
section
variable {X:Cx} {C fi:Addr} {fd:FuncData} {p f x:Str} {k:Nat} {pos np:Pos} {e:Expr} {t:TA}
end
def Dy (H:Hp) (x C:Addr) (dd:Option Addr):Prop:=H x=some (XO x C dd)∨H x=some (XN x C dd)
theorem Dy.get {P:Program} {w:World} {H:Hp} {h:Heap} {x C:Addr} {dd:Option Addr} (a:Dy H x C dd) (hok:gQ P w H h):∃ vs sl,h.get? x=some ⟨.ref C,dd,.fields vs,sl⟩:=by
 rcases a with a | a
 ·exact XO.get hok a
 ·obtain⟨t,sl,e⟩:=XN.get hok a
  exact⟨_,sl,e⟩
def EL (K:PySem.W.Frag) (ta:TE) (f:Str):TE:=λσ H Q=>ta σ H λxv H1=>∃ x C dx fs v,xv=.ref x/\Dy H1 x C (some dx)/\oq K C/\findIn K (.ref C) f=some none/\H1 dx=some (.xd fs)/\fs.lookup f=some v/\Q v H1
section
variable {X:Cx} {e:Expr} {f:Str} {pos:Pos} {ta:TE}
end
section
variable {prog:Program} {w:World} {A:Around} {E:Value->Shared->Prop} {K:PySem.W.Frag} {h:Heap} {g:Array GenState} {d:Drawn} {t:Nat} {os:OsState} {x C B:Addr}
theorem oq.base (c:oq K C):mroIn K C (.type "BaseException")=some true:=by
 obtain⟨cd,hc,hm,_⟩:=c.cls
 obtain⟨m1,m2,m3⟩:=x5 hm
 unfold mroIn
 rw [hc,Option.bind_some,if_neg (by rw [m3];decide),m2]
end
section
variable {M:Model} {A:Around} {E:Value->Shared->Prop} {s:Shared}
end
section
variable {X:Cx} {pins:List (Addr × Obj)} {σ:St} {H:Hp} {s:Shared} {M:Model} {A:Around} {E:Value->Shared->Prop}
end
section
variable {X:Cx} {pins:List (Addr × Obj)} {σ:St} {H:Hp} {s:Shared} {x:Addr}
def yd (n:Option Nat) (x:Addr) (σ:St):St:=match n with | some i=>σ.set i (some (.ref x)) | none=>σ
def rJ (n:Option Nat) (D:Ends):Ends:=match n with
 | some i=>{ nx:=λσ H=>D.nx (σ.set i none) H,rt:=D.rt,bk:=λσ H=>D.bk (σ.set i none) H,ct:=λσ H=>D.ct (σ.set i none) H }
 | none=>D
end
def Ea (K:PySem.W.Frag) (B:Addr) (n:Option Nat) (sp:Sp) (ta:TA) (put:V->St->St) (ts:TS):TS:=λD σ H=>ta σ H λvs H1=>sp vs H1 (λv H2=>D.nx (put v σ) H2)
 (λcv xo H2=>∃ C x dd,cv=.ref C/\xo=some x/\H2 x=some (XO x C dd)/\oq K C/\mroIn K C (.ref B)=some true/\ts (rJ n D) (yd n x σ) H2)
section
variable {X:Cx} {B:Addr} {n:Option Nat} {hd:ExceptHandler} {ts:TS}
variable {k:Nat} {f:Str} {ps:List Str} {sp:Sp} {e:Expr} {es:List Expr} {t:TA} {p cpos epos pos:Pos}
end
section
variable {P:Program} {w:World} {K:PySem.W.Frag} {mg:Str->Option Value} {base:Heap} {k:Nat} {x:Str} {ps:List Str} {sp:Sp}
theorem Callee.any {CX:kA} (C:Callee P w K mg base aV k x ps sp):Callee P w K mg base CX k x ps sp:=by
 obtain⟨f,fd,F,a,b,c⟩:=C.ex
 exact⟨f,fd,F.any,a,b,c⟩
end
section
variable {X:Cx} {C:Addr} {f x:Str} {pos np:Pos} {e:Expr} {t:TA}
end
inductive z9 (K:PySem.W.Frag) (H:Hp):Nat->V->V->Bool->Prop
 | flat {d:Nat} {y x:V}:fO y=true->fO x=true->z9 K H d y x (xZ y x)
 | same {d:Nat} {p:Addr}:z9 K H d (.ref p) (.ref p) true
 | lists {d:Nat} {p q:Addr} {xs ys:List V} {e:Nat->Bool}:p≠q->aS K H p xs->aS K H q ys->xs.length=ys.length->(∀ j y x,xs[j]?=some y->ys[j]?=some x->z9 K H d y x (e j))->z9 K H (d+1) (.ref p) (.ref q) ((List.range xs.length).all e)
 | unlike {d:Nat} {p q:Addr} {xs ys:List V}:p≠q->aS K H p xs->aS K H q ys->xs.length≠ys.length->z9 K H (d+1) (.ref p) (.ref q) false
 | tups {d:Nat} {p q:Addr} {xs ys:List V} {e:Nat->Bool}:p≠q->aY K H p xs->aY K H q ys->(∀ j y x,xs[j]?=some y->ys[j]?=some x->z9 K H d y x (e j))->z9 K H (d+1) (.ref p) (.ref q) ((List.range (min xs.length ys.length)).all e && xs.length==ys.length)
section
variable {X:Cx} {pins:List (Addr × Obj)} {σ:St} {H:Hp} {s:Shared}
theorem Vals.at {xs:List V} {us:List Value} (r:Vals xs us):∀{j:Nat} {u:Value},us[j]?=some u->∃ x,xs[j]?=some x/\RelV x u:=by
 induction r with
 | nil=>intro j u h;simp at h
 | cons r t ih =>
  intro j u h
  cases j with
  | zero=>simp only [List.getElem?_cons_zero,Option.some.injEq] at h;subst h;exact⟨_,rfl,r⟩
  | succ j=>simp only [List.getElem?_cons_succ] at h ⊢;exact ih h
theorem Vals.len {xs:List V} {us:List Value} (r:Vals xs us):us.length=xs.length:=by
 induction r with
 | nil=>rfl
 | cons r t ih=>simp only [List.length_cons,ih]
end
theorem BQ {A B:Prop} (a:A) (f:A->B):B:=f a
section
variable {K:PySem.W.Frag} {mg:Str->Option Value} {h:Heap} {x f p qual:Str} {C D fi N:Addr}
section
variable {nm q:Str} {bs bm:List Value} {hdct ab:Bool} {sn:Option Str} {od:Option Addr} {cd:ClassData} {sl:Array (Option Value)}
end
end
end L2
namespace Pw
theorem fb (x n:Int):∀ k:Nat,(x%n)^k%n=x^k%n
 | 0=>by rw [Int.pow_zero,Int.pow_zero]
 | k+1=>by rw [Int.pow_succ,Int.pow_succ,Int.mul_emod,fb x n k,Int.emod_emod,<- Int.mul_emod]
theorem xg (b:Int):∀ k:Nat,(b*b)^k=b^(2*k)
 | 0=>by rw [Nat.mul_zero,Int.pow_zero,Int.pow_zero]
 | k+1=>by
  rw [Int.pow_succ,xg b k,Nat.mul_add,Nat.mul_one,Int.pow_succ,Int.pow_succ,Int.mul_assoc]
theorem vO (x y n:Int):x%n*y%n=x*y%n:=by rw [Int.mul_emod,Int.emod_emod,<- Int.mul_emod]
theorem zI {x x' y y' n:Int} (h:x%n=x'%n) (h':y%n=y'%n):x*y%n=x'*y'%n:=by rw [Int.mul_emod,h,h',<- Int.mul_emod]
theorem step (r b n:Int) (l:Nat):(if l%2=1 then r*b%n else r)*(b*b%n)^(l/2)%n=r*b^l%n:=by
 have e:(b*b%n)^(l/2)%n=b^(2*(l/2))%n:=by rw [fb,xg]
 by_cases c:l%2=1
 ·rw [if_pos c]
  have h:l=2*(l/2)+1:=by omega
  have e2:b^l=b^(2*(l/2))*b:=by rw [<- Int.pow_succ];exact congrArg _ h
  rw [zI (Int.emod_emod_of_dvd (r*b) (Int.dvd_refl n)) e,e2]
  congr 1
  rw [Int.mul_assoc,Int.mul_comm b]
 ·rw [if_neg c]
  have h:l=2*(l/2):=by omega
  rw [zI (rfl:r%n=r%n) e,<- h]
theorem pow_add (a:Int) (m:Nat):∀ k:Nat,a^(m+k)=a^m*a^k
 | 0=>by rw [Nat.add_zero,Int.pow_zero,Int.mul_one]
 | k+1=>by rw [<- Nat.add_assoc,Int.pow_succ,pow_add a m k,Int.pow_succ,Int.mul_assoc]
theorem mul_pow (a b:Int):∀ k:Nat,(a*b)^k=a^k*b^k
 | 0=>by rw [Int.pow_zero,Int.pow_zero,Int.pow_zero,Int.mul_one]
 | k+1=>by
  rw [Int.pow_succ,Int.pow_succ,Int.pow_succ,mul_pow a b k]
  grind
theorem pow_mul (a:Int) (m:Nat):∀ k:Nat,a^(m*k)=(a^m)^k
 | 0=>by rw [Nat.mul_zero,Int.pow_zero,Int.pow_zero]
 | k+1=>by rw [Nat.mul_add,Nat.mul_one,pow_add,pow_mul a m k,Int.pow_succ]
theorem one_pow:∀ k:Nat,(1:Int)^k=1
 | 0=>Int.pow_zero 1
 | k+1=>by rw [Int.pow_succ,one_pow k,Int.mul_one]
theorem Ag {n x y:Int}:x%n=y%n↔n∣x-y:=by
 rw [Int.emod_eq_emod_iff_emod_sub_eq_zero,Int.dvd_iff_emod_eq_zero]
end Pw
namespace L2
open PySem PySem.Spec PyProof.Rows
end L2
namespace L2
open PySem PySem.Spec PyProof.Rows PySem.W
theorem Vals.rev {xs:List V} {us:List Value} (h:Vals xs us):Vals xs.reverse us.reverse:=h.reverse
def CV (K:PySem.W.Frag) (te:TE) (tk:TO):TE:=λσ H Q=>te σ H λx H1=>tk σ H1 λo H2=>o=some (-1)/\∃ a xs,x=.ref a/\aS K H2 a xs/\∀ p,H2 p=none->Q (.ref p) (upd H2 p (.lst xs.reverse))
section
variable {X:Cx} {e k:Expr} {te:TE} {tk:TO} {p2 pos:Pos}
theorem wx (he:PE X e te) (hk:PO X (some k) tk)
  (hs:∀ a b:Addr,∃ ops,subscripted (.Slice none none (some k) p2) false (.ref a) (.ref b)=operate ops (getItem (.ref a) (.ref b)):=by intro a b;exact⟨_,by with_unfolding_all rfl⟩):PE X (.Subscript e (.Slice none none (some k) p2) pos) (CV X.K te tk):=by
 intro pins s σ H Q I h
 refine Subscript_ (bS (he pins s σ H _ I h) λv s1 ⟨x,H1,I1,r1,q1⟩=>?_)
 refine wpAny_Slice ?_
 rw [evalPart_none]
 refine wpAny_pure (wpAny_pure ?_)
 refine bS (hk pins s1 σ H1 _ I1 q1) λvk s3 ⟨o,H3,I3,pk,eo,a,xs,ex,hx,q3⟩=>?_
 subst eo
 subst ex
 cases r1
 have I4:Inv X pins σ H3 { s3 with heap:=s3.heap.push { cls:=.type "slice",data:=.fields #[.none,.none,vk] } }:=I3.kept (t':=s3.toks) λb ob q=>Heap.get?_push_of_some _ q
 obtain⟨its,r,ht,hz⟩:=I4.list hx
 have hlen:=r.length
 show wpAny (model X.prog X.w) X.A (subscriptTail e (.Slice none none (some k) p2) (.ref a) (.ref s3.heap.objs.size)) (EP X pins σ Q) X.xe { s3 with heap:=s3.heap.push { cls:=.type "slice",data:=.fields #[.none,.none,vk] } }
 obtain⟨ops,hops⟩:=hs a s3.heap.objs.size
 refine tail_any (ops:=ops) ht.isList.typeIs slot_list_getitem.lookup ?_ hops
 refine wpAny_getItem_list_slice ht.isList (Heap.IsSliceOf.new ..) .none .none pk (by simp) ?_ (by rw [List.size_toArray]<;>omega)
 rw [krv_pick]
 refine⟨.ref _,_,I4.laid (t':=s3.toks) (o:=.lst xs.reverse) (λb ob q=>Heap.get?_push_of_some _ q) (Nat.le_refl _) ?_,rfl,q3 _ (I4.hok.fresh (Nat.le_refl _))⟩
 exact⟨by rw [List.length_reverse];exact hz,_,0,r.rev,Heap.get?_push_size _ rfl⟩
end
mutual
def dv (K:PySem.W.Frag) (H:Hp):PyData->V->Prop
 | .none,v=>v=.bY
 | .bool b,v=>v=.bl b
 | .int i,v=>v=.int i
 | .str x,v=>v=.str x
 | .list ds,v=>∃ p xs,v=.ref p/\aS K H p xs/\bo K H ds xs
 | .tuple ds,v=>∃ p xs,v=.ref p/\aY K H p xs/\bo K H ds xs
 | .dict _,_=>False
def bo (K:PySem.W.Frag) (H:Hp):List PyData->List V->Prop
 | [],xs=>xs=[]
 | d::ds,xs=>∃ x r,xs=x::r/\dv K H d x/\bo K H ds r
end
section
variable {K:PySem.W.Frag} {H H':Hp}
theorem Rd.same {a:Addr} {o:HO} (h:Rd H a o) (s:aE H H'):Rd H' a o:=by
 rcases h with h | ⟨b,h⟩
 ·exact .inl (s _ _ h)
 ·exact .inr ⟨b,s _ _ h⟩
theorem aS.same {a:Addr} {xs:List V} (h:aS K H a xs) (s:aE H H'):aS K H' a xs:=h.imp (λz=>z.same s) id
theorem aY.same {a:Addr} {xs:List V} (h:aY K H a xs) (s:aE H H'):aY K H' a xs:=h.imp (λz=>z.same s) id
mutual
theorem dv.same (s:aE H H'):∀(d:PyData) {v:V},dv K H d v->dv K H' d v
 | .none,_,h=>h
 | .bool _,_,h=>h
 | .int _,_,h=>h
 | .str _,_,h=>h
 | .list ds,_,⟨p,xs,e,h,t⟩=>⟨p,xs,e,h.same s,bo.same s ds t⟩
 | .tuple ds,_,⟨p,xs,e,h,t⟩=>⟨p,xs,e,h.same s,bo.same s ds t⟩
 | .dict _,_,h=>h.elim
theorem bo.same (s:aE H H'):∀(ds:List PyData) {xs:List V},bo K H ds xs->bo K H' ds xs
 | [],_,h=>h
 | d::ds,_,⟨x,r,e,h,t⟩=>⟨x,r,e,dv.same s d h,bo.same s ds t⟩
end
theorem bo.length:∀{ds:List PyData} {xs:List V},bo K H ds xs->xs.length=ds.length
 | [],_,h=>by cases h;rfl
 | d::ds,_,⟨x,r,e,h,t⟩=>by subst e;rw [List.length_cons,List.length_cons,bo.length t]
theorem bo.get:∀{ds:List PyData} {xs:List V},bo K H ds xs->∀{i:Nat} {x:V},xs[i]?=some x->∃ d,ds[i]?=some d/\dv K H d x
 | [],_,h,i,x,e=>by cases h;simp at e
 | d::ds,_,⟨y,r,ey,h,t⟩,0,x,e=>by subst ey;simp at e;subst e;exact⟨d,rfl,h⟩
 | d::ds,_,⟨y,r,ey,h,t⟩,i+1,x,e=>by subst ey;simp at e;simpa using bo.get t e
theorem bo.get':∀{ds:List PyData} {xs:List V},bo K H ds xs->∀{i:Nat} {d:PyData},ds[i]?=some d->∃ x,xs[i]?=some x/\dv K H d x
 | [],_,h,i,x,e=>by simp at e
 | d::ds,_,⟨y,r,ey,h,t⟩,0,x,e=>by subst ey;simp at e;subst e;exact⟨y,rfl,h⟩
 | d::ds,_,⟨y,r,ey,h,t⟩,i+1,x,e=>by subst ey;simp at e;simpa using bo.get' t e
theorem bo.append:∀{ds es:List PyData} {xs ys:List V},bo K H ds xs->bo K H es ys->bo K H (ds++es) (xs++ys)
 | [],_,_,_,h,h'=>by cases h;exact h'
 | d::ds,_,_,_,⟨x,r,e,h,t⟩,h'=>by subst e;exact⟨x,_,rfl,h,t.append h'⟩
theorem bo.one {d:PyData} {x:V} (h:dv K H d x):bo K H [d] [x]:=⟨x,[],rfl,h,rfl⟩
theorem dv.lst {p:Addr} {xs:List V} {ds:List PyData} (h:H p=some (.lst xs)) (t:bo K H ds xs):dv K H (.list ds) (.ref p):=⟨p,xs,rfl,aS.of h,t⟩
theorem dv.tup {p:Addr} {xs:List V} {ds:List PyData} (h:H p=some (.tup xs)) (t:bo K H ds xs):dv K H (.tuple ds) (.ref p):=⟨p,xs,rfl,aY.of h,t⟩
mutual
def yj:PyData->Bool
 | .list _=>false
 | .tuple ds=>lY ds
 | _=>true
def lY:List PyData->Bool
 | []=>true
 | d::ds=>yj d && lY ds
end
def SameBut (p:Addr) (H H':Hp):Prop:=∀ b o,b≠p->H b=some o->H' b=some o
theorem aY.but {p a:Addr} {us xs:List V} (hp:H p=some (.lst us)) (s:SameBut p H H') (h:aY K H a xs):aY K H' a xs:=by
 rcases h with (h | ⟨o,h⟩) | h
 ·exact .inl (.inl (s _ _ (λe=>by rw [e,hp] at h;cases h) h))
 ·exact .inl (.inr ⟨o,s _ _ (λe=>by rw [e,hp] at h;cases h) h⟩)
 ·exact .inr h
mutual
theorem dv.but {p:Addr} {us:List V} (hp:H p=some (.lst us)) (s:SameBut p H H'):∀(d:PyData) {v:V},yj d=true->dv K H d v->dv K H' d v
 | .none,_,_,h=>h
 | .bool _,_,_,h=>h
 | .int _,_,_,h=>h
 | .str _,_,_,h=>h
 | .list ds,_,z,_=>by cases z
 | .tuple ds,_,z,⟨q,xs,e,h,t⟩=>⟨q,xs,e,h.but hp s,bo.but hp s ds z t⟩
 | .dict _,_,_,h=>h.elim
theorem bo.but {p:Addr} {us:List V} (hp:H p=some (.lst us)) (s:SameBut p H H'):∀(ds:List PyData) {xs:List V},lY ds=true->bo K H ds xs->bo K H' ds xs
 | [],_,_,h=>h
 | d::ds,_,z,⟨x,r,e,h,t⟩=>by
  have z':yj d=true/\lY ds=true:=by simpa [lY] using z
  exact⟨x,r,e,dv.but hp s d z'.1 h,bo.but hp s ds z'.2 t⟩
end
theorem pA {α:Type} {f:α->PyData} (h:∀ x,yj (f x)=true):∀ xs:List α,lY (xs.map f)=true
 | []=>rfl
 | x::xs=>by rw [List.map_cons,lY,h,pA h xs];rfl
end
section
variable {X:Cx} {pins:List (Addr × Obj)} {σ:St} {H:Hp} {s:Shared}
mutual
theorem cX (I:Inv X pins σ H s):∀(d:PyData) {v:V} {u:Value},dv X.K H d v->RelV v u->∃ as,Reads s.heap u d as
 | .none,_,u,h,r=>by cases h;cases r;exact⟨_,.none⟩
 | .bool _,_,u,h,r=>by cases h;cases r;exact⟨_,.bool _⟩
 | .int _,_,u,h,r=>by cases h;obtain⟨t,rfl⟩:=r;exact⟨_,.int _ _⟩
 | .str _,_,u,h,r=>by cases h;obtain⟨t,rfl⟩:=r;exact⟨_,.str _ _⟩
 | .list ds,_,u,⟨p,xs,e,h,t⟩,r=>by
  subst e
  cases r
  obtain⟨its,rr,pl,_⟩:=I.list h
  obtain⟨o,h1,h2,n,h3⟩:=pl.isList
  obtain⟨as,ra⟩:=fX I ds t rr
  exact⟨_,.list h1 h2 h3 (by simpa using ra)⟩
 | .tuple ds,_,u,⟨p,xs,e,h,t⟩,r=>by
  subst e
  cases r
  obtain⟨its,rr,pl,_⟩:=I.tuple h
  obtain⟨o,h1,h2,n,h3⟩:=pl
  obtain⟨as,ra⟩:=fX I ds t rr
  exact⟨_,.tuple h1 h2 h3 (by simpa using ra)⟩
 | .dict _,_,_,h,_=>h.elim
theorem fX (I:Inv X pins σ H s):∀(ds:List PyData) {xs:List V} {us:List Value},bo X.K H ds xs->Vals xs us->∃ as,ReadsAll s.heap us ds as
 | [],_,us,h,r=>by cases h;cases r;exact⟨_,.nil⟩
 | d::ds,_,us,⟨x,r,e,h,t⟩,rr=>by
  subst e
  cases rr with
  | cons r1 r2 =>
   obtain⟨a1,q1⟩:=cX I d h r1
   obtain⟨a2,q2⟩:=fX I ds t r2
   exact⟨_,.cons q1 q2⟩
end
def uu (K:PySem.W.Frag) (neg:Bool):R2:=λy x H Q=>∃ d e,dv K H d y/\dv K H e x/\d.canLay0=true/\e.canLay0=true/\min d.depth e.depth<=60/\Q (.bl (if neg then !PyData.eqv d e else PyData.eqv d e)) H
theorem eT (hu:X.A.units+64<cLine):fE X (compareOp .Eq) (uu X.K false):=by
 intro pins s σ H y x u v Q I ry rx h
 obtain⟨d,e,hd,he,c1,c2,c3,q⟩:=h
 obtain⟨as,ra⟩:=cX I d hd ry
 obtain⟨bs,rb⟩:=cX I e he rx
 exact SeqAt.compareEq_reads ra rb c1 c2 (by omega) ⟨.bl _,H,I,rfl,q⟩
theorem jy (hu:X.A.units+64<cLine):fE X (compareOp .NotEq) (uu X.K true):=by
 intro pins s σ H y x u v Q I ry rx h
 obtain⟨d,e,hd,he,c1,c2,c3,q⟩:=h
 obtain⟨as,ra⟩:=cX I d hd ry
 obtain⟨bs,rb⟩:=cX I e he rx
 exact SeqAt.compareNe_reads ra rb c1 c2 (by omega) ⟨.bl _,H,I,rfl,q⟩
end
end L2
namespace Pw
def lst (xs:List Nat):Nat:=xs.getLast?.getD 0
end Pw
namespace L2
open PySem PySem.Spec PyProof.Rows PySem.W
end L2
namespace Ld
structure jM (n r:Int):Prop where
 two:2<=r
 dv:r∣n
 no:∀ d:Int,2<=d->d<r->¬d∣n
theorem jM.one {n r r':Int} (h:jM n r) (h':jM n r'):r=r':=by
 rcases Int.lt_trichotomy r r' with c | c | c
 ·exact absurd h.dv (h'.no r h.two c)
 ·exact c
 ·exact absurd h'.dv (h.no r' h'.two c)
theorem jM.le {n r:Int} (h:jM n r) (hn:0<n):r<=n:=Int.le_of_dvd hn h.dv
structure Inv (n k:Int):Prop where
 two:2<=k
 odd:k=2∨k%2=1
 no:∀ d:Int,2<=d->d<k->¬d∣n
theorem Inv.step {n k:Int} (h:Inv n k) (hk:¬k∣n):Inv n (k+if k=2 then 1 else 2):=by
 have h2:=h.two
 by_cases c:k=2
 ·rw [if_pos c]
  refine⟨by omega,.inr (by omega),λd d0 d1=>?_⟩
  have:d=k:=by omega
  rw [this];exact hk
 ·rw [if_neg c]
  have ho:k%2=1:=by rcases h.odd with z | z;exact absurd z c;exact z
  refine⟨by omega,.inr (by omega),λd d0 d1 hd=>?_⟩
  rcases (by omega:d<k∨d=k∨d=k+1) with z | z | z
  ·exact h.no d d0 z hd
  ·subst z;exact hk hd
  ·have e2:(2:Int)∣d:=Int.dvd_of_emod_eq_zero (by omega)
   exact h.no 2 (by omega) (by omega) (Int.dvd_trans e2 hd)
end Ld
namespace L2
open PySem PySem.Spec PyProof.Rows PySem.W
section
variable {K:PySem.W.Frag} {H:Hp}
theorem oN:∀ bs cs:List Int,PyData.eqvAll (bs.map PyData.int) (cs.map PyData.int)=decide (bs=cs)
 | [],[]=>by simp [PyData.eqvAll]
 | [],_::_=>by simp [PyData.eqvAll]
 | _::_,[]=>by simp [PyData.eqvAll]
 | a::r,b::t=>by
  simp only [List.map_cons,PyData.eqvAll,PyData.eqv,oN r t]
  by_cases h:a=b<;>by_cases h':r=t<;>simp [h,h']
mutual
theorem eqv_refl:∀ d:PyData,d.canLay0=true->PyData.eqv d d=true
 | .none,_=>by simp [PyData.eqv]
 | .bool _,_=>by simp [PyData.eqv]
 | .int _,_=>by simp [PyData.eqv]
 | .str _,_=>by simp [PyData.eqv]
 | .list ds,h=>by simpa [PyData.eqv] using jv ds h
 | .tuple ds,h=>by simpa [PyData.eqv] using jv ds h
 | .dict _,h=>by simp [PyData.canLay0] at h
theorem jv:∀ ds:List PyData,PyData.canLayAll0 ds=true->PyData.eqvAll ds ds=true
 | [],_=>by simp [PyData.eqvAll]
 | d::ds,h=>by
  have h':d.canLay0=true/\PyData.canLayAll0 ds=true:=by simpa [PyData.canLayAll0] using h
  simp [PyData.eqvAll,eqv_refl d h'.1,jv ds h'.2]
end
theorem uS {neg:Bool} {v u:V} {d:PyData} {Q:VK} (h1:dv K H d v) (h2:dv K H d u) (hl:d.canLay0=true) (hd:d.depth<=60) (h:Q (.bl (!neg)) H):uu K neg v u H Q:=by
 refine⟨d,d,h1,h2,hl,hl,by omega,?_⟩
 rw [eqv_refl d hl]
 cases neg
 ·exact h
 ·exact h
end
end L2
namespace L2
open PySem PySem.Spec PyProof.Rows
def Di (lo k:Int) (n:Nat):It:=⟨λi _=>i<n,λi H x H'=>H'=H/\x=.int (lo+i*k),λi _=>n<=i⟩
def Cb (lo hi k:Int):Nat:=if lo<hi then ((hi-lo-1)/k+1).toNat else 0
def B5 (ta:TA):TI:=λσ H R=>ta σ H λvs H1=>∃ i j k:Int,vs=[.int i,.int j,.int k]/\(-(2^60)<=i/\i<2^60 /\ -(2^60)<=j/\j<2^60/\0<k/\k<2^29)/\R (Di i k (Cb i j k)) H1
section
variable {X:Cx} {tg:Expr}
end
end L2
namespace Sv
def Bi (d:Nat) (arr:Nat->Bool):Nat->Bool:=λj=>arr j || (decide (d*d<=j) && decide (j%d=0))
def sv:Nat->(Nat->Bool) × List Nat
 | 0=>(λ_=>false,[])
 | i+1=>if (sv i).1 (i+2) then sv i else (Bi (i+2) (sv i).1,(sv i).2++[i+2])
theorem len:∀ i,(sv i).2.length<=i
 | 0=>Nat.le_refl _
 | i+1=>by
  have:=len i
  rw [sv]
  split
  ·omega
  ·rw [List.length_append,List.length_singleton];omega
end Sv
namespace L2
open PySem PySem.Spec PyProof.Rows
section
variable {X:Cx} {pins:List (Addr × Obj)} {σ:St} {H:Hp} {s:Shared} {h':Heap}
theorem Inv.i6 {t':Nat} {ch:List Addr} (I:Inv X pins σ H s) (k:∀ b o,b∉ch->s.heap.get? b=some o->h'.get? b=some o) (hf:∀ b∈ch,lO X pins H b):Inv X pins σ H { s with heap:=h',toks:=t' }:=by
 have nit:∀ b u,H b=some u->b∉ch:=λb u e z=>by rw [(hf b z).1] at e;cases e
 refine I.step (g':=s.gens) (d':=s.drawn) (ch:=ch) (λb hb=>?_) (λb o _ _ hc e _=>k b o hc e) (λb o _ _ hc e _=>⟨o.slots,k b o hc e⟩) (λ_ _ _ _ n=>n)
  (λb o hc e=>⟨o,k b o hc e⟩) (λ_ _ e=>e) (λ_ _ _ e=>e) (λb ps e=>⟨#[],by rw [e];simp⟩) (λm hm=>?_) (λb u e=>?_) I.bare
 ·obtain⟨_,f1,_,f3,f4,f5⟩:=hf b hb
  exact⟨f3,f1,f4,f5⟩
 ·obtain⟨o,es,ep,ho,r⟩:=hm
  exact⟨o,es,ep,k _ o (λz=>(hf _ z).2.1 rfl) ho,r⟩
 ·refine (I.hok b u e).pZ (λc v hc q=>k c v ?_ q) (λ_ q=>q) λ_ _ q=>q
  rcases hc with z | z
  ·rw [z];exact nit b u e
  ·exact nit c _ z
theorem Inv.adopt {T:Addr} {o:HO} (I:Inv X pins σ H s) (hf:lO X pins H T) (new:bV X.prog X.w (upd H T o) s.heap T o):Inv X pins σ (upd H T o) s:=by
 have nT:∀ b u,H b=some u->b≠T:=λb u e z=>by rw [z,hf.1] at e;cases e
 refine I.step (h':=s.heap) (g':=s.gens) (d':=s.drawn) (t':=s.toks) (ch:=[T]) (λb hb=>?_) (λb o _ _ hc e _=>e) (λb o _ _ hc e _=>⟨o.slots,e⟩) (λb o hc e n=>by rw [aJ (λz=>hc (by simp [z]))];exact n)
  (λb o hc e=>⟨o,e⟩) (λb xs e=>by rw [aJ (nT _ _ e)];exact e) (λb o u e=>by rw [aJ (nT _ _ e)];exact e) (λb ps e=>⟨#[],by rw [aJ (nT _ _ e),e];simp⟩) (λm hm=>hm) (λb u e=>?_) I.bare
 ·have e:b=T:=by simpa using hb
  subst e
  obtain⟨_,f1,_,f3,f4,f5⟩:=hf
  exact⟨f3,f1,f4,f5⟩
 ·by_cases z:b=T
  ·subst z
   rw [ai] at e
   cases e
   exact new
  ·rw [aJ z] at e
   exact (I.hok b u e).pZ (λc v _ q=>q) (λc q=>by rw [aJ (nT _ _ q)];exact q) λc xs q=>by rw [aJ (nT _ _ q)];exact q
end
def EB (K:PySem.W.Frag) (a:Addr):It :=
 ⟨λi H=>∃ xs x,aS K H a xs/\xs[i]?=some x,λi H x H'=>∃ p v,H p=none/\x=.ref p/\(∀ xs,aS K H a xs->xs[i]?=some v)/\H'=upd H p (.tup [.int i,v]),λi H=>∃ xs,aS K H a xs/\xs.length<=i⟩
def B4 (K:PySem.W.Frag) (ta:TA):TI:=λσ H R=>ta σ H λvs H1=>∃ a,vs=[.ref a]/\(∃ xs,aS K H1 a xs)/\R (EB K a) H1
end L2
namespace Crt
structure G (a b g:Int):Prop where
 pos:0<g
 da:g∣a
 db:g∣b
 lin:∃ u v:Int,u*a+v*b=g
theorem G.gr {a b g d:Int} (h:G a b g) (h1:d∣a) (h2:d∣b):d∣g:=by
 obtain⟨u,v,e⟩:=h.lin
 rw [<- e]
 exact Int.dvd_add (Int.dvd_mul_of_dvd_right h1) (Int.dvd_mul_of_dvd_right h2)
theorem G.one {a b g g':Int} (h:G a b g) (h':G a b g'):g=g':=Int.le_antisymm (Int.le_of_dvd h'.pos (h'.gr h.da h.db)) (Int.le_of_dvd h.pos (h.gr h'.da h'.db))
theorem a1 {g u A v L:Int} (e:u*(g*A)+v*(g*L)=g):g*(u*A+v*L)=g*1:=by grind
theorem a2 {g A k L l y:Int} (h1:y=g*A*k) (h2:y=g*L*l):g*(A*k)=g*(L*l):=by grind
theorem a3 {u A v L k l:Int} (e4:u*A+v*L=1) (e5:A*k=L*l):k=L*(u*l+v*k):=by
 have z:k*(u*A+v*L)=k:=by rw [e4,Int.mul_one]
 grind
theorem a4 {A D r L q1 t:Int} (et:L*q1+t=D*r):A*t=A*(D*r)-A*(L*q1):=by grind
theorem a5 {D r A L c:Int} (hc:r*A-1=L*c):D*(r*A)-D=D*(L*c):=by rw [<- hc];grind
theorem a6 {M L t q2 N x:Int} (ex:M*L*q2+x=N+M*t):x-N=M*(t-L*q2):=by grind
theorem a7 {g A L t q1 q2 c D r N x:Int} (z3:x=N+g*A*t-g*A*L*q2) (z1:A*t=A*(D*r)-A*(L*q1)) (z2:D*(r*A)-D=D*(L*c)):x-(N+g*D)=g*L*(c*D-q1*A-A*q2):=by grind
theorem a8 {M L k w:Int} (h:k=L*w):M*k=M*L*w:=by rw [h,Int.mul_assoc]
structure De (M N m n W x:Int):Prop where
 pos:0<W
 dM:M∣W
 dm:m∣W
 le:∀ y:Int,M∣y->m∣y->W∣y
 x0:0<=x
 x1:x<W
 eM:M∣x-N
 em:m∣x-n
theorem Df:∀(b a:Nat),0<a->∃ g,G (a:Int) (b:Int) g:=by
 intro b
 induction b using Nat.strongRecOn with
 | ind b ih =>
  intro a ha
  rcases Nat.eq_zero_or_pos b with z | z
  ·subst z
   exact⟨a,by omega,Int.dvd_refl _,Int.dvd_zero _,1,0,by simp⟩
  ·obtain⟨g,h⟩:=ih (a%b) (Nat.mod_lt a z) b z
   obtain⟨u,v,e⟩:=h.lin
   have ed:(a:Int)=(b:Int)*((a/b:Nat):Int)+((a%b:Nat):Int):=by
    have:=Nat.div_add_mod a b
    rw [<- Int.natCast_mul,<- Int.natCast_add,this]
   refine⟨g,h.pos,?_,h.da,v,u-v*((a/b:Nat):Int),?_⟩
   ·rw [ed]
    exact Int.dvd_add (Int.dvd_mul_of_dvd_left h.da) h.db
   ·rw [ed,<- e]
    generalize ((a/b:Nat):Int)=q
    generalize ((a%b:Nat):Int)=r
    generalize (b:Int)=b'
    grind
theorem BA {a b:Int} (ha:0<a) (hb:0<b):∃ g,G a b g:=by
 obtain⟨g,h⟩:=Df b.toNat a.toNat (by omega)
 rw [Int.toNat_of_nonneg (by omega),Int.toNat_of_nonneg (by omega)] at h
 exact⟨g,h⟩
structure Told (ps:List (Int × Int)) (M N:Int):Prop where
 pos:0<M
 x0:0<=N
 x1:N<M
 dv:∀ p∈ps,p.1∣M
 le:∀ y:Int,(∀ p∈ps,p.1∣y)->M∣y
 al:∀ p∈ps,p.1∣N-p.2
theorem Told.nil:Told [] 1 0:=⟨by decide,by decide,by decide,λ_ h=>by simp at h,λy _=>⟨y,by omega⟩,λ_ h=>by simp at h⟩
theorem Told.step {ps:List (Int × Int)} {M N m n W x:Int} (h:Told ps M N) (b:De M N m n W x):Told (ps++[(m,n)]) W x:=by
 refine⟨b.pos,b.x0,b.x1,λp hp=>?_,λy hy=>?_,λp hp=>?_⟩
 ·rcases List.mem_append.mp hp with z | z
  ·exact Int.dvd_trans (h.dv p z) b.dM
  ·rw [List.mem_singleton.mp z];exact b.dm
 ·exact b.le y (h.le y λp hp=>hy p (List.mem_append_left _ hp)) (hy (m,n) (List.mem_append_right _ (by simp)))
 ·rcases List.mem_append.mp hp with z | z
  ·have e1:=Int.dvd_trans (h.dv p z) b.eM
   have e2:=h.al p z
   have:=Int.dvd_add e1 e2
   rwa [show x-N+(N-p.2)=x-p.2 by omega] at this
  ·rw [List.mem_singleton.mp z];exact b.em
theorem Told.one {ps:List (Int × Int)} {M N M' N':Int} (h:Told ps M N) (h':Told ps M' N'):M=M'/\N=N':=by
 have e:M=M':=Int.le_antisymm (Int.le_of_dvd h'.pos (h.le _ h'.dv)) (Int.le_of_dvd h.pos (h'.le _ h.dv))
 subst e
 refine⟨rfl,?_⟩
 have z:M∣N-N':=h.le _ λp hp=>by
  have:=Int.dvd_sub (h.al p hp) (h'.al p hp)
  rwa [show N-p.2-(N' - p.2)=N-N' by omega] at this
 have w:=Int.emod_emod_of_dvd
 have:=(Int.emod_eq_emod_iff_emod_sub_eq_zero (m:=N) (n:=M) (k:=N')).mpr (Int.emod_eq_zero_of_dvd z)
 rwa [Int.emod_eq_of_lt h.x0 h.x1,Int.emod_eq_of_lt h'.x0 h'.x1] at this
end Crt
namespace Num
def Al (n x y:Int):Prop:=n∣x-y
theorem Al.refl (n x:Int):Al n x x:=⟨0,by omega⟩
theorem Al.symm {n x y:Int} (h:Al n x y):Al n y x:=by
 have:=(Int.dvd_neg).mpr h
 rwa [show -(x-y)=y-x by omega] at this
theorem Al.trans {n x y z:Int} (h:Al n x y) (h':Al n y z):Al n x z:=by
 have:=Int.dvd_add h h'
 rwa [show x-y+(y-z)=x-z by omega] at this
theorem Al.mul {n x y u v:Int} (h:Al n x y) (h':Al n u v):Al n (x*u) (y*v):=by
 have h1:n∣(x-y)*u:=Int.dvd_mul_of_dvd_left h
 have h2:n∣y*(u-v):=Int.dvd_mul_of_dvd_right h'
 have:=Int.dvd_add h1 h2
 rwa [show (x-y)*u+y*(u-v)=x*u-y*v by rw [Int.sub_mul,Int.mul_sub];omega] at this
theorem Al.pow {n x y:Int} (h:Al n x y):∀ k:Nat,Al n (x^k) (y^k)
 | 0=>by rw [Int.pow_zero,Int.pow_zero];exact Al.refl _ _
 | k+1=>by rw [Int.pow_succ,Int.pow_succ];exact (Al.pow h k).mul h
theorem Al.iff {n x y:Int}:Al n x y↔x%n=y%n:=Pw.Ag.symm
theorem Al.rest (n x:Int):Al n (x%n) x:=Al.iff.mpr (Int.emod_emod_of_dvd x (Int.dvd_refl n))
def Co (a n:Int):Prop:=∃ u v:Int,u*a+v*n=1
theorem Co.dvd {a n b:Int} (h:Co a n) (hd:n∣a*b):n∣b:=by
 obtain⟨u,v,e⟩:=h
 have h1:n∣u*(a*b):=Int.dvd_mul_of_dvd_right hd
 have h2:n∣(v*b)*n:=⟨v*b,Int.mul_comm _ _⟩
 have:=Int.dvd_add h1 h2
 have e2:u*(a*b)+v*b*n=(u*a+v*n)*b:=by
  rw [Int.add_mul,Int.mul_assoc u a b,Int.mul_assoc v n b,Int.mul_comm n b,Int.mul_assoc v b n]
 rw [e2,e,Int.one_mul] at this
 exact this
theorem Co.cancel {a n x y:Int} (h:Co a n) (e:Al n (a*x) (a*y)):Al n x y:=by
 refine h.dvd ?_
 rw [Int.mul_sub]
 exact e
theorem Co.mul {a b n:Int} (h:Co a n) (h':Co b n):Co (a*b) n:=by
 obtain⟨u,v,e⟩:=h
 obtain⟨u',v',e'⟩:=h'
 refine⟨u*u',u*a*v'+v*(u'*b+v'*n),?_⟩
 have:(u*a+v*n)*(u'*b+v'*n)=1:=by rw [e,e'];rfl
 grind
theorem Co.pow {a n:Int} (h:Co a n):∀ k:Nat,Co (a^k) n
 | 0=>⟨1,0,by rw [Int.pow_zero];simp⟩
 | k+1=>by rw [Int.pow_succ];exact (Co.pow h k).mul h
theorem Co.Cd {a b n:Int} (h:Co a n) (e:Al n a b):Co b n:=by
 obtain⟨u,v,e1⟩:=h
 obtain⟨c,hc⟩:=e
 refine⟨u,v+u*c,?_⟩
 have:b=a-n*c:=by omega
 rw [this]
 grind
theorem bB {n a:Int} {d k:Nat} (h:Al n (a^d) 1):Al n (a^(d*k)) 1:=by
 rw [Pw.pow_mul]
 have:=h.pow k
 rwa [Pw.one_pow] at this
structure Ord (n a:Int) (m:Nat):Prop where
 pos:0<m
 one:Al n (a^m) 1
 dv:∀ j:Nat,Al n (a^j) 1->m∣j
theorem pow_mod {n a:Int} {m j:Nat} (h:Al n (a^m) 1) (hj:Al n (a^j) 1):Al n (a^(j%m)) 1:=by
 have e:a^j=a^(m*(j/m))*a^(j%m):=by rw [<- Pw.pow_add,Nat.div_add_mod]
 rw [e] at hj
 have h1:=(bB (k:=j/m) h).mul (Al.refl n (a^(j%m)))
 rw [Int.one_mul] at h1
 exact h1.symm.trans hj
theorem iK {n a:Int} {m:Nat} (pos:0<m) (one:Al n (a^m) 1) (no:∀ j,0<j->j<m->¬Al n (a^j) 1):Ord n a m:=by
 refine⟨pos,one,λj hj=>?_⟩
 have h:=pow_mod one hj
 rcases Nat.eq_zero_or_pos (j%m) with z | z
 ·exact Nat.dvd_of_mod_eq_zero z
 ·exact absurd h (no _ z (Nat.mod_lt _ pos))
theorem iH {P:Nat->Prop}:∀ N:Nat,P N->∃ m,P m/\∀ j,j<m->¬P j:=by
 intro N
 induction N using Nat.strongRecOn with
 | ind N ih =>
  intro h
  by_cases z:∃ j,j<N/\P j
  ·obtain⟨j,hj,pj⟩:=z
   exact ih j hj pj
  ·exact⟨N,h,λj hj pj=>z ⟨j,hj,pj⟩⟩
theorem lg {n a:Int} {N:Nat} (pos:0<N) (h:Al n (a^N) 1):∃ m,Ord n a m/\m<=N:=by
 obtain⟨m,⟨m0,m1⟩,no⟩:=iH (P:=λj=>0<j/\Al n (a^j) 1) N ⟨pos,h⟩
 refine⟨m,iK m0 m1 λj j0 jm z=>no j jm ⟨j0,z⟩,?_⟩
 by_cases z:m<=N
 ·exact z
 ·exact absurd ⟨pos,h⟩ (no N (by omega))
theorem Ord.qN {n a:Int} {m m':Nat} (h:Ord n a m) (h':Ord n a m'):m=m':=Nat.dvd_antisymm (h.dv _ h'.one) (h'.dv _ h.one)
theorem Ord.inj {n a:Int} {m i j:Nat} (h:Ord n a m) (c:Co a n) (hi:i<m) (hj:j<m) (e:Al n (a^i) (a^j)):i=j:=by
 have aux:∀ i j:Nat,i<m->j<m->i<=j->Al n (a^i) (a^j)->i=j:=by
  intro i j hi hj hij e
  have e1:a^j=a^i*a^(j-i):=by rw [<- Pw.pow_add];congr 1;omega
  rw [e1] at e
  have e2:Al n (a^i*1) (a^i*a^(j-i)):=by rw [Int.mul_one];exact e
  have e3:=(c.pow i).cancel e2
  have:=h.dv _ e3.symm
  rcases Nat.eq_zero_or_pos (j-i) with z | z
  ·omega
  ·have:=Nat.le_of_dvd z this
   omega
 rcases Nat.le_total i j with z | z
 ·exact aux i j hi hj z e
 ·exact (aux j i hj hi z e.symm).symm
theorem nM:∀(n:Nat) (l:List Nat),l.Nodup->(∀ x∈l,x<n)->l.length<=n:=by
 intro n
 induction n with
 | zero =>
  intro l _ h
  cases l with
  | nil=>exact Nat.le_refl _
  | cons x r=>exact absurd (h x (by simp)) (by omega)
 | succ n ih =>
  intro l nd h
  by_cases c:n∈l
  ·have h1:=ih (l.erase n) (nd.erase n) λx hx=>by
    have hx':=List.mem_of_mem_erase hx
    have ne:x≠n:=λz=>by
     subst z
     exact absurd hx (List.Nodup.not_mem_erase nd)
    have:=h x hx'
    omega
   rw [List.length_erase_of_mem c] at h1
   omega
  ·have h1:=ih l nd λx hx=>by
    have:=h x hx
    have ne:x≠n:=λz=>c (z▸hx)
    omega
   omega
end Num
namespace Num
structure Pm (p:Int):Prop where
 two:2<=p
 no:∀ d:Int,2<=d->d<p->¬d∣p
theorem Pm.co {p a:Int} (h:Pm p) (ha:¬p∣a):Co a p:=by
 have h2:=h.two
 have r0:=Int.emod_nonneg a (show p≠0 by omega)
 have r1:=Int.emod_lt_of_pos a (show 0<p by omega)
 have rn:a%p≠0:=λz=>ha (Int.dvd_of_emod_eq_zero z)
 obtain⟨g,G⟩:=Crt.BA (a:=a%p) (b:=p) (by omega) (by omega)
 have gl:=Int.le_of_dvd (show 0<a%p by omega) G.da
 have g1:g=1:=by
  have g0:=G.pos
  rcases (by omega:g=1∨2<=g) with z | z
  ·exact z
  ·exact absurd G.db (h.no g z (by omega))
 obtain⟨u,v,e⟩:=G.lin
 rw [g1] at e
 exact Co.Cd ⟨u,v,e⟩ (Al.rest p a)
theorem Pm.or {p a b:Int} (h:Pm p) (hd:p∣a*b) (ha:¬p∣a):p∣b:=(h.co ha).dvd hd
theorem Pm.ym {p:Int} (h:Pm p):¬Al p 0 1:=λz=>by
 have h2:=h.two
 have z':p∣0-1:=z
 have z2:=(Int.dvd_neg).mpr z'
 rw [show -((0:Int)-1)=1 by decide] at z2
 have:=Int.le_of_dvd (show (0:Int)<1 by decide) z2
 omega
def H:Int->List Int->Int->Int
 | acc,[],_=>acc
 | acc,c::cs,x=>H (acc*x+c) cs x
theorem uH (x:Int):∀(cs:List Int) (a b:Int),H (a+b) cs x=H a cs x+b*x^cs.length
 | [],a,b=>by rw [List.length_nil,Int.pow_zero,Int.mul_one];rfl
 | c::cs,a,b=>by
  show H ((a+b)*x+c) cs x=H (a*x+c) cs x+b*x^(cs.length+1)
  rw [show (a+b)*x+c=(a*x+c)+b*x by rw [Int.add_mul];omega,uH x cs,Int.pow_succ,Int.mul_assoc,Int.mul_comm x]
def yK (r:Int):Int->List Int->List Int
 | _,[]=>[]
 | _,[_]=>[]
 | c0,c::c'::cs=>(c0*r+c)::yK r (c0*r+c) (c'::cs)
theorem nQ (r:Int):∀(cs:List Int) (c0:Int),(yK r c0 cs).length=cs.length-1
 | [],_=>rfl
 | [_],_=>rfl
 | c::c'::cs,c0=>by
  show (yK r (c0*r+c) (c'::cs)).length+1=_
  rw [nQ r (c'::cs)]
  simp
theorem factor (x r:Int):∀(cs:List Int) (c0:Int),cs≠[]->H c0 cs x-H c0 cs r=(x-r)*H c0 (yK r c0 cs) x
 | [],_,h=>absurd rfl h
 | [c],c0,_=>by
  show c0*x+c-(c0*r+c)=(x-r)*c0
  rw [Int.sub_mul,Int.mul_comm c0 x,Int.mul_comm c0 r]
  omega
 | c::c'::cs,c0,_=>by
  have ih:=factor x r (c'::cs) (c0*r+c) (by simp)
  show H (c0*x+c) (c'::cs) x-H (c0*r+c) (c'::cs) r=(x-r)*H (c0*x+(c0*r+c)) (yK r (c0*r+c) (c'::cs)) x
  have e1:c0*x+c=(c0*r+c)+c0*(x-r):=by rw [Int.mul_sub];omega
  have e2:H (c0*x+(c0*r+c)) (yK r (c0*r+c) (c'::cs)) x=H (c0*r+c) (yK r (c0*r+c) (c'::cs)) x+c0*x*x^cs.length:=by
   rw [Int.add_comm (c0*x),uH,nQ]
   simp
  rw [e1,uH,e2,List.length_cons,Int.pow_succ,Int.mul_add,<- ih]
  generalize H (c0*r+c) (c'::cs) x=A
  generalize H (c0*r+c) (c'::cs) r=B
  generalize x^cs.length=Y
  grind
theorem roots {p:Int} (hp:Pm p):∀(n:Nat) (cs:List Int) (c0:Int),cs.length=n->¬p∣c0->∀ rs:List Int,rs.Pairwise (λa b=>¬Al p a b)->(∀ r∈rs,p∣H c0 cs r)->rs.length<=n:=by
 intro n
 induction n with
 | zero =>
  intro cs c0 hl h0 rs hr hz
  have:cs=[]:=List.eq_nil_of_length_eq_zero hl
  subst this
  cases rs with
  | nil=>exact Nat.le_refl _
  | cons r rs=>exact absurd (hz r (by simp)) h0
 | succ n ih =>
  intro cs c0 hl h0 rs hr hz
  cases rs with
  | nil=>exact Nat.zero_le _
  | cons r rs =>
   have hne:cs≠[]:=λz=>by rw [z] at hl;simp at hl
   obtain⟨h1,h2⟩:=List.pairwise_cons.mp hr
   have:=ih (yK r c0 cs) c0 (by rw [nQ,hl];rfl) h0 rs h2 λs hs=>by
    have e:=factor s r cs c0 hne
    have d1:=hz s (List.mem_cons_of_mem _ hs)
    have d2:=hz r (by simp)
    have d3:=Int.dvd_sub d1 d2
    rw [e] at d3
    exact hp.or d3 λz=>h1 s hs (Al.symm z)
   simpa using this
theorem y8 (x:Int):∀(n:Nat) (a:Int),H a (List.replicate n 0++[-1]) x=a*x^(n+1)-1
 | 0,a=>by
  show a*x + -1=_
  rw [Int.pow_succ,Int.pow_zero,Int.one_mul];omega
 | n+1,a=>by
  show H (a*x+0) (List.replicate n 0++[-1]) x=_
  rw [y8 x n,Int.add_zero,Int.pow_succ x (n+1),Int.mul_comm (x^(n+1)) x,Int.mul_assoc]
theorem xR {p:Int} (hp:Pm p) {n:Nat} (hn:0<n) (h:∀ a:Int,¬p∣a->Al p (a^n) 1):p-1<=n:=by
 have h2:=hp.two
 obtain⟨m,rfl⟩:∃ m,n=m+1:=⟨n-1,by omega⟩
 have key:=roots hp (m+1) (List.replicate m 0++[-1]) 1 (by simp) (λz=>by have:=Int.le_of_dvd (by decide) z;omega) ((List.range (p-1).toNat).map λi:Nat=>(i:Int)+1) ?_ ?_
 ·rw [List.length_map,List.length_range] at key
  omega
 ·rw [List.pairwise_map]
  refine List.Pairwise.imp_of_mem (R:=(·<·)) (λ{a b} ha hb hab z=>?_) List.pairwise_lt_range
  have hb':=List.mem_range.mp hb
  have:=Int.le_of_dvd (by omega) (Al.symm z)
  omega
 ·intro r hr
  obtain⟨i,hi,rfl⟩:=List.mem_map.mp hr
  have hi':=List.mem_range.mp hi
  rw [y8,Int.one_mul]
  exact h _ λz=>by have:=Int.le_of_dvd (by omega) z;omega
theorem mI {f:Nat->Nat} {n:Nat} (h:∀ i j,i<j->j<n->f i≠f j):((List.range n).map f).Nodup:=by
 show List.Pairwise _ _
 rw [List.pairwise_map]
 exact List.Pairwise.imp_of_mem (R:=(·<·)) (λ{a b} ha hb hab=>h a b hab (List.mem_range.mp hb)) List.pairwise_lt_range
theorem rest_eq {p x y:Int} (hp:0<p) (e:(x%p).toNat=(y%p).toNat):Al p x y:=by
 have h1:=Int.emod_nonneg x (show p≠0 by omega)
 have h2:=Int.emod_nonneg y (show p≠0 by omega)
 exact Al.iff.mpr (by omega)
theorem back {n a:Int} (hn:2<=n) (c:Co a n):∃ d:Nat,0<d/\(d:Int)<=n/\Al n (a^d) 1:=by
 by_cases z:∃ i j:Nat,i<j/\j<n.toNat+1/\Al n (a^i) (a^j)
 ·obtain⟨i,j,ij,jn,e⟩:=z
  refine⟨j-i,by omega,by omega,?_⟩
  have e1:a^j=a^i*a^(j-i):=by rw [<- Pw.pow_add];congr 1;omega
  rw [e1] at e
  have e2:Al n (a^i*1) (a^i*a^(j-i)):=by rw [Int.mul_one];exact e
  exact ((c.pow i).cancel e2).symm
 ·exfalso
  have nd:=mI (f:=λi=>(a^i%n).toNat) (n:=n.toNat+1) λi j ij jn e=>z ⟨i,j,ij,jn,rest_eq (by omega) e⟩
  have:=nM n.toNat _ nd λx hx=>by
   obtain⟨i,_,rfl⟩:=List.mem_map.mp hx
   have h1:=Int.emod_nonneg (a^i) (show n≠0 by omega)
   have h2:=Int.emod_lt_of_pos (a^i) (show 0<n by omega)
   show (a^i%n).toNat<n.toNat
   omega
  rw [List.length_map,List.length_range] at this
  omega
def fact:Nat->Nat
 | 0=>1
 | n+1=>(n+1)*fact n
theorem oO:∀ n,0<fact n
 | 0=>by decide
 | n+1=>Nat.mul_pos (Nat.succ_pos n) (oO n)
theorem oJ {d:Nat}:∀ n,0<d->d<=n->d∣fact n
 | 0,h,h'=>by omega
 | n+1,h,h'=>by
  by_cases c:d=n+1
  ·subst c;exact⟨fact n,rfl⟩
  ·exact Nat.dvd_trans (oJ n h (by omega)) ⟨n+1,Nat.mul_comm _ _⟩
theorem Ord.mul {n a b:Int} {k m:Nat} (ha:Ord n a k) (hb:Ord n b m) (ca:Co a n) (cb:Co b n) (co:Nat.Coprime k m):Ord n (a*b) (k*m):=by
 refine⟨Nat.mul_pos ha.pos hb.pos,?_,λj hj=>?_⟩
 ·rw [Pw.mul_pow]
  have h1:=bB (k:=m) ha.one
  have h2:=bB (k:=k) hb.one
  rw [Nat.mul_comm m k] at h2
  exact h1.mul h2
 ·rw [Pw.mul_pow] at hj
  have d1:k∣j:=by
   have e:=hj.pow m
   rw [Pw.one_pow,Pw.mul_pow,<- Pw.pow_mul,<- Pw.pow_mul] at e
   have h2:=bB (k:=j) hb.one
   rw [Nat.mul_comm m j] at h2
   have e2:Al n (a^(j*m)) 1:=by
    have:=(Al.refl n (a^(j*m))).mul h2.symm
    rw [Int.mul_one] at this
    exact this.trans e
   exact Nat.Coprime.dvd_of_dvd_mul_right co (ha.dv _ e2)
  have d2:m∣j:=by
   have e:=hj.pow k
   rw [Pw.one_pow,Pw.mul_pow,<- Pw.pow_mul,<- Pw.pow_mul] at e
   have h2:=bB (k:=j) ha.one
   rw [Nat.mul_comm k j] at h2
   have e2:Al n (b^(j*k)) 1:=by
    have:=h2.symm.mul (Al.refl n (b^(j*k)))
    rw [Int.one_mul] at this
    exact this.trans e
   exact Nat.Coprime.dvd_of_dvd_mul_right co.symm (hb.dv _ e2)
  exact Nat.Coprime.mul_dvd_of_dvd_of_dvd co d1 d2
end Num
namespace Num
def Nm (q:Nat):Prop:=2<=q/\∀ d,2<=d->d<q->¬d∣q
theorem zJ {m:Nat} (h:2<=m):∃ q,Nm q/\q∣m:=by
 obtain⟨q,⟨q2,qm⟩,no⟩:=iH (P:=λd=>2<=d/\d∣m) m ⟨h,Nat.dvd_refl m⟩
 exact⟨q,⟨q2,λd d2 dq hd=>no d dq ⟨d2,Nat.dvd_trans hd qm⟩⟩,qm⟩
theorem Nm.co {q m:Nat} (h:Nm q) (hm:¬q∣m):Nat.Coprime q m:=by
 have hg:=Nat.gcd_dvd_left q m
 have g0:0<Nat.gcd q m:=Nat.gcd_pos_of_pos_left m (by have:=h.1;omega)
 have gl:=Nat.le_of_dvd (by have:=h.1;omega) hg
 rcases (by omega:Nat.gcd q m=1∨(2<=Nat.gcd q m/\Nat.gcd q m<q)∨Nat.gcd q m=q) with z | ⟨z1,z2⟩ | z
 ·exact z
 ·exact absurd hg (h.2 _ z1 z2)
 ·exact absurd (z▸Nat.gcd_dvd_right q m) hm
theorem xf {q:Nat} (hq:2<=q):∀ m:Nat,0<m->∃ k m',m=q^k*m'/\¬q∣m':=by
 intro m
 induction m using Nat.strongRecOn with
 | ind m ih =>
  intro hm
  by_cases c:q∣m
  ·obtain⟨t,ht⟩:=c
   have t0:0<t:=by
    rcases Nat.eq_zero_or_pos t with z | z
    ·subst z;omega
    ·exact z
   have tm:t<m:=by
    rw [ht]
    have:=Nat.mul_le_mul_right t hq
    omega
   obtain⟨k,m',e,hn⟩:=ih t tm t0
   exact⟨k+1,m',by rw [ht,e,Nat.pow_succ,Nat.mul_comm (q^k) q,Nat.mul_assoc],hn⟩
  ·exact⟨0,m,by simp,c⟩
theorem sA {q:Nat} (h:Nm q):∀(k d:Nat),d∣q^(k+1)->¬d∣q^k->d=q^(k+1):=by
 intro k
 induction k with
 | zero =>
  intro d h1 h2
  rw [Nat.zero_add,Nat.pow_one] at h1 ⊢
  rw [Nat.pow_zero] at h2
  have q2:=h.1
  have d0:0<d:=Nat.pos_of_dvd_of_pos h1 (by omega)
  have dl:=Nat.le_of_dvd (by omega) h1
  rcases (by omega:d=1∨(2<=d/\d<q)∨d=q) with z | ⟨z1,z2⟩ | z
  ·exact absurd (z▸Nat.dvd_refl 1) h2
  ·exact absurd h1 (h.2 d z1 z2)
  ·exact z
 | succ k ih =>
  intro d h1 h2
  by_cases c:q∣d
  ·obtain⟨t,ht⟩:=c
   have q0:0<q:=by have:=h.1;omega
   rw [ht,Nat.pow_succ,Nat.mul_comm (q^(k+1)) q] at h1
   rw [ht,Nat.pow_succ,Nat.mul_comm (q^k) q] at h2
   have e1:=Nat.dvd_of_mul_dvd_mul_left q0 h1
   have e2:¬t∣q^k:=λz=>h2 (Nat.mul_dvd_mul_left q z)
   rw [ht,ih t e1 e2,Nat.pow_succ q (k+1),Nat.mul_comm]
  ·have co:Nat.Coprime (q^(k+1+1)) d:=Nat.Coprime.pow_left _ (h.co c)
   have:d∣1:=by
    have:=Nat.dvd_gcd h1 (Nat.dvd_refl d)
    rwa [co] at this
   exact absurd (Nat.dvd_trans this (Nat.one_dvd _)) h2
section
variable {p:Int} {L:Nat}
structure Ex (p:Int) (L:Nat):Prop where
 pos:0<L
 all:∀ a:Int,¬p∣a->Al p (a^L) 1
 no:∀ j,0<j->j<L->∃ a:Int,¬p∣a/\¬Al p (a^j) 1
theorem Pm.unit {p a:Int} (hp:Pm p) (c:Co a p):¬p∣a:=λh=>by
 obtain⟨u,v,e⟩:=c
 have h1:p∣u*a:=Int.dvd_mul_of_dvd_right h
 have h2:p∣v*p:=⟨v,Int.mul_comm _ _⟩
 have:=Int.dvd_add h1 h2
 rw [e] at this
 have:=Int.le_of_dvd (by decide) this
 have:=hp.two
 omega
theorem zq (hp:Pm p):∃ L,Ex p L:=by
 have h2:=hp.two
 have uni:∀ a:Int,¬p∣a->Al p (a^fact p.toNat) 1:=λa ha=>by
  obtain⟨d,d0,d1,e⟩:=back h2 (hp.co ha)
  obtain⟨t,ht⟩:=oJ p.toNat d0 (by omega)
  rw [ht]
  exact bB e
 obtain⟨L,⟨l0,l1⟩,no⟩:=iH (P:=λj=>0<j/\∀ a:Int,¬p∣a->Al p (a^j) 1) (fact p.toNat) ⟨oO _,uni⟩
 refine⟨L,l0,l1,λj j0 jl=>?_⟩
 have:=no j jl
 by_cases z:∃ a:Int,¬p∣a/\¬Al p (a^j) 1
 ·exact z
 ·exact absurd ⟨j0,λa ha=>Classical.byContradiction λw=>z ⟨a,ha,w⟩⟩ this
theorem pF (hp:Pm p) (h:Ex p L):∀ m:Nat,0<m->m∣L->∃ x:Int,Co x p/\Ord p x m:=by
 intro m
 induction m using Nat.strongRecOn with
 | ind m ih =>
  intro hm hd
  by_cases c:m=1
  ·subst c
   exact⟨1,⟨1,0,by omega⟩,by decide,by rw [Int.pow_succ,Int.pow_zero];exact Al.refl _ _,λj _=>Nat.one_dvd j⟩
  ·obtain⟨q,hq,qm⟩:=zJ (show 2<=m by omega)
   obtain⟨k,m',e,hn⟩:=xf hq.1 m hm
   have q0:0<q:=by have:=hq.1;omega
   obtain⟨k',rfl⟩:∃ k',k=k'+1:=by
    cases k with
    | zero=>rw [Nat.pow_zero,Nat.one_mul] at e;exact absurd (e▸qm) hn
    | succ k'=>exact⟨k',rfl⟩
   have m0:0<m':=by
    rcases Nat.eq_zero_or_pos m' with z | z
    ·rw [z,Nat.mul_zero] at e;omega
    ·exact z
   have qk:2<=q^(k'+1):=by
    rw [Nat.pow_succ]
    have:=Nat.mul_le_mul (Nat.pow_pos (n:=k') q0) hq.1
    omega
   have mm:m'<m:=by
    rw [e]
    have:=Nat.mul_le_mul_right m' qk
    omega
   obtain⟨y,cy,oy⟩:=ih m' mm m0 (Nat.dvd_trans ⟨q^(k'+1),by rw [e,Nat.mul_comm]⟩ hd)
   have dq:q^(k'+1)∣L:=Nat.dvd_trans ⟨m',e⟩ hd
   obtain⟨T,hT⟩:=dq
   have T0:0<T:=by
    rcases Nat.eq_zero_or_pos T with z | z
    ·rw [z,Nat.mul_zero] at hT;have:=h.pos;omega
    ·exact z
   have eL:L=q*(q^k'*T):=by rw [hT,Nat.pow_succ,Nat.mul_comm (q^k') q,Nat.mul_assoc]
   have jp:0<q^k'*T:=Nat.mul_pos (Nat.pow_pos q0) T0
   have jl:q^k'*T<L:=by
    rw [eL]
    have:=Nat.mul_le_mul_right (q^k'*T) hq.1
    omega
   obtain⟨a,ha,hna⟩:=h.no _ jp jl
   have ca:=hp.co ha
   have z1:Al p ((a^T)^(q^(k'+1))) 1:=by
    rw [<- Pw.pow_mul,Nat.mul_comm,<- hT]
    exact h.all a ha
   have z2:¬Al p ((a^T)^(q^k')) 1:=by
    rw [<- Pw.pow_mul,Nat.mul_comm]
    exact hna
   obtain⟨d,od,_⟩:=lg (Nat.pow_pos q0) z1
   have d1:=od.dv _ z1
   have d2:¬d∣q^k':=λw=>z2 (by obtain⟨t,ht⟩:=w;rw [ht];exact bB od.one)
   have ed:=sA hq k' d d1 d2
   subst ed
   refine⟨a^T*y,(ca.pow T).mul cy,?_⟩
   rw [e]
   exact od.mul oy (ca.pow T) cy (Nat.Coprime.pow_left _ (hq.co hn))
theorem zt (hp:Pm p) (h:Ex p L):(L:Int)=p-1:=by
 have h2:=hp.two
 have h1:=xR hp h.pos h.all
 obtain⟨g,cg,og⟩:=pF hp h L h.pos (Nat.dvd_refl L)
 have nd:=mI (f:=λi=>(g^i%p).toNat-1) (n:=L) λi j ij jn e=>by
  have r1:∀ k:Nat,1<=(g^k%p).toNat:=λk=>by
   have a1:=Int.emod_nonneg (g^k) (show p≠0 by omega)
   have:g^k%p≠0:=λz=>hp.unit (cg.pow k) (Int.dvd_of_emod_eq_zero z)
   omega
  have e':(g^i%p).toNat=(g^j%p).toNat:=by
   have:=r1 i
   have:=r1 j
   have e:(g^i%p).toNat-1=(g^j%p).toNat-1:=e
   omega
  have:=og.inj cg (by omega) jn (rest_eq (by omega) e')
  omega
 have:=nM (p-1).toNat _ nd λx hx=>by
  obtain⟨i,_,rfl⟩:=List.mem_map.mp hx
  have a1:=Int.emod_nonneg (g^i) (show p≠0 by omega)
  have a2:=Int.emod_lt_of_pos (g^i) (show 0<p by omega)
  have:g^i%p≠0:=λz=>hp.unit (cg.pow i) (Int.dvd_of_emod_eq_zero z)
  show (g^i%p).toNat-1<(p-1).toNat
  omega
 rw [List.length_map,List.length_range] at this
 omega
theorem kK (hp:Pm p) {a:Int} (ha:¬p∣a):Al p (a^(p-1).toNat) 1:=by
 obtain⟨L,h⟩:=zq hp
 have:=zt hp h
 rw [show (p-1).toNat=L by omega]
 exact h.all a ha
theorem kI (hp:Pm p) {m:Nat} (h0:0<m) (hd:m∣(p-1).toNat):∃ x:Int,1<=x/\x<p/\Ord p x m:=by
 obtain⟨L,h⟩:=zq hp
 have:=zt hp h
 have h2:=hp.two
 obtain⟨x,cx,ox⟩:=pF hp h m h0 (by rwa [show (p-1).toNat=L by omega] at hd)
 have a1:=Int.emod_nonneg x (show p≠0 by omega)
 have a2:=Int.emod_lt_of_pos x (show 0<p by omega)
 have a3:x%p≠0:=λz=>hp.unit cx (Int.dvd_of_emod_eq_zero z)
 refine⟨x%p,by omega,a2,ox.pos,((Al.rest p x).pow m).trans ox.one,λj hj=>ox.dv j (((Al.rest p x).pow j).symm.trans hj)⟩
theorem ya (hp:Pm p):∃ g:Int,1<=g/\g<p/\Ord p g (p-1).toNat:=kI hp (by have:=hp.two;omega) (Nat.dvd_refl _)
end
end Num
namespace Num
theorem Co.AN {n a:Int} {m:Nat} (h:Al n (a^(m+1)) 1):Co a n:=by
 obtain⟨c,hc⟩:=h
 refine⟨a^m,-c,?_⟩
 rw [Int.pow_succ] at hc
 rw [Int.neg_mul,Int.mul_comm c n]
 omega
theorem wm {n a:Int} {e:Nat} (h0:0<e) (h1:Al n (a^e) 1) (no:∀ q,Nm q->q∣e->¬Al n (a^(e/q)) 1):Ord n a e:=by
 obtain⟨m,om,_⟩:=lg h0 h1
 have d:=om.dv _ h1
 by_cases z:m=e
 ·subst z;exact om
 ·exfalso
  obtain⟨t,ht⟩:=d
  have t2:2<=t:=by
   rcases (by omega:t=0∨t=1∨2<=t) with w | w | w
   ·rw [w] at ht;omega
   ·rw [w,Nat.mul_one] at ht;exact absurd ht.symm z
   ·exact w
  obtain⟨q,hq,r,hr⟩:=zJ t2
  have q0:0<q:=by have:=hq.1;omega
  have e1:e=q*(m*r):=by rw [ht,hr,<- Nat.mul_assoc,Nat.mul_comm m q,Nat.mul_assoc]
  refine no q hq ⟨m*r,e1⟩ ?_
  rw [e1,Nat.mul_div_cancel_left _ q0]
  exact bB om.one
theorem Ord.j5 {n a:Int} {e:Nat} (h:Ord n a e) {q:Nat} (hq:Nm q) (hd:q∣e):¬Al n (a^(e/q)) 1:=λz=>by
 have q0:0<q:=by have:=hq.1;omega
 obtain⟨r,hr⟩:=hd
 rw [hr,Nat.mul_div_cancel_left _ q0] at z
 have d:=h.dv _ z
 have r0:0<r:=by
  rcases Nat.eq_zero_or_pos r with w | w
  ·rw [w,Nat.mul_zero] at hr;have:=h.pos;omega
  ·exact w
 have:=Nat.le_of_dvd r0 d
 have:=Nat.mul_le_mul_right r hq.1
 omega
end Num
namespace Num
theorem wB {n r:Int} (h:Ld.jM n r):Pm r:=⟨h.two,λd d2 dr hd=>h.no d d2 dr (Int.dvd_trans hd h.dv)⟩
def bC:List (Int × Int)->Int
 | []=>1
 | p::r=>p.1^p.2.toNat*bC r
theorem lz:∀(ps:List (Int × Int)) (p:Int × Int),bC (ps++[p])=bC ps*p.1^p.2.toNat
 | [],p=>by show p.1^_*1=1*_;omega
 | q::r,p=>by
  show q.1^q.2.toNat*bC (r++[p])=q.1^q.2.toNat*bC r*_
  rw [lz r p,Int.mul_assoc]
structure Part (n:Int) (ps:List (Int × Int)):Prop where
 ok:∀ p∈ps,Pm p.1/\1<=p.2/\p.2<=30
 rise:ps.Pairwise λa b=>a.1<b.1
 prod:bC ps=n
theorem bN {q:Int} (h:0<q):∀ k:Nat,0<q^k
 | 0=>by rw [Int.pow_zero];decide
 | k+1=>by rw [Int.pow_succ];exact Int.mul_pos (bN h k) h
theorem two_pow_le {q:Int} (h:2<=q):∀ k:Nat,(2:Int)^k<=q^k
 | 0=>by rw [Int.pow_zero,Int.pow_zero];exact Int.le_refl _
 | k+1=>by
  rw [Int.pow_succ,Int.pow_succ]
  exact Int.mul_le_mul (two_pow_le h k) h (by decide) (Int.le_of_lt (bN (by omega) k))
theorem two_le:∀{k:Nat},(2:Int)^k<=10^9->k<=29:=by
 intro k h
 by_cases c:k<=29
 ·exact c
 ·exfalso
  have e:k=30+(k-30):=by omega
  rw [e,Pw.pow_add] at h
  have:=bN (show (0:Int)<2 by decide) (k-30)
  have h2:=Int.mul_le_mul_of_nonneg_left (show (1:Int)<=2^(k-30) by omega) (show (0:Int)<=2^30 by decide)
  have:(2:Int)^30=1073741824:=by decide
  omega
structure Way (n:Int) (ps:List (Int × Int)) (left prime:Int):Prop where
 ok:∀ p∈ps,Pm p.1/\1<=p.2/\p.2<=30
 rise:ps.Pairwise λa b=>a.1<b.1
 prod:bC ps*left=n
 pos:1<=left
 inv:Ld.Inv left prime
 le:∀ p∈ps,p.1<=prime
 gone:ps=[]∨¬prime∣left
 two:(2:Int)^ps.length*left<=n
theorem Way.start {n:Int} (h:1<=n):Way n [] n 2:=⟨λ_ z=>by simp at z,List.Pairwise.nil,by show 1*n=n;omega,h,⟨by decide,.inl rfl,λd d0 d1=>by omega⟩,λ_ z=>by simp at z,.inl rfl,by rw [List.length_nil,Int.pow_zero];omega⟩
theorem Way.step {n left prime r left':Int} {ps:List (Int × Int)} {k:Nat} (w:Way n ps left prime) (hn:n<=10^9) (hl:1<left) (h:Ld.jM left r) (e:left=r^k*left') (l0:1<=left') (hk:1<=k) (hg:¬r∣left'):Way n (ps++[(r,(k:Int))]) left' r:=by
 have r2:=h.two
 have pm:=wB h
 have rp:prime<=r:=by
  rcases (by omega:prime<=r∨r<prime) with z | z
  ·exact z
  ·exact absurd h.dv (w.inv.no r r2 z)
 have rk:=bN (show 0<r by omega) k
 have k2:=two_pow_le r2 k
 have kl:(2:Int)^k<=left:=by
  have:=Int.mul_le_mul k2 l0 (by decide) (Int.le_of_lt rk)
  rw [Int.mul_one] at this
  omega
 have ln:left<=n:=by
  have z:=w.two
  have p0:=bN (show (0:Int)<2 by decide) ps.length
  have:=Int.mul_le_mul_of_nonneg_right (show (1:Int)<=2^ps.length by omega) (show 0<=left by omega)
  omega
 have k29:=two_le (k:=k) (by omega)
 refine⟨λp hp=>?_,?_,?_,l0,?_,λp hp=>?_,.inr hg,?_⟩
 ·rcases List.mem_append.mp hp with z | z
  ·exact w.ok p z
  ·rw [List.mem_singleton.mp z]
   exact⟨pm,by show (1:Int)<=k;omega,by show (k:Int)<=30;omega⟩
 ·refine List.pairwise_append.mpr ⟨w.rise,List.pairwise_singleton _ _,λa ha b hb=>?_⟩
  rw [List.mem_singleton.mp hb]
  show a.1<r
  have:=w.le a ha
  rcases w.gone with z | z
  ·rw [z] at ha;simp at ha
  ·have:prime≠r:=λy=>z (y▸h.dv)
   omega
 ·rw [lz,<- w.prod,e]
  show bC ps*r^((k:Int).toNat)*left'=_
  rw [Int.toNat_natCast,Int.mul_assoc]
 ·refine⟨r2,?_,λd d0 d1 hd=>h.no d d0 d1 (by rw [e];exact Int.dvd_mul_of_dvd_right hd)⟩
  rcases (by omega:r=2∨2<r) with z | z
  ·exact .inl z
  ·refine .inr ?_
   rcases (by omega:r%2=1∨r%2=0) with y | y
   ·exact y
   ·exact absurd (Int.dvd_of_emod_eq_zero y) (pm.no 2 (by decide) z)
 ·rcases List.mem_append.mp hp with z | z
  ·have:=w.le p z;omega
  ·rw [List.mem_singleton.mp z];exact Int.le_refl _
 ·rw [List.length_append,List.length_singleton,Pw.pow_add,Int.pow_succ,Int.pow_zero,Int.one_mul,Int.mul_assoc]
  refine Int.le_trans (Int.mul_le_mul_of_nonneg_left ?_ (Int.le_of_lt (bN (by decide) _))) w.two
  rw [e]
  obtain⟨k',rfl⟩:∃ k',k=k'+1:=⟨k-1,by omega⟩
  have p0:=bN (show 0<r by omega) k'
  have h1:r<=r^(k'+1):=by
   rw [Int.pow_succ]
   have:=Int.mul_le_mul_of_nonneg_right (show 1<=r^k' by omega) (show 0<=r by omega)
   omega
  exact Int.mul_le_mul_of_nonneg_right (show 2<=r^(k'+1) by omega) (show 0<=left' by omega)
theorem Way.done {n prime:Int} {ps:List (Int × Int)} (w:Way n ps 1 prime):Part n ps:=⟨w.ok,w.rise,by have:=w.prod;omega⟩
theorem Way.len {n left prime:Int} {ps:List (Int × Int)} (w:Way n ps left prime) (hn:n<=10^9):ps.length<=29:=by
 refine two_le ?_
 have z:=w.two
 have p0:=bN (show (0:Int)<2 by decide) ps.length
 have:=Int.mul_le_mul_of_nonneg_left w.pos (Int.le_of_lt p0)
 omega
end Num
namespace Num
open PySem
theorem eW:∀{ps:List (Int × Int)} {p:Int × Int},p∈ps->1<=p.2->p.1∣bC ps
 | a::r,p,h,hk=>by
  rcases List.mem_cons.mp h with z | z
  ·subst z
   obtain⟨k,hk'⟩:∃ k,p.2.toNat=k+1:=⟨p.2.toNat-1,by omega⟩
   show p.1∣p.1^p.2.toNat*bC r
   rw [hk',Int.pow_succ]
   exact Int.dvd_mul_of_dvd_left ⟨p.1^k,Int.mul_comm _ _⟩
  ·exact Int.dvd_mul_of_dvd_right (eW z hk)
theorem zL {q:Nat} (h:Nm q):Pm (q:Int):=⟨by have:=h.1;omega,λd d2 dq hd=>h.2 d.toNat (by omega) (by omega) (by
 obtain⟨c,hc⟩:=hd
 have:(d.toNat:Int)=d:=by omega
 exact Int.natCast_dvd_natCast.mp (by rw [this];exact⟨c,hc⟩))⟩
theorem rX {p:Int} (h:Pm p):Nm p.toNat:=⟨by have:=h.two;omega,λd d2 dp hd=>h.no d (by omega) (by omega) (by
 have:=Int.natCast_dvd_natCast.mpr hd
 rwa [show (p.toNat:Int)=p by have:=h.two;omega] at this)⟩
theorem wC {p q:Int} (hp:Pm p) (hq:Pm q):∀ k:Nat,q∣p^k->q=p
 | 0,h=>by
  rw [Int.pow_zero] at h
  have:=Int.le_of_dvd (by decide) h
  have:=hq.two
  omega
 | k+1,h=>by
  rw [Int.pow_succ] at h
  by_cases c:q∣p^k
  ·exact wC hp hq k c
  ·have d:=hq.or h c
   have l:=Int.le_of_dvd (by have:=hp.two;omega) d
   rcases (by omega:q<p∨q=p) with z | z
   ·exact absurd d (hp.no q hq.two z)
   ·exact z
theorem dY {q:Int} (hq:Pm q):∀{ps:List (Int × Int)},(∀ p∈ps,Pm p.1)->q∣bC ps->∃ p∈ps,p.1=q
 | [],_,h=>by
  have:=Int.le_of_dvd (by decide) (show q∣1 from h)
  have:=hq.two
  omega
 | a::r,hp,h=>by
  by_cases c:q∣a.1^a.2.toNat
  ·exact⟨a,by simp,(wC (hp a (by simp)) hq _ c).symm⟩
  ·obtain⟨p,h1,h2⟩:=dY hq (λp z=>hp p (List.mem_cons_of_mem _ z)) (hq.or h c)
   exact⟨p,List.mem_cons_of_mem _ h1,h2⟩
theorem wt {n a e:Int} {ps:List (Int × Int)} (h:Part e ps) (he:1<=e):(Al n (a^e.toNat) 1/\∀ q∈ps.map (·.1),¬Al n (a^(e/q).toNat) 1)↔Ord n a e.toNat:=by
 constructor
 ·rintro⟨h1,h2⟩
  refine wm (by omega) h1 λq hq hd=>?_
  have hd':(q:Int)∣e:=by
   have:=Int.natCast_dvd_natCast.mpr hd
   rwa [show (e.toNat:Int)=e by omega] at this
  obtain⟨p,hp,ep⟩:=dY (zL hq) (λp z=>(h.ok p z).1) (by rw [h.prod];exact hd')
  have:=h2 q (List.mem_map.mpr ⟨p,hp,ep⟩)
  rwa [show (e/(q:Int)).toNat=e.toNat/q by
   have:e/(q:Int)=((e.toNat/q:Nat):Int):=by rw [Int.natCast_ediv];congr 1;omega
   rw [this,Int.toNat_natCast]] at this
 ·intro h1
  refine⟨h1.one,λq hq=>?_⟩
  obtain⟨p,hp,rfl⟩:=List.mem_map.mp hq
  obtain⟨o1,o2,_⟩:=h.ok p hp
  have d:p.1∣e:=by rw [<- h.prod];exact eW hp o2
  have t:=o1.two
  have:=h1.j5 (rX o1) (by
   have:(p.1.toNat:Int)∣(e.toNat:Int):=by rw [show (p.1.toNat:Int)=p.1 by omega,show (e.toNat:Int)=e by omega];exact d
   exact Int.natCast_dvd_natCast.mp this)
  rwa [show e.toNat/p.1.toNat=(e/p.1).toNat by
   have:e/p.1=((e.toNat/p.1.toNat:Nat):Int):=by rw [Int.natCast_ediv];congr 1<;>omega
   rw [this,Int.toNat_natCast]] at this
structure LF (p g:Int):Prop where
 one:1<=g
 lt:g<p
 ord:Ord p g (p-1).toNat
 no:∀ a:Int,1<=a->a<g->¬Ord p a (p-1).toNat
def rowsOf (ps:List (Int × Int)) (ds:Nat->PyData):List PyData:=(List.range ps.length).map λi=>.tuple [ds i,.int (ps.getD i (0,0)).2]
theorem ik {ps:List (Int × Int)} {ds:Nat->PyData}:(rowsOf ps ds).length=ps.length:=by unfold rowsOf;rw [List.length_map,List.length_range]
theorem qV {ps:List (Int × Int)} {ds:Nat->PyData} {i:Nat} {p:Int × Int} (h:ps[i]?=some p):(rowsOf ps ds)[i]?=some (.tuple [ds i,.int p.2]):=by
 have hi:=(List.getElem?_eq_some_iff.mp h).1
 unfold rowsOf
 rw [List.getElem?_map,List.getElem?_range hi]
 show some (PyData.tuple [ds i,.int (ps.getD i (0,0)).2])=_
 rw [List.getD_eq_getElem?_getD,h]
 rfl
inductive xK:Int->PyData->Prop
 | mk (p g:Int) (ps:List (Int × Int)) (ds:Nat->PyData):Pm p->p<=10^9->LF p g->Part (p-1) ps->ps.length<=29->(∀ i q k,ps[i]?=some (q,k)->xK q (ds i))->xK p (.tuple [.int p,.int g,.tuple (rowsOf ps ds)])
def Ht:Nat->Int->Prop
 | 0,_=>False
 | L+1,n=>∀ q:Int,Pm q->q∣n-1->Ht L q
theorem zw:∀(L:Nat) (n:Int),Pm n->n<2^(L+2)->Ht (L+2) n
 | 0,n,h,hn=>by
  have h2:=h.two
  have hn':n<4:=hn
  intro q hq hd
  intro q' hq' hd'
  have q2:=hq.two
  have l:=Int.le_of_dvd (by rcases (by omega:n=2∨n=3) with z | z;exfalso;rw [z] at hd;have:=Int.le_of_dvd (by decide) hd;omega;omega) hd
  have qq:q=2:=by omega
  rw [qq] at hd'
  have:=Int.le_of_dvd (by decide) hd'
  have:=hq'.two
  omega
 | L+1,n,h,hn=>by
  intro q hq hd
  have q2:=hq.two
  have h2:=h.two
  refine zw L q hq ?_
  have e:(2:Int)^(L+1+2)=2^(L+2)*2:=by rw [<- Int.pow_succ]
  rw [e] at hn
  have four:(4:Int)<=2^(L+2):=by
   have:=bN (show (0:Int)<2 by decide) L
   have e4:(2:Int)^(L+2)=2^L*4:=by rw [Pw.pow_add];rfl
   omega
  obtain⟨c,hc⟩:=hd
  rcases (by omega:n<=3∨3<n) with z | z
  ·have:q<=n-1:=Int.le_of_dvd (by
    rcases (by omega:n=2∨n=3) with y | y
    ·exfalso
     rw [y] at hc
     have:=Int.le_of_dvd (by decide) (show q∣1 from ⟨c,hc⟩)
     omega
    ·omega) ⟨c,hc⟩
   omega
  ·rcases (by omega:n%2=0∨n%2=1) with y | y
   ·exact absurd (Int.dvd_of_emod_eq_zero y) (h.no 2 (by decide) (by omega))
   ·rcases (by omega:q=2∨2<q) with x | x
    ·omega
    ·have qo:q%2=1:=by
      rcases (by omega:q%2=1∨q%2=0) with w | w
      ·exact w
      ·exact absurd (Int.dvd_of_emod_eq_zero w) (hq.no 2 (by decide) x)
     have ce:c%2=0:=by
      rcases (by omega:c%2=0∨c%2=1) with w | w
      ·exact w
      ·exfalso
       have:(q*c)%2=1:=by rw [Int.mul_emod,qo,w];rfl
       omega
     have c2:2<=c:=by
      rcases (by omega:c<=0∨2<=c) with w | w
      ·have:=Int.mul_nonpos_of_nonneg_of_nonpos (show 0<=q by omega) w
       omega
      ·exact w
     have:=Int.mul_le_mul_of_nonneg_left c2 (show 0<=q by omega)
     omega
theorem Aw {n:Int} (h:Pm n) (hn:n<=10^9):Ht 30 n:=zw 28 n h (by
 have:(2:Int)^(28+2)=1073741824:=by decide
 omega)
end Num
namespace L2
open PySem PySem.Spec PyProof.Rows
def EN:PyData->String
 | .none => "NoneType"
 | .bool _ => "bool"
 | .int _ => "int"
 | .str _ => "str"
 | .list _ => "list"
 | .tuple _ => "tuple"
 | .dict _ => "dict"
def gH:PyData->Bool
 | .int _=>true
 | _=>false
def DJ:PyData->Bool
 | .bool _=>true
 | _=>false
def B8:PyData->Bool
 | .tuple _=>true
 | _=>false
def DK:PyData->Bool
 | .list _=>true
 | _=>false
section
variable {X:Cx} {K:PySem.W.Frag}
def mN (K:PySem.W.Frag):List V->Hp->VK->Prop:=λxs H Q=>∃ d x n b,xs=[x,.ty n]/\dv K H d x/\PySem.W.kitOne K (.type (EN d)) (.type n)=some b/\Q (.bl b) H
theorem bA:dG X (.builtin "isinstance") (mN X.K):=by
 intro pins s σ H xs us Q I r h
 obtain⟨d,x,n,b,rfl,hd,ek,q⟩:=h
 obtain⟨u,w',rfl,rx,rc⟩:=vals2 r
 have e:w'=.type n:=rc
 subst e
 have fin:∀ tk,∃ v' H',Inv X pins σ H' { s with toks:=tk }/\RelV v' (.bool b)/\Q v' H':=λtk=>⟨.bl b,H,I.tok _,rfl,q⟩
 cases d with
 | none=>cases hd;exact gI I rx gS.bY ek fin
 | bool y=>cases hd;exact gI I rx (gS.bl _) ek fin
 | int y=>cases hd;exact gI I rx (gS.int _) ek fin
 | str y=>cases hd;exact gI I rx (gS.str _) ek fin
 | list ds =>
  obtain⟨p,ys,rfl,h,t⟩:=hd
  cases rx
  obtain⟨its,rr,pl,_⟩:=I.list h
  obtain⟨o,h1,h2,_⟩:=pl.isList
  exact PySem.W.kia_one PySem.W.kitx_list I.nH ⟨o,h1,h2⟩ ek (λz=>nomatch z) fin
 | tuple ds =>
  obtain⟨p,ys,rfl,h,t⟩:=hd
  cases rx
  obtain⟨its,rr,pl,_⟩:=I.tuple h
  obtain⟨o,h1,h2,_⟩:=pl
  exact PySem.W.kia_one PySem.W.kitx_tuple I.nH ⟨o,h1,h2⟩ ek (λz=>nomatch z) fin
 | dict _=>exact hd.elim
theorem rO {H:Hp} {d:PyData} {x:V} {Q:VK} (h:dv K H d x) (q:Q (.bl (gH d || DJ d)) H):mN K [x,.ty "int"] H Q:=by
 refine⟨d,x,"int",_,rfl,h,?_,q⟩
 cases d<;>first | exact h.elim | with_unfolding_all rfl
theorem kQ {H:Hp} {d:PyData} {x:V} {Q:VK} (h:dv K H d x) (q:Q (.bl (DJ d)) H):mN K [x,.ty "bool"] H Q:=by
 refine⟨d,x,"bool",_,rfl,h,?_,q⟩
 cases d<;>first | exact h.elim | with_unfolding_all rfl
theorem cT {H:Hp} {d:PyData} {x:V} {Q:VK} (h:dv K H d x) (q:Q (.bl (B8 d)) H):mN K [x,.ty "tuple"] H Q:=by
 refine⟨d,x,"tuple",_,rfl,h,?_,q⟩
 cases d<;>first | exact h.elim | with_unfolding_all rfl
theorem fo {H:Hp} {d:PyData} {x:V} {Q:VK} (h:dv K H d x) (q:Q (.bl (DK d)) H):mN K [x,.ty "list"] H Q:=by
 refine⟨d,x,"list",_,rfl,h,?_,q⟩
 cases d<;>first | exact h.elim | with_unfolding_all rfl
end
def BZ (i:Int) (n:Nat):List V:=(List.range n).map fun(k:Nat)=>V.int (i+(k:Int))
def EK (ta:TA):TE:=λσ H Q=>ta σ H λvs H1=>∃ i j:Int,vs=[.int i,.int j]/\(-(2^62)<=i/\i<2^62 /\ -(2^62)<=j/\j<2^62)/\j-i<=10^6/\∀ l,H1 l=none->Q (.ref l) (upd H1 l (.lst (BZ i (j-i).toNat)))
variable {X:Cx}
section
variable {X:Cx} {K:PySem.W.Frag}
end
section
variable {κ:Type} [DecidableEq κ]
def fj (kvs:List (κ × V)) (k:κ):Option V:=(kvs.find? λkv=>decide (kv.1=k)).map (·.2)
def putK (kvs:List (κ × V)) (k:κ) (v:V):List (κ × V) :=
 if (kvs.any λkv=>decide (kv.1=k))=true then kvs.map (λkv=>if kv.1=k then (kv.1,v) else kv) else kvs++[(k,v)]
def BR (kvs:List (κ × V)) (k:κ):List (κ × V):=kvs.filter λkv=>decide (kv.1≠k)
theorem gG {p:κ × V} {r:List (κ × V)} {k:κ} (e:p.1=k):fj (p::r) k=some p.2:=by simp [fj,List.find?_cons,e]
theorem gF {p:κ × V} {r:List (κ × V)} {k:κ} (e:¬p.1=k):fj (p::r) k=fj r k:=by simp [fj,List.find?_cons,e]
theorem lN (k:κ):∀ kvs:List (κ × V),(kvs.any λkv=>decide (kv.1=k))=(fj kvs k).isSome
 | []=>rfl
 | p::r=>by
  rw [List.any_cons]
  by_cases e:p.1=k
  ·simp only [gG e,decide_eq_true e,Bool.true_or,Option.isSome_some]
  ·rw [gF e,decide_eq_false e,Bool.false_or];exact lN k r
theorem fR (kvs:List (κ × V)) (k:κ) (v:V):(putK kvs k v).length<=kvs.length+1:=by
 unfold putK
 split
 ·rw [List.length_map];omega
 ·rw [List.length_append,List.length_cons,List.length_nil];omega
theorem ji.tL {o:Option V} {u:Option Value} (r:ji o u):o.isSome=u.isSome:=by
 cases o with
 | none=>cases u with
  | none=>rfl
  | some _=>exact (show False from r).elim
 | some _=>cases u with
  | none=>exact (show False from r).elim
  | some _=>rfl
theorem ji.getD {o:Option V} {u:Option Value} {d:V} {d':Value} (r:ji o u) (rd:RelV d d'):RelV (o.getD d) (u.getD d'):=by
 cases o with
 | none=>cases u with
  | none=>exact rd
  | some _=>exact (show False from r).elim
 | some _=>cases u with
  | none=>exact (show False from r).elim
  | some _=>exact r
theorem KV.val {kvs:List (κ × V)} {vs:List (κ × Value)} (r:KV kvs vs) (k:κ):ji (fj kvs k) (valueAt vs k):=by
 unfold KV at r
 induction r with
 | nil=>exact True.intro
 | @cons p q ps qs h t ih =>
  obtain⟨h1,h2⟩:=h
  by_cases e:p.1=k
  ·have e':q.1=k:=h1.symm.trans e
   have b:valueAt (q::qs) k=some q.2:=by simp [valueAt,List.find?_cons,e']
   rw [gG e,b];exact h2
  ·have e':¬q.1=k:=λz=>e (h1.trans z)
   have b:valueAt (q::qs) k=valueAt qs k:=by simp [valueAt,List.find?_cons,e']
   rw [gF e,b];exact ih
theorem KV.any {kvs:List (κ × V)} {vs:List (κ × Value)} (r:KV kvs vs) (k:κ):(kvs.any λkv=>decide (kv.1=k))=vs.any λkv=>decide (kv.1=k):=by
 unfold KV at r
 induction r with
 | nil=>rfl
 | cons h t ih=>rw [List.any_cons,List.any_cons,ih,h.1]
theorem KV.A9 {kvs:List (κ × V)} {vs:List (κ × Value)} (r:KV kvs vs) (k:κ) {y:V} {u:Value} (ry:RelV y u) :
  KV (kvs.map λkv=>if kv.1=k then (kv.1,y) else kv) (vs.map λkv=>if kv.1=k then (kv.1,u) else kv):=by
 unfold KV at r ⊢
 induction r with
 | nil=>exact .nil
 | @cons p q ps qs h t ih =>
  rw [List.map_cons,List.map_cons]
  refine .cons ?_ ih
  obtain⟨h1,h2⟩:=h
  by_cases e:p.1=k
  ·rw [if_pos e,if_pos (h1.symm.trans e)];exact⟨h1,ry⟩
  ·rw [if_neg e,if_neg (λz=>e (h1.trans z))];exact⟨h1,h2⟩
theorem KV.put {kvs:List (κ × V)} {vs:List (κ × Value)} (r:KV kvs vs) (k:κ) {y:V} {u:Value} (ry:RelV y u):KV (putK kvs k y) (stored vs k u):=by
 unfold putK stored
 rw [r.any k]
 by_cases e:(vs.any λkv=>decide (kv.1=k))=true
 ·rw [if_pos e,if_pos e];exact r.A9 k ry
 ·rw [if_neg e,if_neg e];exact Paired.snoc r ⟨rfl,ry⟩
theorem KV.keys {kvs:List (κ × V)} {vs:List (κ × Value)} (r:KV kvs vs):kvs.map (·.1)=vs.map (·.1):=by
 unfold KV at r
 induction r with
 | nil=>rfl
 | cons h t ih=>rw [List.map_cons,List.map_cons,ih,h.1]
theorem KV.length {kvs:List (κ × V)} {vs:List (κ × Value)} (r:KV kvs vs):kvs.length=vs.length:=Paired.length r
end
theorem rQ {P:Program} {w:World} {k:Key} {u:Value} (r:RelV (kV k) u):(ck P w).is k u=true:=by
 cases k with
 | inl i=>obtain⟨t,e⟩:=(show ∃ t,u=Value.int i t from r);subst e;exact oZ P w i t
 | inr x=>obtain⟨t,e⟩:=(show ∃ t,u=Value.str x t from r);subst e;exact ph P w x t
theorem mD {P:Program} {w:World}:∀{ks:List Key} {us:List Value},Vals (ks.map kV) us->ItemsAre (ck P w) ks us
 | [],_,r=>by rw [List.map_nil] at r;cases r;exact .nil
 | k::ks,_,r=>by
  rw [List.map_cons] at r
  cases r with
  | cons h t=>exact .cons (rQ h) (mD t)
abbrev KT (H:Hp):List (List Key × V)->List (List Key × Addr × Value)->Prop:=Paired λp q=>p.1=q.1/\H q.2.1=some (.tup (p.1.map kV))/\RelV p.2 q.2.2
theorem KT.val {H:Hp} {kvs:List (List Key × V)} {xs:List (List Key × Addr × Value)} (r:KT H kvs xs) (k:List Key):ji (fj kvs k) ((atKey xs k).map (·.2)):=by
 induction r with
 | nil=>exact True.intro
 | @cons p q ps qs h t ih =>
  obtain⟨h1,_,h2⟩:=h
  by_cases e:p.1=k
  ·have e':q.1=k:=h1.symm.trans e
   have b:atKey (q::qs) k=some q.2:=by simp [atKey,List.find?_cons,e']
   rw [gG e,b];exact h2
  ·have e':¬q.1=k:=λz=>e (h1.trans z)
   have b:atKey (q::qs) k=atKey qs k:=by simp [atKey,List.find?_cons,e']
   rw [gF e,b];exact ih
theorem KT.A9 {H:Hp} {kvs:List (List Key × V)} {xs:List (List Key × Addr × Value)} (r:KT H kvs xs) (k:List Key) {y:V} {u:Value} (ry:RelV y u) :
  KT H (kvs.map λkv=>if kv.1=k then (kv.1,y) else kv) (xs.map (putAt k u)):=by
 induction r with
 | nil=>exact .nil
 | @cons p q ps qs h t ih =>
  rw [List.map_cons,List.map_cons]
  refine .cons ?_ ih
  obtain⟨h1,h2,h3⟩:=h
  unfold putAt
  by_cases e:p.1=k
  ·rw [if_pos e,if_pos (h1.symm.trans e)];exact⟨h1,h2,ry⟩
  ·rw [if_neg e,if_neg (λz=>e (h1.trans z))];exact⟨h1,h2,h3⟩
theorem KT.put {H:Hp} {kvs:List (List Key × V)} {xs:List (List Key × Addr × Value)} (r:KT H kvs xs) (k:List Key) {b:Addr} {y:V} {u:Value} (hb:H b=some (.tup (k.map kV))) (ry:RelV y u) :
  KT H (putK kvs k y) (storedH xs k b u):=by
 have e:(kvs.any λkv=>decide (kv.1=k))=(atKey xs k).isSome:=by
  rw [lN,(r.val k).tL,Option.isSome_map]
 unfold putK storedH
 rw [e]
 by_cases q:(atKey xs k).isSome=true
 ·rw [if_pos q,if_pos q];exact r.A9 k ry
 ·rw [if_neg q,if_neg q];exact Paired.snoc r ⟨rfl,hb,ry⟩
theorem KT.keeps {H H':Hp} {kvs:List (List Key × V)} {xs:List (List Key × Addr × Value)} (r:KT H kvs xs) (ht:∀ b ys,H b=some (.tup ys)->H' b=some (.tup ys)):KT H' kvs xs :=
 Paired.AK r λ_ _ z=>⟨z.1,ht _ _ z.2.1,z.2.2⟩
section
variable {P:Program} {w:World} {H:Hp} {h:Heap} {a:Addr}
theorem zP {u:HO} (ok:gQ P w H h) (e:Rd H a u):bV P w H h a u:=e.ok ok
theorem uZ {kvs:List (Key × V)} (ok:gQ P w H h) (e:Rd H a (.dK kvs)):kvs.length<=sizeLine/\(a==sysModules)=false/\∃ vs,KV kvs vs/\h.DictOf (ck P w) a vs :=
 show bV P w H h a (.dK kvs) from zP ok e
theorem uY {kvs:List (Key × V)} (ok:gQ P w H h) (e:H a=some (.dK kvs)):kvs.length<=sizeLine/\(a==sysModules)=false/\∃ vs,KV kvs vs/\h.DictOf (ck P w) a vs:=uZ ok (.inl e)
theorem qE {ks:List Key} (ok:gQ P w H h) (e:H a=some (.tup (ks.map kV))):(tupleKind (ck P w)).is h ks a:=by
 obtain⟨_,its,r,o,h1,h2,n,h3⟩:=(show bV P w H h a (.tup (ks.map kV)) from ok a _ e)
 exact⟨o,its.toArray,n,h1,h2,h3,by simpa using mD r⟩
theorem va {kvs:List (List Key × V)} (ok:gQ P w H h) (e:Rd H a (.dT kvs)):kvs.length<=sizeLine/\(a==sysModules)=false /\
  ∃ xs,KT H kvs xs/\h.DictOfH (tupleKind (ck P w)) a xs:=by
 obtain⟨z,y,xs,r,o,es,ep,h1,h2,h3,h4,h5⟩:=(show bV P w H h a (.dT kvs) from zP ok e)
 refine⟨z,y,xs,r,o,es,ep,h1,h2,h3,h4,λx hx=>?_,h5⟩
 have all:∀{l:List (List Key × V)} {m:List (List Key × Addr × Value)},KT H l m->∀ x∈m,(tupleKind (ck P w)).is h x.1 x.2.1:=by
  intro l m q
  induction q with
  | nil=>intro x hx;exact nomatch hx
  | @cons p q ps qs hq t ih =>
   intro x hx
   rcases List.mem_cons.mp hx with e | hx
   ·subst e
    exact qE ok (by rw [<- hq.1];exact hq.2.1)
   ·exact ih x hx
 exact all r x hx
theorem BS {kvs:List (List Key × V)} (ok:gQ P w H h) (e:H a=some (.dT kvs)):kvs.length<=sizeLine/\(a==sysModules)=false /\
  ∃ xs,KT H kvs xs/\h.DictOfH (tupleKind (ck P w)) a xs:=va ok (.inl e)
end
def jf (H:Hp) (a:Addr) (y:V) (r:Option V):Prop :=
 (∃ kvs k,Rd H a (.dK kvs)/\y=kV k/\r=fj kvs k)∨∃ kvs k b,Rd H a (.dT kvs)/\y=.ref b/\H b=some (.tup (k.map kV))/\r=fj kvs k
def oi (H:Hp) (a:Addr) (y v:V) (H':Hp):Prop :=
 (∃ kvs k,H a=some (.dK kvs)/\y=kV k/\kvs.length<sizeLine/\H'=upd H a (.dK (putK kvs k v))) ∨
 ∃ kvs k b,H a=some (.dT kvs)/\y=.ref b/\H b=some (.tup (k.map kV))/\kvs.length<sizeLine/\H'=upd H a (.dT (putK kvs k v))
theorem jf.k {H:Hp} {a:Addr} {kvs:List (Key × V)} {k:Key} (e:H a=some (.dK kvs)):jf H a (kV k) (fj kvs k):=.inl ⟨kvs,k,.inl e,rfl,rfl⟩
theorem jf.t {H:Hp} {a b:Addr} {kvs:List (List Key × V)} {k:List Key} (e:H a=some (.dT kvs)) (eb:H b=some (.tup (k.map kV))):jf H a (.ref b) (fj kvs k):=.inr ⟨kvs,k,b,.inl e,rfl,eb,rfl⟩
theorem oi.k {H:Hp} {a:Addr} {kvs:List (Key × V)} {k:Key} {v:V} (e:H a=some (.dK kvs)) (hl:kvs.length<sizeLine):oi H a (kV k) v (upd H a (.dK (putK kvs k v))):=.inl ⟨kvs,k,e,rfl,hl,rfl⟩
theorem oi.t {H:Hp} {a b:Addr} {kvs:List (List Key × V)} {k:List Key} {v:V} (e:H a=some (.dT kvs)) (eb:H b=some (.tup (k.map kV))) (hl:kvs.length<sizeLine) :
  oi H a (.ref b) v (upd H a (.dT (putK kvs k v))):=.inr ⟨kvs,k,b,e,rfl,eb,hl,rfl⟩
section
variable {X:Cx} {pins:List (Addr × Obj)} {σ:St} {H:Hp} {s:Shared} {a:Addr} {y v:V} {u r:Value} {o:Option V} {A:Around} {E:Value->Shared->Prop}
theorem Inv.big (I:Inv X pins σ H s):sysModules<s.heap.objs.size:=by
 have h:mainGlobals<s.heap.objs.size:=(I.mod.glob.keeps I.bk).lt
 exact Nat.lt_trans (by decide) h
theorem tD {Q:Value->Shared->Prop} (hu:A.units+1<cLine) (I:Inv X pins σ H s) (g:jf H a y (some v)) (ry:RelV y u) (h:∀ w' s',Inv X pins σ H s'->RelV v w'->Q w' s') :
  wpAny (model X.prog X.w) A (getItem (.ref a) u) Q E s:=by
 rcases g with⟨kvs,k,e,ey,l⟩|⟨kvs,k,b,e,ey,eb,l⟩
 ·subst ey
  obtain⟨z,hd,vs,rel,dd⟩:=uZ I.hok e
  obtain⟨w',hw,rw'⟩:=ji.some_of (v:=v) (o:=valueAt vs k) (by rw [l];exact rel.val k)
  exact wpAny_getItem_of (rQ ry) dd.mapOf hw (h w' _ (I.tok _) rw')
 ·subst ey
  cases (show u=Value.ref b from ry)
  obtain⟨z,hd,xs,rel,dd⟩:=va I.hok e
  obtain⟨w',hw,rw'⟩:=ji.some_of (v:=v) (o:=(atKey xs k).map (·.2)) (by rw [l];exact rel.val k)
  obtain⟨p,hp,hp2⟩:=Option.map_eq_some_iff.mp hw
  refine wpAny_getItem_heap (tupleKind_room_in1 hu) (qE I.hok eb) dd hp ?_
  rw [hp2]
  exact h w' _ (I.tok _) rw'
theorem nh {h':Heap} {t':Nat} {ob:HO} (I:Inv X pins σ H s) (mu:BF (H a)) (hs:Heap.SameBut a s.heap h') (he:∃ q,h'.get? a=some q) (new:bV X.prog X.w (upd H a ob) h' a ob) :
  Inv X pins σ (upd H a ob) { s with heap:=h',toks:=t' } :=
 I.write (x:=a) (e:=a) mu (.inl rfl) (λb q hb z=>(hs.2 b hb).trans z) he new
theorem uX {P:Program} {w:World} {H':Hp} {h':Heap} {kvs:List (Key × V)} {vs:List (Key × Value)} (z:kvs.length<=sizeLine) (hd:(a==sysModules)=false) (rel:KV kvs vs) (dd:h'.DictOf (ck P w) a vs) :
  bV P w H' h' a (.dK kvs):=⟨z,hd,vs,rel,dd⟩
theorem tF {H':Hp} {Q:Unit->Shared->Prop} (hu:A.units+1<cLine) (I:Inv X pins σ H s) (g:oi H a y v H') (ry:RelV y u) (rv:RelV v r) (h:∀ s',Inv X pins σ H' s'->Q () s') :
  wpAny (model X.prog X.w) A (setItem (.ref a) u r) Q E s:=by
 rcases g with⟨kvs,k,e,ey,l,eH⟩|⟨kvs,k,b,e,ey,eb,l,eH⟩
 ·subst ey eH
  obtain⟨z,hd,vs,rel,dd⟩:=uY I.hok e
  have hz:vs.length<=sizeLine:=by rw [<- rel.length];exact z
  have hl:(putK kvs k v).length<=sizeLine:=by have:=fR kvs k v;omega
  refine wpAny_setItem_pairs (hsz:=hz) (rQ ry) dd λh' dd' hs=>h _ ?_
  have he:∃ q,h'.get? a=some q:=let ⟨q,_,_,hq,_⟩:=dd';⟨q,hq⟩
  exact nh I (by rw [e];exact True.intro) hs he (uX hl hd (rel.put k rv) dd')
 ·subst ey eH
  cases (show u=Value.ref b from ry)
  obtain⟨z,hd,xs,rel,dd⟩:=BS I.hok e
  have hz:xs.length<=sizeLine:=by rw [<- Paired.length rel];exact z
  have hl:(putK kvs k v).length<=sizeLine:=by have:=fR kvs k v;omega
  refine wpAny_setItem_heap (hsz:=hz) (tupleKind_room_in1 hu) (qE I.hok eb) dd λh' dd' hs=>h _ ?_
  obtain⟨q,es,ep,hq,h2,h3,h4,_,h5⟩:=dd'
  refine nh I (by rw [e];exact True.intro) hs ⟨q,hq⟩ ⟨hl,hd,_,(rel.put k eb rv).keeps λc ys ec=>?_,q,es,ep,hq,h2,h3,h4,h5⟩
  rw [aJ (rW ec e (λz=>nomatch z))]
  exact ec
end
section
variable {X:Cx} {pins:List (Addr × Obj)} {σ:St} {H:Hp} {s:Shared} {a:Addr} {kvs:List (Key × V)} {k:Key} {u:Value} {A:Around} {E:Value->Shared->Prop}
end
def BG (i:Expr):Prop:=∀ ov iv,subscripted i false ov iv=operate [ov,iv] (getItem ov iv)
theorem yW {prog:Program} {w:World} {A:Around} {E:Value->Shared->Prop} {s:Shared} {env:Env} {value slice:Expr} {pos:Pos} {T id:String} {Q:Value->Shared->Prop}
  (hl:typeLookup (.type T) "__getitem__"=pure (some (.builtin id))) (hs:BG slice)
  (h:wpAny (model prog w) A (eval value env) (λo s₁=>wpAny (model prog w) A (eval slice env) (λi s₂=>s₂.TypeIs o T/\wpAny (model prog w) A (getItem o i) Q E s₂) E s₁) E s) :
  wpAny (model prog w) A (eval (.Subscript value slice pos) env) Q E s:=by
 refine Subscript_ (wpAny_mono h (λo s₁ h₁=>wpAny_mono h₁ (λi s₂ h₂=>?_) λ_ _ x=>x) λ_ _ x=>x)
 obtain⟨hT,h₂⟩:=h₂
 unfold subscriptTail
 refine wpAny_bind ?_
 rw [getitemInPython_of_ne hT.not_modules]
 refine wpAny_bind (wpAny_specialOf hT hl ?_)
 have fin:wpAny (model prog w) A (subscripted slice false o i) (λr s₃=>wpAny (model prog w) A (letTemporaryGo value o r >>= λ_=>pure r) Q E s₃) E s₂:=by
  rw [hs o i]
  exact wpAny_operating (wpAny_mono h₂ (λr s₃ h₃=>wpAny_bind (wpAny_letTemporaryGo (wpAny_pure h₃))) λ_ _ x=>x)
 first
  | exact wpAny_pure (wpAny_bind fin)
  | exact wpAny_bind (wpAny_pure (wpAny_bind fin))
  | exact wpAny_bind fin
theorem oG {X:Cx} {pins:List (Addr × Obj)} {σ:St} {H:Hp} {s:Shared} {a:Addr} {y:V} {o:Option V} (I:Inv X pins σ H s) (g:jf H a y o):s.TypeIs (.ref a) "dict":=by
 rcases g with⟨kvs,k,e,_,_⟩|⟨kvs,k,b,e,_,_,_⟩
 ·obtain⟨_,_,vs,_,dd⟩:=uZ I.hok e
  exact dd.typeIs
 ·obtain⟨_,_,xs,_,dd⟩:=va I.hok e
  exact dd.typeIs
def zX (td ty:TE):TE:=λσ H Q=>td σ H λx H1=>ty σ H1 λy H2=>∃ a v,x=.ref a/\jf H2 a y (some v)/\Q v H2
def DZ (ty td:TE):TE:=λσ H Q=>ty σ H λy H1=>td σ H1 λx H2=>∃ a o,x=.ref a/\jf H2 a y o/\Q (.bl o.isSome) H2
def yX (ty td:TE):TE:=λσ H Q=>ty σ H λy H1=>td σ H1 λx H2=>∃ a o,x=.ref a/\jf H2 a y o/\Q (.bl (!o.isSome)) H2
def zQ (td ty tv:TE):TS:=λD σ H=>tv σ H λv H1=>td σ H1 λx H2=>ty σ H2 λy H3=>∃ a H4,x=.ref a/\oi H3 a y v H4/\D.nx σ H4
section
variable {X:Cx} {o i e value:Expr} {pos pos' tpos:Pos} {td ty tv:TE}
theorem iL (hu:X.A.units+1<cLine) (ho:PE X o td) (hi:PE X i ty) (hs:BG i):PE X (.Subscript o i pos) (zX td ty):=by
 intro pins s σ H Q I h
 refine yW PySem.F.slot_dict_getitem.lookup hs (bS (ho pins s σ H _ I h) λu s1 ⟨x,H1,I1,rx,q1⟩=>bS (hi pins s1 σ H1 _ I1 q1) λiv s2 ⟨y,H2,I2,ry,a,v,ex,g,q2⟩=>?_)
 subst ex
 obtain rfl:u=Value.ref a:=rx
 exact⟨oG I2 g,tD hu I2 g ry λw' s3 I3 rw'=>⟨v,H2,I3,rw',q2⟩⟩
theorem nO (hu:X.A.units+1<cLine) (ho:PE X o td) (hi:PE X i ty) (hv:PE X value tv) (hs:swapsWith value (some (.Subscript o i pos')) pos.line X.env=pure false) :
  PS X (.Assign [.Subscript o i pos'] value pos) (zQ td ty tv):=by
 intro pins s σ H D I h
 refine wpAny_Assign_Subscript (bS (hv pins s σ H _ I h) λr s1 ⟨v,H1,I1,rv,q1⟩=>bS (ho pins s1 σ H1 _ I1 q1) λu s2 ⟨x,H2,I2,rx,q2⟩=>bS (hi pins s2 σ H2 _ I2 q2) λiv s3 ⟨y,H3,I3,ry,a,H4,ex,g,q3⟩=>?_) hs
 subst ex
 obtain rfl:u=Value.ref a:=rx
 exact tF hu I3 g ry rv λs4 I4=>⟨σ,H4,I4,q3⟩
end
theorem oH {P:Program} {w:World} {H:Hp} (h:Heap) (hb:sysModules<h.objs.size):bV P w H (h.push { cls:=.type "dict",data:=.dict #[] }) h.objs.size (.dK []) :=
 ⟨Nat.zero_le _,beq_eq_false_iff_ne.mpr (Ne.symm (Nat.ne_of_lt hb)),[],.nil,Heap.DictOf.new h⟩
def xj:TE:=λ_ H Q=>∀ p,H p=none->Q (.ref p) (upd H p (.dK []))
def Bj:TE:=λ_ H Q=>∀ p,H p=none->Q (.ref p) (upd H p (.dT []))
section
variable {X:Cx} {pos:Pos}
theorem wu:PE X (.Dict [] [] pos) xj:=λpins s σ H Q I h =>
 wpAny_Dict_empty ⟨.ref s.heap.objs.size,_,I.laid (a:=s.heap.objs.size) (o:=.dK []) (t':=s.toks) (λ_ _ q=>Heap.get?_push_of_some _ q) (Nat.le_refl _) (oH s.heap I.big),rfl,h _ (I.hok.fresh (Nat.le_refl _))⟩
end
def nY:List (TE × TE)->St->Hp->(List (V × V)->Hp->Prop)->Prop
 | [],_,H,Q=>Q [] H
 | (tk,tv)::r,σ,H,Q=>tk σ H λx H1=>tv σ H1 λy H2=>nY r σ H2 λps H3=>Q ((x,y)::ps) H3
abbrev VV:List (V × V)->List (Value × Value)->Prop:=Paired λp q=>RelV p.1 q.1/\RelV p.2 q.2
def qi (X:Cx) (pos:Pos) (keys:List (Option Expr)) (values:List Expr) (trs:List (TE × TE)):Prop :=
 ∀(pins:List (Addr × Obj)) (s:Shared) (σ:St) (H:Hp) (Q:List (V × V)->Hp->Prop),Inv X pins σ H s->nY trs σ H Q ->
  wpAny (model X.prog X.w) X.A (evalPairs (pairTrees keys values X.env pos)) (λvs s'=>∃ ps H',Inv X pins σ H' s'/\VV ps vs/\Q ps H') X.xe s
theorem sD {X:Cx} {pos:Pos}:qi X pos [] [] []:=λpins s σ H Q I h=>pairTrees_nil_walk ⟨[],H,I,.nil,h⟩
theorem iO {X:Cx} {pos:Pos} {k v:Expr} {ks:List (Option Expr)} {vs:List Expr} {tk tv:TE} {trs:List (TE × TE)} (hk:PE X k tk) (hv:PE X v tv) (hr:qi X pos ks vs trs) :
  qi X pos (some k::ks) (v::vs) ((tk,tv)::trs):=λpins s σ H Q I h =>
 pairTrees_cons_walk (bS (hk pins s σ H _ I h) λu s1 ⟨x,H1,I1,rx,q1⟩=>bS (hv pins s1 σ H1 _ I1 q1) λw2 s2 ⟨y,H2,I2,ry,q2⟩ =>
  bS (hr pins s2 σ H2 _ I2 q2) λws s3 ⟨ps,H3,I3,rel,q3⟩=>⟨(x,y)::ps,H3,I3,.cons ⟨rx,ry⟩ rel,q3⟩)
def kX (kvs more:List (Key × V)):List (Key × V):=more.foldl (λacc kv=>putK acc kv.1 kv.2) kvs
theorem KV.merge:∀{more:List (Key × V)} {rs:List (Key × Value)} {kvs:List (Key × V)} {vs:List (Key × Value)},KV more rs->KV kvs vs->KV (kX kvs more) (merged vs rs):=by
 intro more rs kvs vs r
 unfold KV at r
 induction r generalizing kvs vs with
 | nil=>intro q;exact q
 | @cons p q ps qs h t ih =>
  intro r0
  have e:KV (putK kvs p.1 p.2) (stored vs q.1 q.2):=by
   have:=r0.put p.1 h.2
   rw [<- h.1];exact this
  exact ih e
theorem gU:∀(more kvs:List (Key × V)),(kX kvs more).length<=kvs.length+more.length
 | [],kvs=>by show kvs.length<=kvs.length+0;omega
 | p::r,kvs=>by
  have h1:=gU r (putK kvs p.1 p.2)
  have h2:=fR kvs p.1 p.2
  show (kX (putK kvs p.1 p.2) r).length<=_
  rw [List.length_cons];omega
theorem kG {P:Program} {w:World}:∀{kvs:List (Key × V)} {ws:List (Value × Value)},VV (kvs.map λkv=>(kV kv.1,kv.2)) ws->∃ rs,Carries (ck P w) ws rs/\KV kvs rs
 | [],_,r=>by rw [List.map_nil] at r;cases r;exact⟨[],True.intro,.nil⟩
 | p::kvs,_,r=>by
  rw [List.map_cons] at r
  cases r with
  | @cons a b as bs h t =>
   obtain⟨rs,c,q⟩:=kG (P:=P) (w:=w) t
   obtain⟨b1,b2⟩:=b
   exact⟨(p.1,b2)::rs,⟨rQ h.1,rfl,c⟩,.cons ⟨rfl,h.2⟩ q⟩
def zY (trs:List (TE × TE)):TE:=λσ H Q=>∀ p,H p=none->nY trs σ (upd H p (.dK [])) λps H2=>H2 p=some (.dK [])/\∃ kvs:List (Key × V),ps=kvs.map (λkv=>(kV kv.1,kv.2))/\kvs.length<=15/\Q (.ref p) (upd H2 p (.dK (kX [] kvs)))
theorem su {X:Cx} {pos:Pos} {keys:List (Option Expr)} {values:List Expr} {trs:List (TE × TE)} (h:qi X pos keys values trs) (hall:keys.all (·.isSome)=true) (hl:keys.length=values.length) (h0:keys≠[])
  (h15:keys.length<=15):PE X (.Dict keys values pos) (zY trs):=by
 intro pins s σ H Q I q
 have hn:=I.hok.fresh (Nat.le_refl s.heap.objs.size)
 have I1:=I.laid (a:=s.heap.objs.size) (o:=.dK []) (h':=s.heap.push { cls:=.type "dict",data:=.dict #[] }) (t':=s.toks) (λ_ _ q=>Heap.get?_push_of_some _ q) (Nat.le_refl _) (oH s.heap I.big)
 refine wpAny_Dict_walk (knd:=ck X.prog X.w) hall hl h0 h15 (bS (h pins _ σ _ _ I1 (q _ hn)) λws s2 ⟨ps,H2,I2,rel,e,kvs,ep,lk,q2⟩=>?_)
 subst ep
 obtain⟨rs,c,rk⟩:=kG (P:=X.prog) (w:=X.w) rel
 obtain⟨z,hd,vs0,r0,dd⟩:=uY I2.hok e
 cases r0
 refine⟨rs,c,dd,λh' dd' hs=>⟨.ref s.heap.objs.size,_,?_,rfl,q2⟩⟩
 have hz:(kX [] kvs).length<=sizeLine:=by
  have h1:=gU kvs []
  rw [List.length_nil] at h1
  rw [sizeLine_eq];omega
 have he:∃ q,h'.get? s.heap.objs.size=some q:=let ⟨q,_,_,hq,_⟩:=dd';⟨q,hq⟩
 exact nh I2 (by rw [e];exact True.intro) hs he (uX hz hd (rk.merge .nil) dd')
structure M1 (X:Cx) (o:Expr) (m:Str) (apos:Pos) (e:Expr) (cpos:Pos):Prop where
 base:attributeBase o m X.env (eval o X.env)=eval o X.env
 km:((backTo cpos (starEach [e] X.env)).all (λx=>!x.1) && (backToKw cpos (keywordEach [] X.env)).all (λx=>x.1.isSome)
  && decide (([e]:List Expr).length+([]:List Keyword).length+(if ([]:List Keyword).isEmpty then 0 else 1)<30))=true
 line:(apos.endLine==cpos.line)=true
 trees:backTo cpos (starEach [e] X.env)=[(false,eval e X.env)]
structure M2 (X:Cx) (o:Expr) (m:Str) (apos:Pos) (e f:Expr) (cpos:Pos):Prop where
 base:attributeBase o m X.env (eval o X.env)=eval o X.env
 km:((backTo cpos (starEach [e,f] X.env)).all (λx=>!x.1) && (backToKw cpos (keywordEach [] X.env)).all (λx=>x.1.isSome)
  && decide (([e,f]:List Expr).length+([]:List Keyword).length+(if ([]:List Keyword).isEmpty then 0 else 1)<30))=true
 line:(apos.endLine==cpos.line)=true
 trees:backTo cpos (starEach [e,f] X.env)=[(false,eval e X.env),(false,eval f X.env)]
def EA (H:Hp) (a:Addr):Prop:=(∃ kvs,Rd H a (.dK kvs))∨∃ kvs,Rd H a (.dT kvs)
section
variable {X:Cx} {pins:List (Addr × Obj)} {σ:St} {H:Hp} {s:Shared} {a:Addr} {y d:V} {u r:Value} {o:Option V} {A:Around} {E:Value->Shared->Prop}
end
section
variable {X:Cx} {o e f:Expr} {apos cpos:Pos} {td ty tx:TE}
end
section
variable {X:Cx} {pins:List (Addr × Obj)} {σ:St} {H:Hp} {s:Shared} {a:Addr} {kvs:List (Key × V)} {A:Around} {E:Value->Shared->Prop}
end
section
variable {X:Cx} {pins:List (Addr × Obj)} {σ:St} {H:Hp} {s:Shared} {a:Addr} {y:V} {u:Value} {A:Around} {E:Value->Shared->Prop}
end
def jH (l:Int) (b:Bool):HO:=.dK [(Sum.inr "left",.int l),(Sum.inr "free",.bl b)]
def rZ (l:Int) (b:Bool):Prop:=b=true∨(0<=l/\l<2147483647)
def Up (p:Addr) (b:Bool) (H H':Hp):Prop:=∃ l,rZ l b/\H'=upd H p (jH l b)
theorem jK {H:Hp} {p:Addr} {o o':HO}:upd (upd H p o) p o'=upd H p o':=by
 funext c
 by_cases e:c=p
 ·subst e;rw [ai,ai]
 ·rw [aJ e,aJ e,aJ e]
theorem Up.trans {p:Addr} {b:Bool} {H H1 H2:Hp} (h:Up p b H H1) (h':Up p b H1 H2):Up p b H H2:=by
 obtain⟨l,_,rfl⟩:=h
 obtain⟨l',k',rfl⟩:=h'
 exact⟨l',k',jK⟩
theorem Up.at {p:Addr} {b:Bool} {H H1:Hp} (h:Up p b H H1):∃ l,rZ l b/\H1 p=some (jH l b):=by
 obtain⟨l,k,rfl⟩:=h
 exact⟨l,k,ai⟩
theorem Up.ne {p q:Addr} {b:Bool} {H H1:Hp} (h:Up p b H H1) (n:q≠p):H1 q=H q:=by
 obtain⟨l,k,rfl⟩:=h
 exact aJ n
theorem iF {H:Hp} {p:Addr} {l:Int} {b:Bool} (h:H p=some (jH l b)):jf H p (.str "left") (some (.int l)):=jf.k (k:=Sum.inr "left") h
theorem vm {H:Hp} {p:Addr} {l:Int} {b:Bool} (h:H p=some (jH l b)):jf H p (.str "free") (some (.bl b)):=jf.k (k:=Sum.inr "free") h
theorem pH {H:Hp} {p:Addr} {l l':Int} {b:Bool} (h:H p=some (jH l b)):oi H p (.str "left") (.int l') (upd H p (jH l' b)):=.inl ⟨_,Sum.inr "left",h,rfl,by show 2<sizeLine;decide,rfl⟩
def Us (p:Addr) (b:Bool) (H H':Hp):Prop:=(∃ l,rZ l b/\H' p=some (jH l b))/\∀ q o,q≠p->H q=some o->H' q=some o
theorem Up.us {p:Addr} {b:Bool} {H H':Hp} (h:Up p b H H'):Us p b H H':=⟨h.at,λq o n e=>by rw [h.ne n];exact e⟩
theorem Us.trans {p:Addr} {b:Bool} {H H1 H2:Hp} (h:Us p b H H1) (h':Us p b H1 H2):Us p b H H2:=⟨h'.1,λq o n e=>h'.2 q o n (h.2 q o n e)⟩
theorem Us.lay {p q:Addr} {b:Bool} {H H1:Hp} {o:HO} (h:Us p b H H1) (f:H1 q=none):Us p b H (upd H1 q o):=by
 obtain⟨⟨l,k,e⟩,s⟩:=h
 exact⟨⟨l,k,by rw [aJ (λz=>by rw [<- z,e] at f;cases f)];exact e⟩,λr u n er=>by
  have:=s r u n er
  rw [aJ (λz=>by rw [z,f] at this;cases this)];exact this⟩
theorem Us.refl {p:Addr} {b:Bool} {H:Hp} {l:Int} (h:H p=some (jH l b)) (k:rZ l b):Us p b H H:=⟨⟨l,k,h⟩,λ_ _ _ e=>e⟩
theorem Us.free {p q:Addr} {b:Bool} {H H1:Hp} (h:Us p b H H1) (f:H1 q=none):H q=none:=by
 cases e:H q with
 | none=>rfl
 | some o =>
  by_cases n:q=p
  ·subst n
   obtain⟨l,_,z⟩:=h.1
   rw [z] at f;cases f
  ·rw [h.2 q o n e] at f;cases f
theorem Us.set {p q:Addr} {b:Bool} {H H1:Hp} {o:HO} (h:Us p b H H1) (f:H q=none) (n:q≠p):Us p b H (upd H1 q o):=by
 obtain⟨⟨l,k,e⟩,s⟩:=h
 exact⟨⟨l,k,by rw [aJ (Ne.symm n)];exact e⟩,λr u n er=>by rw [aJ (λz=>by rw [z,f] at er;cases er)];exact s r u n er⟩
theorem Us.same {p:Addr} {b:Bool} {H H0 H1:Hp} (h:Us p b H H1) (s:aE H0 H) (f:H0 p=none):aE H0 H1:=λc o e=>h.2 c o (λz=>by rw [z,f] at e;cases e) (s c o e)
section
variable {K:PySem.W.Frag} {H H':Hp}
theorem aY.dB {a:Addr} {xs:List V} (k:∀ a xs,Rd H a (.tup xs)->Rd H' a (.tup xs)) (h:aY K H a xs):aY K H' a xs:=h.imp (λz=>k _ _ z) id
mutual
theorem dv.dB (k:∀ a xs,Rd H a (.tup xs)->Rd H' a (.tup xs)):∀(d:PyData) {v:V},yj d=true->dv K H d v->dv K H' d v
 | .none,_,_,h=>h
 | .bool _,_,_,h=>h
 | .int _,_,_,h=>h
 | .str _,_,_,h=>h
 | .list ds,_,z,_=>by cases z
 | .tuple ds,_,z,⟨q,xs,e,h,t⟩=>⟨q,xs,e,h.dB k,bo.dB k ds z t⟩
 | .dict _,_,_,h=>h.elim
theorem bo.dB (k:∀ a xs,Rd H a (.tup xs)->Rd H' a (.tup xs)):∀(ds:List PyData) {xs:List V},lY ds=true->bo K H ds xs->bo K H' ds xs
 | [],_,_,h=>h
 | d::ds,_,z,⟨x,r,e,h,t⟩=>by
  have z':yj d=true/\lY ds=true:=by simpa [lY] using z
  exact⟨x,r,e,dv.dB k d z'.1 h,bo.dB k ds z'.2 t⟩
end
theorem bo.set:∀{ds:List PyData} {us:List V} (i:Nat) {d:PyData} {v:V},bo K H ds us->dv K H d v->bo K H (ds.set i d) (us.set i v)
 | [],_,_,_,_,h,_=>by cases h;exact rfl
 | e::ds,_,0,_,_,⟨x,r,ex,h,t⟩,hv=>by subst ex;exact⟨_,_,rfl,hv,t⟩
 | e::ds,_,i+1,_,_,⟨x,r,ex,h,t⟩,hv=>by subst ex;exact⟨_,_,rfl,h,bo.set i t hv⟩
theorem Us.dB {p:Addr} {b:Bool} {l:Int} (h:Us p b H H') (hp:H p=some (jH l b)):∀ a xs,Rd H a (.tup xs)->Rd H' a (.tup xs):=by
 intro a xs z
 rcases z with z | ⟨o,z⟩
 ·exact .inl (h.2 _ _ (λe=>by rw [e,hp] at z;cases z) z)
 ·exact .inr ⟨o,h.2 _ _ (λe=>by rw [e,hp] at z;cases z) z⟩
theorem eX {p:Addr} {us vs:List V} (hp:H p=some (.lst us)):∀ a xs,Rd H a (.tup xs)->Rd (upd H p (.lst vs)) a (.tup xs):=by
 intro a xs z
 rcases z with z | ⟨o,z⟩
 ·exact .inl (by rw [aJ (λe=>by rw [e,hp] at z;cases z)];exact z)
 ·exact .inr ⟨o,by rw [aJ (λe=>by rw [e,hp] at z;cases z)];exact z⟩
end
theorem Us.ref {p:Addr} {b:Bool} {H H1:Hp} (h:Us p b H H1):∃ l,rZ l b/\H1 p=some (jH l b):=h.1
theorem wF {X:Cx} {ss:List Stmt}:oo X ss (λ_ _ _=>False):=by
 intro _ _ _ _ _ _ h
 exact False.elim h
theorem wD {X:Cx} {Ex:Addr->Shared->Hp->List Addr->Value->Shared->Prop} {elt target iter:Expr} {ifs:List Expr} {scope:Scope} {pos:Pos} {N':List Str} {js:List (Option Nat)} {cl:List (Str × Addr)} {wi:TI} {g:TG} {tt:TT} {te:TE} {i0:Nat} {x0:Str} {pos' pos2:Pos} (hN0:X.N.Nodup) (hi0:X.N[i0]?=some x0) (hx0:Loc X.env.scope x0) (hcalm:X.calm=true)
  (K:fJ X N' js scope cl) (hi:PI X target iter wi)
  (hg:∀ C s₂ H₂ fp,lQ X C s₂ H₂ fp->PG (cB X (Ex C s₂ H₂ fp) N' scope cl C s₂ H₂ fp) target g) (ht:∀ C s₂ H₂ fp,lQ X C s₂ H₂ fp->lR (cB X (Ex C s₂ H₂ fp) N' scope cl C s₂ H₂ fp) ifs tt) (he:∀ C s₂ H₂ fp,lQ X C s₂ H₂ fp->PE (cB X (Ex C s₂ H₂ fp) N' scope cl C s₂ H₂ fp) elt te)
  (herr:∀ C s₂ H₂ fp use Q' acc e s',Ex C s₂ H₂ fp e s'->notedBy (model X.prog X.w) X.A (compEnvC scope (cellsFrom (C+1) scope.names cl) C X.env) (λe s''=>compPost (model X.prog X.w) X.A X.xe use Q' acc C (.error e) s'') e s')
  (hsw:swapsWith (.ListComp elt [⟨target,iter,ifs,0⟩] scope pos) (some (.Name x0 pos')) pos2.line X.env=pure true) (hf0:X.fn x0=true∨X.env.scope.names.lookup x0=some .local)
  (hs:∀ x,foldedSetIterable iter X.env x=pure x:=by intro _;rfl):PS X (.Assign [.Name x0 pos'] (.ListComp elt [⟨target,iter,ifs,0⟩] scope pos) pos2) (uA (Dc js wi g tt te) (cK i0)):=by
 intro pins s σ H Dn I h
 rw [exec_Assign_Name_used _ _ _ _ hsw]
 refine wpAny_bind (wpAny_standAt (wpAny_bind ?_))
 unfold evalThenUse
 refine wpAny_bind ?_
 refine wpAny_comprehension_free (use:=some (assign (.Name x0 pos') X.env)) rfl hs K.clos K.kind K.names (bS (hi pins s σ H _ I h) λv s1 h1=>bS h1 λitv s2 h2=>?_)
 obtain⟨H2,I2⟩:∃ H2,Inv X pins σ H2 s2:=by obtain⟨_,_,_,_,H2,_,I2,_⟩:=h2;exact⟨H2,I2⟩
 refine rR (Ex:=Ex) (Q:=λx H1=>cK i0 x σ H1 Dn.nx) hcalm K hg ht he herr h2 λC D vys H4 s5 hm hDe hDleC hDC nD nC hI qn=>?_
 obtain⟨m5,hn5⟩:=hm
 have le:=Nat.le_trans hDe hDleC
 have key:Inv X pins σ (upd H4 D (.lst vys)) s5:=hI s5.heap ⟨rfl,λ_ _=>rfl⟩
 have nC':upd H4 D (.lst vys) C=none:=by rw [aJ (Ne.symm hDC)];exact nC
 have CL:C≠X.env.locals:=λz=>by
  have:=I2.lt
  rw [<- z] at this
  exact Nat.lt_irrefl _ (Nat.lt_of_lt_of_le this le)
 have Cfs:C∉X.fs:=λz=>I2.yk le z
 obtain⟨oC,es,ep,gC,dC,skC,fdC⟩:=hn5
 have J1:Inv X ((C,oC)::pins) σ (upd H4 D (.lst vys)) s5:=key.gL λp hp=>by
  rcases List.mem_cons.mp hp with z | z
  ·subst z
   exact⟨gC,nC',CL,Cfs,λv z=>by rw [dC] at z;cases z⟩
  ·exact key.pin p (List.mem_append_right _ z)
 show wpAny _ _ (assign (.Name x0 pos') X.env (.ref D)) _ _ _
 refine PyProof.Rows.assign_Name ?_
 refine cY J1 hN0 hi0 hx0 (show RelV (.ref D) (.ref D) from rfl) (λs6 I6=>?_) hf0
 have pC:=(I6.pin (C,oC) (List.mem_append_right _ (List.mem_cons_self ..))).1
 refine⟨m5,⟨oC,es,ep,pC,dC,skC,fdC⟩,λh' hsb'=>?_⟩
 have I7:Inv X pins (σ.set i0 (some (.ref D))) (upd H4 D (.lst vys)) s6:=I6.gL λp hp=>I6.pin p (List.mem_append_right _ (List.mem_cons_of_mem _ hp))
 have I8:=I7.turned (t':=s6.toks) (it:=C) (λb o hb e=>hsb'.extBut b o hb e) nC' CL (.inr (Nat.le_trans I2.sz le))
  (λx c e=>by
   obtain⟨v,q⟩:=I2.cell x c e
   exact Nat.ne_of_lt (Nat.lt_of_lt_of_le q.lt le))
  (λp hp=>Nat.ne_of_lt (Nat.lt_of_lt_of_le (Heap.lt_size (I2.pin p hp).1) le))
 exact wpAny_pure (wpAny_pure ⟨_,_,I8,qn⟩)
theorem fA {X:Cx} {elt target iter:Expr} {ifs:List Expr} {scope:Scope} {pos:Pos} {N':List Str} {js:List (Option Nat)} {cl:List (Str × Addr)} {wi:TI} {g:TG} {tt:TT} {te:TE} {i0:Nat} {x0:Str} {pos' pos2:Pos} (hN0:X.N.Nodup) (hi0:X.N[i0]?=some x0) (hx0:Loc X.env.scope x0) (hcalm:X.calm=true)
  (K:fJ X N' js scope cl) (hi:PI X target iter wi)
  (hg:∀ C s₂ H₂ fp,PG (cS X N' scope cl C s₂ H₂ fp) target g) (ht:∀ C s₂ H₂ fp,lR (cS X N' scope cl C s₂ H₂ fp) ifs tt) (he:∀ C s₂ H₂ fp,PE (cS X N' scope cl C s₂ H₂ fp) elt te)
  (hsw:swapsWith (.ListComp elt [⟨target,iter,ifs,0⟩] scope pos) (some (.Name x0 pos')) pos2.line X.env=pure true) (hf0:X.fn x0=true∨X.env.scope.names.lookup x0=some .local)
  (hs:∀ x,foldedSetIterable iter X.env x=pure x:=by intro _;rfl):PS X (.Assign [.Name x0 pos'] (.ListComp elt [⟨target,iter,ifs,0⟩] scope pos) pos2) (uA (Dc js wi g tt te) (cK i0)) :=
 wD (Ex:=λ_ _ _ _ _ _=>False) hN0 hi0 hx0 hcalm K hi (λC s H f _=>hg C s H f) (λC s H f _=>ht C s H f) (λC s H f _=>he C s H f) (λ_ _ _ _ _ _ _ _ _ z=>z.elim) hsw hf0 hs
theorem n8 (it t:Addr) (i:Nat) (items:Array Value) (x:Value) (hx:items[i]?=some x):Meets (Builtin.«tuple_iterator.__next__» ⟨[.ref it],[]⟩)
  (λ_ R s=>s.heap.IsTupleIter it t i/\s.heap.IsTuple t items/\∀ h',h'.IsTupleIter it t (i+1)->Heap.SameBut it s.heap h'->R (.ok (.ret x)) { s with heap:=h' }) :=
 .of_wp λprog w A R s h=>by
  obtain⟨⟨o,e,c,d⟩,⟨o2,e2,c2,n2,d2⟩,q⟩:=h
  have hx':items[(i:Int).toNat]?=some x:=by simpa using hx
  wp_walk using wpAny_field (i:=0) (x:=Value.ref t) e d rfl,wpAny_field (i:=1) (x:=Value.int i 0) e d rfl,wpAny_seqItems e2 d2
  rw [hx']
  refine wpAny_bind (wpAny_setField e d (show 1<2 by decide) ?_)
  obtain⟨oc,od,odt,os⟩:=o
  cases c
  cases d
  wp_walk
  refine⟨x,rfl,q _ ⟨_,Heap.get?_update_self _ e rfl,rfl,?_⟩ (Heap.SameBut.update ..)⟩
  show Data.fields _=_
  simp [rawInt]
theorem qc (it t:Addr) (i:Nat) (items:Array Value) (hx:items[i]?=none):Meets (Builtin.«tuple_iterator.__next__» ⟨[.ref it],[]⟩)
  (λA R s=>A.handled=none/\s.heap.IsTupleIter it t i/\s.heap.IsTuple t items/\∀ h' e,Heap.ExtBut it s.heap h'->(∃ o,h'.get? e=some o/\o.cls=.type "StopIteration")->R (.error (.ref e)) { s with heap:=h' }) :=
 .of_wp λprog w A R s h=>by
  obtain⟨hn,⟨o,e,c,d⟩,⟨o2,e2,c2,n2,d2⟩,q⟩:=h
  have hx':items[(i:Int).toNat]?=none:=by simpa using hx
  wp_walk using wpAny_field (i:=0) (x:=Value.ref t) e d rfl,wpAny_field (i:=1) (x:=Value.int i 0) e d rfl,wpAny_seqItems e2 d2
  rw [hx']
  wp_walk using wpAny_setField e d (show 0<2 by decide)
  refine wpAny_raiseNew_none hn (q _ _ (λb o hb e=>Heap.get?_push_of_some _ (Heap.get?_push_of_some _ ((Heap.get?_update_other _ _ (Ne.symm hb)).trans e))) ⟨_,Heap.get?_push_size _ rfl,rfl⟩)
section
variable {prog:Program} {w:World} {A:Around} {E:Value->Shared->Prop} {s:Shared} {it t:Addr} {i:Nat} {items:Array Value} {Q:Value->Shared->Prop}
theorem j7 {x:Value} (h1:s.heap.IsTupleIter it t i) (h2:s.heap.IsTuple t items) (hx:items[i]?=some x) (q:∀ h',h'.IsTupleIter it t (i+1)->Heap.SameBut it s.heap h'->Q x { s with heap:=h' }) :
  wpAny (model prog w) A (Builtin.SmallTypes.nextOf (.ref it)) Q E s:=by
 have ty:s.TypeIs (.ref it) "tuple_iterator":=by obtain⟨o,e,c,_⟩:=h1;exact⟨o,e,c⟩
 unfold Builtin.SmallTypes.nextOf
 refine wpAny_bind (wpAny_callSpecial?_slot ty slot_tupleiter_next (call_meets slot_tupleiter_next ty entry_tupleiter_next (args_tupleiter_next _) (n8 it t i items x hx) ⟨h1,h2,λh' a b=>?_⟩))
 exact wpAny_pure (q h' a b)
theorem kY (hn:A.handled=none) (h1:s.heap.IsTupleIter it t i) (h2:s.heap.IsTuple t items) (hx:items[i]?=none) (q:∀ h' e,Heap.ExtBut it s.heap h'->(∃ o,h'.get? e=some o/\o.cls=.type "StopIteration")->E (.ref e) { s with heap:=h' }) :
  wpAny (model prog w) A (Builtin.SmallTypes.nextOf (.ref it)) Q E s:=by
 have ty:s.TypeIs (.ref it) "tuple_iterator":=by obtain⟨o,e,c,_⟩:=h1;exact⟨o,e,c⟩
 unfold Builtin.SmallTypes.nextOf
 exact wpAny_bind (wpAny_callSpecial?_slot ty slot_tupleiter_next (call_meets slot_tupleiter_next ty entry_tupleiter_next (args_tupleiter_next _) (qc it t i items hx) ⟨hn,h1,h2,λh' e a b=>q h' e a b⟩))
end
inductive Sd
 | l
 | t
def Sd.It:Sd->Heap->Addr->Addr->Nat->Prop
 | .l=>Heap.IsListIter
 | .t=>Heap.IsTupleIter
def Sd.Sq:Sd->Heap->Addr->Array Value->Prop
 | .l=>Heap.IsList
 | .t=>Heap.IsTuple
def Sd.io (k:Sd) (a:Addr):Obj:=match k with
 | .l=>{ cls:=.type "list_iterator",data:=.fields #[.ref a,.int 0 0] }
 | .t=>{ cls:=.type "tuple_iterator",data:=.fields #[.ref a,.int 0 0] }
theorem Sd.It.at {k:Sd} {h h':Heap} {it a:Addr} {i:Nat} (x:k.It h it a i) (e:∀ o,h.get? it=some o->h'.get? it=some o):k.It h' it a i:=by
 cases k<;>(obtain⟨o,e1,r⟩:=x;exact⟨o,e o e1,r⟩)
theorem Sd.It.there {k:Sd} {h:Heap} {it a:Addr} {i:Nat} (x:k.It h it a i):∃ o,h.get? it=some o/\∀ v,o.data≠.cell v:=by
 cases k<;>(obtain⟨o,e1,_,d⟩:=x;exact⟨o,e1,λv z=>by rw [d] at z;cases z⟩)
theorem Sd.Sq.at {k:Sd} {h h':Heap} {a:Addr} {xs:Array Value} (x:k.Sq h a xs) (e:∀ o,h.get? a=some o->h'.get? a=some o):k.Sq h' a xs:=by
 cases k<;>(obtain⟨o,e1,r⟩:=x;exact⟨o,e o e1,r⟩)
theorem Sd.Sq.lt {k:Sd} {h:Heap} {a:Addr} {xs:Array Value} (x:k.Sq h a xs):a<h.objs.size:=by
 cases k<;>(obtain⟨o,e1,r⟩:=x;exact Heap.lt_size e1)
theorem Sd.start (k:Sd) {h:Heap} {it a:Addr} (e:h.get? it=some (k.io a)):k.It h it a 0:=by
 cases k<;>exact⟨_,e,rfl,rfl⟩
section
variable {prog:Program} {w:World} {A:Around} {E:Value->Shared->Prop} {s:Shared} {it a:Addr} {i:Nat} {xs:Array Value} {Q:Value->Shared->Prop} {k:Sd}
theorem Sd.item {x:Value} (h1:k.It s.heap it a i) (h2:k.Sq s.heap a xs) (hx:xs[i]?=some x) (q:∀ h',k.It h' it a (i+1)->Heap.SameBut it s.heap h'->Q x { s with heap:=h' }) :
  wpAny (model prog w) A (Builtin.SmallTypes.nextOf (.ref it)) Q E s:=by
 cases k
 ·exact wpAny_nextOf_list_item h1 h2 hx q
 ·exact j7 h1 h2 hx q
theorem Sd.fin (hn:A.handled=none) (h1:k.It s.heap it a i) (h2:k.Sq s.heap a xs) (hx:xs[i]?=none) (q:∀ h' e,Heap.ExtBut it s.heap h'->(∃ o,h'.get? e=some o/\o.cls=.type "StopIteration")->E (.ref e) { s with heap:=h' }) :
  wpAny (model prog w) A (Builtin.SmallTypes.nextOf (.ref it)) Q E s:=by
 cases k
 ·exact wpAny_nextOf_list_end hn h1 h2 hx q
 ·exact kY hn h1 h2 hx q
theorem Sd.iter (h2:k.Sq s.heap a xs) (q:Q (.ref s.heap.objs.size) { s with heap:=s.heap.push (k.io a) }):wpAny (model prog w) A (pyIter (.ref a)) Q E s:=by
 cases k
 ·exact wpAny_pyIter_list h2 q
 ·exact wpAny_pyIter_tuple h2 q
end
theorem y7 (k1 k2:Sd) (l1 l2:Addr) (xs ys:Array Value):Meets (Builtin.«zip.__new__» ⟨[.type "zip",.ref l1,.ref l2],[]⟩)
  (λ_ R s=>k1.Sq s.heap l1 xs/\k2.Sq s.heap l2 ys/\∀ h',IsZip h' (s.heap.objs.size+4) (s.heap.objs.size+2) (s.heap.objs.size+3) .none->IsPair h' (s.heap.objs.size+2) (.ref s.heap.objs.size) (.ref (s.heap.objs.size+1)) ->
   IsPair h' (s.heap.objs.size+3) .none .none->k1.It h' s.heap.objs.size l1 0->k2.It h' (s.heap.objs.size+1) l2 0->(∀ c o,s.heap.get? c=some o->h'.get? c=some o)->R (.ok (.ret (.ref (s.heap.objs.size+4)))) { s with heap:=h' }) :=
 .of_wp λprog w A R s h=>by
  obtain⟨h1,h2,q⟩:=h
  have f1:=sub_zip
  have h2':k2.Sq (s.heap.push (k1.io l1)) l2 ys:=h2.at λo e=>Heap.get?_push_of_some _ e
  wp_walk using Sd.iter h1,Sd.iter (s:={ s with heap:=s.heap.push (k1.io l1) }) h2'
  refine⟨_,rfl,?_⟩
  have e5:((((s.heap.push (k1.io l1)).push (k2.io l2)).push { cls:=.type "tuple",data:=.seq #[.ref s.heap.objs.size,.ref (s.heap.push (k1.io l1)).objs.size] }).push { cls:=.type "tuple",data:=.seq #[.none,.none] }).objs.size=s.heap.objs.size+4:=by simp only [Heap.size_push]
  have e4:(((s.heap.push (k1.io l1)).push (k2.io l2)).push { cls:=.type "tuple",data:=.seq #[.ref s.heap.objs.size,.ref (s.heap.push (k1.io l1)).objs.size] }).objs.size=s.heap.objs.size+3:=by simp only [Heap.size_push]
  have e3:((s.heap.push (k1.io l1)).push (k2.io l2)).objs.size=s.heap.objs.size+2:=by simp only [Heap.size_push]
  have e2:(s.heap.push (k1.io l1)).objs.size=s.heap.objs.size+1:=by simp only [Heap.size_push]
  show R (.ok (.ret (.ref ((((s.heap.push (k1.io l1)).push (k2.io l2)).push { cls:=.type "tuple",data:=.seq #[.ref s.heap.objs.size,.ref (s.heap.push (k1.io l1)).objs.size] }).push { cls:=.type "tuple",data:=.seq #[.none,.none] }).objs.size))) { s with heap:=((((s.heap.push (k1.io l1)).push (k2.io l2)).push { cls:=.type "tuple",data:=.seq #[.ref s.heap.objs.size,.ref (s.heap.push (k1.io l1)).objs.size] }).push { cls:=.type "tuple",data:=.seq #[.none,.none] }).push { cls:=.type "zip",data:=.fields #[.none,.bool false,.bool false,.ref ((s.heap.push (k1.io l1)).push (k2.io l2)).objs.size,.ref (((s.heap.push (k1.io l1)).push (k2.io l2)).push { cls:=.type "tuple",data:=.seq #[.ref s.heap.objs.size,.ref (s.heap.push (k1.io l1)).objs.size] }).objs.size] } }
  have g0:(s.heap.push (k1.io l1)).get? s.heap.objs.size=some (k1.io l1):=Heap.get?_push_size _ (by cases k1<;>rfl)
  have g1:((s.heap.push (k1.io l1)).push (k2.io l2)).get? (s.heap.objs.size+1)=some (k2.io l2):=by rw [<- e2];exact Heap.get?_push_size _ (by cases k2<;>rfl)
  rw [e5,e4,e3,e2]
  refine q _ ?_ ?_ ?_ (k1.start (Heap.get?_push_of_some _ (Heap.get?_push_of_some _ (Heap.get?_push_of_some _ (Heap.get?_push_of_some _ g0))))) (k2.start (Heap.get?_push_of_some _ (Heap.get?_push_of_some _ (Heap.get?_push_of_some _ g1)))) λc o e=>Heap.get?_push_of_some _ (Heap.get?_push_of_some _ (Heap.get?_push_of_some _ (Heap.get?_push_of_some _ (Heap.get?_push_of_some _ e))))
  ·exact (show _=_ from by
    have:=Heap.get?_push_size (((((s.heap.push (k1.io l1)).push (k2.io l2)).push { cls:=.type "tuple",data:=.seq #[.ref s.heap.objs.size,.ref (s.heap.objs.size+1)] }).push { cls:=.type "tuple",data:=.seq #[.none,.none] })) (o:={ cls:=.type "zip",data:=.fields #[.none,.bool false,.bool false,.ref (s.heap.objs.size+2),.ref (s.heap.objs.size+3)] }) rfl
    simp only [Heap.size_push] at this
    exact this)
  ·refine Heap.get?_push_of_some _ (Heap.get?_push_of_some _ ?_)
   have:=Heap.get?_push_size ((s.heap.push (k1.io l1)).push (k2.io l2)) (o:={ cls:=.type "tuple",data:=.seq #[.ref s.heap.objs.size,.ref (s.heap.objs.size+1)] }) rfl
   simp only [Heap.size_push] at this
   exact this
  ·refine Heap.get?_push_of_some _ ?_
   have:=Heap.get?_push_size (((s.heap.push (k1.io l1)).push (k2.io l2)).push { cls:=.type "tuple",data:=.seq #[.ref s.heap.objs.size,.ref (s.heap.objs.size+1)] }) (o:={ cls:=.type "tuple",data:=.seq #[.none,.none] }) rfl
   simp only [Heap.size_push] at this
   exact this
theorem xC (k1 k2:Sd) (z TI TO i1 i2 l1 l2:Addr) (ap:ZipApart z TI TO i1 i2 l1 l2) (n1 n2:Nat) (xs ys:Array Value) (x y a b:Value) (hx:xs[n1]?=some x) (hy:ys[n2]?=some y):Meets (Builtin.«zip.__next__» ⟨[.ref z],[]⟩)
  (λ_ R s=>IsZip s.heap z TI TO .none/\IsPair s.heap TI (.ref i1) (.ref i2)/\IsPair s.heap TO a b/\k1.It s.heap i1 l1 n1/\k2.It s.heap i2 l2 n2/\k1.Sq s.heap l1 xs/\k2.Sq s.heap l2 ys /\
   ∀ h',IsZip h' z TI TO (rawInt s.heap.objs.size)->IsPair h' TO x y->k1.It h' i1 l1 (n1+1)->k2.It h' i2 l2 (n2+1)->IsPair h' s.heap.objs.size x y ->
    (∀ c o,c≠z->c≠TO->c≠i1->c≠i2->s.heap.get? c=some o->h'.get? c=some o)->R (.ok (.ret (.ref s.heap.objs.size))) { s with heap:=h' }) :=
 .of_wp λprog w A R s h=>by
  obtain⟨hz,hTI,hTO,j1,j2,q1,q2,q⟩:=h
  wp_walk using wpAny_field (i:=2) (x:=Value.bool false) hz rfl rfl,wpAny_field (i:=3) (x:=Value.ref TI) hz rfl rfl,wpAny_field (i:=0) (x:=Value.none) hz rfl rfl,wpAny_field (i:=4) (x:=Value.ref TO) hz rfl rfl,wpAny_seqItems hTI rfl,wpAny_setField_rec hz (show 0<5 by decide)
  intro ha za sa
  have ka:∀ c o,c≠z->s.heap.get? c=some o->ha.get? c=some o:=λc o hc e=>(sa.2 c hc).trans e
  have j1a:=j1.at (h':=ha) λo e=>ka i1 o ap.i1z e
  have q1a:=q1.at (h':=ha) λo e=>ka l1 o ap.l1z e
  wp_walk using wpAny_onRaise,Sd.item (s:={ s with heap:=ha }) j1a q1a hx
  intro hb jb sb
  have kb:∀ c o,c≠z->c≠i1->s.heap.get? c=some o->hb.get? c=some o:=λc o h1 h2 e=>(sb.2 c h2).trans (ka c o h1 e)
  have TOb:IsPair hb TO a b:=kb TO _ ap.TOz ap.TOi1 hTO
  wp_walk using wpAny_seqItems TOb rfl,wpAny_updateSeq_pair (s:={ s with heap:=hb }) TOb
  intro hc TOc' sc
  have TOc:IsPair hc TO x b:=TOc'
  have kc:∀ c o,c≠z->c≠i1->c≠TO->s.heap.get? c=some o->hc.get? c=some o:=λc o h1 h2 h3 e=>(sc.2 c h3).trans (kb c o h1 h2 e)
  have zc:hc.get? z=some { cls:=.type "zip",data:=.fields #[.ellipsis,.bool false,.bool false,.ref TI,.ref TO] }:=(sc.2 z (Ne.symm ap.TOz)).trans ((sb.2 z (Ne.symm ap.i1z)).trans za)
  have j1c:=jb.at (h':=hc) λo e=>(sc.2 i1 (Ne.symm ap.TOi1)).trans e
  have j2c:=j2.at (h':=hc) λo e=>kc i2 o ap.i2z (Ne.symm ap.i12) (Ne.symm ap.TOi2) e
  have q2c:=q2.at (h':=hc) λo e=>kc l2 o ap.l2z ap.l2i1 ap.l2TO e
  wp_walk using wpAny_letGo,wpAny_onRaise,Sd.item (s:={ s with heap:=hc }) j2c q2c hy
  intro hd jd sd
  have TOd:IsPair hd TO x b:=(sd.2 TO ap.TOi2).trans TOc
  have zd:=(sd.2 z (Ne.symm ap.i2z)).trans zc
  wp_walk using wpAny_seqItems TOd rfl,wpAny_updateSeq_pair (s:={ s with heap:=hd }) TOd
  intro he TOe' se
  have TOe:IsPair he TO x y:=TOe'
  have ze:=(se.2 z (Ne.symm ap.TOz)).trans zd
  wp_walk using wpAny_letGo,wpAny_seqItems TOe rfl
  have sz:he.objs.size=s.heap.objs.size:=se.1.trans (sd.1.trans (sc.1.trans (sb.1.trans sa.1)))
  have zn:z≠he.objs.size:=Nat.ne_of_lt (Heap.lt_size ze)
  have zf:(he.push { cls:=.type "tuple",data:=.seq #[x,y] }).get? z=some { cls:=.type "zip",data:=.fields #[.ellipsis,.bool false,.bool false,.ref TI,.ref TO] }:=Heap.get?_push_of_some _ ze
  have ke:∀ c o,c≠z->he.get? c=some o->(((he.push { cls:=.type "tuple",data:=.seq #[x,y] }).update z (Obj.mapFields λx=>x.setIfInBounds 0 (rawInt ↑he.objs.size))).update z (Obj.mapFields λx=>x.setIfInBounds 1 (Value.bool false))).get? c=some o:=λc o hc e=>(Heap.get?_update_other _ _ (Ne.symm hc)).trans ((Heap.get?_update_other _ _ (Ne.symm hc)).trans (Heap.get?_push_of_some _ e))
  have g1:=Heap.get?_update_self (Obj.mapFields λx=>x.setIfInBounds 0 (rawInt ↑he.objs.size)) zf rfl
  have g2:=Heap.get?_update_self (Obj.mapFields λx=>x.setIfInBounds 1 (Value.bool false)) g1 rfl
  have gn:(((he.push { cls:=.type "tuple",data:=.seq #[x,y] }).update z (Obj.mapFields λx=>x.setIfInBounds 0 (rawInt ↑he.objs.size))).update z (Obj.mapFields λx=>x.setIfInBounds 1 (Value.bool false))).get? he.objs.size=some { cls:=.type "tuple",data:=.seq #[x,y] }:=(Heap.get?_update_other _ _ zn).trans ((Heap.get?_update_other _ _ zn).trans (Heap.get?_push_size _ rfl))
  refine⟨_,rfl,?_⟩
  show R (.ok (.ret (.ref he.objs.size))) { s with heap:=(((he.push { cls:=.type "tuple",data:=.seq #[x,y] }).update z (Obj.mapFields λx=>x.setIfInBounds 0 (rawInt ↑he.objs.size))).update z (Obj.mapFields λx=>x.setIfInBounds 1 (Value.bool false))) }
  generalize (((he.push { cls:=.type "tuple",data:=.seq #[x,y] }).update z (Obj.mapFields λx=>x.setIfInBounds 0 (rawInt ↑he.objs.size))).update z (Obj.mapFields λx=>x.setIfInBounds 1 (Value.bool false)))=hf at *
  rw [sz]
  refine q hf (by rw [<- sz];exact g2) (ke TO _ ap.TOz TOe) (j1c.at λo e=>ke i1 o ap.i1z ((se.2 i1 (Ne.symm ap.TOi1)).trans ((sd.2 i1 ap.i12).trans e))) (jd.at λo e=>ke i2 o ap.i2z ((se.2 i2 (Ne.symm ap.TOi2)).trans e)) (by rw [<- sz];exact gn) λc o h1 h2 h3 h4 e=>ke c o h1 ((se.2 c h2).trans ((sd.2 c h4).trans (kc c o h1 h3 h2 e)))
theorem xA (k1:Sd) (z TI TO i1 i2 l1:Addr) (i1z:i1≠z) (l1z:l1≠z) (n1:Nat) (xs:Array Value) (a b:Value) (hx:xs[n1]?=none):Meets (Builtin.«zip.__next__» ⟨[.ref z],[]⟩)
  (λA R s=>A.handled=none/\IsZip s.heap z TI TO .none/\IsPair s.heap TI (.ref i1) (.ref i2)/\IsPair s.heap TO a b/\k1.It s.heap i1 l1 n1/\k1.Sq s.heap l1 xs /\
   ∀ h' e,(∀ c o,c≠z->c≠i1->s.heap.get? c=some o->h'.get? c=some o)->(∃ o,h'.get? e=some o/\o.cls=.type "StopIteration")->R (.error (.ref e)) { s with heap:=h' }) :=
 .of_wp λprog w A R s h=>by
  obtain⟨hn,hz,hTI,hTO,j1,q1,q⟩:=h
  wp_walk using wpAny_field (i:=2) (x:=Value.bool false) hz rfl rfl,wpAny_field (i:=3) (x:=Value.ref TI) hz rfl rfl,wpAny_field (i:=0) (x:=Value.none) hz rfl rfl,wpAny_field (i:=4) (x:=Value.ref TO) hz rfl rfl,wpAny_seqItems hTI rfl,wpAny_setField_rec hz (show 0<5 by decide)
  intro ha za sa
  have ka:∀ c o,c≠z->s.heap.get? c=some o->ha.get? c=some o:=λc o hc e=>(sa.2 c hc).trans e
  have j1a:=j1.at (h':=ha) λo e=>ka i1 o i1z e
  have q1a:=q1.at (h':=ha) λo e=>ka l1 o l1z e
  wp_walk using wpAny_onRaise,Sd.fin (A:=A.in1) (s:={ s with heap:=ha }) hn j1a q1a hx
  intro hb e kb oe
  have zb:=kb z _ (Ne.symm i1z) za
  refine wpAny_setField_rec (s:={ s with heap:=hb }) zb (show 0<5 by decide) λhc zc sc=>?_
  obtain⟨o,eo,co⟩:=oe
  have ez:e≠z:=λx=>by
   subst x
   rw [zb] at eo
   cases eo
   injection co with x
   exact absurd x (by decide)
  exact q hc e (λc o h1 h2 x=>(sc.2 c h1).trans (kb c o h2 (ka c o h1 x))) ⟨o,(sc.2 e ez).trans eo,co⟩
section
variable {prog:Program} {w:World} {A:Around} {E:Value->Shared->Prop} {s:Shared}
theorem jB {it:Addr} {T id:String} {Q:Option Value->Shared->Prop} (ty:s.TypeIs (.ref it) T) (sl:Slot T "__next__" id)
  (h:wpAny (model prog w) A (call (.builtin id) [.ref it]) (λv s'=>Q (some v) s') (λe s'=>(∃ x o,e=.ref x/\s'.heap.get? x=some o/\o.cls=.type "StopIteration")/\Q none s') s):wpAny (model prog w) A (pyNext (.ref it)) Q E s:=by
 unfold pyNext
 refine wpAny_bind (wpAny_attempt (wpAny_callSpecial?_slot ty sl (wpAny_mono h (λv s' q=>wpAny_pure q) λe s' q=>?_)))
 obtain⟨⟨x,o,rfl,eo,co⟩,q⟩:=q
 refine wpAny_bind (wpAny_isInstance (T := "StopIteration") (b:=true) ⟨o,eo,co⟩ ?_ ?_)
 ·with_unfolding_all rfl
 ·rw [if_pos rfl]
  exact wpAny_pure q
theorem kF {k1 k2:Sd} {l1 l2:Addr} {xs ys:Array Value} {Q:Value->Shared->Prop} (h1:k1.Sq s.heap l1 xs) (h2:k2.Sq s.heap l2 ys)
  (q:∀ h',IsZip h' (s.heap.objs.size+4) (s.heap.objs.size+2) (s.heap.objs.size+3) .none->IsPair h' (s.heap.objs.size+2) (.ref s.heap.objs.size) (.ref (s.heap.objs.size+1)) ->
   IsPair h' (s.heap.objs.size+3) .none .none->k1.It h' s.heap.objs.size l1 0->k2.It h' (s.heap.objs.size+1) l2 0->(∀ c o,s.heap.get? c=some o->h'.get? c=some o)->Q (.ref (s.heap.objs.size+4)) { s with heap:=h' }) :
  wpAny (model prog w) A (call (.type "zip") [.ref l1,.ref l2]) Q E s :=
 callType_new F.called_zip (by decide) (F.typeCall_zip_2 _ _) (F.newCall_zip_2 _ _) (λobj=>F.args_object_init_3 _ _ _) F.entry_zip_new (y7 k1 k2 l1 l2 xs ys) ⟨h1,h2,λh' z a b c d e=>⟨⟨_,z,rfl⟩,q h' z a b c d e⟩⟩
theorem gX {k1 k2:Sd} {z TI TO i1 i2 l1 l2:Addr} {n1 n2:Nat} {xs ys:Array Value} {x y a b:Value} {Q:Option Value->Shared->Prop} (ap:ZipApart z TI TO i1 i2 l1 l2) (hz:IsZip s.heap z TI TO .none) (hTI:IsPair s.heap TI (.ref i1) (.ref i2)) (hTO:IsPair s.heap TO a b)
  (j1:k1.It s.heap i1 l1 n1) (j2:k2.It s.heap i2 l2 n2) (q1:k1.Sq s.heap l1 xs) (q2:k2.Sq s.heap l2 ys) (hx:xs[n1]?=some x) (hy:ys[n2]?=some y)
  (q:∀ h',IsZip h' z TI TO (rawInt s.heap.objs.size)->IsPair h' TO x y->k1.It h' i1 l1 (n1+1)->k2.It h' i2 l2 (n2+1)->IsPair h' s.heap.objs.size x y ->
    (∀ c o,c≠z->c≠TO->c≠i1->c≠i2->s.heap.get? c=some o->h'.get? c=some o)->Q (some (.ref s.heap.objs.size)) { s with heap:=h' }):wpAny (model prog w) A (pyNext (.ref z)) Q E s :=
 jB ⟨_,hz,rfl⟩ F.slot_zip_next (call_meets F.slot_zip_next ⟨_,hz,rfl⟩ F.entry_zip_next (F.args_zip_next_1 _) (xC k1 k2 z TI TO i1 i2 l1 l2 ap n1 n2 xs ys x y a b hx hy) ⟨hz,hTI,hTO,j1,j2,q1,q2,λh' a b c d e f=>q h' a b c d e f⟩)
theorem iJ {k1:Sd} {z TI TO i1 i2 l1:Addr} {n1:Nat} {xs:Array Value} {a b:Value} {Q:Option Value->Shared->Prop} (hn:A.handled=none) (i1z:i1≠z) (l1z:l1≠z) (hz:IsZip s.heap z TI TO .none) (hTI:IsPair s.heap TI (.ref i1) (.ref i2)) (hTO:IsPair s.heap TO a b)
  (j1:k1.It s.heap i1 l1 n1) (q1:k1.Sq s.heap l1 xs) (hx:xs[n1]?=none)
  (q:∀ h',(∀ c o,c≠z->c≠i1->s.heap.get? c=some o->h'.get? c=some o)->Q none { s with heap:=h' }):wpAny (model prog w) A (pyNext (.ref z)) Q E s :=
 jB ⟨_,hz,rfl⟩ F.slot_zip_next (call_meets F.slot_zip_next ⟨_,hz,rfl⟩ F.entry_zip_next (F.args_zip_next_1 _) (xA k1 z TI TO i1 i2 l1 i1z l1z n1 xs a b hx) ⟨hn,hz,hTI,hTO,j1,q1,λh' e k ⟨o,eo,co⟩=>⟨⟨e,o,rfl,eo,co⟩,q h' k⟩⟩)
end
def ja (k:Sd) (K:PySem.W.Frag) (H:Hp) (a:Addr) (xs:List V):Prop:=match k with
 | .l=>aS K H a xs
 | .t=>aY K H a xs
theorem Inv.uy {X:Cx} {pins:List (Addr × Obj)} {σ:St} {H:Hp} {s:Shared} {k:Sd} {a:Addr} {xs:List V} (I:Inv X pins σ H s) (h:ja k X.K H a xs):∃ its:List Value,Vals xs its/\k.Sq s.heap a its.toArray:=by
 cases k
 ·obtain⟨its,r,p,_⟩:=I.list h
  exact⟨its,r,p.isList⟩
 ·obtain⟨its,r,p,_⟩:=I.tuple h
  exact⟨its,r,p⟩
theorem Inv.ky {X:Cx} {pins:List (Addr × Obj)} {σ:St} {H:Hp} {s:Shared} {k:Sd} {a:Addr} {xs ys:List V} (I:Inv X pins σ H s) (h:ja k X.K H a xs) (h':ja k X.K H a ys):xs=ys:=by
 cases k
 ·exact I.oY h h'
 ·exact I.mR h h'
def Bs (k1 k2:Sd) (K:PySem.W.Frag) (a b:Addr):It :=
 ⟨λi H=>∃ xs ys x y,ja k1 K H a xs/\ja k2 K H b ys/\xs[i]?=some x/\ys[i]?=some y,λi H x H'=>∃ p u v,H p=none/\x=.ref p/\(∀ xs,ja k1 K H a xs->xs[i]?=some u)/\(∀ ys,ja k2 K H b ys->ys[i]?=some v)/\H'=upd H p (.tup [u,v]),
  λi H=>∃ xs,ja k1 K H a xs/\xs.length<=i⟩
theorem qe {P:Program} {w:World} {K:PySem.W.Frag} {elts:List Expr} {x1} {pos:Pos} {k1 k2:Sd} {a b z TI TO i1 i2:Addr} (ap:ZipApart z TI TO i1 i2 a b):Turn P w K (.Tuple elts x1 pos) (Bs k1 k2 K a b) [z,TI,TO,i1,i2] z (λi h=>IsZip h z TI TO .none/\IsPair h TI (.ref i1) (.ref i2)/\(∃ u v,IsPair h TO u v)/\k1.It h i1 a i/\k2.It h i2 b i) where
 mem:=by simp
 obj:=λi h st c hc=>by
  obtain⟨h1,h2,⟨u,v,h3⟩,h4,h5⟩:=st
  simp only [List.mem_cons,List.not_mem_nil,or_false] at hc
  rcases hc with rfl | rfl | rfl | rfl | rfl
  ·exact⟨_,h1,λv z=>by cases z⟩
  ·exact⟨_,h2,λv z=>by cases z⟩
  ·exact⟨_,h3,λv z=>by cases z⟩
  ·exact h4.there
  ·exact h5.there
 keep:=λi h h' st k=>by
  obtain⟨h1,h2,⟨u,v,h3⟩,h4,h5⟩:=st
  exact⟨k z (by simp) _ h1,k TI (by simp) _ h2,⟨u,v,k TO (by simp) _ h3⟩,h4.at λo x=>k i1 (by simp) o x,h5.at λo x=>k i2 (by simp) o x⟩
 item:=by
  intro X hP hw hK hc i pins s σ H E I hf st hg
  subst hP hw hK
  obtain⟨xs,ys,x,y,hq1,hq2,hx,hy⟩:=hg
  obtain⟨its1,rv1,p1⟩:=I.uy hq1
  obtain⟨its2,rv2,p2⟩:=I.uy hq2
  obtain⟨u,hu,ru⟩:=rv1.get hx
  obtain⟨v,hv,rv⟩:=rv2.get hy
  obtain⟨h1,h2,⟨u0,v0,h3⟩,h4,h5⟩:=st
  refine gX ap h1 h2 h3 h4 h5 p1 p2 (x:=u) (y:=v) (by simpa using hu) (by simpa using hv) λh' z' TO' j1 j2 hT hk=>?_
  refine⟨_,rfl,?_⟩
  have fT:H s.heap.objs.size=none:=I.hok.fresh (Nat.le_refl _)
  refine wpAny_letOwnedTupleGo_zip z' λh'' z2 s2=>?_
  have hke:∀ c o,c∉[z,TI,TO,i1,i2]->s.heap.get? c=some o->h''.get? c=some o:=λc o hc q=>by
   simp only [List.mem_cons,List.not_mem_nil,or_false,not_or] at hc
   exact (s2.2 c hc.1).trans (hk c o hc.1 hc.2.2.1 hc.2.2.2.1 hc.2.2.2.2 q)
  have I1:Inv X pins σ H { s with heap:=h'',toks:=s.toks }:=I.i6 hke hf
  have nz:∀ c∈[z,TI,TO,i1,i2],c≠s.heap.objs.size:=λc hc e=>by
   have:∃ o,s.heap.get? c=some o:=by
    simp only [List.mem_cons,List.not_mem_nil,or_false] at hc
    rcases hc with rfl | rfl | rfl | rfl | rfl
    ·exact⟨_,h1⟩
    ·exact⟨_,h2⟩
    ·exact⟨_,h3⟩
    ·obtain⟨o,e,_⟩:=h4.there;exact⟨o,e⟩
    ·obtain⟨o,e,_⟩:=h5.there;exact⟨o,e⟩
   obtain⟨o,eo⟩:=this
   exact Nat.ne_of_lt (Heap.lt_size eo) e
  have hT2:h''.get? s.heap.objs.size=some { cls:=.type "tuple",data:=.seq #[u,v] }:=(s2.2 _ (Ne.symm (nz z (by simp)))).trans hT
  refine⟨.ref s.heap.objs.size,upd H s.heap.objs.size (.tup [x,y]),?_,rfl,⟨_,x,y,fT,rfl,λzs hz=>by rw [I.ky hz hq1];exact hx,λzs hz=>by rw [I.ky hz hq2];exact hy,rfl⟩,
   ⟨z2,(s2.2 TI ap.TIz).trans (hk TI _ ap.TIz ap.TITO ap.TIi1 ap.TIi2 h2),⟨_,_,(s2.2 TO ap.TOz).trans TO'⟩,j1.at λo q=>(s2.2 i1 ap.i1z).trans q,j2.at λo q=>(s2.2 i2 ap.i2z).trans q⟩,λc hc=>?_⟩
  ·exact I1.adopt (T:=s.heap.objs.size) (o:=.tup [x,y]) (I.lV (Nat.le_refl _) fT) ⟨by show 2<=sizeLine;decide,[u,v],.cons ru (.cons rv .nil),⟨_,hT2,rfl,_,rfl⟩⟩
  ·rw [aJ (nz c hc)]
   exact (hf c hc).1
 done:=by
  intro X hP hw hK hc i pins s σ H E I hf st hg
  subst hP hw hK
  obtain⟨xs,hq,hx⟩:=hg
  obtain⟨its,rv,p⟩:=I.uy hq
  have hl:=rv.length
  obtain⟨h1,h2,⟨u0,v0,h3⟩,h4,h5⟩:=st
  exact iJ (I.ok.hd hc) ap.i1z ap.l1z h1 h2 h3 h4 p (by simp;omega) λh' eb=>⟨rfl,I.i6 (t':=s.toks) (ch:=[z,i1]) (λc o hc q=>by
   simp only [List.mem_cons,List.not_mem_nil,or_false,not_or] at hc
   exact eb c o hc.1 hc.2 q) (λc hc=>hf c (by
    simp only [List.mem_cons,List.not_mem_nil,or_false] at hc
    rcases hc with rfl | rfl<;>simp))⟩
 self:=λ_ _ _ _ _ st h=>wpAny_pyIter_zip st.1 h
def B7 (k1 k2:Sd) (K:PySem.W.Frag) (ta:TA):TI:=λσ H R=>ta σ H λvs H1=>∃ a b,vs=[.ref a,.ref b]/\(∃ xs,ja k1 K H1 a xs)/\(∃ ys,ja k2 K H1 b ys)/\R (Bs k1 k2 K a b) H1
theorem jo:bootBuiltins "zip"=some (.type "zip"):=by decide +kernel
theorem wz {X:Cx} {elts:List Expr} {x1} {tpos:Pos} {a b:Expr} {ta:TA} {p pos:Pos} (k1 k2:Sd) (hg:Gl X "zip") (hm:X.mg "zip"=none) (ha:PA X [a,b] ta) (hs:starEach [a,b] X.env=[(false,eval a X.env),(false,eval b X.env)]:=by rfl) (hs2:starEach [b] X.env=[(false,eval b X.env)]:=by rfl) :
  PI X (.Tuple elts x1 tpos) (.Call (.Name "zip" p) [a,b] [] pos) (B7 k1 k2 X.K ta):=by
 intro pins s σ H R I h
 refine Call_ (fQ I hg hm jo (PyProof.Rows.callWith_type1 (bS (ha pos pins s σ H _ I h) λus s1 ⟨vs,H1,I1,r1,q1⟩=>?_) (by rw [hs,hs2]) (by rw [hs2];rfl)))
 obtain⟨a',b',e,⟨xs,hq1⟩,⟨ys,hq2⟩,q⟩:=q1
 subst e
 cases r1 with
 | cons r rr =>
  cases rr with
  | cons r' rr' =>
   cases rr'
   cases r
   cases r'
   obtain⟨its1,rv1,p1⟩:=I1.uy hq1
   obtain⟨its2,rv2,p2⟩:=I1.uy hq2
   refine kF p1 p2 λh' hz hTI hTO j1 j2 hk=>?_
   refine wpAny_pyIter_zip hz ?_
   have I2:Inv X pins σ H1 { s1 with heap:=h' }:=I1.kept (t':=s1.toks) hk
   refine⟨_,[s1.heap.objs.size+4,s1.heap.objs.size+2,s1.heap.objs.size+3,s1.heap.objs.size,s1.heap.objs.size+1],_,_,H1,rfl,I2,qe (PyProof.Rows.zipApart_new p1.lt p2.lt),⟨hz,hTI,⟨_,_,hTO⟩,j1,j2⟩,λc hc=>?_,q⟩
   simp only [List.mem_cons,List.not_mem_nil,or_false] at hc
   rcases hc with rfl | rfl | rfl | rfl | rfl<;>exact I1.lV (by omega) (I1.hok.fresh (by omega))
theorem jt {K:PySem.W.Frag} {k1 k2:Sd} {a b:Addr} {xs ys:List V} {js:List (Option Nat)} {g:TG} {tt:TT} {te:TE} {σ:St} {Q:VK} {H1:Hp} (Pv:Nat->List V->Hp->Prop) (h0:Pv 0 [] H1) (hxy:xs.length=ys.length) (hx:xs.length<=sizeLine) (hl:∀ i zs H,i<=xs.length->Pv i zs H->ja k1 K H a xs/\ja k2 K H b ys/\zs.length<=i)
  (hs:∀ i x y zs H p,xs[i]?=some x->ys[i]?=some y->Pv i zs H->H p=none->g (.ref p) (cn js σ) (upd H p (.tup [x,y])) λσ2 H2=>bM (cn js σ) σ2/\tt σ2 H2 λc H3=>if c=true then te σ2 H3 λv H4=>Pv (i+1) (zs++[v]) H4 else Pv (i+1) zs H3)
  (hd:∀ zs H p,Pv xs.length zs H->H p=none->Q (.ref p) (upd H p (.lst zs))):kz (Bs k1 k2 K a b) js g tt te σ Q H1:=by
 refine⟨λi m zs H=>m=xs.length-i/\i<=xs.length/\Pv i zs H,⟨xs.length,by simp,Nat.zero_le _,h0⟩,?_⟩
 rintro i m zs H ⟨rfl,hi,p⟩
 obtain⟨q,q',hy⟩:=hl i zs H hi p
 by_cases hlt:i<xs.length
 ·refine .inr ⟨⟨xs,ys,xs[i],ys[i],q,q',by simp [hlt],by simp⟩,by omega,Pv (i+1),λys' H' p'=>⟨xs.length-(i+1),by omega,rfl,hlt,p'⟩,λx H' y=>?_⟩
  obtain⟨pt,u,v,f,e1,e2,e3,e4⟩:=y
  subst e1 e4
  exact hs i u v zs _ pt (e2 xs q) (e3 ys q') p f
 ·have e:i=xs.length:=by omega
  subst e
  exact .inl ⟨⟨xs,q,Nat.le_refl _⟩,by omega,λp' hp'=>hd zs H p' p hp'⟩
end L2
namespace Num
theorem wk {p x y:Int} {m:Nat} (h:Al p x y) (o:Ord p x m):Ord p y m:=⟨o.pos,(h.pow m).symm.trans o.one,λj z=>o.dv j ((h.pow j).trans z)⟩
def eN:List (Int × Int)->Nat
 | []=>1
 | p::r=>p.1.toNat^p.2.toNat*eN r
theorem ju:∀ a b:List (Int × Int),eN (a++b)=eN a*eN b
 | [],b=>by simp [eN]
 | p::r,b=>by
  show p.1.toNat^p.2.toNat*eN (r++b)=p.1.toNat^p.2.toNat*eN r*eN b
  rw [ju r b,Nat.mul_assoc]
theorem rG:∀ a:List (Int × Int),(∀ p∈a,Pm p.1)->(eN a:Int)=bC a
 | [],_=>rfl
 | p::r,h=>by
  have t:=(h p (List.mem_cons_self ..)).two
  show ((p.1.toNat^p.2.toNat*eN r:Nat):Int)=p.1^p.2.toNat*bC r
  rw [Int.natCast_mul,Int.natCast_pow,rG r λx z=>h x (List.mem_cons_of_mem _ z),show (p.1.toNat:Int)=p.1 by omega]
theorem qx:∀ a:List (Int × Int),(∀ p∈a,Pm p.1)->0<eN a
 | [],_=>Nat.one_pos
 | p::r,h=>by
  have t:=(h p (List.mem_cons_self ..)).two
  exact Nat.mul_pos (Nat.pow_pos (by omega)) (qx r λx z=>h x (List.mem_cons_of_mem _ z))
theorem Am {q m:Nat} (h:Nm q) (hm:¬q∣m) (k:Nat):Nat.Coprime (q^k) m:=Nat.Coprime.pow_left k (h.co hm)
theorem BX {q:Int} (hq:Pm q) {b:List (Int × Int)} (hb:∀ p∈b,Pm p.1) (ne:∀ p∈b,p.1≠q):¬q.toNat∣eN b:=λz=>by
 have t:=hq.two
 have:q∣bC b:=by
  rw [<- rG b hb]
  have:=Int.natCast_dvd_natCast.mpr z
  rwa [show (q.toNat:Int)=q by omega] at this
 obtain⟨p,hp,e⟩:=dY hq hb this
 exact ne p hp e
theorem zp {b:List (Int × Int)} (hb:∀ p∈b,Pm p.1):∀ a:List (Int × Int),(∀ p∈a,Pm p.1)->(∀ x∈a,∀ y∈b,y.1≠x.1)->Nat.Coprime (eN a) (eN b)
 | [],_,_=>Nat.coprime_one_left _
 | p::r,h,ne=>by
  have hp:=h p (List.mem_cons_self ..)
  exact Nat.Coprime.mul_left (Am (rX hp) (BX hp hb (ne p (List.mem_cons_self ..))) _) (zp hb r (λx z=>h x (List.mem_cons_of_mem _ z)) λx z=>ne x (List.mem_cons_of_mem _ z))
theorem yD {n a:Int} {q t:Nat} (hq:Nm q) (h:Al n (a^q^t) 1) (no:∀ j,j<t->¬Al n (a^q^j) 1):Ord n a (q^t):=by
 have q2:=hq.1
 obtain⟨m,o,_⟩:=lg (N:=q^t) (Nat.pow_pos (by omega)) h
 have d:=o.dv _ h
 cases t with
 | zero =>
  have:m=1:=Nat.eq_one_of_dvd_one (by simpa using d)
  rw [this] at o
  simpa using o
 | succ k =>
  have:m=q^(k+1):=sA hq k m d λz=>no k (Nat.lt_succ_self _) (by
   obtain⟨c,hc⟩:=z
   rw [hc]
   exact bB o.one)
  rw [<- this]
  exact o
theorem cH {a:Int} {x y:Nat}:(a^x)^y=a^(x*y):=by rw [Int.pow_mul]
theorem qO {n a:Int} {M1 M2 E1 E2:Nat} (co:Nat.Coprime M1 M2) (p1:0<M1) (p2:0<M2) (h:Al n (a^(M1*M2)) 1) (o1:Ord n (a^M2) E1) (o2:Ord n (a^M1) E2):Ord n a (E1*E2):=by
 have d1:E1∣M1:=o1.dv M1 (by rw [cH,Nat.mul_comm];exact h)
 have d2:E2∣M2:=o2.dv M2 (by rw [cH];exact h)
 obtain⟨c1,hc1⟩:=d1
 obtain⟨c2,hc2⟩:=d2
 obtain⟨e,o,_⟩:=lg (Nat.mul_pos p1 p2) h
 have x1:e∣M2*E1:=o.dv _ (by rw [<- cH];exact o1.one)
 have x2:e∣M1*E2:=o.dv _ (by rw [<- cH];exact o2.one)
 have cc:Nat.Coprime c2 c1:=by
  have:Nat.Coprime c1 c2:=Nat.Coprime.coprime_dvd_left ⟨E1,by rw [hc1,Nat.mul_comm]⟩ (Nat.Coprime.coprime_dvd_right ⟨E2,by rw [hc2,Nat.mul_comm]⟩ co)
  exact this.symm
 have x3:e∣E1*E2:=by
  have:=Nat.dvd_gcd x1 x2
  rw [show M2*E1=E1*E2*c2 by rw [hc2];rw [Nat.mul_comm (E2*c2) E1,Nat.mul_assoc],show M1*E2=E1*E2*c1 by rw [hc1];rw [Nat.mul_assoc,Nat.mul_comm c1 E2,Nat.mul_assoc],Nat.gcd_mul_left,cc.gcd_eq_one,Nat.mul_one] at this
  exact this
 have ce:Nat.Coprime E1 E2:=Nat.Coprime.coprime_dvd_left ⟨c1,hc1⟩ (Nat.Coprime.coprime_dvd_right ⟨c2,hc2⟩ co)
 refine⟨Nat.mul_pos o1.pos o2.pos,?_,λj hj=>?_⟩
 ·obtain⟨c,hc⟩:=x3
  rw [hc]
  exact bB o.one
 ·refine ce.mul_dvd_of_dvd_of_dvd (o1.dv j ?_) (o2.dv j ?_)
  ·rw [cH,Nat.mul_comm,<- cH]
   have:=hj.pow M2
   rwa [Int.one_pow] at this
  ·rw [cH,Nat.mul_comm,<- cH]
   have:=hj.pow M1
   rwa [Int.one_pow] at this
structure TO (n a:Int) (ps:List (Int × Int)) (ts:List Int):Prop where
 len:ts.length=ps.length
 nn:∀ t∈ts,0<=t
 ord:Ord n a (eN ((ps.map (·.1)).zip ts))
theorem TO.al {n a b:Int} {ps:List (Int × Int)} {ts:List Int} (h:TO n a ps ts) (e:Al n a b):TO n b ps ts:=⟨h.len,h.nn,wk e h.ord⟩
theorem TO.none {n a:Int} (h:Al n a 1):TO n a [] []:=⟨rfl,λ_ z=>by simp at z,⟨Nat.one_pos,by show Al n (a^1) 1;rw [Int.pow_one];exact h,λj _=>Nat.one_dvd j⟩⟩
theorem TO.one {n a q k:Int} {t:Nat} (hq:Pm q) (h:Al n (a^q.toNat^t) 1) (no:∀ j,j<t->¬Al n (a^q.toNat^j) 1):TO n a [(q,k)] [(t:Int)]:=by
 refine⟨rfl,λx z=>?_,?_⟩
 ·rw [List.mem_singleton.mp z];omega
 ·show Ord n a (q.toNat^(t:Int).toNat*1)
  rw [Nat.mul_one,Int.toNat_natCast]
  exact yD (rX hq) h no
theorem TO.two {n a:Int} {as bs:List (Int × Int)} {ts us:List Int} (ha:∀ p∈as,Pm p.1) (hb:∀ p∈bs,Pm p.1) (ne:∀ x∈as,∀ y∈bs,y.1≠x.1) (h:Al n (a^eN (as++bs)) 1) (h1:TO n (a^eN bs) as ts) (h2:TO n (a^eN as) bs us):TO n a (as++bs) (ts++us):=by
 refine⟨by rw [List.length_append,List.length_append,h1.len,h2.len],λt z=>(List.mem_append.mp z).elim (h1.nn t) (h2.nn t),?_⟩
 rw [List.map_append,List.zip_append (by rw [List.length_map,h1.len]),ju]
 rw [ju] at h
 exact qO (zp hb as ha ne) (qx as ha) (qx bs hb) h h1.ord h2.ord
end Num
namespace L2
open PySem PySem.Spec PyProof.Rows
section
variable {prog:Program} {w:World} {A:Around} {E:Value->Shared->Prop} {s:Shared}
end
def Dh (K:PySem.W.Frag) (a:Addr):It :=
 ⟨λi H=>∃ xs x,aY K H a xs/\xs[i]?=some x,λi H x H'=>∃ p v,H p=none/\x=.ref p/\(∀ xs,aY K H a xs->xs[i]?=some v)/\H'=upd H p (.tup [.int i,v]),λi H=>∃ xs,aY K H a xs/\xs.length<=i⟩
def Ax (K:PySem.W.Frag) (ta:TA):TI:=λσ H R=>ta σ H λvs H1=>∃ a,vs=[.ref a]/\(∃ xs,aY K H1 a xs)/\R (Dh K a) H1
def zB (K:PySem.W.Frag) (ta:TA):TI:=λσ H R=>ta σ H λvs H1=>∃ a b k1 k2,vs=[.ref a,.ref b]/\(∃ xs,ja k1 K H1 a xs)/\(∃ ys,ja k2 K H1 b ys)/\R (Bs k1 k2 K a b) H1
theorem yH {X:Cx} {elts:List Expr} {x1} {tpos:Pos} {a b:Expr} {ta:TA} {p pos:Pos} (hg:Gl X "zip") (hm:X.mg "zip"=none) (ha:PA X [a,b] ta) (hs:starEach [a,b] X.env=[(false,eval a X.env),(false,eval b X.env)]:=by rfl) (hs2:starEach [b] X.env=[(false,eval b X.env)]:=by rfl) :
  PI X (.Tuple elts x1 tpos) (.Call (.Name "zip" p) [a,b] [] pos) (zB X.K ta):=by
 intro pins s σ H R I h
 refine Call_ (fQ I hg hm jo (PyProof.Rows.callWith_type1 (bS (ha pos pins s σ H _ I h) λus s1 ⟨vs,H1,I1,r1,q1⟩=>?_) (by rw [hs,hs2]) (by rw [hs2];rfl)))
 obtain⟨a',b',k1,k2,e,⟨xs,hq1⟩,⟨ys,hq2⟩,q⟩:=q1
 subst e
 cases r1 with
 | cons r rr =>
  cases rr with
  | cons r' rr' =>
   cases rr'
   cases r
   cases r'
   obtain⟨its1,rv1,p1⟩:=I1.uy hq1
   obtain⟨its2,rv2,p2⟩:=I1.uy hq2
   refine kF p1 p2 λh' hz hTI hTO j1 j2 hk=>?_
   refine wpAny_pyIter_zip hz ?_
   have I2:Inv X pins σ H1 { s1 with heap:=h' }:=I1.kept (t':=s1.toks) hk
   refine⟨_,[s1.heap.objs.size+4,s1.heap.objs.size+2,s1.heap.objs.size+3,s1.heap.objs.size,s1.heap.objs.size+1],_,_,H1,rfl,I2,qe (PyProof.Rows.zipApart_new p1.lt p2.lt),⟨hz,hTI,⟨_,_,hTO⟩,j1,j2⟩,λc hc=>?_,q⟩
   simp only [List.mem_cons,List.not_mem_nil,or_false] at hc
   rcases hc with rfl | rfl | rfl | rfl | rfl<;>exact I1.lV (by omega) (I1.hok.fresh (by omega))
end L2
namespace L2
open PySem PySem.Spec PyProof.Rows PySem.W
end L2
namespace L2
open PySem PySem.Spec PyProof.Rows
theorem i7:∀{us:List Value} {ns:List Int},IntsAre us ns->Vals (ns.map V.int) us
 | _,_,.nil=>.nil
 | _,_,.cons n t h=>.cons ⟨t,rfl⟩ (i7 h)
def yN (K:PySem.W.Frag):List V->Hp->VK->Prop:=λxs H Q=>∃(a:Addr) (ns:List Int),xs=[.ref a]/\aS K H a (ns.map V.int)/\ns.length<64/\∀(p:Addr) (ns':List Int),ns'.Perm ns->ns'.Pairwise (·<=·)->H p=none->Q (.ref p) (upd H p (.lst (ns'.map V.int)))
theorem oD {X:Cx}:dG X (.builtin "sorted") (yN X.K):=by
 intro pins s σ H xs us Q I r h
 obtain⟨a,ns,rfl,hq,hl,q⟩:=h
 obtain⟨u,rfl,ru⟩:=vals1 r
 cases ru
 obtain⟨its,rv,p,hz⟩:=I.list hq
 have il:=intsAre_of rv
 have ln:its.length=ns.length:=by have:=rv.length;rw [List.length_map] at this;omega
 refine sorted_ints p.isList il (by omega) λout ns' ho hp hs=>?_
 obtain⟨e,he⟩:=sortedAll_at s.heap its out
 have I1:Inv X pins σ H { s with heap:=sortedAll s.heap its out }:=I.kept (t':=s.toks) λb o x=>sortedAll_old x
 have fT:H (s.heap.objs.size+1)=none:=I.hok.fresh (Nat.le_succ _)
 have vo:=i7 ho
 have lo:ns'.length=ns.length:=hp.length_eq
 refine⟨.ref (s.heap.objs.size+1),upd H (s.heap.objs.size+1) (.lst (ns'.map V.int)),?_,rfl,q _ ns' hp hs fT⟩
 refine I1.adopt (T:=s.heap.objs.size+1) (o:=.lst (ns'.map V.int)) (I.lV (Nat.le_succ _) fT) ⟨?_,out.toList,e,vo,?_⟩
 ·rw [List.length_map,lo]
  exact Nat.le_trans (Nat.le_of_lt hl) (by decide)
 ·rw [he]
end L2
namespace L2
open PySem PySem.Spec PyProof.Rows PySem.W
section
variable {prog:Program} {w:World} {A:Around} {E:Value->Shared->Prop} {K:PySem.W.Frag} {h:Heap} {g:Array GenState} {d:Drawn} {t:Nat} {os:OsState} {x C B:Addr}
end
section
variable {X:Cx} {pins:List (Addr × Obj)} {σ:St} {H:Hp} {s:Shared} {x:Addr}
end
section
variable {X:Cx} {B:Addr} {n:Option Nat} {hd:ExceptHandler} {ts:TS}
variable {B2:Addr} {n2:Option Nat} {hd2:ExceptHandler} {ts2:TS}
def CW (K:PySem.W.Frag) (B:Addr) (n:Option Nat) (B2:Addr) (n2:Option Nat) (sp:Sp) (ta:TA) (put:V->St->St) (ts ts2:TS):TS:=λD σ H=>ta σ H λvs H1=>sp vs H1 (λv H2=>D.nx (put v σ) H2)
 (λcv xo H2=>∃ C x dd,cv=.ref C/\xo=some x/\H2 x=some (XO x C dd)/\oq K C/\((mroIn K C (.ref B)=some true/\ts (rJ n D) (yd n x σ) H2)∨(mroIn K C (.ref B)=some false/\mroIn K C (.ref B2)=some true/\ts2 (rJ n2 D) (yd n2 x σ) H2)))
variable {k:Nat} {f:Str} {ps:List Str} {sp:Sp} {e:Expr} {es:List Expr} {t:TA} {p cpos epos pos:Pos}
end
namespace HT
section
variable {prog:Program} {w:World} {A:Around} {E:Value->Shared->Prop} {s:Shared}
theorem uR {t b:Addr} {ws:List Value} {Q:Value->Shared->Prop} (ht:IsTup s.heap t ([]:List Value).toArray) (hb:IsTup s.heap b ws.toArray)
  (h1:Q (.ref b) s):wpAny (model prog w) A (binaryOp .Add (.ref t) (.ref b)) Q E s:=by
 obtain⟨⟨cls,dd,data,sl⟩,ho,hc,n,hd⟩:=id ht
 obtain⟨⟨cls2,dd2,data2,sl2⟩,ho2,hc2,n2,hd2⟩:=id hb
 simp only at hc hd hc2 hd2
 subst hc hd hc2 hd2
 exact concat_meets ⟨_,ho,rfl⟩ ⟨_,ho2,rfl⟩ noFill_tuple_add seq_tuple_add PySem.F.slot_tuple_add PySem.F.entry_tuple_add (PySem.F.args_tuple_add_2 _ _)
   (tuple_addW0 t b ([]:List Value).toArray ws.toArray n n2 dd dd2 sl sl2 (by simp)) ⟨ho,ho2,h1⟩
end
end HT
def wI (K:PySem.W.Frag):R2:=λx y H Q=>∃ a b xs ys,x=.ref a/\y=.ref b/\aY K H a xs/\aY K H b ys/\xs.length+ys.length<=sizeLine/\∀ p H',aE H H'->aY K H' p (xs++ys)->Q (.ref p) H'
theorem dt {X:Cx}:fE X (binaryOp .Add) (wI X.K):=by
 intro pins s σ H x y v u Q I rx ry h
 obtain⟨a,b,xs,ys,rfl,rfl,ha,hb,hz,q⟩:=h
 by_cases e:xs=[]
 ·subst e
  cases rx
  cases ry
  obtain⟨its,r1,p1,_⟩:=I.tuple ha
  obtain⟨its2,r2,p2,_⟩:=I.tuple hb
  have e1:its=[]:=r1.ko.mpr rfl
  subst e1
  exact HT.uR p1 p2 ⟨.ref b,H,I,rfl,q b H (aE.refl _) hb⟩
 ·refine yA pins s σ H _ _ v u Q I rx ry ⟨a,b,xs,ys,rfl,rfl,ha,hb,e,hz,λz=>q a H (aE.refl _) (by rw [z,List.append_nil];exact ha),λ_ p hp=>q p _ (aj hp) (aY.of ai)⟩
end L2
namespace L2
open PySem PySem.Spec PyProof.Rows PySem.W
namespace Tsl
open _root_.HT
section
variable {prog:Program} {w:World} {A:Around} {E:Value->Shared->Prop} {s:Shared}
theorem qd {t sl:Addr} {items:Array Value} {vl vu:Value} {lo hi:Option Int} {Q:Value->Shared->Prop} (ht:IsTup s.heap t items) (hs:s.heap.IsSliceOf sl vl vu .none) (pl:IsPart vl lo) (pu:IsPart vu hi)
  (h0:cP items.size 0 lo=0) (h1:cP items.size items.size hi=items.size) (q:Q (.ref t) s):wpAny (model prog w) A (getItem (.ref t) (.ref sl)) Q E s:=by
 obtain⟨os,hos,hcs,hds⟩:=id hs
 have hTs:s.TypeIs (.ref sl) "slice":=⟨os,hos,hcs⟩
 unfold getItem
 try with_reducible refine wpAny_holding ?_
 first | refine wpAny_bind (wpAny_pure ?_) | skip
 refine wpAny_bind (wpAny_sequenceKey ht.typeIs (by decide) ?_)
 refine wpAny_bind (wpAny_callSpecial?_slot (name:=Str.ofString "__getitem__") ht.typeIs slot_tuple_getitem (wpAny_call_entry slot_tuple_getitem ht.typeIs entry_tuple_getitem ?_ (args_tuple_getitem _ _)))
 show wpAny _ _ (Builtin.Tuple.tupleItemsOf _ >>= _) _ _ _
 refine wpAny_bind (tupleItemsOf_ ht ?_)
 refine wpAny_bind (wpAny_typeOf hTs ?_)
 rw [if_pos (by decide)]
 refine wpAny_bind (ff hs pl pu ?_)
 rw [h0,h1]
 dsimp only
 rw [if_pos (by simp)]
 unfold Builtin.Tuple.tupleIsExact
 refine wpAny_bind (wpAny_bind (wpAny_typeOf ht.typeIs (wpAny_pure ?_)))
 rw [if_pos (by decide)]
 first
  | exact wpAny_bind (wpAny_rule (wpAny_pure ⟨_,rfl,wpAny_pure q⟩))
  | (refine wpAny_bind (m:=rule _) (wpAny_pure ?_);exact wpAny_pure ⟨_,rfl,wpAny_pure q⟩)
  | (unfold rule;wp_walk)
theorem oQ {α β:Type} {f g:α->Option β}:∀{l:List α},(∀ x∈l,f x=g x)->l.filterMap f=l.filterMap g
 | [],_=>rfl
 | x::l,h=>by rw [List.filterMap_cons,List.filterMap_cons,h x (List.mem_cons_self ..),oQ λy hy=>h y (List.mem_cons_of_mem _ hy)]
theorem tj (xs:Array Value):((List.range xs.size).filterMap fun(m:Nat)=>xs[((xs.size:Int)-1+(m:Int) * -1).toNat]?).toArray=xs.toList.reverse.toArray:=by
 rw [<- krv_pick]
 unfold slicePick
 rw [krv_bounds]
 show _=((sliceRange ((xs.size:Int)-1) (-1) (-1)).filterMap (xs[·]?)).toArray
 rw [krv_sliceRange,List.filterMap_map]
 congr 1
 exact oQ λm hm=>by
  have:=List.mem_range.mp hm
  show xs[((xs.size:Int)-1+(m:Int) * -1).toNat]?=xs[xs.size-1-m]?
  congr 1
  omega
theorem ow (n:Nat):Builtin.Slice.sliceAdjust none none (-1) (n:Int)=((n:Int)-1,-1):=by
 unfold Builtin.Slice.sliceAdjust
 simp
theorem oz (n:Nat):Builtin.Slice.slicePlaces ((n:Int)-1) (-1) (-1)=n:=by
 unfold Builtin.Slice.slicePlaces
 simp
 omega
theorem iW {sl:Addr} {vk:Value} {n:Nat} {Q:Int × Int × Nat->Shared->Prop} (hs:s.heap.IsSliceOf sl .none .none vk) (pk:IsPart vk (some (-1)))
  (h:Q ((n:Int)-1,-1,n) s):wpAny (model prog w) A (Builtin.Slice.sliceApplied (.ref sl) (pure (n:Int))) Q E s:=by
 obtain⟨os,hos,hcs,hds⟩:=id hs
 unfold Builtin.Slice.sliceApplied Builtin.Slice.sliceFields
 refine wpAny_bind (wpAny_bind (wpAny_field hos hds (x:=.none) rfl (wpAny_bind (wpAny_field hos hds (x:=.none) rfl (wpAny_bind (wpAny_field hos hds (x:=vk) rfl (wpAny_pure ?_)))))))
 refine wpAny_bind (iq pk ?_)
 dsimp only
 rw [if_neg (by decide)]
 refine wpAny_bind (slicePart_none (wpAny_bind (slicePart_none (wpAny_bind (wpAny_pure ?_)))))
 show wpAny _ _ (pure ((Builtin.Slice.sliceAdjust none none (-1) (n:Int)).1,(-1:Int),Builtin.Slice.slicePlaces (Builtin.Slice.sliceAdjust none none (-1) (n:Int)).1 (Builtin.Slice.sliceAdjust none none (-1) (n:Int)).2 (-1))) _ _ s
 rw [ow]
 dsimp only
 rw [oz]
 exact wpAny_pure h
theorem qX {t sl:Addr} {items:Array Value} {vk:Value} {Q:Value->Shared->Prop} (ht:IsTup s.heap t items) (hs:s.heap.IsSliceOf sl .none .none vk) (pk:IsPart vk (some (-1))) (hz:items.size<=sizeLine)
  (q:Q (.ref s.heap.objs.size) { s with heap:=s.heap.push { cls:=.type "tuple",data:=.seq items.toList.reverse.toArray } }):wpAny (model prog w) A (getItem (.ref t) (.ref sl)) Q E s:=by
 obtain⟨os,hos,hcs,hds⟩:=id hs
 have hTs:s.TypeIs (.ref sl) "slice":=⟨os,hos,hcs⟩
 have hsz:sizeOk (.seq items.toList.reverse.toArray):=by
  show items.toList.reverse.toArray.size<=sizeLine
  rw [List.size_toArray,List.length_reverse,Array.length_toList]
  exact hz
 unfold getItem
 try with_reducible refine wpAny_holding ?_
 first | refine wpAny_bind (wpAny_pure ?_) | skip
 refine wpAny_bind (wpAny_sequenceKey ht.typeIs (by decide) ?_)
 refine wpAny_bind (wpAny_callSpecial?_slot (name:=Str.ofString "__getitem__") ht.typeIs slot_tuple_getitem (wpAny_call_entry slot_tuple_getitem ht.typeIs entry_tuple_getitem ?_ (args_tuple_getitem _ _)))
 show wpAny _ _ (Builtin.Tuple.tupleItemsOf _ >>= _) _ _ _
 refine wpAny_bind (tupleItemsOf_ ht ?_)
 refine wpAny_bind (wpAny_typeOf hTs ?_)
 rw [if_pos (by decide)]
 refine wpAny_bind (iW hs pk ?_)
 dsimp only
 rw [if_neg (by simp),tj]
 first
  | exact wpAny_bind (m:=Builtin.Tuple.tupleExact _) (wpAny_newObj_type (wpAny_pure ⟨_,rfl,wpAny_pure q⟩) hsz)
  | exact wpAny_bind (wpAny_bind (m:=Builtin.Tuple.tupleExact _) (wpAny_newObj_type (wpAny_pure (wpAny_pure ⟨_,rfl,wpAny_pure q⟩)) hsz))
  | exact wpAny_bind (m:=Builtin.Tuple.tupleExact _) (wpAny_newObj_type (wpAny_bind (wpAny_pure (wpAny_pure ⟨_,rfl,wpAny_pure q⟩))) hsz)
  | exact wpAny_bind (wpAny_bind (m:=Builtin.Tuple.tupleExact _) (wpAny_newObj_type (wpAny_pure ⟨_,rfl,wpAny_pure q⟩) hsz))
end
end Tsl
def yM (K:PySem.W.Frag):V->Option Int->Option Int->Hp->VK->Prop:=λx lo hi H Q=>∃ a xs,x=.ref a/\aY K H a xs/\∀ p H',aE H H'->aY K H' p (cz xs lo hi)->Q (.ref p) H'
theorem qv {xs:List V} {lo hi:Option Int} (h0:HT.cP xs.length 0 lo=0) (h1:HT.cP xs.length xs.length hi=xs.length):cz xs lo hi=xs:=by
 unfold cz
 rw [h0,h1]
 simp
theorem cJ {X:Cx}:C7 X (yM X.K):=by
 intro pins s σ H x v vl vu lo hi sl Q I rx hs pl pu h
 obtain⟨a,xs,rfl,hx,q⟩:=h
 by_cases hw:HT.cP xs.length 0 lo=0/\HT.cP xs.length xs.length hi=xs.length
 ·cases rx
  obtain⟨its,r,ht,hz⟩:=I.tuple hx
  have hlen:its.toArray.size=xs.length:=by rw [List.size_toArray];exact r.length.symm
  refine⟨"tuple",_,slot_tuple_getitem.lookup,ht.typeIs,?_⟩
  refine Tsl.qd ht hs pl pu (by rw [hlen];exact hw.1) (by rw [hlen];exact hw.2) ?_
  exact⟨.ref a,H,I,rfl,q a H (aE.refl _) (by rw [qv hw.1 hw.2];exact hx)⟩
 ·exact wU pins s σ H _ v vl vu lo hi sl Q I rx hs pl pu ⟨a,xs,rfl,hx,hw,λp hp=>q p _ (aj hp) (aY.of ai)⟩
def xk (K:PySem.W.Frag) (te:TE) (tk:TO):TE:=λσ H Q=>te σ H λx H1=>tk σ H1 λo H2=>o=some (-1)/\∃ a xs,x=.ref a/\aY K H2 a xs/\∀ p,H2 p=none->Q (.ref p) (upd H2 p (.tup xs.reverse))
section
variable {X:Cx} {e k:Expr} {te:TE} {tk:TO} {p2 pos:Pos}
theorem sy (he:PE X e te) (hk:PO X (some k) tk)
  (hs:∀ a b:Addr,∃ ops,subscripted (.Slice none none (some k) p2) false (.ref a) (.ref b)=operate ops (getItem (.ref a) (.ref b)):=by intro a b;exact⟨_,by with_unfolding_all rfl⟩):PE X (.Subscript e (.Slice none none (some k) p2) pos) (xk X.K te tk):=by
 intro pins s σ H Q I h
 refine Subscript_ (bS (he pins s σ H _ I h) λv s1 ⟨x,H1,I1,r1,q1⟩=>?_)
 refine wpAny_Slice ?_
 rw [evalPart_none]
 refine wpAny_pure (wpAny_pure ?_)
 refine bS (hk pins s1 σ H1 _ I1 q1) λvk s3 ⟨o,H3,I3,pk,eo,a,xs,ex,hx,q3⟩=>?_
 subst eo
 subst ex
 cases r1
 have I4:Inv X pins σ H3 { s3 with heap:=s3.heap.push { cls:=.type "slice",data:=.fields #[.none,.none,vk] } }:=I3.kept (t':=s3.toks) λb ob q=>Heap.get?_push_of_some _ q
 obtain⟨its,r,ht,hz⟩:=I4.tuple hx
 have hlen:=r.length
 show wpAny (model X.prog X.w) X.A (subscriptTail e (.Slice none none (some k) p2) (.ref a) (.ref s3.heap.objs.size)) (EP X pins σ Q) X.xe { s3 with heap:=s3.heap.push { cls:=.type "slice",data:=.fields #[.none,.none,vk] } }
 obtain⟨ops,hops⟩:=hs a s3.heap.objs.size
 refine tail_any (ops:=ops) ht.typeIs slot_tuple_getitem.lookup ?_ hops
 refine Tsl.qX ht (Heap.IsSliceOf.new ..) pk (by rw [List.size_toArray]<;>omega) ?_
 refine⟨.ref _,_,I4.laid (t':=s3.toks) (o:=.tup xs.reverse) (λb ob q=>Heap.get?_push_of_some _ q) (Nat.le_refl _) ?_,rfl,q3 _ (I4.hok.fresh (Nat.le_refl _))⟩
 exact⟨by rw [List.length_reverse];exact hz,_,r.rev,IsTup.new _ _⟩
end
end L2
namespace L2
open PySem PySem.Spec PyProof.Rows
section
variable {prog:Program} {w:World} {K:Type} [DecidableEq K] {knd:HeapKind prog w K} {A:Around} {E:Value->Shared->Prop} {s:Shared}
end
end L2
namespace L2
open PySem PySem.Spec PyProof.Rows PySem.W
def Bz (h:Heap) (d:Addr) (es:Array DictEntry) (ep:Nat):Prop:=∃ o,h.get? d=some o/\o.ExactDict/\o.data=.dict es ep
section
variable {P:Program} {w:World} {A:Around} {E:Value->Shared->Prop} {s:Shared} {d:Addr} {es:Array DictEntry} {ep:Nat}
theorem Bz.type (x:Bz s.heap d es ep):s.TypeIs (.ref d) "dict":=by obtain⟨o,a,c,_⟩:=x;exact⟨o,a,c.1⟩
end
section
variable {X:Cx} {pins:List (Addr × Obj)} {σ:St} {H:Hp} {s:Shared} {A:Around} {E:Value->Shared->Prop}
def Bk (td ty:TE):TE:=λσ H Q=>td σ H λx H1=>∃ a,x=.ref a/\EA H1 a/\ty σ H1 λy H2=>∃ kvs k b v,H2 a=some (.dT kvs)/\y=.ref b/\H2 b=some (.tup (k.map kV))/\fj kvs k=some v/\Q v (upd H2 a (.dT (BR kvs k)))
theorem mC:∀{ns:List Int} {us:List Value},Vals (ns.map V.int) us->IntsAre us ns
 | [],_,.nil=>.nil
 | n::ns,_,.cons ⟨t,e⟩ r=>by subst e;exact .cons _ t (mC r)
end
section
variable {P:Program} {w:World} {K:PySem.W.Frag} {mg:Str->Option Value} {base:Heap} {CX:kA} {k:Nat} {C:Addr} {m qual x:Str} {ps:List Str} {sp:Sp} {st:Stmt}
structure mV (P:Program) (w:World) (K:PySem.W.Frag) (mg:Str->Option Value) (base:Heap) (CX:kA) (k:Nat) (C:Addr) (m:Str) (ps:List Str) (sp:Sp):Prop where
 ex:∃ f fd,Meth K C m f/\eE P w K mg base CX k f fd ps sp/\Binds K fd ps []
theorem mV.imp {sp':Sp} (D:mV P w K mg base CX k C m ps sp) (h:∀ vs H Q E,sp' vs H Q E->sp vs H Q E):mV P w K mg base CX k C m ps sp':=by
 obtain⟨f,fd,M,F,b⟩:=D.ex
 exact⟨f,fd,M,F.imp h,b⟩
variable {X:Cx} {E:XK} {o e:Expr} {es:List Expr} {ta:TE} {t:TA} {p apos pos:Pos}
structure Ez (K:PySem.W.Frag) (x qual:Str) (st:Stmt) (f:Addr) (fd:FuncData) (ds:Array Value):Prop where
 ex:∃(oc:Value) (od:Option Addr) (T:Addr) (o:Obj) (n:Nat) (kV doc pm:Value) (an:Option Addr) (cdv ct:Value) (osl:Array (Option Value)),
  fd=fnOf x qual (dh st) (cC st) (ao st) (.ref T) kV doc pm an cdv ct/\K.lookup f=some ⟨oc,od,.func fd,osl⟩/\codeIn K cdv qual=true/\K.lookup T=some o/\o.data=.seq ds n
 kp:keepIn K (.ref f)=true
end
end L2
namespace L2
open PySem PySem.Spec PyProof.Rows
def Er (q:Nat):Nat->Nat->Nat
 | 0,m=>m
 | f+1,m=>if q<=m*m then m else Er q f (m+1)
def rt (q:Nat):Nat:=Er q q 0
def Ed (p w:Int) (m:Nat):List (Key × V):=(List.range m).map λi:Nat=>(Sum.inl (w^i%p),V.int (i:Int))
end L2
namespace Num
theorem Ord.co {n a:Int} {m:Nat} (o:Ord n a m):Co a n:=by
 obtain⟨k,hk⟩:∃ k,m=k+1:=⟨m-1,by have:=o.pos;omega⟩
 exact Co.AN (m:=k) (by rw [<- hk];exact o.one)
theorem yE {n b:Int} {e q:Nat} (o:Ord n b e) (hd:q∣e):Ord n (b^(e/q)) q:=by
 obtain⟨f,hf⟩:=hd
 have e0:=o.pos
 have q0:0<q:=by rcases Nat.eq_zero_or_pos q with z | z;rw [z,Nat.zero_mul] at hf;omega;exact z
 have f0:0<f:=by rcases Nat.eq_zero_or_pos f with z | z;rw [z,Nat.mul_zero] at hf;omega;exact z
 have ef:e/q=f:=by rw [hf];exact Nat.mul_div_cancel_left f q0
 rw [ef]
 refine⟨q0,?_,λj hj=>?_⟩
 ·rw [cH,Nat.mul_comm,<- hf];exact o.one
 ·rw [cH] at hj
  have:=o.dv _ hj
  rw [hf,Nat.mul_comm q f] at this
  exact Nat.dvd_of_mul_dvd_mul_left f0 this
theorem sC {n w:Int} {q y:Nat} (o:Ord n w q):Al n (w^y) (w^(y%q)):=by
 have h:y=q*(y/q)+y%q:=(Nat.div_add_mod y q).symm
 have h1:=(bB (k:=y/q) o.one).mul (Al.refl n (w^(y%q)))
 rw [Int.one_mul,<- Int.pow_add,<- h] at h1
 exact h1
end Num
namespace L2
open PySem PySem.Spec PyProof.Rows
def uF (a d:Addr) (H H':Hp):Prop:=∀ b o,b≠a->b≠d->H b=some o->H' b=some o
theorem uF.refl {a d:Addr} {H:Hp}:uF a d H H:=λ_ _ _ _ e=>e
theorem uF.trans {a d:Addr} {H H1 H2:Hp} (h:uF a d H H1) (h':uF a d H1 H2):uF a d H H2:=λb o x y e=>h' b o x y (h b o x y e)
theorem uF.of {a d:Addr} {H H':Hp} (h:aE H H'):uF a d H H':=λb o _ _ e=>h b o e
structure KH where
 a:Addr
 dx:Addr
 d:Addr
 most:Int
 c:Int
 ks:List (Int × Int × Int)
def k3 (x:Int × Int × Int):List Key:=[.inl x.1,.inl x.2.1,.inl x.2.2]
theorem vE {x y:Int × Int × Int} (h:k3 x=k3 y):x=y:=by
 obtain⟨a,b,c⟩:=x
 obtain⟨a',b',c'⟩:=y
 simp only [k3,List.cons.injEq,Sum.inl.injEq,and_true] at h
 obtain⟨rfl,rfl,rfl⟩:=h
 rfl
def EJ (k:KH):List (Str × V):=[("most",.int k.most),("counted",.int k.c),("laid",.ref k.d)]
def KTab (H:Hp) (x:Int × Int × Int) (v:V):Prop:=∃ t,v=.ref t/\H t=some (.dK (Ed x.1 x.2.2 (rt x.2.1.toNat)))
structure Ac (H:Hp) (k:KH) (kvs:List (List Key × V)):Prop where
 dict:H k.d=some (.dT kvs)
 keys:kvs.map (·.1)=k.ks.map k3
 nd:k.ks.Nodup
 tab:∀ x v,fj kvs (k3 x)=some v->KTab H x v
structure lP (C:Addr) (k:KH) (H:Hp):Prop where
 ins:H k.a=some (.ins C k.dx (EJ k))
 ex:∃ kvs,Ac H k kvs
 m0:0<=k.most
 m1:k.most<=10^6
section
variable {C:Addr} {k:KH} {H H':Hp} {kvs:List (List Key × V)}
theorem Ac.len (h:Ac H k kvs):kvs.length=k.ks.length:=by have:=congrArg List.length h.keys;simpa using this
theorem lP.ne (h:lP C k H):k.a≠k.d:=by
 obtain⟨kvs,z⟩:=h.ex
 exact rW h.ins z.dict (by intro z;cases z)
theorem lP.apart (h:lP C k H) {b:Addr} {o:HO} (e:H b=some o) (h1:∀ C dx fs,o≠.ins C dx fs) (h2:∀ kvs,o≠.dT kvs):b≠k.a/\b≠k.d:=by
 obtain⟨kvs,z⟩:=h.ex
 exact⟨rW e h.ins (h1 _ _ _),rW e z.dict (h2 _)⟩
theorem lP.keep (h:lP C k H) (bt:uF k.a k.d H H') {b:Addr} {o:HO} (e:H b=some o) (h1:∀ C dx fs,o≠.ins C dx fs:=by intro _ _ _ z;cases z) (h2:∀ kvs,o≠.dT kvs:=by intro _ z;cases z):H' b=some o :=
 let ⟨x,y⟩:=h.apart e h1 h2;bt b o x y e
theorem lP.dB (h:lP C k H) (bt:uF k.a k.d H H'):∀ a xs,Rd H a (.tup xs)->Rd H' a (.tup xs):=by
 intro a xs z
 rcases z with z | ⟨o,z⟩
 ·exact .inl (h.keep bt z)
 ·exact .inr ⟨o,h.keep bt z⟩
theorem lP.dv {K:PySem.W.Frag} (h:lP C k H) (bt:uF k.a k.d H H') {d:PyData} {v:V} (nl:yj d=true) (x:dv K H d v):dv K H' d v:=dv.dB (h.dB bt) d nl x
theorem sX:∀{kvs:List (List Key × V)} {q:List Key},(fj kvs q).isSome=true↔q∈kvs.map (·.1)
 | [],q=>by simp [fj]
 | p::r,q=>by
  by_cases c:p.1=q
  ·rw [gG c];simp [c]
  ·rw [gF c,sX (kvs:=r)]
   simp only [List.map_cons,List.mem_cons]
   exact⟨.inr,λz=>z.resolve_left λe=>c e.symm⟩
theorem Ac.mem (h:Ac H k kvs) {x:Int × Int × Int}:(fj kvs (k3 x)).isSome=true↔x∈k.ks:=by
 rw [sX,h.keys,List.mem_map]
 exact⟨fun⟨y,hy,e⟩=>vE e▸hy,λz=>⟨x,z,rfl⟩⟩
theorem Ac.nodup (h:Ac H k kvs):(kvs.map (·.1)).Nodup:=by
 rw [h.keys]
 exact List.Pairwise.map k3 (λa b n e=>n (vE e)) h.nd
end
section
variable {K:PySem.W.Frag} {H H':Hp}
mutual
theorem dv.jQ (kt:∀ a xs,aY K H a xs->aY K H' a xs) (kl:∀ a xs,aS K H a xs->aS K H' a xs):∀(d:PyData) {v:V},dv K H d v->dv K H' d v
 | .none,_,h=>h
 | .bool _,_,h=>h
 | .int _,_,h=>h
 | .str _,_,h=>h
 | .list ds,_,⟨q,xs,e,h,t⟩=>⟨q,xs,e,kl _ _ h,bo.jQ kt kl ds t⟩
 | .tuple ds,_,⟨q,xs,e,h,t⟩=>⟨q,xs,e,kt _ _ h,bo.jQ kt kl ds t⟩
 | .dict _,_,h=>h.elim
theorem bo.jQ (kt:∀ a xs,aY K H a xs->aY K H' a xs) (kl:∀ a xs,aS K H a xs->aS K H' a xs):∀(ds:List PyData) {xs:List V},bo K H ds xs->bo K H' ds xs
 | [],_,h=>h
 | d::ds,_,⟨x,r,e,h,t⟩=>⟨x,r,e,dv.jQ kt kl d h,bo.jQ kt kl ds t⟩
end
mutual
def gd:PyData->Prop
 | .none=>True
 | .bool _=>True
 | .int i => -(10^90)<=i/\i<=10^90
 | .str x=>PyData.canLay0 (.str x)=true
 | .list ds=>fP ds
 | .tuple ds=>fP ds
 | _=>False
def fP:List PyData->Prop
 | []=>True
 | d::ds=>gd d/\fP ds
end
theorem dQ:∀{ds:List PyData},fP ds↔∀ d∈ds,gd d
 | []=>⟨λ_ d h=>(List.not_mem_nil h).elim,λ_=>by simp only [fP]⟩
 | d::ds=>by
  simp only [fP]
  rw [dQ,List.forall_mem_cons]
mutual
theorem gd.lay:∀(d:PyData),gd d->d.canLay0=true
 | .none,_=>rfl
 | .bool _,_=>rfl
 | .int _,_=>rfl
 | .str x,h=>by simp only [gd] at h;exact h
 | .list ds,h=>by simp only [gd] at h;simp only [PyData.canLay0];exact fP.lay ds h
 | .tuple ds,h=>by simp only [gd] at h;simp only [PyData.canLay0];exact fP.lay ds h
 | .dict _,h=>by simp only [gd] at h
theorem fP.lay:∀(ds:List PyData),fP ds->PyData.canLayAll0 ds=true
 | [],_=>rfl
 | d::ds,h=>by
  simp only [fP] at h
  simp only [PyData.canLayAll0]
  rw [gd.lay d h.1,fP.lay ds h.2]
  rfl
end
def GV (K:PySem.W.Frag) (H:Hp) (x:V):Prop:=∃ d,dv K H d x/\gd d
def oj (K:PySem.W.Frag) (H:Hp) (xs:List V):Prop:=∃ ds,bo K H ds xs/\fP ds
theorem GV.keep (kt:∀ a xs,aY K H a xs->aY K H' a xs) (kl:∀ a xs,aS K H a xs->aS K H' a xs) {x:V} (h:GV K H x):GV K H' x:=by
 obtain⟨d,h1,h2⟩:=h
 exact⟨d,dv.jQ kt kl d h1,h2⟩
theorem oj.keep (kt:∀ a xs,aY K H a xs->aY K H' a xs) (kl:∀ a xs,aS K H a xs->aS K H' a xs) {xs:List V} (h:oj K H xs):oj K H' xs:=by
 obtain⟨d,h1,h2⟩:=h
 exact⟨d,bo.jQ kt kl d h1,h2⟩
theorem oj.nil:oj K H []:=⟨[],rfl,by simp only [fP]⟩
theorem oj.cons {x:V} {xs:List V} (h:GV K H x) (g:oj K H xs):oj K H (x::xs):=by
 obtain⟨d,h1,h2⟩:=h
 obtain⟨ds,g1,g2⟩:=g
 exact⟨d::ds,⟨x,xs,rfl,h1,g1⟩,by simp only [fP];exact⟨h2,g2⟩⟩
theorem oj.all {xs:List V} (h:oj K H xs):∀ x∈xs,GV K H x:=by
 obtain⟨ds,h1,h2⟩:=h
 intro x hx
 obtain⟨i,hi,e⟩:=List.mem_iff_getElem.mp hx
 have hx':xs[i]?=some x:=by rw [<- e];exact List.getElem?_eq_getElem hi
 obtain⟨d,e1,hv⟩:=h1.get hx'
 exact⟨d,hv,dQ.mp h2 d (List.mem_of_getElem? e1)⟩
theorem oj.of:∀{xs:List V},(∀ x∈xs,GV K H x)->oj K H xs
 | [],_=>oj.nil
 | x::xs,h=>oj.cons (h x (List.mem_cons_self ..)) (oj.of λy hy=>h y (List.mem_cons_of_mem _ hy))
theorem GV.tup {p:Addr} {xs:List V} (hS:aY K H p xs) (h:oj K H xs):GV K H (.ref p):=by
 obtain⟨ds,h1,h2⟩:=h
 exact⟨.tuple ds,⟨p,xs,rfl,hS,h1⟩,by simp only [gd];exact h2⟩
theorem GV.lst {p:Addr} {xs:List V} (hS:aS K H p xs) (h:oj K H xs):GV K H (.ref p):=by
 obtain⟨ds,h1,h2⟩:=h
 exact⟨.list ds,⟨p,xs,rfl,hS,h1⟩,by simp only [gd];exact h2⟩
theorem GV.int {i:Int} (h0:-(10^90)<=i) (h1:i<=10^90):GV K H (.int i):=⟨.int i,rfl,by simp only [gd];exact⟨h0,h1⟩⟩
theorem GV.bY:GV K H .bY:=⟨.none,rfl,by simp only [gd]⟩
theorem GV.bl {b:Bool}:GV K H (.bl b):=⟨.bool b,rfl,by simp only [gd]⟩
theorem GV.str {x:Str} (h:PyData.canLay0 (.str x)=true):GV K H (.str x):=⟨.str x,rfl,by simp only [gd];exact h⟩
end
section
variable {X:Cx}
end
inductive rh:List Expr->TA->Prop
 | n:rh [] Bm
 | c {i:Int} {k:Nat} {pos:Pos} {es:List Expr} {ta:TA}:rh es ta->rh (.Constant (.int i) k pos::es) (xi (tC (.int i)) ta)
theorem sj {X:Cx} {es:List Expr} {ta:TA} (h:rh es ta):PA X es ta:=by
 induction h with
 | n=>exact ae
 | c _ ih=>exact aa af ih rfl
structure jN (k:Nat) (A:Around):Prop where
 dp:A.depth+3*k+5<recursionLimit
 un:A.units+16*k+200<cLine
theorem jN.mono {j k:Nat} {A:Around} (r:jN k A) (h:j<=k):jN j A:=⟨by have:=r.dp;omega,by have:=r.un;omega⟩
theorem jN.deeper {k:Nat} {A:Around} (r:jN (k+1) A) (env:Env):jN k (A.deeper env) :=
 ⟨by have:=r.dp;show A.depth+1+3*k+5<_;omega,by have:=r.un;show A.units+3+16*k+200<_;omega⟩
theorem jN.units {k:Nat} {A:Around} (r:jN k A):A.units+64<cLine:=by have:=r.un;omega
section
variable {CX:kA} {P:Program} {w:World} {K:PySem.W.Frag} {mg:Str->Option Value} {base:Heap} {k:Nat} {f:Addr} {fd:FuncData} {N ps:List Str} {sp:Sp}
end
theorem yB {X:Cx} (K:PySem.W.Frag) (hK:X.K=K) (hu:X.A.units+64<cLine):fE X (compareOp .Eq) (uu K false):=hK▸eT hu
end L2
namespace Num
theorem lu {p:Int} (hp:2<=p):∀{k l:Nat} {R T:Int},¬p∣R->¬p∣T->p^k*R=p^l*T->k=l/\R=T
 | 0,0,R,T,_,_,e=>by rw [Int.pow_zero,Int.one_mul,Int.one_mul] at e;exact⟨rfl,e⟩
 | 0,l+1,R,T,h,_,e=>by
  rw [Int.pow_zero,Int.one_mul,Int.pow_succ,Int.mul_comm (p^l),Int.mul_assoc] at e
  exact absurd ⟨_,e⟩ h
 | k+1,0,R,T,_,h,e=>by
  rw [Int.pow_zero,Int.one_mul,Int.pow_succ,Int.mul_comm (p^k),Int.mul_assoc] at e
  exact absurd ⟨_,e.symm⟩ h
 | k+1,l+1,R,T,h,h',e=>by
  rw [Int.pow_succ,Int.pow_succ,Int.mul_comm (p^k),Int.mul_comm (p^l),Int.mul_assoc,Int.mul_assoc] at e
  obtain⟨e1,e2⟩:=lu hp h h' (Int.eq_of_mul_eq_mul_left (by omega) e)
  exact⟨by rw [e1],e2⟩
theorem Part.tail {n:Int} {x:Int × Int} {r:List (Int × Int)} (h:Part n (x::r)):Part (bC r) r:=⟨λp hp=>h.ok p (List.mem_cons_of_mem _ hp),(List.pairwise_cons.mp h.rise).2,rfl⟩
theorem Part.nd {n:Int} {x:Int × Int} {r:List (Int × Int)} (h:Part n (x::r)):¬x.1∣bC r:=λz=>by
 obtain⟨y,hy,e⟩:=dY (h.ok x (List.mem_cons_self ..)).1 (λp hp=>(h.ok p (List.mem_cons_of_mem _ hp)).1) z
 have:=(List.pairwise_cons.mp h.rise).1 y hy
 omega
theorem Part.hd {n:Int} {x:Int × Int} {r:List (Int × Int)} (h:Part n (x::r)) {q:Int} (hq:Pm q) (hd:q∣n):x.1<=q:=by
 obtain⟨y,hy,e⟩:=dY hq (λp hp=>(h.ok p hp).1) (h.prod▸hd)
 rcases List.mem_cons.mp hy with rfl | hy
 ·omega
 ·have:=(List.pairwise_cons.mp h.rise).1 y hy
  omega
theorem Part.dv {n:Int} {ps:List (Int × Int)} (h:Part n ps) {x:Int × Int} (hx:x∈ps):x.1∣n:=h.prod▸eW hx (h.ok x hx).2.1
theorem Part.one:∀{ps qs:List (Int × Int)} {n:Int},Part n ps->Part n qs->ps=qs
 | [],[],_,_,_=>rfl
 | [],y::t,n,h,h'=>by
  exfalso
  have e:n=1:=h.prod.symm
  have:=(h'.ok y (List.mem_cons_self ..)).1.two
  have:=Int.le_of_dvd (by decide) (e▸h'.dv (List.mem_cons_self ..))
  omega
 | x::r,[],n,h,h'=>by
  exfalso
  have e:n=1:=h'.prod.symm
  have:=(h.ok x (List.mem_cons_self ..)).1.two
  have:=Int.le_of_dvd (by decide) (e▸h.dv (List.mem_cons_self ..))
  omega
 | (p,k)::r,(q,l)::t,n,h,h'=>by
  have hp:=h.ok _ (List.mem_cons_self ..)
  have hq:=h'.ok _ (List.mem_cons_self ..)
  have e1:p<=q:=h.hd hq.1 (h'.dv (List.mem_cons_self ..))
  have e2:q<=p:=h'.hd hp.1 (h.dv (List.mem_cons_self ..))
  obtain rfl:p=q:=by omega
  obtain⟨a,b⟩:=lu hp.1.two h.nd h'.nd (h.prod.trans h'.prod.symm)
  have:k=l:=by have:=hp.2.1;have:=hq.2.1;simp only at *;omega
  subst this
  rw [Part.one h.tail (b▸h'.tail)]
def lr:List (Int × Int)->Int
 | []=>1
 | x::r=>x.1^(x.2.toNat-1)*(x.1-1)*lr r
theorem mM:∀{ps:List (Int × Int)},(∀ p∈ps,Pm p.1)->0<bC ps
 | [],_=>by decide
 | x::r,h=>Int.mul_pos (bN (by have:=(h x (List.mem_cons_self ..)).two;omega) _) (mM λp hp=>h p (List.mem_cons_of_mem _ hp))
theorem Part.pos {n:Int} {ps:List (Int × Int)} (h:Part n ps):0<n:=h.prod▸mM λp hp=>(h.ok p hp).1
structure Dv (A:Int) (F:List (List (Int × Int))):Prop where
 part:∀ s∈F,Part (bC s) s
 nodup:(F.map bC).Nodup
 mem:∀ d,d∈F.map bC↔0<d/\d∣A
 sum:(F.map lr).sum=A
theorem Dv.start:Dv 1 [[]]:=⟨λs hs=>by rw [List.mem_singleton.mp hs];exact⟨λ_ z=>by simp at z,List.Pairwise.nil,rfl⟩,by simp,λd=>by
  show d∈[1]↔_
  rw [List.mem_singleton]
  exact⟨λe=>by rw [e];exact⟨by decide,Int.dvd_refl _⟩,fun⟨a,b⟩=>by have:=Int.le_of_dvd (by decide) b;omega⟩,rfl⟩
structure Ds (n:Int) (ds:List Int):Prop where
 rise:ds.Pairwise (·<·)
 mem:∀ d,d∈ds↔0<d/\d∣n
theorem vN {l:List Int} (h:l.Pairwise (·<=·)) (nd:l.Nodup):l.Pairwise (·<·) :=
 (h.and nd).imp fun⟨a,b⟩=>by omega
theorem vM:∀{l m:List Int},l.Pairwise (·<·)->m.Pairwise (·<·)->(∀ a,a∈l↔a∈m)->l=m
 | [],[],_,_,_=>rfl
 | [],y::m,_,_,h=>by have:=(h y).mpr (List.mem_cons_self ..);simp at this
 | x::l,[],_,_,h=>by have:=(h x).mp (List.mem_cons_self ..);simp at this
 | x::l,y::m,hl,hm,h=>by
  obtain⟨a,b⟩:=List.pairwise_cons.mp hl
  obtain⟨c,d⟩:=List.pairwise_cons.mp hm
  have e:x=y:=by
   rcases List.mem_cons.mp ((h x).mp (List.mem_cons_self ..)) with z | z
   ·exact z
   ·rcases List.mem_cons.mp ((h y).mpr (List.mem_cons_self ..)) with w | w
    ·exact w.symm
    ·have:=a y w;have:=c x z;omega
  subst e
  rw [vM b d λz=>?_]
  constructor
  ·intro hz
   rcases List.mem_cons.mp ((h z).mp (List.mem_cons_of_mem _ hz)) with w | w
   ·have:=a z hz;omega
   ·exact w
  ·intro hz
   rcases List.mem_cons.mp ((h z).mpr (List.mem_cons_of_mem _ hz)) with w | w
   ·have:=c z hz;omega
   ·exact w
theorem Ds.one {n:Int} {ds es:List Int} (h:Ds n ds) (h':Ds n es):ds=es:=vM h.rise h'.rise λa=>(h.mem a).trans (h'.mem a).symm
theorem Dv.ds {n:Int} {F:List (List (Int × Int))} {ds:List Int} (h:Dv n F) (p:ds.Perm (F.map bC)) (s:ds.Pairwise (·<=·)):Ds n ds :=
 ⟨vN s (p.nodup_iff.mpr h.nodup),λd=>p.mem_iff.trans (h.mem d)⟩
theorem kL (p:Int->Bool):∀ l:List Int,l.length=(l.filter p).length+(l.filter (λd=>!p d)).length
 | []=>rfl
 | x::l=>by
  have:=kL p l
  cases e:p x<;>simp [List.filter_cons,e]<;>omega
theorem km {n:Int} (hn:n<=10^9) {l:List Int} (nd:l.Nodup) (h:∀ d∈l,0<d/\d∣n) (n0:0<n):l.length<=63246:=by
 have lo:(l.filter (λd=>decide (d<31623))).length<=31623:=by
  have:=nM 31623 ((l.filter (λd=>decide (d<31623))).map Int.toNat) ?_ ?_
  ·simpa using this
  ·refine List.pairwise_map.mpr ((nd.filter _).imp_of_mem λ{a b} ha hb ne e=>ne ?_)
   have h1:=h a (List.mem_filter.mp ha).1
   have h2:=h b (List.mem_filter.mp hb).1
   omega
  ·intro x hx
   obtain⟨d,hd,rfl⟩:=List.mem_map.mp hx
   have:=(List.mem_filter.mp hd).2
   simp at this
   omega
 have hi:(l.filter (λd=>!decide (d<31623))).length<=31623:=by
  have:=nM 31623 ((l.filter (λd=>!decide (d<31623))).map λd=>(n/d).toNat) ?_ ?_
  ·simpa using this
  ·refine List.pairwise_map.mpr ((nd.filter _).imp_of_mem λ{a b} ha hb ne e=>ne ?_)
   have h1:=h a (List.mem_filter.mp ha).1
   have h2:=h b (List.mem_filter.mp hb).1
   obtain⟨c,hc⟩:=h1.2
   obtain⟨c',hc'⟩:=h2.2
   have e1:n/a=c:=by rw [hc];exact Int.mul_ediv_cancel_left _ (by omega)
   have e2:n/b=c':=by rw [hc'];exact Int.mul_ediv_cancel_left _ (by omega)
   rw [e1,e2] at e
   have c0:0<c:=by
    rcases (by omega:c<=0∨0<c) with z | z
    ·have:=Int.mul_nonpos_of_nonneg_of_nonpos (show 0<=a by omega) z
     omega
    ·exact z
   have c0':0<c':=by
    rcases (by omega:c'<=0∨0<c') with z | z
    ·have:=Int.mul_nonpos_of_nonneg_of_nonpos (show 0<=b by omega) z
     omega
    ·exact z
   obtain rfl:c=c':=by omega
   exact Int.eq_of_mul_eq_mul_right (by omega) (hc.symm.trans hc')
  ·intro x hx
   obtain⟨d,hd,rfl⟩:=List.mem_map.mp hx
   have h1:=(List.mem_filter.mp hd).2
   simp at h1
   have h2:n/d<=n/31623:=by
    refine Int.le_ediv_of_mul_le (by decide) ?_
    have:=Int.ediv_mul_le n (show d≠0 by omega)
    have:=Int.mul_le_mul_of_nonneg_left h1 (Int.ediv_nonneg (show 0<=n by omega) (show 0<=d by omega))
    omega
   have:n/31623<31623:=Int.ediv_lt_of_lt_mul (by decide) (by omega)
   omega
 have:=kL (λd:Int=>decide (d<31623)) l
 omega
def ins (x:Int × Int):List (Int × Int)->List (Int × Int)
 | []=>[x]
 | y::r=>if x.1<y.1 then x::y::r else y::ins x r
theorem kn {x z:Int × Int}:∀{r:List (Int × Int)},z∈ins x r↔z=x∨z∈r
 | []=>by simp [ins]
 | y::r=>by
  unfold ins
  split
  ·simp
  ·rw [List.mem_cons,kn,List.mem_cons]
   exact⟨λh=>by rcases h with h | h | h;exact .inr (.inl h);exact .inl h;exact .inr (.inr h),λh=>by rcases h with h | h | h;exact .inr (.inl h);exact .inl h;exact .inr (.inr h)⟩
theorem oT {x:Int × Int}:∀{r:List (Int × Int)},r.Pairwise (λa b=>a.1<b.1)->(∀ y∈r,y.1≠x.1)->(ins x r).Pairwise λa b=>a.1<b.1
 | [],_,_=>List.pairwise_singleton _ _
 | y::r,h,ne=>by
  obtain⟨a,b⟩:=List.pairwise_cons.mp h
  have:=ne y (List.mem_cons_self ..)
  unfold ins
  split
  ·rename_i c
   exact List.pairwise_cons.mpr ⟨λz hz=>by
    rcases List.mem_cons.mp hz with rfl | hz
    ·exact c
    ·have:=a z hz;omega,h⟩
  ·rename_i c
   refine List.pairwise_cons.mpr ⟨λz hz=>?_,oT b λz hz=>ne z (List.mem_cons_of_mem _ hz)⟩
   rcases kn.mp hz with rfl | hz
   ·omega
   ·exact a z hz
theorem oS {x:Int × Int}:∀{r:List (Int × Int)},bC (ins x r)=x.1^x.2.toNat*bC r
 | []=>rfl
 | y::r=>by
  unfold ins
  split
  ·rfl
  ·show _*bC (ins x r)=_*(_*bC r)
   rw [oS,Int.mul_left_comm]
theorem rL {x:Int × Int}:∀{r:List (Int × Int)},lr (ins x r)=x.1^(x.2.toNat-1)*(x.1-1)*lr r
 | []=>rfl
 | y::r=>by
  unfold ins
  split
  ·rfl
  ·show _*lr (ins x r)=_*(_*lr r)
   rw [rL,Int.mul_left_comm]
theorem Part.mul:∀{qs ps:List (Int × Int)} {n:Int},Part n ps->(∀ p∈qs,Pm p.1/\1<=p.2/\p.2<=30)->qs.Pairwise (λa b=>a.1<b.1)->(∀ x∈ps,∀ y∈qs,x.1≠y.1)->∃ rs,Part (n*bC qs) rs/\lr rs=lr ps*lr qs
 | [],ps,n,h,_,_,_=>⟨ps,by show Part (n*1) ps;rw [Int.mul_one];exact h,by show _=_*1;rw [Int.mul_one]⟩
 | y::qs,ps,n,h,ok,rise,ne=>by
  obtain⟨a,b⟩:=List.pairwise_cons.mp rise
  have h1:Part (y.1^y.2.toNat*n) (ins y ps):=⟨λp hp=>by
   rcases kn.mp hp with rfl | hp
   ·exact ok _ (List.mem_cons_self ..)
   ·exact h.ok p hp,oT h.rise λx hx=>ne x hx y (List.mem_cons_self ..),by rw [oS,h.prod]⟩
  obtain⟨rs,h2,h3⟩:=Part.mul h1 (λp hp=>ok p (List.mem_cons_of_mem _ hp)) b λx hx z hz=>by
   rcases kn.mp hx with rfl | hx
   ·have:=a z hz;omega
   ·exact ne x hx z (List.mem_cons_of_mem _ hz)
  refine⟨rs,?_,?_⟩
  ·have:n*bC (y::qs)=y.1^y.2.toNat*n*bC qs:=by show n*(_*_)=_;rw [Int.mul_comm (y.1^_) n,Int.mul_assoc]
   rw [this];exact h2
  ·rw [h3,rL]
   show _=lr ps*(_*lr qs)
   grind
end Num
namespace L2
open PySem PySem.Spec PyProof.Rows PySem.W
section
variable {M:Model} {A:Around} {E:Value->Shared->Prop} {s:Shared} {base:Heap} {env:Env} {outer:List Env} {L e T:Addr} {C:Value} {dd:Option Addr} {fl:Value}
end
section
variable {P:Program} {w:World} {K:PySem.W.Frag} {mg:Str->Option Value} {base:Heap} {N:List Str} {qual:Str} {scope:Scope} {f:Addr} {cd:Value} {A:Around} {outer:List Env} {s:Shared} {H:Hp} {E:XK}
end
section
variable {P:Program} {w:World} {K:PySem.W.Frag} {mg:Str->Option Value} {base:Heap} {N:List Str} {qual:Str} {sc:Scope} {f:Addr} {cd:Value} {A:Around} {outer:List Env} {s:Shared} {H:Hp} {E:XK}
variable {elt target iter:Expr} {ifs:List Expr} {scope:Scope} {pos:Pos} {N':List Str} {js:List (Option Nat)} {cl:List (Str × Addr)} {wi:TI} {g:TG} {tt:TT} {te:TE}
end
end L2
namespace L2
open PySem PySem.Spec PyProof.Rows
def y9 (J:It) (g:TG) (tt:TT) (te:TE) (ys:List V) (σ:St) (N:List V->Hp->Prop) (H1:Hp):Prop:=∃ W:Nat->Nat->List V->Hp->Prop,(∃ m,W 0 m ys H1)/\∀ i m zs H,W i m zs H ->
 (J.stop i H/\N zs H) ∨
 (J.go i H/\zs.length<sizeLine/\∃ N2:List V->Hp->Prop,(∀ zs' H',N2 zs' H'->∃ m',m'<m/\W (i+1) m' zs' H') /\
  ∀ x H',J.yld i H x H'->g x σ H' λσ2 H2=>bM σ σ2/\tt σ2 H2 λb H3=>if b=true then te σ2 H3 λv H4=>N2 (zs++[v]) H4 else N2 zs H3)
theorem Aa {wi:TI} {g:TG} {tt:TT} {te:TE} {ys:List V} {σ:St} {H:Hp} {N:List V->Hp->Prop}:Br wi g tt te ys σ H N=wi σ H λJ H1=>y9 J g tt te ys σ N H1:=rfl
def uG (J:It) (js:List (Option Nat)) (g1:TG) (tt1:TT) (wi2:TI) (g2:TG) (tt2:TT) (te:TE) (σ:St) (Q:VK) (H1:Hp):Prop:=∃ W:Nat->Nat->List V->Hp->Prop,(∃ m,W 0 m [] H1)/\∀ i m ys H,W i m ys H ->
 (J.stop i H/\ys.length<=sizeLine/\∀ p,H p=none->Q (.ref p) (upd H p (.lst ys))) ∨
 (J.go i H/\True/\∃ N:List V->Hp->Prop,(∀ ys' H',N ys' H'->∃ m',m'<m/\W (i+1) m' ys' H') /\
  ∀ x H',J.yld i H x H'->g1 x (cn js σ) H' λσ2 H2=>bM (cn js σ) σ2/\tt1 σ2 H2 λb H3=>if b=true then Br wi2 g2 tt2 te ys σ2 H3 N else N ys H3)
theorem yZ {js:List (Option Nat)} {wi1 wi2:TI} {g1 g2:TG} {tt1 tt2:TT} {te:TE} {σ:St} {H:Hp} {Q:VK}:CK js wi1 g1 tt1 wi2 g2 tt2 te σ H Q=wi1 σ H λJ H1=>uG J js g1 tt1 wi2 g2 tt2 te σ Q H1:=rfl
theorem qA {K:PySem.W.Frag} {a:Addr} {xs ys:List V} {g:TG} {tt:TT} {te:TE} {σ:St} {N:List V->Hp->Prop} {H1:Hp} (Pv:Nat->List V->Hp->Prop) (h0:Pv 0 ys H1) (hl:∀ i zs H,i<=xs.length->Pv i zs H->aS K H a xs/\zs.length<sizeLine)
  (hs:∀ i x zs H,xs[i]?=some x->Pv i zs H->g x σ H λσ2 H2=>bM σ σ2/\tt σ2 H2 λb H3=>if b=true then te σ2 H3 λv H4=>Pv (i+1) (zs++[v]) H4 else Pv (i+1) zs H3)
  (hd:∀ zs H,Pv xs.length zs H->N zs H):y9 (xE K a) g tt te ys σ N H1:=by
 refine⟨λi m zs H=>m=xs.length-i/\i<=xs.length/\Pv i zs H,⟨xs.length,by simp,Nat.zero_le _,h0⟩,?_⟩
 rintro i m zs H ⟨rfl,hi,p⟩
 obtain⟨q,z⟩:=hl i zs H hi p
 by_cases hlt:i<xs.length
 ·refine .inr ⟨⟨xs,xs[i],q,by simp [hlt]⟩,z,Pv (i+1),λzs' H' p'=>⟨xs.length-(i+1),by omega,rfl,hlt,p'⟩,λx H' y=>?_⟩
  obtain⟨e,y⟩:=y
  subst e
  exact hs i x zs _ (y xs q) p
 ·have e:i=xs.length:=by omega
  subst e
  exact .inl ⟨⟨xs,q,Nat.le_refl _⟩,hd zs H p⟩
theorem oF {K:PySem.W.Frag} {a:Addr} {xs:List V} {js:List (Option Nat)} {g1 g2:TG} {tt1 tt2:TT} {wi2:TI} {te:TE} {σ:St} {Q:VK} {H1:Hp} (Pv:Nat->List V->Hp->Prop) (h0:Pv 0 [] H1) (hl:∀ i ys H,i<=xs.length->Pv i ys H->aS K H a xs/\ys.length<=sizeLine)
  (hs:∀ i x ys H,xs[i]?=some x->Pv i ys H->g1 x (cn js σ) H λσ2 H2=>bM (cn js σ) σ2/\tt1 σ2 H2 λb H3=>if b=true then Br wi2 g2 tt2 te ys σ2 H3 (Pv (i+1)) else Pv (i+1) ys H3)
  (hd:∀ ys H p,Pv xs.length ys H->H p=none->Q (.ref p) (upd H p (.lst ys))):uG (xE K a) js g1 tt1 wi2 g2 tt2 te σ Q H1:=by
 refine⟨λi m ys H=>m=xs.length-i/\i<=xs.length/\Pv i ys H,⟨xs.length,by simp,Nat.zero_le _,h0⟩,?_⟩
 rintro i m ys H ⟨rfl,hi,p⟩
 obtain⟨q,z⟩:=hl i ys H hi p
 by_cases hlt:i<xs.length
 ·refine .inr ⟨⟨xs,xs[i],q,by simp [hlt]⟩,True.intro,Pv (i+1),λys' H' p'=>⟨xs.length-(i+1),by omega,rfl,hlt,p'⟩,λx H' y=>?_⟩
  obtain⟨e,y⟩:=y
  subst e
  exact hs i x ys _ (y xs q) p
 ·have e:i=xs.length:=by omega
  subst e
  exact .inl ⟨⟨xs,q,Nat.le_refl _⟩,z,λq hq=>hd ys H q p hq⟩
theorem wy {X:Cx} {tg l:Expr} {tl:TE} {K:PySem.W.Frag} (hK:X.K=K) (hl:PE X l tl):PI X tg l (rK K tl):=hK▸bP hl
end L2
namespace Num
open PySem PySem.Spec PyProof.Rows
theorem LF.DR {n g g':Int} (h:LF n g) (h':LF n g'):g=g':=by
 rcases (by omega:g<g'∨g=g'∨g'<g) with z | z | z
 ·exact absurd h.ord (h'.no g h.one z)
 ·exact z
 ·exact absurd h'.ord (h.no g' h'.one z)
theorem xK.one {n:Int} {d:PyData} (h:xK n d):∀{d'},xK n d'->d=d':=by
 induction h with
 | mk p g ps ds h1 h2 h3 h4 h5 h6 ih =>
  intro d' h'
  cases h' with
  | mk _ g' ps' ds' k1 k2 k3 k4 k5 k6 =>
   obtain rfl:=h3.DR k3
   obtain rfl:=h4.one k4
   have:rowsOf ps ds=rowsOf ps ds':=by
    unfold rowsOf
    refine List.map_congr_left λi hi=>?_
    have il:=List.mem_range.mp hi
    have g:=List.getElem?_eq_getElem il
    rw [ih i _ _ g (k6 i _ _ g)]
   rw [this]
theorem fB {ps:List (Int × Int)} {ds:Nat->PyData} {r:PyData} (h:r∈rowsOf ps ds):∃ i q k,ps[i]?=some (q,k)/\r=.tuple [ds i,.int k]:=by
 unfold rowsOf at h
 obtain⟨i,hi,rfl⟩:=List.mem_map.mp h
 have il:=List.mem_range.mp hi
 have g:=List.getElem?_eq_getElem il
 exact⟨i,_,_,g,by rw [List.getD_eq_getElem?_getD,g];rfl⟩
theorem fN {m:Nat}:∀{ds:List PyData},(∀ d∈ds,d.depth<=m)->PyData.depthAll ds<=m
 | [],_=>by simp [PyData.depthAll]
 | d::ds,h=>by
  have h1:=h d (List.mem_cons_self ..)
  have h2:=fN λe he=>h e (List.mem_cons_of_mem _ he)
  simp only [PyData.depthAll]
  omega
theorem jq:∀{ds:List PyData},(∀ d∈ds,d.canLay0=true)->PyData.canLayAll0 ds=true
 | [],_=>rfl
 | d::ds,h=>by simp [PyData.canLayAll0,h d (List.mem_cons_self ..),jq λe he=>h e (List.mem_cons_of_mem _ he)]
theorem xK.deep {n:Int} {d:PyData} (h:xK n d):d.canLay0=true/\∃ k:Nat,d.depth+1<=3*k/\(2:Int)^k<=2*(n-1):=by
 induction h with
 | mk p g ps ds h1 h2 h3 h4 h5 h6 ih =>
  have p2:=h1.two
  have lay:PyData.canLayAll0 (rowsOf ps ds)=true:=jq λr hr=>by
   obtain⟨i,q,k,hi,rfl⟩:=fB hr
   simp [PyData.canLay0,PyData.canLayAll0,(ih i q k hi).1]
  refine⟨by simp [PyData.canLay0,PyData.canLayAll0,lay],?_⟩
  by_cases e2:p=2
  ·subst e2
   have hps:ps=[]:=by
    have:Part (1:Int) ps:=h4
    exact this.one ⟨λ_ z=>by simp at z,List.Pairwise.nil,rfl⟩
   subst hps
   exact⟨1,by simp [PyData.depth,PyData.depthAll,rowsOf],by decide⟩
  ·-- each prime of the parts is at most half
   obtain⟨k,hk,hk2⟩:∃ k:Nat,(∀ i q m,ps[i]?=some (q,m)->(ds i).depth+1<=3*k)/\(2:Int)^(k+1)<=2*(p-1):=by
    have half:∀ i q m,ps[i]?=some (q,m)->2*(q-1)*2<=2*(p-1):=λi q m hi=>by
     have hq:=h4.ok _ (List.mem_of_getElem? hi)
     have dv:q∣p-1:=h4.dv (List.mem_of_getElem? hi)
     obtain⟨c,hc⟩:=dv
     have q2:=hq.1.two
     have c0:1<=c:=by
      rcases (by omega:c<=0∨1<=c) with z | z
      ·have:=Int.mul_nonpos_of_nonneg_of_nonpos (show 0<=q by omega) z
       simp only at *
       omega
      ·exact z
     rcases (by omega:c=1∨2<=c) with z | z
     ·-- p-1 is a prime: so p is 3
      rw [z,Int.mul_one] at hc
      have od:p%2=1:=by
       rcases (by omega:p%2=0∨p%2=1) with y | y
       ·exact absurd (Int.dvd_of_emod_eq_zero y) (h1.no 2 (by decide) (by omega))
       ·exact y
      have q2':q=2:=by
       rcases (by omega:q=2∨2<q) with y | y
       ·exact y
       ·exact absurd (Int.dvd_of_emod_eq_zero (show q%2=0 by omega)) (hq.1.no 2 (by decide) y)
      omega
     ·have:=Int.mul_le_mul_of_nonneg_left z (show 0<=q by omega)
      omega
    have all:∀ i q m,ps[i]?=some (q,m)->∃ k:Nat,(ds i).depth+1<=3*k/\(2:Int)^(k+1)<=2*(p-1):=λi q m hi=>by
     obtain⟨k,a,b⟩:=(ih i q m hi).2
     exact⟨k,a,by rw [Int.pow_succ];have:=half i q m hi;omega⟩
    -- the greatest of them
    have key:∀ n:Nat,n<=ps.length->∃ k:Nat,(∀ i q m,i<n->ps[i]?=some (q,m)->(ds i).depth+1<=3*k)/\(2:Int)^(k+1)<=2*(p-1):=by
     intro n
     induction n with
     | zero=>exact λ_=>⟨0,λi q m hi=>by omega,by rw [Int.pow_succ,Int.pow_zero];omega⟩
     | succ n ihn =>
      intro hn
      obtain⟨k,a,b⟩:=ihn (by omega)
      obtain⟨k',a',b'⟩:=all n _ _ (List.getElem?_eq_getElem (show n<ps.length by omega))
      rcases Nat.le_total k k' with z | z
      ·refine⟨k',λi q m hi h=>?_,b'⟩
       rcases (by omega:i<n∨i=n) with y | y
       ·have:=a i q m y h;omega
       ·subst y;exact a'
      ·refine⟨k,λi q m hi h=>?_,b⟩
       rcases (by omega:i<n∨i=n) with y | y
       ·exact a i q m y h
       ·subst y;omega
    obtain⟨k,a,b⟩:=key ps.length (Nat.le_refl _)
    exact⟨k,λi q m hi=>a i q m (List.getElem?_eq_some_iff.mp hi).1 hi,b⟩
   refine⟨k+1,?_,hk2⟩
   have rows:PyData.depthAll (rowsOf ps ds)<=3*k:=fN λr hr=>by
    obtain⟨i,q,m,hi,rfl⟩:=fB hr
    have:=hk i q m hi
    simp only [PyData.depth,PyData.depthAll]
    omega
   simp only [PyData.depth,PyData.depthAll]
   omega
theorem xK.depth {n:Int} {d:PyData} (h:xK n d):d.depth<=90:=by
 obtain⟨_,k,a,b⟩:=h.deep
 have:n<=10^9:=by cases h;assumption
 have k30:k<=30:=by
  rcases (by omega:k<=30∨31<=k) with z | z
  ·exact z
  ·exfalso
   have e:(2:Int)^k=2^31*2^(k-31):=by rw [<- Pw.pow_add];congr 1;omega
   have p0:=bN (show (0:Int)<2 by decide) (k-31)
   have:=Int.mul_le_mul_of_nonneg_left (show (1:Int)<=2^(k-31) by omega) (show (0:Int)<=2^31 by decide)
   have:(2:Int)^31=2147483648:=by decide
   omega
 omega
end Num
namespace L2
open PySem PySem.Spec PyProof.Rows
theorem wj {X:Cx}:fE X (compareOp .Is) (λx y H Q=>∃ b c:Bool,x=.bl b/\y=.bl c/\Q (.bl (b==c)) H):=by
 intro pins s σ H x y v u Q I rx ry h
 obtain⟨b,c,rfl,rfl,q⟩:=h
 cases rx
 cases ry
 exact PyProof.Rows.is_bool (bw I q rfl)
theorem si {X:Cx}:fE X (compareOp .IsNot) (λx y H Q=>∃ b c:Bool,x=.bl b/\y=.bl c/\Q (.bl (b != c)) H):=by
 intro pins s σ H x y v u Q I rx ry h
 obtain⟨b,c,rfl,rfl,q⟩:=h
 cases rx
 cases ry
 exact PyProof.Rows.isnot_bool (bw I q rfl)
end L2
set_option maxHeartbeats 8000000
namespace Num
open PySem PySem.Spec PyProof.Rows L2
structure FF (p g:Int):Prop where
 one:1<=g
 lt:g<p
 ord:Ord p g (p-1).toNat
inductive cR:Int->PyData->Prop
 | mk (p g:Int) (ps:List (Int × Int)) (ds:Nat->PyData):Pm p->p<=10^9->FF p g->Part (p-1) ps->ps.length<=29->(∀ i q k,ps[i]?=some (q,k)->cR q (ds i))->cR p (.tuple [.int p,.int g,.tuple (rowsOf ps ds)])
theorem cR.head {p:Int} {d:PyData} (h:cR p d):∃ g rows,d=.tuple [.int p,.int g,.tuple rows]:=by
 cases h
 exact⟨_,_,rfl⟩
theorem cR.deep {n:Int} {d:PyData} (h:cR n d):d.canLay0=true/\∃ k:Nat,d.depth+1<=3*k/\(2:Int)^k<=2*(n-1):=by
 induction h with
 | mk p g ps ds h1 h2 h3 h4 h5 h6 ih =>
  have p2:=h1.two
  have lay:PyData.canLayAll0 (rowsOf ps ds)=true:=jq λr hr=>by
   obtain⟨i,q,k,hi,rfl⟩:=fB hr
   simp [PyData.canLay0,PyData.canLayAll0,(ih i q k hi).1]
  refine⟨by simp [PyData.canLay0,PyData.canLayAll0,lay],?_⟩
  by_cases e2:p=2
  ·subst e2
   have hps:ps=[]:=by
    have:Part (1:Int) ps:=h4
    exact this.one ⟨λ_ z=>by simp at z,List.Pairwise.nil,rfl⟩
   subst hps
   exact⟨1,by simp [PyData.depth,PyData.depthAll,rowsOf],by decide⟩
  ·-- each prime of the parts is at most half
   obtain⟨k,hk,hk2⟩:∃ k:Nat,(∀ i q m,ps[i]?=some (q,m)->(ds i).depth+1<=3*k)/\(2:Int)^(k+1)<=2*(p-1):=by
    have half:∀ i q m,ps[i]?=some (q,m)->2*(q-1)*2<=2*(p-1):=λi q m hi=>by
     have hq:=h4.ok _ (List.mem_of_getElem? hi)
     have dv:q∣p-1:=h4.dv (List.mem_of_getElem? hi)
     obtain⟨c,hc⟩:=dv
     have q2:=hq.1.two
     have c0:1<=c:=by
      rcases (by omega:c<=0∨1<=c) with z | z
      ·have:=Int.mul_nonpos_of_nonneg_of_nonpos (show 0<=q by omega) z
       simp only at *
       omega
      ·exact z
     rcases (by omega:c=1∨2<=c) with z | z
     ·-- p-1 is a prime: so p is 3
      rw [z,Int.mul_one] at hc
      have od:p%2=1:=by
       rcases (by omega:p%2=0∨p%2=1) with y | y
       ·exact absurd (Int.dvd_of_emod_eq_zero y) (h1.no 2 (by decide) (by omega))
       ·exact y
      have q2':q=2:=by
       rcases (by omega:q=2∨2<q) with y | y
       ·exact y
       ·exact absurd (Int.dvd_of_emod_eq_zero (show q%2=0 by omega)) (hq.1.no 2 (by decide) y)
      omega
     ·have:=Int.mul_le_mul_of_nonneg_left z (show 0<=q by omega)
      omega
    have all:∀ i q m,ps[i]?=some (q,m)->∃ k:Nat,(ds i).depth+1<=3*k/\(2:Int)^(k+1)<=2*(p-1):=λi q m hi=>by
     obtain⟨k,a,b⟩:=(ih i q m hi).2
     exact⟨k,a,by rw [Int.pow_succ];have:=half i q m hi;omega⟩
    -- the greatest of them
    have key:∀ n:Nat,n<=ps.length->∃ k:Nat,(∀ i q m,i<n->ps[i]?=some (q,m)->(ds i).depth+1<=3*k)/\(2:Int)^(k+1)<=2*(p-1):=by
     intro n
     induction n with
     | zero=>exact λ_=>⟨0,λi q m hi=>by omega,by rw [Int.pow_succ,Int.pow_zero];omega⟩
     | succ n ihn =>
      intro hn
      obtain⟨k,a,b⟩:=ihn (by omega)
      obtain⟨k',a',b'⟩:=all n _ _ (List.getElem?_eq_getElem (show n<ps.length by omega))
      rcases Nat.le_total k k' with z | z
      ·refine⟨k',λi q m hi h=>?_,b'⟩
       rcases (by omega:i<n∨i=n) with y | y
       ·have:=a i q m y h;omega
       ·subst y;exact a'
      ·refine⟨k,λi q m hi h=>?_,b⟩
       rcases (by omega:i<n∨i=n) with y | y
       ·exact a i q m y h
       ·subst y;omega
    obtain⟨k,a,b⟩:=key ps.length (Nat.le_refl _)
    exact⟨k,λi q m hi=>a i q m (List.getElem?_eq_some_iff.mp hi).1 hi,b⟩
   refine⟨k+1,?_,hk2⟩
   have rows:PyData.depthAll (rowsOf ps ds)<=3*k:=fN λr hr=>by
    obtain⟨i,q,m,hi,rfl⟩:=fB hr
    have:=hk i q m hi
    simp only [PyData.depth,PyData.depthAll]
    omega
   simp only [PyData.depth,PyData.depthAll]
   omega
theorem cR.depth {n:Int} {d:PyData} (h:cR n d):d.depth<=90:=by
 obtain⟨_,k,a,b⟩:=h.deep
 have:n<=10^9:=by cases h;assumption
 have k30:k<=30:=by
  rcases (by omega:k<=30∨31<=k) with z | z
  ·exact z
  ·exfalso
   have e:(2:Int)^k=2^31*2^(k-31):=by rw [<- Pw.pow_add];congr 1;omega
   have p0:=bN (show (0:Int)<2 by decide) (k-31)
   have:=Int.mul_le_mul_of_nonneg_left (show (1:Int)<=2^(k-31) by omega) (show (0:Int)<=2^31 by decide)
   have:(2:Int)^31=2147483648:=by decide
   omega
 omega
end Num
set_option maxHeartbeats 1000000
namespace L2
open PySem PySem.Spec PyProof.Rows
theorem xB (k1 k2:Sd) (z TI TO i1 i2 l1 l2:Addr) (ap:ZipApart z TI TO i1 i2 l1 l2) (n1 n2:Nat) (xs ys:Array Value) (x a b:Value) (hx:xs[n1]?=some x) (hy:ys[n2]?=none):Meets (Builtin.«zip.__next__» ⟨[.ref z],[]⟩)
  (λA R s=>A.handled=none/\IsZip s.heap z TI TO .none/\IsPair s.heap TI (.ref i1) (.ref i2)/\IsPair s.heap TO a b/\k1.It s.heap i1 l1 n1/\k2.It s.heap i2 l2 n2/\k1.Sq s.heap l1 xs/\k2.Sq s.heap l2 ys /\
   ∀ h' e,(∀ c o,c≠z->c≠TO->c≠i1->c≠i2->s.heap.get? c=some o->h'.get? c=some o)->(∃ o,h'.get? e=some o/\o.cls=.type "StopIteration")->R (.error (.ref e)) { s with heap:=h' }) :=
 .of_wp λprog w A R s h=>by
  obtain⟨hn,hz,hTI,hTO,j1,j2,q1,q2,q⟩:=h
  wp_walk using wpAny_field (i:=2) (x:=Value.bool false) hz rfl rfl,wpAny_field (i:=3) (x:=Value.ref TI) hz rfl rfl,wpAny_field (i:=0) (x:=Value.none) hz rfl rfl,wpAny_field (i:=4) (x:=Value.ref TO) hz rfl rfl,wpAny_seqItems hTI rfl,wpAny_setField_rec hz (show 0<5 by decide)
  intro ha za sa
  have ka:∀ c o,c≠z->s.heap.get? c=some o->ha.get? c=some o:=λc o hc e=>(sa.2 c hc).trans e
  have j1a:=j1.at (h':=ha) λo e=>ka i1 o ap.i1z e
  have q1a:=q1.at (h':=ha) λo e=>ka l1 o ap.l1z e
  wp_walk using wpAny_onRaise,Sd.item (s:={ s with heap:=ha }) j1a q1a hx
  intro hb jb sb
  have kb:∀ c o,c≠z->c≠i1->s.heap.get? c=some o->hb.get? c=some o:=λc o h1 h2 e=>(sb.2 c h2).trans (ka c o h1 e)
  have TOb:IsPair hb TO a b:=kb TO _ ap.TOz ap.TOi1 hTO
  wp_walk using wpAny_seqItems TOb rfl,wpAny_updateSeq_pair (s:={ s with heap:=hb }) TOb
  intro hc TOc' sc
  have kc:∀ c o,c≠z->c≠i1->c≠TO->s.heap.get? c=some o->hc.get? c=some o:=λc o h1 h2 h3 e=>(sc.2 c h3).trans (kb c o h1 h2 e)
  have zc:hc.get? z=some { cls:=.type "zip",data:=.fields #[.ellipsis,.bool false,.bool false,.ref TI,.ref TO] }:=(sc.2 z (Ne.symm ap.TOz)).trans ((sb.2 z (Ne.symm ap.i1z)).trans za)
  have j2c:=j2.at (h':=hc) λo e=>kc i2 o ap.i2z (Ne.symm ap.i12) (Ne.symm ap.TOi2) e
  have q2c:=q2.at (h':=hc) λo e=>kc l2 o ap.l2z ap.l2i1 ap.l2TO e
  wp_walk using wpAny_letGo,wpAny_onRaise,Sd.fin (A:=A.in1) (s:={ s with heap:=hc }) hn j2c q2c hy
  intro hd e kd oe
  have zd:=kd z _ (Ne.symm ap.i2z) zc
  refine wpAny_setField_rec (s:={ s with heap:=hd }) zd (show 0<5 by decide) λhf zf sf=>?_
  obtain⟨o,eo,co⟩:=oe
  have ez:e≠z:=λx=>by
   subst x
   rw [zd] at eo
   cases eo
   injection co with x
   exact absurd x (by decide)
  exact q hf e (λc o h1 h2 h3 h4 x=>(sf.2 c h1).trans (kd c o h4 (kc c o h1 h3 h2 x))) ⟨o,(sf.2 e ez).trans eo,co⟩
section
variable {prog:Program} {w:World} {A:Around} {E:Value->Shared->Prop} {s:Shared}
theorem lX {k1 k2:Sd} {z TI TO i1 i2 l1 l2:Addr} {n1 n2:Nat} {xs ys:Array Value} {x a b:Value} {Q:Option Value->Shared->Prop} (hn:A.handled=none) (ap:ZipApart z TI TO i1 i2 l1 l2) (hz:IsZip s.heap z TI TO .none) (hTI:IsPair s.heap TI (.ref i1) (.ref i2)) (hTO:IsPair s.heap TO a b)
  (j1:k1.It s.heap i1 l1 n1) (j2:k2.It s.heap i2 l2 n2) (q1:k1.Sq s.heap l1 xs) (q2:k2.Sq s.heap l2 ys) (hx:xs[n1]?=some x) (hy:ys[n2]?=none)
  (q:∀ h',(∀ c o,c≠z->c≠TO->c≠i1->c≠i2->s.heap.get? c=some o->h'.get? c=some o)->Q none { s with heap:=h' }):wpAny (model prog w) A (pyNext (.ref z)) Q E s :=
 jB ⟨_,hz,rfl⟩ F.slot_zip_next (call_meets F.slot_zip_next ⟨_,hz,rfl⟩ F.entry_zip_next (F.args_zip_next_1 _) (xB k1 k2 z TI TO i1 i2 l1 l2 ap n1 n2 xs ys x a b hx hy) ⟨hn,hz,hTI,hTO,j1,j2,q1,q2,λh' e k ⟨o,eo,co⟩=>⟨⟨e,o,rfl,eo,co⟩,q h' k⟩⟩)
end
def Dj (k1 k2:Sd) (K:PySem.W.Frag) (a b:Addr):It :=
 ⟨(Bs k1 k2 K a b).go,(Bs k1 k2 K a b).yld,λi H=>∃ xs ys,ja k1 K H a xs/\ja k2 K H b ys/\(xs.length<=i∨ys.length<=i)⟩
theorem uC {P:Program} {w:World} {K:PySem.W.Frag} {elts:List Expr} {x1} {pos:Pos} {k1 k2:Sd} {a b z TI TO i1 i2:Addr} (ap:ZipApart z TI TO i1 i2 a b):Turn P w K (.Tuple elts x1 pos) (Dj k1 k2 K a b) [z,TI,TO,i1,i2] z (λi h=>IsZip h z TI TO .none/\IsPair h TI (.ref i1) (.ref i2)/\(∃ u v,IsPair h TO u v)/\k1.It h i1 a i/\k2.It h i2 b i) where
 mem:=by simp
 obj:=λi h st c hc=>by
  obtain⟨h1,h2,⟨u,v,h3⟩,h4,h5⟩:=st
  simp only [List.mem_cons,List.not_mem_nil,or_false] at hc
  rcases hc with rfl | rfl | rfl | rfl | rfl
  ·exact⟨_,h1,λv z=>by cases z⟩
  ·exact⟨_,h2,λv z=>by cases z⟩
  ·exact⟨_,h3,λv z=>by cases z⟩
  ·exact h4.there
  ·exact h5.there
 keep:=λi h h' st k=>by
  obtain⟨h1,h2,⟨u,v,h3⟩,h4,h5⟩:=st
  exact⟨k z (by simp) _ h1,k TI (by simp) _ h2,⟨u,v,k TO (by simp) _ h3⟩,h4.at λo x=>k i1 (by simp) o x,h5.at λo x=>k i2 (by simp) o x⟩
 item:=by
  intro X hP hw hK hc i pins s σ H E I hf st hg
  subst hP hw hK
  obtain⟨xs,ys,x,y,hq1,hq2,hx,hy⟩:=hg
  obtain⟨its1,rv1,p1⟩:=I.uy hq1
  obtain⟨its2,rv2,p2⟩:=I.uy hq2
  obtain⟨u,hu,ru⟩:=rv1.get hx
  obtain⟨v,hv,rv⟩:=rv2.get hy
  obtain⟨h1,h2,⟨u0,v0,h3⟩,h4,h5⟩:=st
  refine gX ap h1 h2 h3 h4 h5 p1 p2 (x:=u) (y:=v) (by simpa using hu) (by simpa using hv) λh' z' TO' j1 j2 hT hk=>?_
  refine⟨_,rfl,?_⟩
  have fT:H s.heap.objs.size=none:=I.hok.fresh (Nat.le_refl _)
  refine wpAny_letOwnedTupleGo_zip z' λh'' z2 s2=>?_
  have hke:∀ c o,c∉[z,TI,TO,i1,i2]->s.heap.get? c=some o->h''.get? c=some o:=λc o hc q=>by
   simp only [List.mem_cons,List.not_mem_nil,or_false,not_or] at hc
   exact (s2.2 c hc.1).trans (hk c o hc.1 hc.2.2.1 hc.2.2.2.1 hc.2.2.2.2 q)
  have I1:Inv X pins σ H { s with heap:=h'',toks:=s.toks }:=I.i6 hke hf
  have nz:∀ c∈[z,TI,TO,i1,i2],c≠s.heap.objs.size:=λc hc e=>by
   have:∃ o,s.heap.get? c=some o:=by
    simp only [List.mem_cons,List.not_mem_nil,or_false] at hc
    rcases hc with rfl | rfl | rfl | rfl | rfl
    ·exact⟨_,h1⟩
    ·exact⟨_,h2⟩
    ·exact⟨_,h3⟩
    ·obtain⟨o,e,_⟩:=h4.there;exact⟨o,e⟩
    ·obtain⟨o,e,_⟩:=h5.there;exact⟨o,e⟩
   obtain⟨o,eo⟩:=this
   exact Nat.ne_of_lt (Heap.lt_size eo) e
  have hT2:h''.get? s.heap.objs.size=some { cls:=.type "tuple",data:=.seq #[u,v] }:=(s2.2 _ (Ne.symm (nz z (by simp)))).trans hT
  refine⟨.ref s.heap.objs.size,upd H s.heap.objs.size (.tup [x,y]),?_,rfl,⟨_,x,y,fT,rfl,λzs hz=>by rw [I.ky hz hq1];exact hx,λzs hz=>by rw [I.ky hz hq2];exact hy,rfl⟩,
   ⟨z2,(s2.2 TI ap.TIz).trans (hk TI _ ap.TIz ap.TITO ap.TIi1 ap.TIi2 h2),⟨_,_,(s2.2 TO ap.TOz).trans TO'⟩,j1.at λo q=>(s2.2 i1 ap.i1z).trans q,j2.at λo q=>(s2.2 i2 ap.i2z).trans q⟩,λc hc=>?_⟩
  ·exact I1.adopt (T:=s.heap.objs.size) (o:=.tup [x,y]) (I.lV (Nat.le_refl _) fT) ⟨by show 2<=sizeLine;decide,[u,v],.cons ru (.cons rv .nil),⟨_,hT2,rfl,_,rfl⟩⟩
  ·rw [aJ (nz c hc)]
   exact (hf c hc).1
 done:=by
  intro X hP hw hK hc i pins s σ H E I hf st hg
  subst hP hw hK
  obtain⟨xs,ys,hq,hq2,hx⟩:=hg
  obtain⟨its,rv,p⟩:=I.uy hq
  obtain⟨its2,rv2,p2⟩:=I.uy hq2
  have hl:=rv.length
  have hl2:=rv2.length
  obtain⟨h1,h2,⟨u0,v0,h3⟩,h4,h5⟩:=st
  by_cases hx1:xs.length<=i
  ·exact iJ (I.ok.hd hc) ap.i1z ap.l1z h1 h2 h3 h4 p (by simp;omega) λh' eb=>⟨rfl,I.i6 (t':=s.toks) (ch:=[z,i1]) (λc o hc q=>by
    simp only [List.mem_cons,List.not_mem_nil,or_false,not_or] at hc
    exact eb c o hc.1 hc.2 q) (λc hc=>hf c (by
     simp only [List.mem_cons,List.not_mem_nil,or_false] at hc
     rcases hc with rfl | rfl<;>simp))⟩
  ·obtain⟨x,hx'⟩:∃ x,its[i]?=some x:=⟨_,List.getElem?_eq_getElem (show i<its.length by omega)⟩
   exact lX (x:=x) (I.ok.hd hc) ap h1 h2 h3 h4 h5 p p2 (by simpa using hx') (by simp;omega) λh' eb=>⟨rfl,I.i6 (t':=s.toks) (ch:=[z,TI,TO,i1,i2]) (λc o hc q=>by
    simp only [List.mem_cons,List.not_mem_nil,or_false,not_or] at hc
    exact eb c o hc.1 hc.2.2.1 hc.2.2.2.1 hc.2.2.2.2 q) (λc hc=>hf c hc)⟩
 self:=λ_ _ _ _ _ st h=>wpAny_pyIter_zip st.1 h
def zC (K:PySem.W.Frag) (ta:TA):TI:=λσ H R=>ta σ H λvs H1=>∃ a b k1 k2,vs=[.ref a,.ref b]/\(∃ xs,ja k1 K H1 a xs)/\(∃ ys,ja k2 K H1 b ys)/\R (Dj k1 k2 K a b) H1
theorem yI {X:Cx} {elts:List Expr} {x1} {tpos:Pos} {a b:Expr} {ta:TA} {p pos:Pos} (hg:Gl X "zip") (hm:X.mg "zip"=none) (ha:PA X [a,b] ta) (hs:starEach [a,b] X.env=[(false,eval a X.env),(false,eval b X.env)]:=by rfl) (hs2:starEach [b] X.env=[(false,eval b X.env)]:=by rfl) :
  PI X (.Tuple elts x1 tpos) (.Call (.Name "zip" p) [a,b] [] pos) (zC X.K ta):=by
 intro pins s σ H R I h
 refine Call_ (fQ I hg hm jo (PyProof.Rows.callWith_type1 (bS (ha pos pins s σ H _ I h) λus s1 ⟨vs,H1,I1,r1,q1⟩=>?_) (by rw [hs,hs2]) (by rw [hs2];rfl)))
 obtain⟨a',b',k1,k2,e,⟨xs,hq1⟩,⟨ys,hq2⟩,q⟩:=q1
 subst e
 cases r1 with
 | cons r rr =>
  cases rr with
  | cons r' rr' =>
   cases rr'
   cases r
   cases r'
   obtain⟨its1,rv1,p1⟩:=I1.uy hq1
   obtain⟨its2,rv2,p2⟩:=I1.uy hq2
   refine kF p1 p2 λh' hz hTI hTO j1 j2 hk=>?_
   refine wpAny_pyIter_zip hz ?_
   have I2:Inv X pins σ H1 { s1 with heap:=h' }:=I1.kept (t':=s1.toks) hk
   refine⟨_,[s1.heap.objs.size+4,s1.heap.objs.size+2,s1.heap.objs.size+3,s1.heap.objs.size,s1.heap.objs.size+1],_,_,H1,rfl,I2,uC (PyProof.Rows.zipApart_new p1.lt p2.lt),⟨hz,hTI,⟨_,_,hTO⟩,j1,j2⟩,λc hc=>?_,q⟩
   simp only [List.mem_cons,List.not_mem_nil,or_false] at hc
   rcases hc with rfl | rfl | rfl | rfl | rfl<;>exact I1.lV (by omega) (I1.hok.fresh (by omega))
theorem qu {K:PySem.W.Frag} {k1 k2:Sd} {a b:Addr} {xs ys:List V} {js:List (Option Nat)} {g:TG} {tt:TT} {te:TE} {σ:St} {Q:VK} {H1:Hp} (n:Nat) (Pv:Nat->List V->Hp->Prop) (h0:Pv 0 [] H1) (hn:n=min xs.length ys.length) (hx:n<=sizeLine) (hl:∀ i zs H,i<=n->Pv i zs H->ja k1 K H a xs/\ja k2 K H b ys/\zs.length<=i)
  (hs:∀ i x y zs H p,xs[i]?=some x->ys[i]?=some y->Pv i zs H->H p=none->g (.ref p) (cn js σ) (upd H p (.tup [x,y])) λσ2 H2=>bM (cn js σ) σ2/\tt σ2 H2 λc H3=>if c=true then te σ2 H3 λv H4=>Pv (i+1) (zs++[v]) H4 else Pv (i+1) zs H3)
  (hd:∀ zs H p,Pv n zs H->H p=none->Q (.ref p) (upd H p (.lst zs))):kz (Dj k1 k2 K a b) js g tt te σ Q H1:=by
 refine⟨λi m zs H=>m=n-i/\i<=n/\Pv i zs H,⟨n,by simp,Nat.zero_le _,h0⟩,?_⟩
 rintro i m zs H ⟨rfl,hi,p⟩
 obtain⟨q,q',hy⟩:=hl i zs H hi p
 by_cases hlt:i<n
 ·refine .inr ⟨⟨xs,ys,xs[i]'(by omega),ys[i]'(by omega),q,q',List.getElem?_eq_getElem _,List.getElem?_eq_getElem _⟩,by omega,Pv (i+1),λys' H' p'=>⟨n-(i+1),by omega,rfl,hlt,p'⟩,λx H' y=>?_⟩
  obtain⟨pt,u,v,f,e1,e2,e3,e4⟩:=y
  subst e1 e4
  exact hs i u v zs _ pt (e2 xs q) (e3 ys q') p f
 ·have e:i=n:=by omega
  subst e
  exact .inl ⟨⟨xs,ys,q,q',by omega⟩,by omega,λp' hp'=>hd zs H p' p hp'⟩
def DT (K:PySem.W.Frag) (neg:Bool):R2:=λx y H Q=>∃ d ds,dv K H d x/\dv K H (.list ds) y/\d.canLay0=true/\PyData.canLayAll0 ds=true/\d.depth<=60/\Q (.bl (if neg then !(ds.any λe=>PyData.eqv e d) else ds.any λe=>PyData.eqv e d)) H
theorem wg {X:Cx} (hu:X.A.units+64<cLine):fE X (compareOp .In) (DT X.K false):=by
 intro pins s σ H x y v u Q I rx ry h
 obtain⟨d,ds,hd,hs,c1,c2,c3,q⟩:=h
 obtain⟨as,ra⟩:=cX I d hd rx
 obtain⟨bs,rb⟩:=cX I _ hs ry
 exact SeqAt.in_list_reads rb ra c2 c1 (by omega) ⟨.bl _,H,I,rfl,q⟩
end L2
namespace L2
open PySem PySem.Spec PyProof.Rows PySem.W
namespace HT
end HT
end L2
namespace L2
open PySem PySem.Spec PyProof.Rows
def wN:List V->Hp->VK->Prop:=λxs H Q=>∃(a:Addr) (kvs:List (Key × V)) (ns:List Int),xs=[.ref a]/\H a=some (.dK kvs)/\kvs.map (·.1)=ns.map Sum.inl/\ns.length<64/\∀(p:Addr) (ns':List Int),ns'.Perm ns->ns'.Pairwise (·<=·)->H p=none->Q (.ref p) (upd H p (.lst (ns'.map V.int)))
theorem ic:∀{us:List Value} {ns:List Int},IntsAre us ns->Vals (ns.map V.int) us
 | _,_,.nil=>.nil
 | _,_,.cons n t h=>.cons ⟨t,rfl⟩ (ic h)
theorem oU:∀{us:List Value} {ns:List Int},us.length=ns.length->(∀(j:Nat) (v:Value),us[j]?=some v->∃ n t,ns[j]?=some n/\v=.int n t)->IntsAre us ns
 | [],[],_,_=>.nil
 | u::us,n::ns,hl,h=>by
  obtain⟨n',t,e1,e2⟩:=h 0 u rfl
  cases e1
  subst e2
  exact .cons _ t (oU (by simpa using hl) λj v e=>by simpa using h (j+1) v (by simpa using e))
 | [],_::_,hl,_=>by simp at hl
 | _::_,[],hl,_=>by simp at hl
theorem mZ {X:Cx} (hc:X.calm=true):dG X (.builtin "sorted") wN:=by
 intro pins s σ H xs us Q I r h
 obtain⟨a,kvs,ns,rfl,ha,hk,km,q⟩:=h
 obtain⟨u,rfl,ru⟩:=vals1 r
 cases ru
 obtain⟨z,hd,vs,rel,dd⟩:=uY I.hok ha
 obtain⟨ep,da⟩:=dd.dictAt
 have kl:vs.map (·.1)=ns.map Sum.inl:=rel.keys.symm.trans hk
 have nl:vs.length=ns.length:=by have:=congrArg List.length kl;simpa using this
 have zl:vs.length<=sizeLine:=by rw [<- rel.length];exact z
 refine Calls.call_function_entry kind_sorted plain_sorted entry_sorted (args_sorted1 _) ?_
 refine wpAny_bind (m:=checkCount "sorted" 1 1 _) (wpAny_pure ?_)
 refine wpAny_bind (PySem.W.kdu_collect (A:=X.A.in1) (PySem.W.kdl_dict (knd:=ck X.prog X.w) (kvs:=vs) (ep:=ep) hd) (I.ok.hd hc) da zl λh' tk acc hk' hacc=>?_)
 have al:acc.toList.length=vs.length:=by rw [Array.length_toList];exact hacc.1
 have hI:IntsAre acc.toList ns:=oU (al.trans nl) λj v e=>by
  obtain⟨k,x,e1,e2⟩:=hacc.2 j v (by rw [<- Array.getElem?_toList];exact e)
  have e3:(ns.map Sum.inl)[j]?=some k:=by rw [<- kl,List.getElem?_map,e1];rfl
  rw [List.getElem?_map] at e3
  obtain⟨n,e4,e5⟩:=Option.map_eq_some_iff.mp e3
  rcases bW e2 with⟨i,t,e6,e7⟩|⟨i,t,e6,e7⟩
  ·rw [e6] at e5
   cases e5
   exact⟨n,t,e4,e7⟩
  ·rw [e6] at e5
   cases e5
 refine wpAny_bind (wpAny_newList ?_ (by rw [al];exact zl))
 have z2:=Heap.get?_push_size h' (o:=seqObj "list" acc.toList.toArray 0) rfl
 refine wpAny_bind (wpAny_holding (wpAny_call_entry slot_list_sort ⟨_,z2,rfl⟩ entry_list_sort (list_sort_tree z2 hI (by rw [al,nl];exact km) λout ns' a b c=>⟨_,rfl,wpAny_pure ⟨_,rfl,?_⟩⟩) (args_list_sort _)))
 have lt:∀ b o,s.heap.get? b=some o->b<h'.objs.size:=λb o e=>Heap.lt_size (hk' b o e)
 have old:∀ b o,s.heap.get? b=some o->(sortedHeap (h'.push (seqObj "list" acc.toList.toArray 0)) h'.objs.size acc.toList out).get? b=some o:=λb o e=>by
  rw [sortedHeap_old (Nat.ne_of_lt (lt b o e)) (by rw [Heap.size_push];exact Nat.lt_succ_of_lt (lt b o e))]
  exact Heap.get?_push_of_some _ (hk' b o e)
 have I0:Inv X pins σ H { s with heap:=h',toks:=tk }:=I.kept hk'
 have I1:Inv X pins σ H { s with heap:=sortedHeap (h'.push (seqObj "list" acc.toList.toArray 0)) h'.objs.size acc.toList out,toks:=tk }:=I.kept old
 obtain⟨e,he⟩:=sortedHeap_at (out:=out) z2
 have fT:H h'.objs.size=none:=I0.hok.fresh (Nat.le_refl _)
 have lo:ns'.length=acc.toList.length:=by rw [b.length_eq,<- nl,al]
 refine⟨.ref h'.objs.size,upd H h'.objs.size (.lst (ns'.map V.int)),?_,rfl,q _ ns' b c fT⟩
 exact I1.adopt (T:=h'.objs.size) (o:=.lst (ns'.map V.int)) (I0.lV (Nat.le_refl _) fT) ⟨by rw [List.length_map,lo,al];exact zl,out.toList,e,ic a,he⟩
section
variable {X:Cx}
def Ct (K:PySem.W.Frag):List V->Hp->VK->Prop:=λxs H Q=>∃(a:Addr) (ns:List Int),xs=[.ref a]/\aS K H a (ns.map V.int)/\ns≠[]/\∀ m,m∈ns->(∀ n∈ns,m<=n)->Q (.int m) H
theorem tq (hc:X.calm=true):dG X (.builtin "min") (Ct X.K):=by
 intro pins s σ H xs us Q I r h
 obtain⟨a,ns,rfl,hq,ne,q⟩:=h
 obtain⟨u,rfl,ru⟩:=vals1 r
 cases ru
 obtain⟨its,rv,p,hz⟩:=I.list hq
 have hi:=mC rv
 have hl:=p.isList
 obtain⟨ys,e⟩:=hi.allInts.items
 have hns:ns=ys.toList.map (·.1):=by rw [<- hi.numsOf,<- nums_intItems,<- e]
 have hl0:0<ns.length:=List.length_pos_iff.mpr ne
 have hsz:0<ys.size:=by rw [hns,List.length_map,Array.length_toList] at hl0;exact hl0
 rw [e] at hl
 refine min_intList (I.ok.hd hc) hl hsz λv h' tk hv hk=>?_
 obtain⟨t,rfl⟩:=intItems_at hv
 obtain⟨b1,b2⟩:=argBest_lt (numAt ys) (ys.size-1)
 refine⟨.int _,H,I.kept hk,⟨t,rfl⟩,q _ ?_ λn hn=>?_⟩
 ·rw [hns,numAt_eq]
  exact getD_mem (by rw [List.length_map,Array.length_toList];omega)
 ·rw [hns] at hn
  obtain⟨j,hj,rfl⟩:=mem_getD hn
  rw [List.length_map,Array.length_toList] at hj
  rw [<- numAt_eq]
  exact b2 j (by omega)
end
theorem boot_repr:bootBuiltins "repr"=some (.builtin "repr"):=by rfl
def zO (K:PySem.W.Frag):List V->Hp->VK->Prop:=λxs H Q=>∃(v:V) (d:PyData),xs=[v]/\dv K H d v/\d.showable=true/\d.hasDict=false/\d.depth<=60/\d.shown.length<=sizeLine/\Q (.str d.shown) H
theorem mw {X:Cx} (hg:X.A.guards=some []) (hu:X.A.units+64<cLine):dG X (.builtin "repr") (zO X.K):=by
 intro pins s σ H xs us Q I r h
 obtain⟨v,d,rfl,hd,hs,hn,hdp,hz,q⟩:=h
 obtain⟨u,rfl,ru⟩:=vals1 r
 have gp:∀ a as,Reads s.heap (.ref a) d as->u=.ref a->wpAny (model X.prog X.w) X.A (call (.builtin "repr") [u]) (EP X pins σ Q) X.xe s:=by
  rintro a as rd rfl
  exact repr_of_reads' rd hs (λz=>absurd (hn.symm.trans z) (by decide)) hg (by omega) (λ_ _ z=>z) (λh' t tk hk=>⟨.str d.shown,H,I.kept (t':=tk) hk,⟨t,rfl⟩,q⟩) hz
 cases d with
 | none =>
  cases hd
  cases ru
  exact PySem.P.repr_of_none ⟨.str "None",H,I.kept (t':=s.toks+1) λ_ _ z=>z,⟨_,rfl⟩,q⟩
 | bool b =>
  cases hd
  cases ru
  exact PySem.P.repr_of_bool ⟨.str (if b then "True" else "False"),H,I.kept (t':=s.toks+1) λ_ _ z=>z,⟨_,rfl⟩,q⟩
 | int i =>
  cases hd
  obtain⟨t,rfl⟩:=ru
  exact PySem.P.repr_of_int (by simpa [PyData.showable] using hs) ⟨.str (toString i),H,I.kept (t':=s.toks+1) λ_ _ z=>z,⟨_,rfl⟩,q⟩
 | str x =>
  cases hd
  obtain⟨t,rfl⟩:=ru
  exact PySem.P.repr_of_str ⟨.str (reprText x),H,I.kept (t':=s.toks+1) λ_ _ z=>z,⟨_,rfl⟩,q⟩ hz
 | list ds =>
  obtain⟨as,rd⟩:=cX I _ hd ru
  obtain⟨p,ys,rfl,_⟩:=hd
  cases ru
  exact gp _ as rd rfl
 | tuple ds =>
  obtain⟨as,rd⟩:=cX I _ hd ru
  obtain⟨p,ys,rfl,_⟩:=hd
  cases ru
  exact gp _ as rd rfl
 | dict _=>exact absurd hn (by simp [PyData.hasDict])
structure Z0 (d:PyData):Prop where
 g:gd d
 s:d.showable=true
 n:d.hasDict=false
 dp:d.depth<=3
 ln:d.shown.length<=100
def gz:Nat->PyData->Prop
 | 0,d=>Z0 d
 | n+1,d=>gz n d∨∃ ds,(d=.list ds∨d=.tuple ds)/\ds.length<=54/\∀ e∈ds,gz n e
def zl:Nat->Nat
 | 0=>100
 | n+1=>54*(zl n+2)+3
theorem gz.up {n:Nat} {d:PyData} (h:gz n d):gz (n+1) d:=.inl h
theorem gz.gd:∀{n:Nat} {d:PyData},gz n d->L2.gd d
 | 0,_,h=>Z0.g h
 | n+1,_,h=>by
  rcases h with h | ⟨ds,rfl | rfl,_,h⟩
  ·exact gz.gd h
  ·simp only [L2.gd];exact dQ.mpr λd hd=>gz.gd (h d hd)
  ·simp only [L2.gd];exact dQ.mpr λd hd=>gz.gd (h d hd)
theorem sG:∀{ds:List PyData},(∀ d∈ds,d.showable=true)->PyData.showableAll ds=true
 | [],_=>rfl
 | d::ds,h=>by
  simp only [PyData.showableAll]
  rw [h d (List.mem_cons_self ..),sG λx hx=>h x (List.mem_cons_of_mem _ hx)]
  rfl
theorem mH:∀{ds:List PyData},(∀ d∈ds,d.hasDict=false)->PyData.hasDictAll ds=false
 | [],_=>rfl
 | d::ds,h=>by
  simp only [PyData.hasDictAll]
  rw [h d (List.mem_cons_self ..),mH λx hx=>h x (List.mem_cons_of_mem _ hx)]
  rfl
theorem ni {m:Nat}:∀{ds:List PyData},(∀ d∈ds,d.depth<=m)->PyData.depthAll ds<=m
 | [],_=>by simp only [PyData.depthAll];omega
 | d::ds,h=>by
  simp only [PyData.depthAll]
  have h1:=h d (List.mem_cons_self ..)
  have h2:=ni λx hx=>h x (List.mem_cons_of_mem _ hx)
  omega
theorem vJ {m:Nat}:∀{ds:List PyData},(∀ d∈ds,d.shown.length<=m)->((PyData.shownAll ds).map (·.length)).sum<=ds.length*m/\(PyData.shownAll ds).length=ds.length
 | [],_=>by simp only [PyData.shownAll];exact⟨by simp,rfl⟩
 | d::ds,h=>by
  simp only [PyData.shownAll,List.map_cons,List.sum_cons,List.length_cons]
  have h1:=h d (List.mem_cons_self ..)
  obtain⟨h2,h3⟩:=vJ λx hx=>h x (List.mem_cons_of_mem _ hx)
  refine⟨?_,by omega⟩
  rw [Nat.succ_mul]
  omega
mutual
def fH (K:PySem.W.Frag) (H:Hp):PyData->V->Prop
 | .none,v=>v=.bY
 | .bool b,v=>v=.bl b
 | .int i,v=>v=.int i
 | .str x,v=>v=.str x
 | .list ds,v=>∃ p xs,v=.ref p/\H p=some (.lst xs)/\cw K H ds xs
 | .tuple ds,v=>∃ p xs,v=.ref p/\aY K H p xs/\cw K H ds xs
 | .dict _,_=>False
def cw (K:PySem.W.Frag) (H:Hp):List PyData->List V->Prop
 | [],xs=>xs=[]
 | d::ds,xs=>∃ x r,xs=x::r/\fH K H d x/\cw K H ds r
end
section
variable {K:PySem.W.Frag} {H H':Hp}
mutual
theorem fH.dv:∀{d:PyData} {v:V},fH K H d v->L2.dv K H d v
 | .none,_,h=>h
 | .bool _,_,h=>h
 | .int _,_,h=>h
 | .str _,_,h=>h
 | .list ds,_,⟨p,xs,e,h1,h2⟩=>⟨p,xs,e,aS.of h1,cw.bo h2⟩
 | .tuple ds,_,⟨p,xs,e,h1,h2⟩=>⟨p,xs,e,h1,cw.bo h2⟩
 | .dict _,_,h=>h.elim
theorem cw.bo:∀{ds:List PyData} {xs:List V},cw K H ds xs->L2.bo K H ds xs
 | [],_,h=>h
 | d::ds,_,⟨x,r,e,h1,h2⟩=>⟨x,r,e,fH.dv h1,cw.bo h2⟩
end
mutual
theorem fH.keep (kt:∀ a xs,aY K H a xs->aY K H' a xs) (kl:∀(a:Addr) (xs:List V),H a=some (.lst xs)->H' a=some (.lst xs)):∀{d:PyData} {v:V},fH K H d v->fH K H' d v
 | .none,_,h=>h
 | .bool _,_,h=>h
 | .int _,_,h=>h
 | .str _,_,h=>h
 | .list ds,_,⟨p,xs,e,h1,h2⟩=>⟨p,xs,e,kl _ _ h1,cw.keep kt kl h2⟩
 | .tuple ds,_,⟨p,xs,e,h1,h2⟩=>⟨p,xs,e,kt _ _ h1,cw.keep kt kl h2⟩
 | .dict _,_,h=>h.elim
theorem cw.keep (kt:∀ a xs,aY K H a xs->aY K H' a xs) (kl:∀(a:Addr) (xs:List V),H a=some (.lst xs)->H' a=some (.lst xs)):∀{ds:List PyData} {xs:List V},cw K H ds xs->cw K H' ds xs
 | [],_,h=>h
 | d::ds,_,⟨x,r,e,h1,h2⟩=>⟨x,r,e,fH.keep kt kl h1,cw.keep kt kl h2⟩
end
theorem fH.same {d:PyData} {v:V} (h:fH K H d v) (s:aE H H'):fH K H' d v:=h.keep (λ_ _ z=>z.same s) λ_ _ z=>s _ _ z
theorem cw.same {ds:List PyData} {xs:List V} (h:cw K H ds xs) (s:aE H H'):cw K H' ds xs:=h.keep (λ_ _ z=>z.same s) λ_ _ z=>s _ _ z
theorem cw.get:∀{ds:List PyData} {xs:List V} {i:Nat} {x:V},cw K H ds xs->xs[i]?=some x->∃ d,ds[i]?=some d/\fH K H d x
 | [],_,i,x,h,e=>by cases h;simp at e
 | d::ds,_,0,x,⟨y,r,h0,h1,h2⟩,e=>by
  subst h0
  cases e
  exact⟨d,rfl,h1⟩
 | d::ds,_,i+1,x,⟨y,r,h0,h1,h2⟩,e=>by
  subst h0
  exact cw.get (ds:=ds) (i:=i) h2 (by simpa using e)
end
def GZ (K:PySem.W.Frag) (n:Nat) (H:Hp) (x:V):Prop:=∃ d,fH K H d x/\gz n d
def i9 (K:PySem.W.Frag) (n:Nat) (H:Hp) (xs:List V):Prop:=∃ ds,cw K H ds xs/\∀ d∈ds,gz n d
section
variable {K:PySem.W.Frag} {n:Nat} {H H':Hp}
theorem GZ.up {x:V} (h:GZ K n H x):GZ K (n+1) H x:=by
 obtain⟨d,h1,h2⟩:=h
 exact⟨d,h1,h2.up⟩
theorem GZ.keep (kt:∀ a xs,aY K H a xs->aY K H' a xs) (kl:∀(a:Addr) (xs:List V),H a=some (.lst xs)->H' a=some (.lst xs)) {x:V} (h:GZ K n H x):GZ K n H' x:=by
 obtain⟨d,h1,h2⟩:=h
 exact⟨d,h1.keep kt kl,h2⟩
theorem i9.keep (kt:∀ a xs,aY K H a xs->aY K H' a xs) (kl:∀(a:Addr) (xs:List V),H a=some (.lst xs)->H' a=some (.lst xs)) {xs:List V} (h:i9 K n H xs):i9 K n H' xs:=by
 obtain⟨d,h1,h2⟩:=h
 exact⟨d,h1.keep kt kl,h2⟩
theorem i9.nil:i9 K n H []:=⟨[],rfl,by simp⟩
theorem i9.cons {x:V} {xs:List V} (h:GZ K n H x) (g:i9 K n H xs):i9 K n H (x::xs):=by
 obtain⟨d,h1,h2⟩:=h
 obtain⟨ds,g1,g2⟩:=g
 exact⟨d::ds,⟨x,xs,rfl,h1,g1⟩,λe he=>(List.mem_cons.mp he).elim (λz=>z▸h2) (g2 e)⟩
theorem i9.all {xs:List V} (h:i9 K n H xs):∀ x∈xs,GZ K n H x:=by
 obtain⟨ds,h1,h2⟩:=h
 intro x hx
 obtain⟨i,hi,e⟩:=List.mem_iff_getElem.mp hx
 have hx':xs[i]?=some x:=by rw [<- e];exact List.getElem?_eq_getElem hi
 obtain⟨d,e1,hv⟩:=h1.get hx'
 exact⟨d,hv,h2 d (List.mem_of_getElem? e1)⟩
theorem i9.of:∀{xs:List V},(∀ x∈xs,GZ K n H x)->i9 K n H xs
 | [],_=>i9.nil
 | x::xs,h=>i9.cons (h x (List.mem_cons_self ..)) (i9.of λy hy=>h y (List.mem_cons_of_mem _ hy))
theorem i9.up {xs:List V} (h:i9 K n H xs):i9 K (n+1) H xs:=i9.of λx hx=>(h.all x hx).up
theorem i9.len {xs:List V} {ds:List PyData} (h:L2.bo K H ds xs):ds.length=xs.length:=by
 induction ds generalizing xs with
 | nil=>cases h;rfl
 | cons d ds ih =>
  obtain⟨x,r,rfl,_,h2⟩:=h
  rw [List.length_cons,List.length_cons,ih h2]
theorem GZ.tup {p:Addr} {xs:List V} (hS:aY K H p xs) (l:xs.length<=54) (h:i9 K n H xs):GZ K (n+1) H (.ref p):=by
 obtain⟨ds,h1,h2⟩:=h
 exact⟨.tuple ds,⟨p,xs,rfl,hS,h1⟩,.inr ⟨ds,.inr rfl,by rw [i9.len h1.bo];exact l,h2⟩⟩
theorem GZ.lst {p:Addr} {xs:List V} (hS:H p=some (.lst xs)) (l:xs.length<=54) (h:i9 K n H xs):GZ K (n+1) H (.ref p):=by
 obtain⟨ds,h1,h2⟩:=h
 exact⟨.list ds,⟨p,xs,rfl,hS,h1⟩,.inr ⟨ds,.inl rfl,by rw [i9.len h1.bo];exact l,h2⟩⟩
theorem rg {i:Int} (h0:-(10^90)<=i) (h1:i<=10^90):Z0 (.int i):=by
 have hb:i.natAbs<10^91:=by
  have e:(10:Nat)^91=10*10^90:=by decide
  have e1:((10^90:Nat):Int)=10^90:=by decide
  omega
 refine⟨by simp only [gd];exact⟨h0,h1⟩,?_,rfl,by simp only [PyData.depth];omega,?_⟩
 ·simp only [PyData.showable,decide_eq_true_eq]
  by_cases z:i.natAbs=0
  ·rw [z];decide
  ·rw [Nat.log2_lt z]
   exact Nat.lt_trans hb (by decide +kernel)
 ·show (Str.ofString (toString i)).length<=100
  rw [PySem.ofString_length]
  exact Nat.le_trans (int_text_length_le10 (by decide) hb) (by decide)
theorem GZ.z0 {d:PyData} {x:V} (h:fH K H d x) (z:Z0 d):GZ K 0 H x:=⟨d,h,z⟩
theorem GZ.int {i:Int} (h0:-(10^90)<=i) (h1:i<=10^90):GZ K 0 H (.int i):=⟨.int i,rfl,rg h0 h1⟩
theorem GZ.bY:GZ K 0 H .bY:=⟨.none,rfl,by simp only [gd],rfl,rfl,by decide,by decide +kernel⟩
theorem GZ.bl {b:Bool}:GZ K 0 H (.bl b):=⟨.bool b,rfl,by simp only [gd],rfl,rfl,by simp only [PyData.depth];omega,by cases b<;>decide +kernel⟩
theorem GZ.str {x:Str} (h:PyData.canLay0 (.str x)=true) (l:(reprText x).length<=100):GZ K 0 H (.str x):=⟨.str x,rfl,by simp only [gd];exact h,rfl,rfl,by simp only [PyData.depth];omega,l⟩
theorem gz.le {m:Nat}:∀{n:Nat} {d:PyData},m<=n->gz m d->gz n d
 | 0,_,l,h=>by
  obtain rfl:m=0:=by omega
  exact h
 | n+1,_,l,h=>by
  rcases (by omega:m=n+1∨m<=n) with rfl | z
  ·exact h
  ·exact (gz.le z h).up
theorem GZ.le {m n:Nat} {H:Hp} {x:V} (h:GZ K m H x) (l:m<=n):GZ K n H x:=by
 obtain⟨d,h1,h2⟩:=h
 exact⟨d,h1,h2.le l⟩
end
end L2
namespace Num
def Pz (N a z:Int):Int:=a^(z%N).toNat
section
variable {p a N:Int}
theorem wH (n0:0<N) (h:Al p (a^N.toNat) 1) {z:Int} (z0:0<=z):Al p (Pz N a z) (a^z.toNat):=by
 unfold Pz
 have e:=Int.mul_ediv_add_emod z N
 have m0:=Int.emod_nonneg z (show N≠0 by omega)
 have d0:0<=z/N:=Int.ediv_nonneg z0 (by omega)
 have e2:z.toNat=N.toNat*(z/N).toNat+(z%N).toNat:=by
  have h1:((N.toNat*(z/N).toNat:Nat):Int)=N*(z/N):=by
   rw [Int.natCast_mul,Int.toNat_of_nonneg (by omega),Int.toNat_of_nonneg d0]
  omega
 rw [e2,Int.pow_add]
 have:=(bB (k:=(z/N).toNat) h).mul (Al.refl p (a^(z%N).toNat))
 rw [Int.one_mul] at this
 exact this.symm
theorem pI {z y:Int} (h:N∣z-y):Pz N a z=Pz N a y:=by
 unfold Pz
 rw [Int.emod_eq_emod_iff_emod_sub_eq_zero.mpr (Int.emod_eq_zero_of_dvd h)]
theorem A7 (n0:0<N) (h:Al p (a^N.toNat) 1) (z:Int) (k:Nat):Al p (Pz N a z^k) (Pz N a (z*k)):=by
 have m0:=Int.emod_nonneg z (show N≠0 by omega)
 have e:Pz N a z^k=a^(z%N*k).toNat:=by
  unfold Pz
  rw [<- Int.pow_mul]
  congr 1
  have:(((z%N).toNat*k:Nat):Int)=z%N*k:=by rw [Int.natCast_mul,Int.toNat_of_nonneg m0]
  omega
 rw [e,show Pz N a (z*k)=Pz N a (z%N*k) from pI ⟨z/N*k,by
  have e1:=Int.mul_ediv_add_emod z N
  have:z*k-z%N*k=(z-z%N)*k:=(Int.sub_mul ..).symm
  rw [this,show z-z%N=N*(z/N) by omega,Int.mul_assoc]⟩]
 exact (wH n0 h (Int.mul_nonneg m0 (by omega))).symm
end
structure Rt (p g k a:Int) (d inner outer:Int):Prop where
 d0:0<d
 dk:d∣k
 di:d∣inner
 i0:0<inner
 o0:0<outer
 io:inner*outer=p-1
 cdo:Co d outer
 cko:Co k outer
 cki:Co (k/d) (inner/d)
 cio:Co inner outer
section
variable {p g k a d inner outer:Int}
theorem xV {a b:Int} (h:Co a b):Co b a:=by obtain⟨u,v,e⟩:=h;exact⟨v,u,by omega⟩
theorem Rt.of {d inner outer u v:Int} (k0:0<k) (hd:0<d) (dk:d∣k) (lin:u*k+v*(p-1)=d) (i0:0<inner) (o0:0<outer) (io:inner*outer=p-1) (cio:Co inner outer) (di:d∣inner):Rt p g k a d inner outer:=by
 obtain⟨y,hy⟩:=id di
 obtain⟨k',hk⟩:=id dk
 obtain⟨s,t,e⟩:=cio
 have cdo:Co d outer:=⟨s*y,t,by rw [<- e,hy];grind⟩
 refine⟨hd,dk,di,i0,o0,io,cdo,?_,?_,⟨s,t,e⟩⟩
 ·obtain⟨s',t',e'⟩:=cdo
  refine⟨s'*u,s'*v*inner+t',?_⟩
  rw [<- e',<- lin,<- io]
  grind
 ·have e1:k/d=k':=by rw [hk,Int.mul_ediv_cancel_left _ (by omega)]
  have e2:inner/d=y:=by rw [hy,Int.mul_ediv_cancel_left _ (by omega)]
  rw [e1,e2]
  refine⟨u,v*outer,?_⟩
  have h1:d*(u*k'+v*outer*y)=d*1:=by
   rw [Int.mul_one]
   conv=>rhs;rw [<- lin,<- io,hk,hy]
   grind
  exact Int.eq_of_mul_eq_mul_left (by omega) h1
theorem vi (pm:Pm p) (na:¬p∣a):0<p-1/\Al p (a^(p-1).toNat) 1:=⟨by have:=pm.two;omega,kK pm na⟩
theorem Rt.base (R:Rt p g k a d inner outer) (og:Ord p g (p-1).toNat) {b:Int} (hb:Al p b (g^outer.toNat)):Ord p b inner.toNat:=by
 have i0:=R.i0
 have o0:=R.o0
 have e:(p-1).toNat=inner.toNat*outer.toNat:=by
  have:((inner.toNat*outer.toNat:Nat):Int)=p-1:=by rw [Int.natCast_mul,Int.toNat_of_nonneg (by omega),Int.toNat_of_nonneg (by omega),R.io]
  omega
 have:=yE og (q:=inner.toNat) ⟨outer.toNat,e⟩
 rw [e,Nat.mul_div_cancel_left _ (by omega)] at this
 exact wk hb.symm this
theorem Rt.dx (R:Rt p g k a d inner outer) (pm:Pm p) (na:¬p∣a) (og:Ord p g (p-1).toNat) (h1:Al p (a^((p-1)/d).toNat) 1) {b c v:Int} {x:Nat} (hb:Al p b (g^outer.toNat)) (hc:Al p c (Pz (p-1) a (v*outer))) (hx:Al p c (b^x)):d∣(x:Int):=by
 obtain⟨n0,hf⟩:=vi pm na
 have i0:=R.i0
 have o0:=R.o0
 have d0:=R.d0
 obtain⟨y,hy⟩:=id R.di
 have hN:p-1=d*(y*outer):=by rw [<- R.io,hy];grind
 have eN:(p-1)/d=y*outer:=by rw [hN,Int.mul_ediv_cancel_left _ (by omega)]
 have y0:0<y:=by
  rcases Int.lt_trichotomy y 0 with z | z | z
  ·have:=Int.mul_neg_of_pos_of_neg d0 z;omega
  ·rw [z,Int.mul_zero] at hy;omega
  ·exact z
 have m0:0<y*outer:=Int.mul_pos y0 o0
 rw [eN] at h1
 -- c to N/d is 1
 have c1:Al p (c^(y*outer).toNat) 1:=by
  have:=(hc.pow (y*outer).toNat).trans (A7 n0 hf (v*outer) _)
  refine this.trans ?_
  rw [Int.toNat_of_nonneg (by omega)]
  have s0:=Int.emod_nonneg (v*outer) (show p-1≠0 by omega)
  rw [show Pz (p-1) a (v*outer*(y*outer))=Pz (p-1) a (v*outer%(p-1)*(y*outer)) from pI ⟨v*outer/(p-1)*(y*outer),by
   have e1:=Int.mul_ediv_add_emod (v*outer) (p-1)
   rw [<- Int.sub_mul,show v*outer-v*outer%(p-1)=(p-1)*(v*outer/(p-1)) by omega,Int.mul_assoc]⟩]
  refine (wH n0 hf (Int.mul_nonneg s0 (by omega))).trans ?_
  rw [show (v*outer%(p-1)*(y*outer)).toNat=(y*outer).toNat*(v*outer%(p-1)).toNat by
   have:(((y*outer).toNat*(v*outer%(p-1)).toNat:Nat):Int)=v*outer%(p-1)*(y*outer):=by rw [Int.natCast_mul,Int.toNat_of_nonneg (by omega),Int.toNat_of_nonneg s0,Int.mul_comm]
   omega]
  exact bB h1
 have c2:Al p (g^(outer.toNat*x*(y*outer).toNat)) 1:=by
  have:=((hx.trans (hb.pow x)).pow (y*outer).toNat).symm.trans c1
  rw [cH,cH,<- Nat.mul_assoc] at this
  exact this
 have h3:=Int.natCast_dvd_natCast.mpr (og.dv _ c2)
 rw [Int.toNat_of_nonneg (by omega),Int.natCast_mul,Int.natCast_mul,Int.toNat_of_nonneg (show 0<=outer by omega),Int.toNat_of_nonneg (show 0<=y*outer by omega),hN] at h3
 obtain⟨t,ht⟩:=h3
 have h4:outer*x=d*t:=by
  have:(y*outer)*(outer*x)=(y*outer)*(d*t):=by rw [Int.mul_comm,ht];grind
  exact Int.eq_of_mul_eq_mul_left (by omega) this
 exact (xV R.cdo).dvd ⟨t,h4⟩
end
end Num
namespace L2
open PySem PySem.Spec PyProof.Rows
def B6 (K:PySem.W.Frag) (tl:TE):TI:=λσ H R=>rK K tl σ H R∨Ay K tl σ H R
theorem A4 {X:Cx} {tg l:Expr} {tl:TE} (hl:PE X l tl):PI X tg l (B6 X.K tl):=by
 intro pins s σ H R I h
 rcases h with h | h
 ·exact bP hl pins s σ H R I h
 ·exact nL hl pins s σ H R I h
def Eh (k:Sd) (K:PySem.W.Frag) (a:Addr):It:=match k with
 | .l=>xE K a
 | .t=>zg K a
theorem vD {K:PySem.W.Frag} {i:Nat} {σ:St} {H:Hp} {R:It->Hp->Prop} {a:Addr} {k:Sd} {xs:List V} (e:σ[i]?=some (some (.ref a))) (h:ja k K H a xs) (r:R (Eh k K a) H):B6 K (xn i) σ H R:=by
 cases k
 ·exact .inl ⟨.ref a,e,a,rfl,⟨xs,h⟩,r⟩
 ·exact .inr ⟨.ref a,e,a,rfl,⟨xs,h⟩,r⟩
theorem tw {K:PySem.W.Frag} {k:Sd} {a:Addr} {xs:List V} {js:List (Option Nat)} {g:TG} {tt:TT} {te:TE} {σ:St} {Q:VK} {H1:Hp} (Pv:Nat->List V->Hp->Prop) (h0:Pv 0 [] H1) (hx:xs.length<=sizeLine) (hl:∀ i ys H,i<=xs.length->Pv i ys H->ja k K H a xs/\ys.length<=i)
  (hs:∀ i x ys H,xs[i]?=some x->Pv i ys H->g x (cn js σ) H λσ2 H2=>bM (cn js σ) σ2/\tt σ2 H2 λb H3=>if b=true then te σ2 H3 λv H4=>Pv (i+1) (ys++[v]) H4 else Pv (i+1) ys H3)
  (hd:∀ ys H p,Pv xs.length ys H->H p=none->Q (.ref p) (upd H p (.lst ys))):kz (Eh k K a) js g tt te σ Q H1:=by
 cases k
 ·exact bQ Pv h0 hx hl hs hd
 ·exact jr Pv h0 hx hl hs hd
theorem kD {X:Cx} (K:PySem.W.Frag) (hK:X.K=K):dG X (.builtin "isinstance") (mN K):=hK▸bA
theorem jA {X:Cx} {a:Expr} {ta:TE} (K:PySem.W.Frag) (hK:X.K=K) (ha:PE X a ta) (he:∀ whole,isTrue a X.env whole=(do let v <- whole;standAt a.pos;holding [v] (truthy v))) :
  PT X a (λσ H Q=>ta σ H λx H'=>∃ k,uK K x H' k/\Q k H'):=hK▸aM ha he
end L2
set_option maxHeartbeats 8000000
namespace K
open PySem PySem.Spec PyProof.Rows L2
def top (i:Nat):Stmt:=PySem.Challenge.pw_rootprime_k70_roots_let_by.main.body.getD i (.Pass ⟨0,0,0,0⟩)
theorem mG {α:Type} {us:List α} {n:Nat} (h:us.length=n+1):∃ a r,us=a::r/\r.length=n:=by
 cases us with
 | nil=>cases h
 | cons a r=>exact⟨a,r,rfl,Nat.succ.inj h⟩
theorem zD {α:Type} {us:List α} (h:us.length=1):∃ a,us=[a]:=(mG h).elim λa h=>h.elim λr h=>⟨a,h.1.trans (congrArg (a::·) (List.eq_nil_of_length_eq_zero h.2))⟩
theorem zE {α:Type} {us:List α} (h:us.length=2):∃ a b,us=[a,b]:=(mG h).elim λa h=>h.elim λr h=>(zD h.2).elim λb h2=>⟨a,b,h.1.trans (congrArg (a::·) h2)⟩
theorem zF {α:Type} {us:List α} (h:us.length=3):∃ a b c,us=[a,b,c]:=(mG h).elim λa h=>h.elim λr h=>(zE h.2).elim λb h2=>h2.elim λc h2=>⟨a,b,c,h.1.trans (congrArg (a::·) h2)⟩
theorem zG {α:Type} {us:List α} (h:us.length=4):∃ a b c d,us=[a,b,c,d]:=(mG h).elim λa h=>h.elim λr h=>(zF h.2).elim λb h2=>h2.elim λc h2=>h2.elim λd h2=>⟨a,b,c,d,h.1.trans (congrArg (a::·) h2)⟩
theorem zH {α:Type} {us:List α} (h:us.length=5):∃ a b c d e,us=[a,b,c,d,e]:=(mG h).elim λa h=>h.elim λr h=>(zG h.2).elim λb h2=>h2.elim λc h2=>h2.elim λd h2=>h2.elim λe h2=>⟨a,b,c,d,e,h.1.trans (congrArg (a::·) h2)⟩
theorem Ca {α:Type} {us:List α} (h:us.length=6):∃ a b c d e f,us=[a,b,c,d,e,f]:=(mG h).elim λa h=>h.elim λr h=>(zH h.2).elim λb h2=>h2.elim λc h2=>h2.elim λd h2=>h2.elim λe h2=>h2.elim λf h2=>⟨a,b,c,d,e,f,h.1.trans (congrArg (a::·) h2)⟩
theorem c7 {N P:List Str} {sc:Scope} (a:sc.kind=.function:=by exact rfl) (b:sc.isCoroutine=false:=by exact rfl) (c:sc.isGenerator=false:=by exact rfl) (d:N.Nodup:=by decide +kernel) (e:N.take P.length=P:=by exact rfl) (f:∀ x∈P,sc.names.lookup x=some .local∨sc.names.lookup x=some .cell:=by decide +kernel) (g:∀ y∈sc.names,y.2≠.free:=by decide +kernel):aC N P sc:=⟨a,b,c,d,e,f,g⟩
theorem cZ {F:PySem.W.Frag} {mg:Str->Option Value} {x:Str} {h:Heap} {f:Addr} {st:Stmt} {oc:Value} {od an:Option Addr} {osl:Array (Option Value)} {kV doc pm cdv ct:Value} (X:F.In h) (G:h.Ns mainGlobals mg) (a:PySem.W.nsIn F mainGlobals x=some (some (.ref f)):=by k_is) (l:F.lookup f=some ⟨oc,od,.func (PySem.W.fnOf x x (dh st) (cC st) (ao st) .none kV doc pm an cdv ct),osl⟩:=by k_is) (c:PySem.W.codeIn F cdv x=true:=by k_is) (kk:PySem.W.keepIn F (.ref f)=true:=by k_is):aA (cQ X) mg x st:=uV X G a l c kk
theorem jO {X:Cx} {N':List Str} {js:List (Option Nat)} {scope:Scope} {cl:List (Str × Addr)} (clos:closureFor scope X.env=pure cl) (kind:scope.kind=.function) (nocell:∀ y∈scope.names,y.2=.cell->scope.names.lookup y.1=some .cell/\∀ p∈js.zip N',p.1.isSome=true->p.2≠y.1:=by decide +kernel) (names:∀ y∈scope.names,y.2=.local->scope.names.lookup y.1=some .local:=by decide +kernel) (sub:AllIn X.env cl:=by repeat (first | exact True.intro | refine⟨rfl,?_⟩)) (has:jg cl scope.names:=by repeat (first | exact True.intro | refine⟨rfl,?_⟩ | refine⟨True.intro,?_⟩)) (j:iu X scope cl js N':=by repeat (first | exact True.intro | refine⟨⟨rfl,rfl,.inl rfl,.inl rfl⟩,?_⟩)):fJ X N' js scope cl:=An clos kind nocell names sub has j
theorem cp {X:Cx} {pos:Pos} {i:Nat} {x:Str} {e:Expr} {te:TE} {pos':Pos} (hN:X.N.Nodup) (he:PE X e te) (hi:X.N[i]?=some x:=by exact rfl) (hx:Loc X.env.scope x:=by exact Or.inl rfl) (hs:swapsWith e (some (.Name x pos')) pos.line X.env=pure false:=by rfl) (hf:X.fn x=true∨X.env.scope.names.lookup x=some .local:=by first | exact .inl rfl | exact .inr rfl | assumption):PS X (.Assign [.Name x pos'] e pos) (uA te (cK i)):=fW hN hi hx he hs hf
theorem br {X:Cx} {CX:kA} {k n:Nat} {x:Str} {ps:List Str} {sp:Sp} {E:XK} {e:Expr} {es:List Expr} {t:TA} {p pos:Pos} (C:Callee X.prog X.w X.K X.mg X.base CX k x ps sp) (hr:dN n X.A) (hx:Passes CX X E) (ha:PA X (e::es) t) (hm:k<=n:=by decide) (hg:Gl X x:=by exact rfl) (hdb:(x==("__debug__":Str))=false:=by decide) (he:starEach (e::es) X.env=(false,eval e X.env)::starEach es X.env:=by rfl) (hpl:(backTo pos (starEach es X.env)).any (·.1)=false:=by rfl):PE X (.Call (.Name x p) (e::es) [] pos) (sT sp [] E t):=cV C (hr.mono hm) hg hx ha hdb he hpl
theorem cO {P:Program} {w:World} {F:PySem.W.Frag} {mg:Str->Option Value} {base:Heap} {k:Nat} {x:Str} {ps:List Str} {sp:Sp} {st:Stmt} {N:List Str} (D:aA F mg x st) (S:aC N ps (ao st))
  (hbody:∀(f:Addr) (cdv:Value) (A:Around) (outer:List Env) (s:Shared) (H:Hp) (vs:List V) (Q:VK) (E:XK),dN k (A.deeper (envOfC x (ao st) s.heap.objs.size f cdv))->sp vs H Q E->∃ t,oo (lU aV P w F mg base N x (ao st) f cdv A outer s H E).vS (cC st) t/\t { nx:=λ_ H'=>Q .bY H',rt:=Q } (start N vs) H)
  (hb:∀(kV doc pm:Value) (an:Option Addr) (cdv ct:Value) (us:List Value),us.length=ps.length->bindArgs (PySem.W.fnOf x x (dh st) (cC st) (ao st) .none kV doc pm an cdv ct) ⟨us,[]⟩=pure (ps.zip us):=by
    intro _ _ _ _ _ _ us hl
    first | (obtain⟨_,rfl⟩:=zD hl;exact rfl) | (obtain⟨_,_,rfl⟩:=zE hl;exact rfl) | (obtain⟨_,_,_,rfl⟩:=zF hl;exact rfl) | (obtain⟨_,_,_,_,rfl⟩:=zG hl;exact rfl) | (obtain⟨_,_,_,_,_,rfl⟩:=zH hl;exact rfl) | (obtain⟨_,_,_,_,_,_,rfl⟩:=Ca hl;exact rfl))
  (len:∀ vs H Q E,sp vs H Q E->vs.length=ps.length:=by
    intro _ _ _ _ h
    first | (obtain⟨_,rfl,_⟩:=h;rfl) | (obtain⟨_,_,rfl,_⟩:=h;rfl) | (obtain⟨_,_,_,rfl,_⟩:=h;rfl) | (obtain⟨_,_,_,_,rfl,_⟩:=h;rfl) | (obtain⟨_,_,_,_,_,rfl,_⟩:=h;rfl) | (obtain⟨_,_,_,_,_,_,rfl,_⟩:=h;rfl) | (obtain⟨_,_,_,_,_,_,_,rfl,_⟩:=h;rfl) | (obtain⟨_,_,_,_,_,_,_,_,rfl,_⟩:=h;rfl) | (obtain⟨_,_,_,_,_,_,_,_,_,rfl,_⟩:=h;rfl) | (obtain⟨_,_,_,_,_,_,_,_,_,_,rfl,_⟩:=h;rfl) | (obtain⟨_,_,_,_,_,_,_,_,_,_,_,rfl,_⟩:=h;rfl) | (obtain⟨_,_,_,_,_,_,_,_,_,_,_,_,rfl,_⟩:=h;rfl) | (obtain⟨_,_,_,_,_,_,_,_,_,_,_,_,_,rfl,_⟩:=h;rfl) | (obtain⟨_,_,_,_,_,_,_,_,_,_,_,_,_,_,rfl,_⟩:=h;rfl) | (obtain⟨_,_,_,_,_,_,_,_,_,_,_,_,_,_,_,rfl,_⟩:=h;rfl)):Callee P w F mg base aV (k+1) x ps sp:=tu D hb S len hbody
end K
local macro_rules | `(tactic| k_data) => `(tactic| (iterate 2 ((try dsimp only [L2.b9, L2.CS, L2.z7, L2.xi, L2.Bm, L2.DX, L2.xn, L2.tC, L2.CQ, L2.rI, L2.wK, L2.rU, L2.Ey, L2.xm, L2.uA, L2.cK, L2.gT, L2.CU, L2.CY, L2.CM, L2.Et, L2.CJ, L2.z4, L2.CF, L2.Eu, L2.CP, L2.zW, L2.D9, L2.z6, L2.tB, L2.CG, L2.zZ, L2.zu, L2.B0, L2.sT, L2.yY, L2.Bl, L2.zy, L2.zA, L2.B5, L2.rK, L2.Ay, L2.Ew, L2.CV, L2.z8, L2.sU, L2.z5, L2.En, L2.Ep, L2.Es, L2.CH, L2.EK, L2.B1, L2.zX, L2.zQ, L2.zY, L2.nY, L2.B4, L2.Ax, L2.B7, L2.zB, L2.zC, L2.Bn, L2.Ec, L2.Eb, L2.EL, L2.Ea, L2.CW, L2.yd, L2.rJ, L2.CO, L2.CN, L2.D0, L2.DW, L2.yO, L2.DZ, L2.yX, L2.Bk, L2.Bj, L2.xj, L2.yZ, List.getElem?_cons_zero, List.getElem?_cons_succ, List.set_cons_zero, List.set_cons_succ, List.nil_append, List.cons_append, L2.By, L2.EH, L2.BO]); (try simp only [Option.some.injEq, exists_eq_left', exists_and_left, List.cons.injEq, L2.V.int.injEq, L2.V.bl.injEq, and_true, true_and, and_assoc, decide_eq_true_eq, List.append_nil, Int.reduceToNat, Int.reducePow, Int.reduceLT, Int.reduceLE, Int.reduceNeg, Int.zero_add, Nat.reducePow, Nat.reduceLT, Int.reduceAdd, Int.reduceSub, Int.reduceMul, L2.V.ref.injEq, L2.aO, L2.xq, exists_eq_left, exists_eq', exists_eq, exists_const, L2.kr, L2.yP, L2.yR, L2.yS, L2.yT, L2.yQ, L2.yU, reduceIte, reduceCtorEq, Bool.not_eq_true', decide_eq_false_iff_not, Int.reduceAbs, Bool.not_true, Bool.not_false, if_true, Bool.false_eq_true, if_false, L2.Aa]))))
namespace K
open PySem PySem.Spec PyProof.Rows L2
section
variable {P:Program} {w:World} {K:PySem.W.Frag} {mg:Str->Option Value} {base:Heap}
theorem Ai {i:Int} (h:(decide (i.natAbs<10^250))=true):Bd i:=Nat.lt_of_lt_of_le (of_decide_eq_true h) uP
def pN (K:PySem.W.Frag):Sp:=λvs H Q _=>∃(a:Addr) (ns:List Int) (k:Nat),vs=[.ref a,.int k]/\aS K H a (ns.map V.int)/\∀ c,Q (.int c) H
theorem fG:aC ["_law_script","_law_k"] ["_law_script","_law_k"] (ao (top 43)):=c7
theorem ub (D:aA K mg "_law_cell_at" (top 43)) (n_len:mg "len"=none):Callee P w K mg base aV 1 "_law_cell_at" ["_law_script","_law_k"] (pN K):=by
 refine cO D fG (λf cdv A outer s H vs Q E hr h=>?_)
 obtain⟨a,ns,k,rfl,hS,q⟩:=h
 have nd:=fG.nd
 refine⟨_,(ag (aQ (ax cU (pv 1) (av aG rfl n_len PySem.boot_len (aa (pv 0) ae)) (aq _)) (ak (au (aB aP (pv 0) (pv 1) (λ_ _=>rfl)))) aD) (ak (au af))),?_⟩
 show b9 _ _ _ [some (.ref a),some (.int k)] H
 k_data
 refine aZ hS ?_
 refine⟨_,rfl,?_⟩
 rw [List.length_map]
 refine aH (λc=>?_) (λc=>q _)
 refine cj hS (by omega) (by rw [List.length_map];exact c) λv hv=>?_
 obtain⟨i,_,rfl⟩:=List.mem_map.mp hv
 exact q i
def sR:Sp:=λvs H Q _=>∃(c:Int) (b:Bool),vs=[.int c,.bl b]/\∀ p l H',aE H H'->H p=none->H' p=some (jH l b)->rZ l b->Q (.ref p) H'
theorem hG:aC ["_law_cell","_law_free"] ["_law_cell","_law_free"] (ao (top 44)):=c7
theorem wc (D:aA K mg "_law_state" (top 44)):Callee P w K mg base aV 1 "_law_state" ["_law_cell","_law_free"] sR:=by
 refine cO D hG (λf cdv A outer s H vs Q E hr h=>?_)
 obtain⟨c,b,rfl,q⟩:=h
 have nd:=hG.nd
 refine⟨_,(ag (aQ (aM (pv 1) (λ_=>rfl)) (ak (au (su (iO aT (pv 0) (iO aT bO sD)) rfl rfl (by intro z;cases z) (by decide)))) aD) (ak (au (su (iO aT (aw b8 af (aw aU (pv 0) af)) (iO aT bO sD)) rfl rfl (by intro z;cases z) (by decide))))),?_⟩
 show b9 _ _ _ [some (.int c),some (.bl b)] H
 k_data
 refine aH (λz=>λp hp=>⟨ai,[(Sum.inr "left",.int c),(Sum.inr "free",.bl true)],rfl,by show 2<=15;decide,?_⟩) (λz=>λp hp=>⟨ai,[(Sum.inr "left",.int (1+c%2147483646)),(Sum.inr "free",.bl false)],rfl,by show 2<=15;decide,?_⟩)
 ·subst z
  rw [jK]
  exact q p c _ (aj hp) hp ai (.inl rfl)
 ·have z:b=false:=by simpa using z
  subst z
  rw [jK]
  exact q p (1+c%2147483646) _ (aj hp) hp ai (.inr ⟨by omega,by omega⟩)
def fD:Sp:=λvs H Q _=>∃(p:Addr) (m l:Int) (b:Bool),vs=[.ref p,.int m]/\H p=some (jH l b)/\rZ l b/\0<m/\m<10^200/\∀ r H',0<=r->r<m->Up p b H H'->Q (.int r) H'
theorem iU:aC ["_law_state_here","_law_many","_law_found"] ["_law_state_here","_law_many"] (ao (top 45)):=c7
theorem yy (D:aA K mg "_law_take" (top 45)):Callee P w K mg base aV 1 "_law_take" ["_law_state_here","_law_many"] fD:=by
 refine cO D iU (λf cdv A outer s H vs Q E hr h=>?_)
 obtain⟨p,m,l,b,rfl,hp,hl,hm,Ek,q⟩:=h
 have nd:=iU.nd
 refine⟨_,(ag (aQ (aM (iL (jP hr) (pv 0) aT (λ_ _=>rfl)) (λ_=>rfl)) (ag (cp (i:=2) nd (aw aU (iL (jP hr) (pv 0) aT (λ_ _=>rfl)) (pv 1))) (ag (nO (jP hr) (pv 0) aT (aw eI (iL (jP hr) (pv 0) aT (λ_ _=>rfl)) (pv 1)) rfl) (ak (au (pv 2))))) aD) (ag (nO (jP hr) (pv 0) aT (aw aU (aw bU (iL (jP hr) (pv 0) aT (λ_ _=>rfl)) af) af) rfl) (ak (au (aw aU (aw eI (aw aU (aw bU (iL (jP hr) (pv 0) aT (λ_ _=>rfl)) af) af) af) (pv 1)))))),?_⟩
 show b9 _ _ _ [some (.ref p),some (.int m),none] H
 k_data
 refine⟨_,vm hp,b,aO.mpr rfl,?_⟩
 refine aH (λz=>?_) (λz=>?_)
 ·subst z
  refine⟨_,iF hp,l,rfl,hm,_,iF hp,l,rfl,hm,Bd.of (by omega) (by omega),_,pH hp,?_⟩
  exact q _ _ (Int.emod_nonneg _ (by omega)) (Int.emod_lt_of_pos _ hm) ⟨_,.inl rfl,rfl⟩
 ·have z:b=false:=by simpa using z
  subst z
  obtain⟨l0,l1⟩:0<=l/\l<2147483647:=by rcases hl with z | z;cases z;exact z
  refine⟨_,iF hp,l,rfl,Bd.of (by omega) (by omega),Ai (by decide),_,pH hp,_,iF ai,_,rfl,Bd.of (by omega) (by omega),Ai (by decide),Ai (by decide),hm,?_⟩
  exact q _ _ (Int.emod_nonneg _ (by omega)) (Int.emod_lt_of_pos _ hm) ⟨_,.inr ⟨by omega,by omega⟩,rfl⟩
def pS:Sp:=λvs H Q _=>∃(p:Addr) (l:Int) (b:Bool),vs=[.ref p]/\H p=some (jH l b)/\rZ l b/\∀ x H',-(10^56)<x->x<10^56->Up p b H H'->Q (.int x) H'
theorem gg:aC ["_law_state_here","_law_found","_law_k"] ["_law_state_here"] (ao (top 46)):=c7
theorem ug (D:aA K mg "_law_number" (top 46)) (c__law_take:Callee P w K mg base aV 1 "_law_take" ["_law_state_here","_law_many"] fD) (n_range:mg "range"=none):Callee P w K mg base aV 2 "_law_number" ["_law_state_here"] pS:=by
 refine cO D gg (λf cdv A outer s H vs Q E hr h=>?_)
 obtain⟨p,l,b,rfl,hp,hl,q⟩:=h
 have nd:=gg.nd
 refine⟨_,(ag (aQ (ax ba (br c__law_take hr ay (aa (pv 0) (aa af ae))) af (aq _)) (ak (au (aw cq (br c__law_take hr ay (aa (pv 0) (aa af ae))) af))) aD) (ag (cp (i:=1) nd af) (ag (dZ PassesOwn.never rfl (cG rfl n_range (aa af ae)) (aF (i:=2) nd rfl (Or.inl rfl) (.inr rfl)) (ak (cp (i:=1) nd (aw b8 (aw bU (pv 1) (aw nK af af)) (br c__law_take hr ay (aa (pv 0) (aa (aw nK af af) ae))))))) (ak (au (aw bU (pv 1) (aw cq (aw bU af (br c__law_take hr ay (aa (pv 0) (aa af ae)))) af))))))),?_⟩
 show b9 _ _ _ [some (.ref p),none,none] H
 k_data
 refine⟨p,2,l,b,rfl,hp,hl,by omega,by omega,λr1 H1 r10 r11 u1=>?_⟩
 obtain⟨l1,k1,e1⟩:=u1.at
 refine⟨rfl,?_⟩
 refine aH (λz=>?_) (λz=>?_)
 ·exact⟨p,201,l1,b,rfl,e1,k1,by omega,by omega,λr2 H2 r20 r21 u2=>⟨_,rfl,q _ _ (by omega) (by omega) (u1.trans u2)⟩⟩
 have pw:∀ i:Nat,i<8->(10:Int)^(8*i)<=10^56:=by decide
 refine fu (λi σ' H'=>∃(x:Int) (o:Option V),σ'=[some (.ref p),some (.int x),o]/\0<=x/\x<10^(8*i)/\Up p b H H') ⟨0,none,rfl,by omega,by decide,u1⟩ ?_ ?_
 ·rintro i σ' H' hi ⟨x,o,rfl,x0,x1,u⟩
  have p1:=pw i (by omega)
  have p2:(10:Int)^(8*(i+1))=10^(8*i)*100000000:=by rw [Nat.mul_add,Pw.pow_add];rfl
  obtain⟨l2,k2,e2⟩:=u.at
  k_data
  refine⟨Bd.of (by omega) (by omega),Ai (by decide),p,100000000,l2,b,rfl,e2,k2,by omega,by omega,λr2 H2 r20 r21 u2=>?_⟩
  refine⟨r2,rfl,by omega,?_,u.trans u2⟩
  rw [p2]
  generalize (10:Int)^(8*i)=Y at *
  omega
 ·rintro σ' H' ⟨x,o,rfl,x0,x1,u⟩
  obtain⟨l2,k2,e2⟩:=u.at
  k_data
  have p1:=pw 7 (by omega)
  refine⟨p,2,l2,b,rfl,e2,k2,by omega,by omega,λr2 H2 r20 r21 u2=>?_⟩
  refine⟨r2,rfl,Ai (by decide),Bd.of (by omega) (by omega),Bd.of (by omega) (by omega),Bd.of (by omega) (by omega),?_⟩
  have x2:x<10^56:=Int.lt_of_lt_of_le x1 p1
  rcases (by omega:r2=0∨r2=1) with z | z
  ·subst z
   exact q _ _ (by omega) (by omega) (u.trans u2)
  ·subst z
   exact q _ _ (by omega) (by omega) (u.trans u2)
def jL (a:Int):Prop := -(10^240)<=a/\a<=10^240
theorem jL.bd {a:Int} (h:jL a):Bd a:=Bd.of (by have:=h.1;omega) (by have:=h.2;omega)
def mP:Sp:=λvs H Q _=>∃ a b:Int,vs=[.int a,.int b]/\jL a/\jL b/\∀ g u v p H',Gcd.C1 a b g u v->aE H H'->H' p=some (.tup [.int g,.int u,.int v])->Q (.ref p) H'
theorem lG:aC ["a","b","g","u","v","next_g","next_u","next_v","times"] ["a","b"] (ao (top 4)):=c7
structure DS where
 (g u v ng nu nv:Int)
 t:Option V
theorem qG (D:aA K mg "divisor" (top 4)) (n_abs:mg "abs"=none):Callee P w K mg base aV 1 "divisor" ["a","b"] mP:=by
 refine cO D lG (λf cdv A outer s H vs Q E hr h=>?_)
 obtain⟨a,b,rfl,ha,hb,q⟩:=h
 have nd:=lG.nd
 refine⟨_,(ag (sE (i:=2) (j:=3) (k:=4) rfl nd rfl rfl rfl (by decide) (by decide) (by decide) rfl rfl rfl (aa (av kC rfl n_abs L2.boot_abs (aa (pv 0) ae)) (aa af (aa af ae))) rfl) (ag (sE (i:=5) (j:=6) (k:=7) rfl nd rfl rfl rfl (by decide) (by decide) (by decide) rfl rfl rfl (aa (av kC rfl n_abs L2.boot_abs (aa (pv 1) ae)) (aa af (aa af ae))) rfl) (ag (cL PassesOwn.never (ax gY (pv 5) af (aq _)) (ag (cp (i:=8) nd (aw eI (pv 2) (pv 5))) (ag (jz (i:=2) (j:=5) rfl nd rfl rfl (by decide) rfl rfl (aa (pv 5) (aa (aw cq (pv 2) (aw bU (pv 8) (pv 5))) ae)) rfl) (ag (jz (i:=3) (j:=6) rfl nd rfl rfl (by decide) rfl rfl (aa (pv 6) (aa (aw cq (pv 3) (aw bU (pv 8) (pv 6))) ae)) rfl) (ak (jz (i:=4) (j:=7) rfl nd rfl rfl (by decide) rfl rfl (aa (pv 7) (aa (aw cq (pv 4) (aw bU (pv 8) (pv 7))) ae)) rfl)))))) (ak (au (aR (aa (pv 2) (aa (fS (ax cU (pv 0) af (aq _)) (eZ dc (pv 3)) (pv 3)) (aa (fS (ax cU (pv 1) af (aq _)) (eZ dc (pv 4)) (pv 4)) ae))))))))),?_⟩
 show b9 _ _ _ [some (.int a),some (.int b),none,none,none,none,none,none,none] H
 k_data
 have hA:0<=(if a<0 then -a else a)/\(if a<0 then -a else a)<=10^240:=by have:=ha.1;have:=ha.2;split<;>omega
 have hB:0<=(if b<0 then -b else b)/\(if b<0 then -b else b)<=10^240:=by have:=hb.1;have:=hb.2;split<;>omega
 refine cM (α:=DS) (λx=>[some (.int a),some (.int b),some (.int x.g),some (.int x.u),some (.int x.v),some (.int x.ng),some (.int x.nu),some (.int x.nv),x.t])
  (λx H'=>H'=H/\Gcd.J (if a<0 then -a else a) (if b<0 then -b else b) x.g x.u x.v x.ng x.nu x.nv/\x.g<=10^240/\x.ng<=10^240) (λx=>x.ng.toNat)
  ⟨_,1,0,_,0,1,none⟩ rfl ⟨rfl,Gcd.J.start hA.1 hB.1,hA.2,hB.2⟩ ?_
 rintro x H1 ⟨rfl,j,hg,hng⟩
 k_data
 refine aH (λc=>?_) (λc=>?_)
 ·refine⟨_,λ_ _ z=>z,?_⟩
  obtain⟨s1,s2,s3,s4⟩:=j.small hA.1 hB.1 hA.2 hB.2 (by omega)
  obtain⟨j',l,q0,ql⟩:=j.turn c
  have bg:jL x.ng:=⟨by omega,hng⟩
  have bq:jL (x.g/x.ng):=⟨by omega,by omega⟩
  refine⟨c,bg.bd,bq.bd,bg.bd,bq.bd,jL.bd s3,bq.bd,jL.bd s4,⟨x.ng,x.nu,x.nv,x.g-x.g/x.ng*x.ng,x.u-x.g/x.ng*x.nu,x.v-x.g/x.ng*x.nv,some (.int (x.g/x.ng))⟩,rfl,rfl,j',hng,by show (x.g-x.g/x.ng*x.ng)<=_;omega,by show (x.g-x.g/x.ng*x.ng).toNat<x.ng.toNat;omega⟩
 ·have e:x.ng=0:=by have:=j.n0;omega
  rw [e] at j
  have z:=j.done
  refine aH (λca=>?_) (λca=>?_)<;>simp only [ca,if_true,if_false] at z ⊢<;>refine aH (λcb=>?_) (λcb=>?_)<;>simp only [cb,if_true,if_false] at z ⊢ <;>
   exact⟨by show 3<=sizeLine;decide,λp hp=>q _ _ _ p _ z (aj hp) ai⟩
end
end K
namespace K
open PySem PySem.Spec PyProof.Rows L2
structure Gd (n a g:Int):Prop where
 pos:0<g
 dn:g∣n
 da:g∣a
 gr:∀ d:Int,d∣n->d∣a->d∣g
theorem Gd.one {n a g g':Int} (h:Gd n a g) (h':Gd n a g'):g=g' :=
 Int.le_antisymm (Int.le_of_dvd h'.pos (h'.gr g h.dn h.da)) (Int.le_of_dvd h.pos (h.gr g' h'.dn h'.da))
theorem iB {n a g:Int} (dn:g∣n):g∣a%n↔g∣a:=by
 have e:=Int.mul_ediv_add_emod a n
 constructor
 ·intro h
  rw [<- e]
  exact Int.dvd_add (Int.dvd_mul_of_dvd_left dn) h
 ·intro h
  have:a%n=a-n*(a/n):=by omega
  rw [this]
  exact Int.dvd_sub h (Int.dvd_mul_of_dvd_left dn)
theorem Gd.of {n a g u v:Int} (hn:0<n) (z:Gcd.C1 (a%n) n g u v):Gd n a g:=by
 refine⟨?_,z.db,(iB z.db).mp z.da,λd h1 h2=>?_⟩
 ·have:=z.g0
  rcases (by omega:g=0∨0<g) with e | e
  ·have:=z.db
   rw [e] at this
   have:=Int.zero_dvd.mp this
   omega
  ·exact e
 ·rw [<- z.lin]
  exact Int.dvd_add (Int.dvd_mul_of_dvd_right ((iB h1).mpr h2)) (Int.dvd_mul_of_dvd_right h1)
section
variable {P:Program} {w:World} {K:PySem.W.Frag} {mg:Str->Option Value} {base:Heap}
end
end K
namespace K
open PySem PySem.Spec PyProof.Rows L2
section
variable {P:Program} {w:World} {K:PySem.W.Frag} {mg:Str->Option Value} {base:Heap}
def kx:Sp:=λvs H Q _=>∃ n a e:Int,vs=[.int n,.int a,.int e]/\0<n/\n<=10^120/\0<=e/\∀ H',aE H H'->Q (.int (a^e.toNat%n)) H'
theorem pM:aC ["n","a","e","base","left","rest"] ["n","a","e"] (ao (top 16)):=c7
theorem v9 (D:aA K mg "power" (top 16)) (n_abs:mg "abs"=none):Callee P w K mg base aV 4 "power" ["n","a","e"] kx:=by
 refine cO D pM (λf cdv A outer s H vs Q E hr h=>?_)
 obtain⟨n,a,e,rfl,hn,hn1,he,q1⟩:=h
 have nd:=pM.nd
 refine⟨_,(ag (cp (i:=3) nd (aw aU (pv 1) (pv 0))) (ag (bf (aQ (ax cU (pv 2) af (aq _)) wF aD)) (ag (cp (i:=4) nd (av kC rfl n_abs L2.boot_abs (aa (pv 2) ae))) (ag (cp (i:=5) nd (aw aU af (pv 0))) (ag (cL PassesOwn.never (ax gY (pv 4) af (aq _)) (ag (bf (aQ (ax ba (aw aU (pv 4) af) af (aq _)) (ak (cp (i:=5) nd (aw aU (aw bU (pv 5) (pv 3)) (pv 0)))) aD)) (ag (cp (i:=3) nd (aw aU (aw bU (pv 3) (pv 3)) (pv 0))) (ak (nN (i:=4) nd rfl (Or.inl rfl) af (rM oW)))))) (ak (au (pv 5)))))))),?_⟩
 show b9 _ _ _ [some (.int n),some (.int a),some (.int e),none,none,none] H
 k_data
 refine⟨hn,λσ' H'=>aE H H'/\∃ b:Int,σ'=[some (.int n),some (.int a),some (.int e),some (.int b),none,none]/\0<=b/\b<n/\Q (.int (b^e.natAbs%n)) H',?_,?_⟩
 ·k_data
  refine aH (λc=>absurd c (by omega)) (λc=>?_)
  have:=q1 H (aE.refl _)
  rw [show e.toNat=e.natAbs by omega,<- Pw.fb] at this
  exact⟨aE.refl _,Int.emod_nonneg _ (by omega),Int.emod_lt_of_pos _ hn,this⟩
 ·rintro σ' H' ⟨hs,b,rfl,hb0,hb1,q⟩
  k_data
  refine⟨hn,?_⟩
  have ee:(if e<0 then -e else e)=(e.natAbs:Int):=by split<;>omega
  rw [ee]
  refine cM (α:=Int × Nat × Int) (λx=>[some (.int n),some (.int a),some (.int e),some (.int x.1),some (.int x.2.1),some (.int x.2.2)]) (λx H1=>H1=H'/\0<=x.1/\x.1<n/\0<=x.2.2/\x.2.2<n/\x.2.2*x.1^x.2.1%n=b^e.natAbs%n) (λx=>x.2.1) (b,e.natAbs,1%n) rfl ⟨rfl,hb0,hb1,Int.emod_nonneg _ (by omega),Int.emod_lt_of_pos _ hn,?_⟩ ?_
  ·show 1%n*b^e.natAbs%n=_
   rw [Pw.vO,Int.one_mul]
  rintro⟨b',l,r⟩ H1 ⟨rfl,h1,h2,h3,h4,h5⟩
  replace h1:0<=b':=h1
  replace h2:b'<n:=h2
  replace h3:0<=r:=h3
  replace h4:r<n:=h4
  replace h5:r*b'^l%n=b^e.natAbs%n:=h5
  k_data
  refine aH (λc=>?_) (λc=>?_)
  ·refine⟨_,λ_ _ z=>z,λσ' H2=>H2=H1/\σ'=[some (.int n),some (.int a),some (.int e),some (.int b'),some (.int l),some (.int (if l%2=1 then r*b'%n else r))],?_,?_⟩
   ·k_data
    refine aH (λc=>?_) (λc=>?_)
    ·exact⟨Bd.of (by omega) (by omega),Bd.of (by omega) (by omega),hn,by rw [if_pos (by omega)]⟩
    ·rw [if_neg (by omega)]
   rintro σ' H2 ⟨rfl,rfl⟩
   k_data
   have r0:0<=(if l%2=1 then r*b'%n else r)/\(if l%2=1 then r*b'%n else r)<n:=by
    split
    ·exact⟨Int.emod_nonneg _ (by omega),Int.emod_lt_of_pos _ hn⟩
    ·exact⟨h3,h4⟩
   refine⟨Bd.of (by omega) (by omega),Bd.of (by omega) (by omega),hn,Ai (by decide),(b'*b'%n,l/2,if l%2=1 then r*b'%n else r),rfl,(by show (l:Int)/2=((l/2:Nat):Int);omega),rfl,Int.emod_nonneg _ (by omega),Int.emod_lt_of_pos _ hn,r0.1,r0.2,?_,?_⟩
   ·show (if l%2=1 then r*b'%n else r)*(b'*b'%n)^(l/2)%n=_
    rw [Pw.step]
    exact h5
   ·show l/2<l
    omega
  ·have l0:l=0:=by omega
   subst l0
   rw [Int.pow_zero,Int.mul_one] at h5
   have h6:r%n=r:=Int.emod_eq_of_lt h3 h4
   rw [<- h5,h6] at q
   exact q
def lJ:Sp:=λvs H Q _=>∃(n a:Int) (e:Int),vs=[.int n,.int a,.int e]/\0<n/\n<=10^100/\0<=e/\Q (.int (a^e.toNat%n)) H
theorem gZ:aC ["_law_n","_law_a","_law_e","_law_found","_law_base"] ["_law_n","_law_a","_law_e"] (ao (top 47)):=c7
theorem ue (D:aA K mg "_law_power" (top 47)):Callee P w K mg base aV 1 "_law_power" ["_law_n","_law_a","_law_e"] lJ:=by
 refine cO D gZ (λf cdv A outer s H vs Q E hr h=>?_)
 obtain⟨n,a,e,rfl,hn,hn1,he,q⟩:=h
 have nd:=gZ.nd
 refine⟨_,(ag (cp (i:=3) nd (aw aU af (pv 0))) (ag (cp (i:=4) nd (aw aU (pv 1) (pv 0))) (ag (cL PassesOwn.never (ax gY (pv 2) af (aq _)) (ag (bf (aQ (ax ba (aw aU (pv 2) af) af (aq _)) (ak (cp (i:=3) nd (aw aU (aw bU (pv 3) (pv 4)) (pv 0)))) aD)) (ag (cp (i:=4) nd (aw aU (aw bU (pv 4) (pv 4)) (pv 0))) (ak (cp (i:=2) nd (aw eI (pv 2) af)))))) (ak (au (pv 3)))))),?_⟩
 show b9 _ _ _ [some (.int n),some (.int a),some (.int e),none,none] H
 k_data
 refine⟨hn,hn,?_⟩
 have r0:=λx:Int=>Int.emod_nonneg x (show n≠0 by omega)
 have r1:=λx:Int=>Int.emod_lt_of_pos x hn
 refine cM (α:=Nat × Int × Int) (λx=>[some (.int n),some (.int a),some (.int (x.1:Int)),some (.int x.2.1),some (.int x.2.2)]) (λx H1=>H1=H/\0<=x.2.2/\x.2.2<n/\0<=x.2.1/\x.2.1<n/\x.2.1*x.2.2^x.1%n=a^e.toNat%n) (λx=>x.1) (e.toNat,1%n,a%n) (by rw [show ((e.toNat:Nat):Int)=e by omega]) ⟨rfl,r0 a,r1 a,r0 1,r1 1,?_⟩ ?_
 ·show 1%n*(a%n)^e.toNat%n=_
  rw [Pw.vO,Int.one_mul,Pw.fb]
 rintro⟨l,r,b⟩ H1 ⟨rfl,h1,h2,h3,h4,h5⟩
 replace h1:0<=b:=h1
 replace h2:b<n:=h2
 replace h3:0<=r:=h3
 replace h4:r<n:=h4
 replace h5:r*b^l%n=a^e.toNat%n:=h5
 k_data
 refine aH (λc=>?_) (λc=>?_)
 ·refine⟨_,λ_ _ z=>z,λσ' H2=>H2=H1/\σ'=[some (.int n),some (.int a),some (.int (l:Int)),some (.int (if l%2=1 then r*b%n else r)),some (.int b)],?_,?_⟩
  ·k_data
   refine aH (λc=>?_) (λc=>?_)
   ·exact⟨Bd.of (by omega) (by omega),Bd.of (by omega) (by omega),hn,by rw [if_pos (by omega)]⟩
   ·rw [if_neg (by omega)]
  rintro σ' H2 ⟨rfl,rfl⟩
  k_data
  have z0:0<=(if l%2=1 then r*b%n else r)/\(if l%2=1 then r*b%n else r)<n:=by
   split
   ·exact⟨r0 _,r1 _⟩
   ·exact⟨h3,h4⟩
  refine⟨Bd.of (by omega) (by omega),Bd.of (by omega) (by omega),hn,Ai (by decide),(l/2,(if l%2=1 then r*b%n else r),b*b%n),(by show (l:Int)/2=((l/2:Nat):Int);omega),rfl,rfl,r0 _,r1 _,z0.1,z0.2,?_,?_⟩
  ·show (if l%2=1 then r*b%n else r)*(b*b%n)^(l/2)%n=_
   rw [Pw.step]
   exact h5
  ·show l/2<l
   omega
 ·have l0:l=0:=by omega
  subst l0
  rw [Int.pow_zero,Int.mul_one,Int.emod_eq_of_lt h3 h4] at h5
  rw [h5]
  exact q
end
end K
namespace L2
open PySem PySem.Spec PyProof.Rows
theorem fq {X:Cx} (K:PySem.W.Frag) (h:X.K=K):BC X (wL K):=h▸aI
theorem dX {X:Cx} (K:PySem.W.Frag) (h:X.K=K):BC X (qT K):=h▸aP
theorem iM {X:Cx} {pos:Pos} {es:List Expr} {k:Nat} {t:zi} {n:Nat} (K:PySem.W.Frag) (e:X.K=K) (hc:X.calm=true) (h:BH X es t)
  (hn:(assignEach es X.env).length=n:=by rfl) (hst:(assignEach es X.env).findIdx? (·.1)=none:=by rfl):PG X (.Tuple es k pos) (tI K n t):=e▸ie hc h hn hst
end L2
namespace K
open PySem PySem.Spec PyProof.Rows L2
section
variable {P:Program} {w:World} {K:PySem.W.Frag} {mg:Str->Option Value} {base:Heap}
theorem bj {H:Hp} {q:Addr} {xs:List V} {k:Int} {v:V} {Q:VK} (t:aY K H q xs) (e:qp xs k=some v) (h:Q v H):wL K (.ref q) (.int k) H Q:=⟨q,xs,k,v,rfl,rfl,t,e,h⟩
theorem fL {x:V} {r:List V}:qp (x::r) 0=some x:=by
 unfold qp qC
 simp
theorem allB {H:Hp} {p:Addr} {bs:List Bool} {Q:VK} (h:aS K H p (bs.map V.bl)) (q:Q (.bl (bs.all id)) H):A8 K [.ref p] H Q:=⟨p,bs,rfl,h,q⟩
def EI (row:PyData) (q:Int):Prop:=∃ ds es,row=.tuple (.tuple (.int q::ds)::es)
def C3 (rows:List PyData) (qs:List Int):Prop:=rows.length=qs.length/\∀(i:Nat) (row:PyData),rows[i]?=some row->∃ q,qs[i]?=some q/\EI row q
def ir (K:PySem.W.Frag):Sp:=λvs H Q _=>∃ v rows qs,vs=[v]/\dv K H (.tuple rows) v/\C3 rows qs/\rows.length<=10^6/\∀ p H',aE H H'->H p=none->H' p=some (.lst (qs.map V.int))->Q (.ref p) H'
theorem iV:aC ["parts"] ["parts"] (ao (top 14)):=c7
theorem pE (D:aA K mg "primes_in" (top 14)):Callee P w K mg base aV 1 "primes_in" ["parts"] (ir K):=by
 refine cO D iV (λf cdv A outer s H vs Q E hr h=>?_)
 obtain⟨v,rows,qs,rfl,hd,⟨hl,hq⟩,h6,q⟩:=h
 have nd:=iV.nd
 refine⟨_,(ak (au (c8 rfl (jO (N':=["row"]) (js:=[none]) rfl rfl) (nL (pv 0)) (λ_ _ _ _=>(aF (i:=0) (show List.Nodup [("row":Str)] from by decide +kernel) rfl (Or.inl rfl) (.inr rfl))) (λ_ _ _ _=>bD) (λ_ _ _ _=>(aB (fq K rfl) (aB (fq K rfl) (pv 0) af (λ_ _=>rfl)) af (λ_ _=>rfl)))))),?_⟩
 show gT _ _ [some v] H
 obtain⟨p,xs,rfl,hS,ht⟩:=hd
 k_data
 have xl:=ht.length
 refine⟨⟨_,hS⟩,?_⟩
 refine jr (xs:=xs) (λi zs H3=>H3=H/\zs=(qs.take i).map V.int) ⟨rfl,rfl⟩ (Nat.le_trans (by omega) (show 10^6<=sizeLine by decide)) (λi zs H3 hi ⟨e1,e2⟩=>⟨by rw [e1];exact hS,by rw [e2];simp;omega⟩) ?_ ?_
 ·rintro i x zs H3 hx ⟨rfl,rfl⟩
  obtain⟨d,hd,hv⟩:=ht.get hx
  obtain⟨q',hq',ds,es,rfl⟩:=hq i d hd
  obtain⟨p1,x1,rfl,t1,u,r1,rfl,hv2,_⟩:=hv
  obtain⟨p2,x2,rfl,t2,u',r2,rfl,hv3,_⟩:=hv2
  cases hv3
  show cK 0 _ [none] _ _
  k_data
  refine⟨True.intro,bj t1 fL (bj t2 fL ⟨rfl,?_⟩)⟩
  rw [List.take_add_one,hq',List.map_append]
  rfl
 ·rintro zs H3 p3 ⟨rfl,rfl⟩ hp3
  rw [show xs.length=qs.length by omega,List.take_length]
  exact q p3 _ (aj hp3) hp3 ai
def BD (n a e:Int) (qs:List Int):Prop:=a^e.toNat%n=1/\∀ q∈qs,a^(e/q).toNat%n≠1
def jD (K:PySem.W.Frag):Sp:=λvs H Q _=>∃(n a e:Int) (p:Addr) (qs:List Int),vs=[.int n,.int a,.int e,.ref p]/\0<n/\n<=10^120/\0<=e/\e<=10^120/\aS K H p (qs.map V.int)/\(∀ q∈qs,0<q/\q<=10^120)/\qs.length<=10^6/\∀ b H',(b=true↔BD n a e qs)->aE H H'->Q (.bl b) H'
theorem jX:aC ["n","a","e","primes"] ["n","a","e","primes"] (ao (top 17)):=c7
theorem qH (D:aA K mg "is_least" (top 17)) (c_power:Callee P w K mg base aV 4 "power" ["n","a","e"] kx) (n_all:mg "all"=none):Callee P w K mg base aV 5 "is_least" ["n","a","e","primes"] (jD K):=by
 refine cO D jX (λf cdv A outer s H vs Q E hr h=>?_)
 obtain⟨n,a,e,p,qs,rfl,hn,hn1,he,he1,hS,hq,hl,q⟩:=h
 have nd:=jX.nd
 refine⟨_,(ak (au (bG (bh ba (br c_power hr ay (aa (pv 0) (aa (pv 1) (aa (pv 2) ae)))) af (aq _)) (cA (av (dW rfl) rfl n_all L2.boot_all (aa (c8 rfl (jO (N':=["prime","n","a","e"]) (js:=[none,some 0,some 1,some 2]) rfl rfl) (bP (pv 3)) (λ_ _ _ _=>(aF (i:=0) (show List.Nodup [("prime":Str),("n":Str),("a":Str),("e":Str)] from by decide +kernel) rfl (Or.inl rfl) (.inr rfl))) (λ_ _ _ _=>bD) (λ_ _ _ _=>(bh fF (br c_power hr ay (aa (pv 1) (aa (pv 2) (aa (aw eI (pv 3) (pv 0)) ae)))) af (aq _)))) ae)))))),?_⟩
 show gT _ _ [some (.int n),some (.int a),some (.int e),some (.ref p)] H
 k_data
 refine⟨n,a,e,rfl,hn,hn1,he,λH1 s1=>?_⟩
 have hS1:=hS.same s1
 k_data
 refine aH (λc=>?_) (λc=>?_)
 ·refine⟨⟨_,hS1⟩,?_⟩
  refine bQ (xs:=qs.map V.int) (λi zs H3=>aE H H3/\zs=((qs.take i).map λq=>decide (a^(e/q).toNat%n≠1)).map V.bl) ⟨s1,rfl⟩ (by rw [List.length_map];exact Nat.le_trans hl (show 10^6<=sizeLine by decide)) (λi zs H3 hi ⟨e1,e2⟩=>⟨hS.same e1,by rw [e2];simp;omega⟩) ?_ ?_
  ·rintro i x zs H3 hx ⟨s3,rfl⟩
   rw [List.getElem?_map] at hx
   obtain⟨y,hy,rfl⟩:=Option.map_eq_some_iff.mp hx
   have my:=hq y (List.mem_of_getElem? hy)
   show cK 0 _ [none,some (.int n),some (.int a),some (.int e)] _ _
   k_data
   refine⟨⟨rfl,rfl,rfl,True.intro⟩,my.1,Bd.of (by omega) (by omega),n,a,e/y,rfl,hn,hn1,Int.ediv_nonneg he (show 0<=y by omega),λH4 s4=>⟨kr,?_⟩⟩
   refine⟨s3.trans s4,?_⟩
   rw [List.take_add_one,hy,List.map_append,List.map_append]
   simp
  ·rintro zs H3 p3 ⟨s3,rfl⟩ hp3
   rw [List.length_map,List.take_length]
   refine jj (bs:=qs.map λq=>decide (a^(e/q).toNat%n≠1)) (aS.of ai) ?_
   refine q _ _ ?_ (s3.trans (aj hp3))
   rw [List.all_eq_true]
   constructor
   ·intro h
    refine⟨c,λy hy=>?_⟩
    have:=h _ (List.mem_map.mpr ⟨y,hy,rfl⟩)
    simpa using this
   ·intro h b hb
    obtain⟨y,hy,rfl⟩:=List.mem_map.mp hb
    simpa using h.2 y hy
 ·exact q false _ ⟨λz=>(by cases z),λz=>absurd z.1 c⟩ s1
theorem eS {n x:Int} (hn:2<=n):x%n=1↔Num.Al n x 1:=by
 constructor
 ·intro h
  refine⟨x/n,?_⟩
  have:=Int.emod_add_mul_ediv x n
  omega
 ·rintro⟨k,hk⟩
  rw [show x=1+n*k by omega,Int.add_mul_emod_self_left]
  exact Int.emod_eq_of_lt (by omega) (by omega)
theorem rV {n a e:Int} {ps:List (Int × Int)} (hn:2<=n) (h:Num.Part e ps) (he:1<=e):BD n a e (ps.map (·.1))↔Num.Ord n a e.toNat:=by
 rw [<- Num.wt h he]
 unfold BD
 rw [eS hn]
 constructor
 ·exact fun⟨h1,h2⟩=>⟨h1,λq hq z=>h2 q hq ((eS hn).mpr z)⟩
 ·exact fun⟨h1,h2⟩=>⟨h1,λq hq z=>h2 q hq ((eS hn).mp z)⟩
theorem iH (P:Int->Prop) {g:Int} (h1:1<=g) (h:P g):∃ m,1<=m/\m<=g/\P m/\∀ a,1<=a->a<m->¬P a:=by
 have:∀(k:Nat) (g:Int),g.toNat=k->1<=g->P g->∃ m,1<=m/\m<=g/\P m/\∀ a,1<=a->a<m->¬P a:=by
  intro k
  induction k using Nat.strongRecOn with
  | ind k ih =>
   intro g hk h1 hg
   by_cases c:∃ a,1<=a/\a<g/\P a
   ·obtain⟨a,a1,a2,a3⟩:=c
    obtain⟨m,m1,m2,m3,m4⟩:=ih a.toNat (by omega) a rfl a1 a3
    exact⟨m,m1,by omega,m3,m4⟩
   ·exact⟨g,h1,Int.le_refl _,hg,λa a1 a2 a3=>c ⟨a,a1,a2,a3⟩⟩
 exact this _ g rfl h1 h
theorem sk {n:Int} {ps:List (Int × Int)} (h:Num.Part n ps) (hn:1<=n):∀ q∈ps.map (·.1),2<=q/\q<=n:=λq hq=>by
 obtain⟨x,hx,rfl⟩:=List.mem_map.mp hq
 obtain⟨o1,o2,_⟩:=h.ok x hx
 have:=Num.eW hx o2
 rw [h.prod] at this
 exact⟨o1.two,Int.le_of_dvd (by omega) this⟩
def iZ:Sp:=λvs H Q _=>∃ p a:Int,vs=[.int p,.int a]/\Num.Pm p/\p<=10^60 /\ -(10^60)<=a/\a<=10^60/\¬p∣a/\∀ r,1<=r->r<p->Num.Ord p a r.toNat->Q (.int r) H
theorem hJ:aC ["_law_p","_law_a","_law_here","_law_many"] ["_law_p","_law_a"] (ao (top 48)):=c7
theorem wd (D:aA K mg "_law_steps" (top 48)):Callee P w K mg base aV 1 "_law_steps" ["_law_p","_law_a"] iZ:=by
 refine cO D hJ (λf cdv A outer s H vs Q E hr h=>?_)
 obtain⟨p,a,rfl,hp,p9,a0,a1,na,q⟩:=h
 have p2:=hp.two
 have nd:=hJ.nd
 refine⟨_,(ag (cp (i:=2) nd (aw aU (pv 1) (pv 0))) (ag (cp (i:=3) nd af) (ag (cL PassesOwn.never (ax fF (pv 2) af (aq _)) (ag (cp (i:=2) nd (aw aU (aw bU (pv 2) (pv 1)) (pv 0))) (ak (cp (i:=3) nd (aw b8 (pv 3) af))))) (ak (au (pv 3)))))),?_⟩
 show b9 _ _ _ [some (.int p),some (.int a),none,none] H
 k_data
 have r0:=λx:Int=>Int.emod_nonneg x (show p≠0 by omega)
 have r1:=λx:Int=>Int.emod_lt_of_pos x (show 0<p by omega)
 have fm:=(eS p2).mpr (Num.kK hp na)
 refine⟨by omega,?_⟩
 refine cM (α:=Int × Nat) (λx=>[some (.int p),some (.int a),some (.int x.1),some (.int (x.2:Int))]) (λx H1=>H1=H/\x.1=a^x.2%p/\1<=x.2/\(x.2:Int)<=p-1/\∀ j:Nat,1<=j->j<x.2->a^j%p≠1) (λx=>(p+1-(x.2:Int)).toNat) (a%p,1) rfl ⟨rfl,by rw [Int.pow_succ,Int.pow_zero,Int.one_mul],Nat.le_refl _,by show (1:Int)<=p-1;omega,λj j1 (j2:j<1)=>by omega⟩ ?_
 rintro⟨h,k⟩ H1 ⟨eH,hh,k1,k2,no⟩
 replace hh:h=a^k%p:=hh
 replace k1:1<=k:=k1
 replace k2:(k:Int)<=p-1:=k2
 replace no:∀ j:Nat,1<=j->j<k->a^j%p≠1:=no
 rw [eH]
 have h0:=r0 (a^k)
 have h1:=r1 (a^k)
 rw [<- hh] at h0 h1
 k_data
 refine aH (λc=>?_) (λc=>?_)
 ·have kp:(k:Int)<p-1:=by
   rcases (by omega:(k:Int)<p-1∨(k:Int)=p-1) with z | z
   ·exact z
   ·rw [show (p-1).toNat=k by omega,<- hh] at fm
    exact absurd fm c
  refine⟨_,λ_ _ z=>z,Bd.of (by omega) (by omega),Bd.of (by omega) (by omega),by omega,(h*a%p,k+1),rfl,rfl,?_,by omega,by show ((k+1:Nat):Int)<=p-1;omega,λj j1 (j2:j<k+1)=>?_,by show (p+1-((k+1:Nat):Int)).toNat<(p+1-(k:Int)).toNat;omega⟩
  ·show h*a%p=a^(k+1)%p
   rw [hh,Int.pow_succ,Int.mul_emod,Int.emod_emod,<- Int.mul_emod]
  ·rcases (by omega:j<k∨j=k) with z | z
   ·exact no j j1 z
   ·rw [z,<- hh];exact c
 ·have c':h=1:=by omega
  have al:=(eS p2).mp (show a^k%p=1 by rw [<- hh,c'])
  exact q (k:Int) (by omega) (by omega) (by rw [Int.toNat_natCast];exact Num.iK (by omega) al λj j0 jk z=>no j (by omega) jk ((eS p2).mpr z))
def C9 (p:Int × Int):PyData:=.tuple [.int p.1,.int p.2]
def jG (K:PySem.W.Frag):Sp:=λvs H Q _=>∃ n:Int,vs=[.int n]/\1<=n/\n<=10^9/\∀ ps us p H',Num.Part n ps->ps.length<=29->aE H H'->H p=none->H' p=some (.lst us)->bo K H' (ps.map C9) us->Q (.ref p) H'
structure qg (n d:Int):Prop where
 two:2<=d
 no:∀ e:Int,2<=e->e<d->¬e∣n
theorem qg.step {n d:Int} (h:qg n d) (hk:¬d∣n):qg n (d+1):=⟨by have:=h.two;omega,λe e2 ed=>by
 rcases (by omega:e<d∨e=d) with z | z
 ·exact h.no e e2 z
 ·rw [z];exact hk⟩
theorem gh:aC ["_law_n","_law_found","_law_d","_law_many"] ["_law_n"] (ao (top 49)):=c7
theorem qL (D:aA K mg "_law_parted" (top 49)):Callee P w K mg base aV 1 "_law_parted" ["_law_n"] (jG K):=by
 refine cO D gh (λf cdv A outer s H vs Q E hr h=>?_)
 obtain⟨n,rfl,n1,n9,q⟩:=h
 have nd:=gh.nd
 refine⟨_,(ag (cp (i:=1) nd (aX ae)) (ag (cp (i:=2) nd af) (ag (cL PassesOwn.never (ax gY (pv 0) af (aq _)) (ag (cp (i:=3) nd af) (ag (cL PassesOwn.never (ax ba (aw aU (pv 0) (pv 2)) af (aq _)) (ag (cp (i:=0) nd (aw eI (pv 0) (pv 2))) (ak (cp (i:=3) nd (aw b8 (pv 3) af))))) (ag (bf (aQ (ax gY (pv 3) af (aq _)) (ak (gO (mJ PySem.F.plainAttrs_list PySem.F.slot_list_append PySem.F.type_list_append eY (pv 1) (aa (aR (aa (pv 2) (aa (pv 3) ae))) ae)))) aD)) (ak (cp (i:=2) nd (aw b8 (pv 2) af))))))) (ak (au (pv 1)))))),?_⟩
 show b9 _ _ _ [some (.int n),none,none,none] H
 k_data
 refine⟨by decide,λpp hpp=>?_⟩
 refine cM (α:=Int × Int × Option V) (λx=>[some (.int x.1),some (.ref pp),some (.int x.2.1),x.2.2]) (λx H1=>aE H H1/\∃(ps:List (Int × Int)) (us:List V) (pr:Int),H1 pp=some (.lst us)/\bo K H1 (ps.map C9) us/\Num.Way n ps x.1 pr/\qg x.1 x.2.1/\x.2.1<=10^9+10) (λx=>(10^9+20-x.2.1).toNat+x.1.toNat*10^10) (n,2,none) rfl ⟨aj hpp,[],[],2,ai,rfl,.start (by omega),⟨by show (2:Int)<=2;decide,λd d0 (d1:d<2)=>by omega⟩,by show (2:Int)<=10^9+10;decide⟩ ?_
 rintro⟨left,e,o⟩ H1 ⟨hs,ps,us,pr,epp,hd,W,Ie,d9⟩
 replace W:Num.Way n ps left pr:=W
 replace Ie:qg left e:=Ie
 replace d9:e<=10^9+10:=d9
 have l1:=W.pos
 have e2:=Ie.two
 have ln:left<=n:=by
  have z:=W.two
  have p0:=Num.bN (show (0:Int)<2 by decide) ps.length
  have:=Int.mul_le_mul_of_nonneg_right (show (1:Int)<=2^ps.length by omega) (show 0<=left by omega)
  omega
 k_data
 refine aH (λc3=>?_) (λc3=>?_)
 ·have dl:e<=left:=by
   rcases (by omega:e<=left∨left<e) with z | z
   ·exact z
   ·exact absurd (Int.dvd_refl left) (Ie.no left (by omega) z)
  refine⟨_,λ_ _ z=>z,?_⟩
  refine cM (α:=Int × Nat) (λx=>[some (.int x.1),some (.ref pp),some (.int e),some (.int (x.2:Int))]) (λx H3=>H3=H1/\left=e^x.2*x.1/\1<=x.1/\x.1<=left) (λx=>x.1.toNat) (left,0) rfl ⟨rfl,by rw [Int.pow_zero,Int.one_mul],by omega,Int.le_refl _⟩ ?_
  rintro⟨lf,k⟩ H3 ⟨rfl,f1,f2,f3⟩
  replace f1:left=e^k*lf:=f1
  replace f2:1<=lf:=f2
  replace f3:lf<=left:=f3
  k_data
  refine⟨by omega,?_⟩
  refine aH (λc4=>?_) (λc4=>?_)
  ·obtain⟨y,hy⟩:=Int.dvd_of_emod_eq_zero c4
   have ey:lf/e=y:=by rw [hy];exact Int.mul_ediv_cancel_left _ (by omega)
   have y1:1<=y:=by
    rcases (by omega:y<=0∨1<=y) with z | z
    ·have:=Int.mul_nonpos_of_nonneg_of_nonpos (show 0<=e by omega) z
     omega
    ·exact z
   have yl:y<lf:=by
    rw [hy]
    have:=Int.mul_le_mul_of_nonneg_right e2 (show 0<=y by omega)
    omega
   refine⟨_,λ_ _ z=>z,by omega,Bd.of (by omega) (by omega),(y,k+1),?_,rfl,?_,y1,by show y<=left;omega,by show y.toNat<lf.toNat;omega⟩
   ·rw [ey];rfl
   ·show left=e^(k+1)*y
    rw [f1,hy,Int.pow_succ,Int.mul_assoc]
  ·have ng:¬e∣lf:=λz=>c4 (Int.emod_eq_zero_of_dvd z)
   refine⟨λσ' H4=>aE H H4/\σ'=[some (.int lf),some (.ref pp),some (.int e),some (.int (k:Int))]/\∃(ps:List (Int × Int)) (us:List V) (pr:Int),H4 pp=some (.lst us)/\bo K H4 (ps.map C9) us/\Num.Way n ps lf pr/\qg lf (e+1)/\(k=0->lf=left)/\(0<k->lf<left),?_,?_⟩
   ·k_data
    refine aH (λc5=>?_) (λc5=>?_)
    ·have k1:1<=k:=by omega
     have hL:Ld.jM left e:=⟨e2,(by
      obtain⟨k',rfl⟩:∃ k',k=k'+1:=⟨k-1,by omega⟩
      rw [f1,Int.pow_succ]
      exact Int.dvd_mul_of_dvd_left ⟨e^k',Int.mul_comm _ _⟩),Ie.no⟩
     have W2:=W.step n9 c3 hL f1 f2 k1 ng
     have len:=W.len n9
     have ul:us.length=ps.length:=by rw [hd.length,List.length_map]
     have lt:lf<left:=by
      obtain⟨k',rfl⟩:∃ k',k=k'+1:=⟨k-1,by omega⟩
      have p0:=Num.bN (show 0<e by omega) k'
      have h1:e<=e^(k'+1):=by
       rw [Int.pow_succ]
       have:=Int.mul_le_mul_of_nonneg_right (show 1<=e^k' by omega) (show 0<=e by omega)
       omega
      have:=Int.mul_le_mul_of_nonneg_right (show 2<=e^(k'+1) by omega) (show 0<=lf by omega)
      omega
     refine⟨.inl ⟨rfl,_,aS.of epp⟩,by show 2<=sizeLine;decide,λpt hpt=>?_⟩
     have s2:=aj (o:=.tup [V.int e,V.int (k:Int)]) hpt
     have npt:pp≠pt:=λz=>by rw [<- z,epp] at hpt;cases hpt
     have el':=s2 _ _ epp
     have et:upd H3 pt (.tup [V.int e,V.int (k:Int)]) pt=some (.tup [V.int e,V.int (k:Int)]):=ai
     have hd2:=bo.same s2 _ hd
     have S2:=hs.trans s2
     generalize upd H3 pt _=H4 at *
     refine⟨pp,us,.ref pt,rfl,rfl,el',Nat.lt_of_le_of_lt (show us.length<=29 by omega) (by decide),S2.upd hpp,ps++[(e,(k:Int))],us++[.ref pt],ai,?_,e,W2,qg.step ⟨e2,λd d2 de z=>Ie.no d d2 de (by rw [f1];exact Int.dvd_mul_of_dvd_right z)⟩ ng,λz=>absurd z (by omega),λ_=>lt⟩
     rw [List.map_append]
     refine bo.append (bo.but el' (λb o ne h=>by rw [aJ ne];exact h) _ (pA (λ_=>rfl) ps) hd2) (.one (dv.tup (xs:=[V.int e,V.int (k:Int)]) ?_ ⟨_,_,rfl,rfl,.one rfl⟩))
     rw [aJ (Ne.symm npt)]
     exact et
    ·have k0:k=0:=by omega
     subst k0
     rw [Int.pow_zero,Int.one_mul] at f1
     subst f1
     exact⟨hs,ps,us,epp,hd,pr,W,Ie.step ng,λ_=>rfl,λz=>absurd z (by omega)⟩
   ·rintro σ' H4 ⟨S4,rfl,ps',us',pr',g1,g2,g3,g4,g5,g6⟩
    k_data
    refine⟨(lf,e+1,some (.int (k:Int))),rfl,rfl,rfl,S4,⟨ps',us',g1,g2,pr',g3,g4,by show e+1<=10^9+10;omega⟩,?_⟩
    show (10^9+20-(e+1)).toNat+lf.toNat*10^10<(10^9+20-e).toNat+left.toNat*10^10
    rcases Nat.eq_zero_or_pos k with z | z
    ·have:=g5 z
     omega
    ·have:=g6 z
     omega
 ·have z:left=1:=by omega
  subst z
  exact q ps us pp H1 W.done (W.len n9) hs hpp epp hd
end
end K
namespace L2
open PySem PySem.Spec PyProof.Rows
theorem cD {lo:Int} {n:Nat} {js:List (Option Nat)} {g:TG} {tt:TT} {te:TE} {σ:St} {Q:VK} {H1:Hp} (Pv:Nat->List V->Hp->Prop) (h0:Pv 0 [] H1) (hx:n<=sizeLine) (hl:∀ i ys H,i<=n->Pv i ys H->ys.length<=i)
  (hs:∀ i ys H,i<n->Pv i ys H->g (.int (lo+(i:Int))) (cn js σ) H λσ2 H2=>bM (cn js σ) σ2/\tt σ2 H2 λb H3=>if b=true then te σ2 H3 λv H4=>Pv (i+1) (ys++[v]) H4 else Pv (i+1) ys H3)
  (hd:∀ ys H p,Pv n ys H->H p=none->Q (.ref p) (upd H p (.lst ys))):kz (xH lo n) js g tt te σ Q H1:=by
 refine⟨λi m ys H=>m=n-i/\i<=n/\Pv i ys H,⟨n,by simp,Nat.zero_le _,h0⟩,?_⟩
 rintro i m ys H ⟨rfl,hi,p⟩
 have hy:=hl i ys H hi p
 by_cases hlt:i<n
 ·refine .inr ⟨hlt,by omega,Pv (i+1),λys' H' p'=>⟨n-(i+1),by omega,rfl,by omega,p'⟩,?_⟩
  rintro x H' ⟨rfl,rfl⟩
  exact hs i ys H' hlt p
 ·have e:i=n:=by omega
  subst e
  exact .inl ⟨Nat.le_refl _,by omega,λq hq=>hd ys H q p hq⟩
theorem kE {X:Cx} (K:PySem.W.Frag) (h:X.K=K):dG X (.builtin "len") (wM K):=h▸aG
end L2
namespace K
open PySem PySem.Spec PyProof.Rows L2
section
variable {P:Program} {w:World} {K:PySem.W.Frag} {mg:Str->Option Value} {base:Heap}
theorem pK {ps:List (Int × Int)} {p:Int × Int} {ds ds':Nat->PyData} (h:∀ j,j<ps.length->ds' j=ds j):Num.rowsOf (ps++[p]) ds'=Num.rowsOf ps ds++[.tuple [ds' ps.length,.int p.2]]:=by
 unfold Num.rowsOf
 rw [List.length_append,List.length_singleton,List.range_succ,List.map_append]
 congr 1
 ·refine List.map_congr_left λj hj=>?_
  have:=List.mem_range.mp hj
  rw [h j this,List.getD_eq_getElem?_getD,List.getD_eq_getElem?_getD,List.getElem?_append_left this]
 ·simp
theorem vp {ps:List (Int × Int)} {ds:Nat->PyData} (h:∀ i q k,ps[i]?=some (q,k)->Num.cR q (ds i)):C3 (Num.rowsOf ps ds) (ps.map (·.1)):=by
 refine⟨by rw [Num.ik,List.length_map],λi row hi=>?_⟩
 have hl:=(List.getElem?_eq_some_iff.mp hi).1
 rw [Num.ik] at hl
 have hg:=List.getElem?_eq_getElem hl
 rw [Num.qV hg] at hi
 obtain⟨g,rows,e⟩:=(h i _ _ hg).head
 exact⟨ps[i].1,by rw [List.getElem?_map,hg];rfl,[.int g,.tuple rows],[.int ps[i].2],by rw [<- Option.some.inj hi,e];rfl⟩
theorem Ar {H:Hp} {q k:Int} {v:V} (h:dv K H (C9 (q,k)) v):∃ p,v=.ref p/\aY K H p [.int q,.int k]:=by
 obtain⟨p,xs,rfl,h1,x,r,rfl,d1,y,r',rfl,d2,h4⟩:=h
 cases h4
 cases d1
 cases d2
 exact⟨p,rfl,h1⟩
def gB (K:PySem.W.Frag) (L:Nat):Sp:=λvs H Q _=>∃ n at_:Int,vs=[.int n,.int at_]/\Num.Pm n/\n<=1000/\Num.Ht L n/\0<=at_/\at_<=10^6/\∀ d v H',Num.cR n d->aE H H'->dv K H' d v->Q v H'
theorem eU:aC ["_law_p","_law_at","_law_some"] ["_law_p","_law_at"] (ao (top 50)):=c7
theorem qK {L:Nat} (D:aA K mg "_law_paper" (top 50)) (c__law_parted:Callee P w K mg base aV 1 "_law_parted" ["_law_n"] (jG K)) (c__law_steps:Callee P w K mg base aV 1 "_law_steps" ["_law_p","_law_a"] iZ) (n_len:mg "len"=none) (n_range:mg "range"=none) (c__law_paper:Callee P w K mg base aV (L+2) "_law_paper" ["_law_p","_law_at"] (gB K L)) (n_tuple:mg "tuple"=none):Callee P w K mg base aV (L+3) "_law_paper" ["_law_p","_law_at"] (gB K (L+1)):=by
 refine cO D eU (λf cdv A outer s H vs Q E hr h=>?_)
 obtain⟨n,a',rfl,hp,hn,hH,a0,a9,q⟩:=h
 have n2:=hp.two
 have nd:=eU.nd
 refine⟨_,(ag (fA (i0:=2) nd rfl (Or.inl rfl) rfl (jO (N':=["_law_full","_law_p"]) (js:=[none,some 0]) rfl rfl) (mK rfl n_range (aa af (aa (pv 0) ae))) (λ_ _ _ _=>(aF (i:=0) (show List.Nodup [("_law_full":Str),("_law_p":Str)] from by decide +kernel) rfl (Or.inl rfl) (.inr rfl))) (λ_ _ _ _=>(dE (ax ba (cV c__law_steps (hr.mono (by omega)) rfl ay (aa (pv 1) (aa (pv 0) ae))) (aw cq (pv 1) af) (aq _)))) (λ_ _ _ _=>(pv 0)) (by rfl) (by first | exact .inl rfl | exact .inr rfl)) (ak (au (aR (aa (pv 0) (aa (aB aP (pv 2) (aw aU (pv 1) (av aG rfl n_len PySem.boot_len (aa (pv 2) ae))) (λ_ _=>rfl)) (aa (bp bH rfl n_tuple L2.boot_tuple (aa (c8 rfl (jO (N':=["_law_q","_law_many","_law_at"]) (js:=[none,none,some 1]) rfl rfl) (bP (cV c__law_parted (hr.mono (by omega)) rfl ay (aa (aw cq (pv 0) af) ae))) (λ_ _ _ _=>(iM K rfl (n:=2) rfl (bc (aF (i:=0) (show List.Nodup [("_law_q":Str),("_law_many":Str),("_law_at":Str)] from by decide +kernel) rfl (Or.inl rfl) (.inr rfl)) (bc (aF (i:=1) (show List.Nodup [("_law_q":Str),("_law_many":Str),("_law_at":Str)] from by decide +kernel) rfl (Or.inl rfl) (.inr rfl)) cW)))) (λ_ _ _ _=>bD) (λ_ _ _ _=>(aR (aa (cV c__law_paper (hr.mono (by omega)) rfl ay (aa (pv 0) (aa (pv 2) ae))) (aa (pv 1) ae))))) ae)) ae))))))),?_⟩
 show b9 _ _ _ [some (.int n),some (.int a'),none] H
 k_data
 refine⟨by omega,by omega,cD (λi zs H1=>aE H H1/\zs.length<=i/\∃ ns:List Int,zs=ns.map V.int/\(∀ x∈ns,Num.FF n x)/\∀ x:Int,1<=x->x<=i->Num.Ord n x (n-1).toNat->x∈ns) ⟨aE.refl _,Nat.le_refl _,[],rfl,λx z=>by simp at z,λx x1 x2=>by omega⟩ (Nat.le_trans (show (n-1).toNat<=1000 by omega) (by decide)) (λi zs H1 _ ⟨_,z,_⟩=>z) ?_ ?_⟩
 ·rintro i zs H2 hi ⟨S2,zl,ns,rfl,f1,f2⟩
  show cK 0 _ [none,some (.int n)] _ _
  k_data
  refine⟨⟨rfl,True.intro⟩,n,1+i,rfl,hp,by omega,by omega,by omega,λz=>by have:=Int.le_of_dvd (by omega) z;omega,λr' r1 rn o=>?_⟩
  obtain⟨r,rfl⟩:∃ k:Nat,r'=k:=⟨r'.toNat,by omega⟩
  rw [Int.toNat_natCast] at o
  rw [List.length_map] at zl
  refine⟨rfl,aH (λc=>?_) (λc=>?_)⟩
  ·have c':(r:Int)=n-1:=V.int.inj c
   refine⟨S2,by simp;omega,ns++[1+(i:Int)],by simp,λx hx=>?_,λx x1 x2 x3=>?_⟩
   ·rcases List.mem_append.mp hx with z | z
    ·exact f1 x z
    ·rw [List.mem_singleton.mp z]
     exact⟨by omega,by omega,by rw [show (n-1).toNat=r by omega];exact o⟩
   ·rcases (by omega:x<=i∨x=1+i) with z | z
    ·exact List.mem_append.mpr (.inl (f2 x x1 z x3))
    ·exact List.mem_append.mpr (.inr (List.mem_singleton.mpr z))
  ·refine⟨S2,by simp;omega,ns,rfl,f1,λx x1 x2 x3=>?_⟩
   rcases (by omega:x<=i∨x=1+i) with z | z
   ·exact f2 x x1 z x3
   ·subst z
    have:=o.qN x3
    exact absurd (congrArg V.int (show (r:Int)=n-1 by omega)) c
 rintro zs H2 p2 ⟨S2,zl,ns,rfl,f1,f2⟩ hp2
 obtain⟨g0,g1,g2,g3⟩:=Num.ya hp
 have g4:=f2 g0 g1 (by omega) g3
 have S3:=S2.trans (aj (o:=.lst (ns.map V.int)) hp2)
 have e3:upd H2 p2 (.lst (ns.map V.int)) p2=some (.lst (ns.map V.int)):=ai
 generalize upd H2 p2 _=H3 at *
 have nl:0<ns.length:=List.length_pos_of_mem g4
 refine aZ (aS.of e3) ⟨_,rfl,by rw [List.length_map];omega,?_⟩
 rw [List.length_map]
 have m1:=Int.emod_nonneg a' (show (ns.length:Int)≠0 by omega)
 have m2:=Int.emod_lt_of_pos a' (show (0:Int)<ns.length by omega)
 obtain⟨j,hj⟩:∃ j:Nat,a'%(ns.length:Int)=j:=⟨(a'%(ns.length:Int)).toNat,by omega⟩
 have jl:j<ns.length:=by omega
 obtain⟨x,hx⟩:∃ x,ns[j]?=some x:=⟨_,List.getElem?_eq_getElem jl⟩
 have G:=f1 x (List.mem_of_getElem? hx)
 rw [hj]
 refine⟨_,_,_,_,rfl,rfl,aS.of e3,bF (show (ns.map V.int)[j]?=some (V.int x) by rw [List.getElem?_map,hx];rfl),?_⟩
 refine⟨n-1,rfl,by omega,by omega,λps us p H1 hP hl s1 f1 h1 hd=>?_⟩
 have ul:us.length=ps.length:=by rw [hd.length,List.length_map]
 have at_:∀{i:Nat} {v:V},us[i]?=some v->∃ q' k',ps[i]?=some (q',k')/\(Num.Pm q'/\1<=k')/\q'∣n-1/\q'<=n-1/\∃ pt,v=.ref pt/\aY K H1 pt [.int q',.int k']:=by
  intro i v hx
  obtain⟨d,hd',hv⟩:=hd.get hx
  rw [List.getElem?_map] at hd'
  obtain⟨⟨q',k'⟩,hy,rfl⟩:=Option.map_eq_some_iff.mp hd'
  have hok:=hP.ok _ (List.mem_of_getElem? hy)
  have hdv:q'∣n-1:=by
   have:=Num.eW (List.mem_of_getElem? hy) hok.2.1
   rwa [hP.prod] at this
  exact⟨q',k',hy,⟨hok.1,hok.2.1⟩,hdv,Int.le_of_dvd (by omega) hdv,Ar hv⟩
 refine⟨p,rfl,⟨_,aS.of h1⟩,?_⟩
 refine bQ (xs:=us) (λi zs H5=>aE H1 H5/\∃ ds,(∀ j q k,(ps.take i)[j]?=some (q,k)->Num.cR q (ds j))/\bo K H5 (Num.rowsOf (ps.take i) ds) zs) ⟨aE.refl _,λ_=>.none,λj q k z=>by simp at z,rfl⟩ (by rw [ul];exact Nat.le_trans hl (by decide)) (λi zs H5 hi ⟨e1,ds,e2,e3⟩=>⟨aS.of (e1 _ _ h1),by rw [e3.length,Num.ik,List.length_take];omega⟩) ?_ ?_
 ·rintro i v zs H5 hx ⟨s5,ds,hds,hz⟩
  obtain⟨q',k',hy,hok,hdv,ql,pt,rfl,tt⟩:=at_ hx
  show tI K 2 _ _ [none,none,some (.int a')] _ _
  refine⟨pt,_,rfl,tt.same s5,rfl,?_⟩
  k_data
  refine⟨⟨rfl,True.intro⟩,q',a',rfl,hok.1,by omega,hH q' hok.1 hdv,a0,a9,λd v H6 hp6 s6 hv6=>⟨by show 2<=sizeLine;decide,λp7 hp7=>?_⟩⟩
  have s7:=aj (o:=.tup [v,V.int k']) hp7
  have tk:ps.take (i+1)=ps.take i++[(q',k')]:=by rw [List.take_add_one,hy];rfl
  have il:i<ps.length:=(List.getElem?_eq_some_iff.mp hy).1
  have tl:(ps.take i).length=i:=by rw [List.length_take];omega
  refine⟨(s5.trans s6).trans s7,λj=>if j=i then d else ds j,λj q k hj=>?_,?_⟩
  ·rw [tk] at hj
   rcases (by omega:j<i∨j=i∨i<j) with z | z | z
   ·rw [List.getElem?_append_left (by omega)] at hj
    show Num.cR q (if j=i then d else ds j)
    rw [if_neg (by omega)]
    exact hds j q k hj
   ·subst z
    rw [List.getElem?_append_right (by omega),tl,Nat.sub_self] at hj
    show Num.cR q (if j=j then d else ds j)
    rw [if_pos rfl]
    cases hj
    exact hp6
   ·rw [List.getElem?_eq_none (by simp;omega)] at hj
    cases hj
  ·rw [tk,pK (ds:=ds) (λj hj=>if_neg (by omega)),tl,if_pos rfl]
   exact bo.append (bo.same (s6.trans s7) _ hz) (.one (dv.tup ai ⟨_,_,rfl,dv.same s7 _ hv6,.one rfl⟩))
 ·rintro zs H5 p5 ⟨s5,ds,hds,hz⟩ hp5
  rw [ul,List.take_length] at hds hz
  have s6:=aj (o:=.lst zs) hp5
  refine⟨p5,rfl,zs,.inl ⟨aS.of ai,λl hl'=>⟨by show 3<=sizeLine;decide,λp8 hp8=>?_⟩⟩⟩
  generalize upd H5 p5 _=H6 at *
  have s7:=aj (o:=.tup zs) hl'
  have e7:upd H6 l (.tup zs) l=some (.tup zs):=ai
  generalize upd H6 l _=H7 at *
  have s8:=aj (o:=.tup [V.int n,V.int x,V.ref l]) hp8
  refine q _ _ _ (.mk n x ps ds hp (by omega) G hP hl hds) (((((S3.trans s1).trans s5).trans s6).trans s7).trans s8) (dv.tup ai ⟨_,_,rfl,rfl,_,_,rfl,rfl,.one (dv.tup (s8 _ _ e7) (bo.same ((s6.trans s7).trans s8) _ hz))⟩)
theorem qJ (D:aA K mg "_law_paper" (top 50)):Callee P w K mg base aV 2 "_law_paper" ["_law_p","_law_at"] (gB K 0):=by
 refine cO D eU (λf cdv A outer s H vs Q E hr h=>?_)
 obtain⟨n,_,rfl,hp,hn,hH,_⟩:=h
 exact hH.elim
theorem kZ (D:aA K mg "_law_paper" (top 50)) (c__law_parted:Callee P w K mg base aV 1 "_law_parted" ["_law_n"] (jG K)) (c__law_steps:Callee P w K mg base aV 1 "_law_steps" ["_law_p","_law_a"] iZ) (n_len:mg "len"=none) (n_range:mg "range"=none) (n_tuple:mg "tuple"=none):∀ L:Nat,Callee P w K mg base aV (L+2) "_law_paper" ["_law_p","_law_at"] (gB K L)
 | 0=>qJ D
 | L+1=>(qK D c__law_parted c__law_steps n_len n_range (kZ D c__law_parted c__law_steps n_len n_range n_tuple L) n_tuple).mono (by omega)
def jF (K:PySem.W.Frag):Sp:=λvs H Q _=>∃ n at_:Int,vs=[.int n,.int at_]/\Num.Pm n/\n<=1000/\0<=at_/\at_<=10^6/\∀ d v H',Num.cR n d->aE H H'->dv K H' d v->Q v H'
theorem yi (h:Callee P w K mg base aV (30+2) "_law_paper" ["_law_p","_law_at"] (gB K 30)):Callee P w K mg base aV 32 "_law_paper" ["_law_p","_law_at"] (jF K) :=
 Callee.imp h λvs H Q E z=>by
  obtain⟨n,a,h1,h2,h3,h4,h5,q⟩:=z
  exact⟨n,a,h1,h2,h3,Num.Aw h2 (by omega),h4,h5,q⟩
theorem DC {H:Hp} {d1:PyData} {xs:List V} (h:bo K H [d1] xs):∃ x1,xs=[x1]/\dv K H d1 x1:=by
 obtain⟨x1,r,rfl,e1,z⟩:=h
 exact⟨x1,congrArg (x1::·) z,e1⟩
theorem DD {H:Hp} {d1 d2:PyData} {xs:List V} (h:bo K H [d1,d2] xs):∃ x1 x2,xs=[x1,x2]/\dv K H d1 x1/\dv K H d2 x2:=by
 obtain⟨x1,r,rfl,e1,z⟩:=h
 obtain⟨x2,rfl,e2⟩:=DC z
 exact⟨x1,x2,rfl,e1,e2⟩
theorem BW {H:Hp} {d1 d2 d3:PyData} {xs:List V} (h:bo K H [d1,d2,d3] xs):∃ x1 x2 x3,xs=[x1,x2,x3]/\dv K H d1 x1/\dv K H d2 x2/\dv K H d3 x3:=by
 obtain⟨x1,r,rfl,e1,z⟩:=h
 obtain⟨x2,x3,rfl,e2⟩:=DD z
 exact⟨x1,x2,x3,rfl,e1,e2⟩
theorem qw {H:Hp} {d1 d2 d3:PyData} {v:V} (h:dv K H (.tuple [d1,d2,d3]) v):∃ p x1 x2 x3,v=.ref p/\aY K H p [x1,x2,x3]/\dv K H d1 x1/\dv K H d2 x2/\dv K H d3 x3:=by
 obtain⟨p,xs,hv,h1,h⟩:=h
 obtain⟨x1,x2,x3,rfl,e⟩:=BW h
 exact⟨p,x1,x2,x3,hv,h1,e⟩
def zU (K:PySem.W.Frag):Sp:=λvs H Q _=>∃ d v,vs=[v]/\dv K H d v/\Q (.bl (gH d)) H
theorem j3:aC ["thing"] ["thing"] (ao (top 9)):=c7
theorem DQ (D:aA K mg "is_whole" (top 9)) (n_isinstance:mg "isinstance"=none) (n_int:mg "int"=none) (n_bool:mg "bool"=none):Callee P w K mg base aV 1 "is_whole" ["thing"] (zU K):=by
 refine cO D j3 (λf cdv A outer s H vs Q E hr h=>?_)
 obtain⟨d,v,rfl,hd,q⟩:=h
 have nd:=j3.nd
 refine⟨_,(ak (au (bG (av bA rfl n_isinstance PyProof.Rows.boot_isinstance (aa (pv 0) (aa (bZ (v:=.ty "int") rfl n_int L2.boot_int rfl) ae))) (cA (A2 (av bA rfl n_isinstance PyProof.Rows.boot_isinstance (aa (pv 0) (aa (bZ (v:=.ty "bool") rfl n_bool L2.boot_bool rfl) ae)))))))),?_⟩
 show gT _ _ [some v] H
 k_data
 refine rO hd ?_
 k_data
 refine aH (λc=>?_) (λc=>?_)
 ·refine kQ hd ?_
  k_data
  cases d<;>first | exact q | simp [gH,DJ] at c
 ·cases d<;>first | exact q | exact absurd rfl c
def dz:PyData->Nat->Bool
 | .tuple ds,m=>decide (ds.length=m)
 | _,_=>false
def j4 (K:PySem.W.Frag):Sp:=λvs H Q _=>∃ d v,∃ m:Nat,vs=[v,.int m]/\dv K H d v/\Q (.bl (dz d m)) H
theorem gw:aC ["thing","many"] ["thing","many"] (ao (top 10)):=c7
theorem AW (D:aA K mg "is_tuple_of" (top 10)) (n_isinstance:mg "isinstance"=none) (n_tuple:mg "tuple"=none) (n_len:mg "len"=none):Callee P w K mg base aV 1 "is_tuple_of" ["thing","many"] (j4 K):=by
 refine cO D gw (λf cdv A outer s H vs Q E hr h=>?_)
 obtain⟨d,v,m,rfl,hd,q⟩:=h
 have nd:=gw.nd
 refine⟨_,(ak (au (bG (av bA rfl n_isinstance PyProof.Rows.boot_isinstance (aa (pv 0) (aa (bZ (v:=.ty "tuple") rfl n_tuple L2.boot_tuple rfl) ae))) (cA (bh ba (av aG rfl n_len PySem.boot_len (aa (pv 0) ae)) (pv 1) (aq _)))))),?_⟩
 show gT _ _ [some v,some (.int m)] H
 k_data
 refine cT hd ?_
 k_data
 refine aH (λc=>?_) (λc=>?_)
 ·cases d with
  | tuple ds =>
   obtain⟨p,xs,rfl,hS,ht⟩:=hd
   refine dj hS ⟨kr,?_⟩
   have:decide (V.int (xs.length:Int)=V.int (m:Int))=dz (.tuple ds) m:=by
    show _=decide (ds.length=m)
    rw [ht.length]
    refine decide_eq_decide.mpr ⟨λz=>?_,λz=>by rw [z]⟩
    have:=V.int.inj z
    omega
   rw [this]
   exact q
  | _=>exact absurd c (by simp [B8])
 ·cases d<;>first | exact q | exact absurd rfl c
theorem dR {d:PyData} (h:gH d=true):∃ i,d=.int i:=by
 cases d<;>first | exact⟨_,rfl⟩ | cases h
theorem iG {d:PyData} (h:B8 d=true):∃ i,d=.tuple i:=by
 cases d<;>first | exact⟨_,rfl⟩ | cases h
def PF (d:PyData):Prop:=∃(p g:Int) (rows:List PyData),d=.tuple [.int p,.int g,.tuple rows]/\2<=p
def Bg (K:PySem.W.Frag):Sp:=λvs H Q _=>∃ d v,vs=[v]/\dv K H d v/\∀ b:Bool,(b=true↔PF d)->Q (.bl b) H
theorem BU {H:Hp} {d1 d2 d3:PyData} {v:V} (h:dv K H (.tuple [d1,d2,d3]) v):∃ p x1 x2 x3,v=.ref p/\aY K H p [x1,x2,x3]/\dv K H d1 x1/\dv K H d2 x2/\dv K H d3 x3:=by
 obtain⟨p,xs,rfl,h1,x1,r1,rfl,e1,x2,r2,rfl,e2,x3,r3,rfl,e3,z⟩:=h
 cases z
 exact⟨p,x1,x2,x3,rfl,h1,e1,e2,e3⟩
theorem DM {ds:List PyData} (h:ds.length=3):∃ a b c,ds=[a,b,c]:=by
 match ds,h with
 | [a,b,c],_=>exact⟨a,b,c,rfl⟩
theorem fe:aC ["thing","p","full","parts"] ["thing"] (ao (top 23)):=c7
theorem Ci (D:aA K mg "is_paper_form" (top 23)) (c_is_whole:Callee P w K mg base aV 1 "is_whole" ["thing"] (zU K)) (c_is_tuple_of:Callee P w K mg base aV 1 "is_tuple_of" ["thing","many"] (j4 K)) (n_isinstance:mg "isinstance"=none) (n_tuple:mg "tuple"=none):Callee P w K mg base aV 2 "is_paper_form" ["thing"] (Bg K):=by
 refine cO D fe (λf cdv A outer s H vs Q E hr h=>?_)
 obtain⟨d,v,rfl,hd,q⟩:=h
 have nd:=fe.nd
 refine⟨_,(ag (aQ (bX (aM (br c_is_tuple_of hr ay (aa (pv 0) (aa af ae))) (λ_=>rfl))) (ak (au bO)) aD) (ag (fz (pv 0) (ie (n:=3) rfl (bc (aF (i:=1) nd rfl (Or.inl rfl) (.inr rfl)) (bc (aF (i:=2) nd rfl (Or.inl rfl) (.inr rfl)) (bc (aF (i:=3) nd rfl (Or.inl rfl) (.inr rfl)) cW))))) (ak (au (bG (br c_is_whole hr ay (aa (pv 1) ae)) (bG (bh we (pv 1) af (aq _)) (bG (br c_is_whole hr ay (aa (pv 2) ae)) (cA (av bA rfl n_isinstance PyProof.Rows.boot_isinstance (aa (pv 3) (aa (bZ (v:=.ty "tuple") rfl n_tuple L2.boot_tuple rfl) ae))))))))))),?_⟩
 show b9 _ _ _ [some v,none,none,none] H
 k_data
 refine⟨d,v,3,rfl,hd,dz d 3,aO.mpr rfl,?_⟩
 refine aH (λc=>?_) (λc=>?_)
 ·refine q false ⟨λz=>(by cases z),fun⟨p,g,rows,e,_⟩=>?_⟩
  rw [e] at c
  cases c
 ·cases d with
  | tuple ds =>
   obtain⟨d1,d2,d3,rfl⟩:=DM (ds:=ds) (by simpa [dz] using c)
   obtain⟨p,x1,x2,x3,rfl,hS,e1,e2,e3⟩:=BU hd
   refine⟨p,_,rfl,hS,rfl,?_⟩
   k_data
   refine⟨d1,x1,rfl,e1,gH d1,rfl,?_⟩
   refine aH (λc1=>?_) (λc1=>?_)
   ·obtain⟨i,rfl⟩:=dR c1
    cases e1
    refine⟨i,rfl,?_⟩
    refine aH (λc2=>?_) (λc2=>?_)
    ·refine⟨d2,x2,rfl,e2,gH d2,rfl,?_⟩
     refine aH (λc3=>?_) (λc3=>?_)
     ·obtain⟨j,rfl⟩:=dR c3
      refine cT e3 (q _ ⟨λz=>?_,λz=>?_⟩)
      ·obtain⟨rows,rfl⟩:=iG z
       exact⟨i,j,rows,rfl,c2⟩
      ·obtain⟨p,g,rows,e,_⟩:=z
       cases e
       rfl
     ·refine q false ⟨λz=>(by cases z),fun⟨p,g,rows,e,_⟩=>?_⟩
      cases e
      exact absurd rfl c3
    ·refine q false ⟨λz=>(by cases z),fun⟨p,g,rows,e,h2⟩=>?_⟩
     cases e
     exact absurd h2 c2
   ·refine q false ⟨λz=>(by cases z),fun⟨p,g,rows,e,_⟩=>?_⟩
    cases e
    exact absurd rfl c1
  | _=>exact absurd rfl c
def RF (width:Nat) (d:PyData):Prop:=∃(pd:PyData) (k:Int) (more:List PyData),d=.tuple (pd::.int k::more)/\more.length+2=width/\PF pd/\1<=k
def CB (K:PySem.W.Frag):Sp:=λvs H Q _=>∃ d v,∃ m:Nat,vs=[v,.int m]/\2<=m/\dv K H d v/\∀ b:Bool,(b=true↔RF m d)->Q (.bl b) H
theorem jc {x y:V} {r:List V}:qp (x::y::r) 1=some y:=by
 unfold qp qC
 simp
 rw [if_pos (by omega)]
 rfl
theorem gm:aC ["thing","width"] ["thing","width"] (ao (top 25)):=c7
theorem Cm (D:aA K mg "is_row_form" (top 25)) (c_is_whole:Callee P w K mg base aV 1 "is_whole" ["thing"] (zU K)) (c_is_tuple_of:Callee P w K mg base aV 1 "is_tuple_of" ["thing","many"] (j4 K)) (c_is_paper_form:Callee P w K mg base aV 2 "is_paper_form" ["thing"] (Bg K)):Callee P w K mg base aV 3 "is_row_form" ["thing","width"] (CB K):=by
 refine cO D gm (λf cdv A outer s H vs Q E hr h=>?_)
 obtain⟨d,v,m,rfl,hm,hd,q⟩:=h
 have nd:=gm.nd
 refine⟨_,(ak (au (bG (br c_is_tuple_of hr ay (aa (pv 0) (aa (pv 1) ae))) (bG (br c_is_paper_form hr ay (aa (aB aI (pv 0) af (λ_ _=>rfl)) ae)) (bG (br c_is_whole hr ay (aa (aB aI (pv 0) af (λ_ _=>rfl)) ae)) (cA (bh we (aB aI (pv 0) af (λ_ _=>rfl)) af (aq _)))))))),?_⟩
 show gT _ _ [some v,some (.int m)] H
 k_data
 refine⟨d,v,m,rfl,hd,dz d m,rfl,?_⟩
 refine aH (λc=>?_) (λc=>?_)
 ·cases d with
  | tuple ds =>
   have hl:ds.length=m:=by simpa [dz] using c
   obtain⟨d1,d2,more,rfl⟩:∃ a b c,ds=a::b::c:=by
    match ds,hl with
    | [],h=>exact absurd h (by simp;omega)
    | [a],h=>exact absurd h (by simp;omega)
    | a::b::c,_=>exact⟨a,b,c,rfl⟩
   obtain⟨p,xs,rfl,hS,x1,r1,rfl,e1,x2,r2,rfl,e2,e3⟩:=hd
   refine bj hS fL ⟨d1,x1,rfl,e1,λb hb=>⟨b,rfl,?_⟩⟩
   refine aH (λc1=>?_) (λc1=>?_)
   ·have hPF:=hb.mp c1
    refine bj hS jc ⟨d2,x2,rfl,e2,gH d2,rfl,?_⟩
    refine aH (λc2=>?_) (λc2=>?_)
    ·obtain⟨k,rfl⟩:=dR c2
     cases e2
     refine bj hS jc ⟨k,rfl,?_⟩
     refine q _ ⟨λz=>⟨d1,k,more,rfl,by simpa using hl,hPF,of_decide_eq_true z⟩,fun⟨pd,k',more',e,_,_,hk⟩=>?_⟩
     cases e
     exact decide_eq_true hk
    ·refine q false ⟨λz=>(by cases z),fun⟨pd,k,more',e,_⟩=>?_⟩
     cases e
     exact absurd rfl c2
   ·refine q false ⟨λz=>(by cases z),fun⟨pd,k,more',e,_,h3,_⟩=>?_⟩
    cases e
    exact absurd (hb.mpr h3) c1
  | _=>exact absurd c (by simp [dz])
 ·refine q false ⟨λz=>(by cases z),fun⟨pd,k,more,e,h2,_⟩=>?_⟩
  rw [e] at c
  exact absurd (decide_eq_true (by simpa using h2)) c
def Wo (n q k r:Int):Prop:=(q^k.toNat∣n/\n=q^k.toNat*r)∨(¬q^k.toNat∣n/\r=0)
def CC:Sp:=λvs H Q _=>∃ n q k:Int,vs=[.int n,.int q,.int k]/\1<=n/\n<=10^110/\2<=q/\q<=10^110/\1<=k/\∀ r,Wo n q k r->0<=r->r<=n->Q (.int r) H
theorem lI:aC ["whole","prime","many","left","missing"] ["whole","prime","many"] (ao (top 26)):=c7
theorem Cn (D:aA K mg "without" (top 26)):Callee P w K mg base aV 1 "without" ["whole","prime","many"] CC:=by
 refine cO D lI (λf cdv A outer s H vs Q E hr h=>?_)
 obtain⟨n,q,k,rfl,n1,n9,q2,q9,k1,Qr⟩:=h
 have nd:=lI.nd
 refine⟨_,(ag (cp (i:=3) nd (pv 0)) (ag (cp (i:=4) nd (pv 2)) (ag (cL PassesOwn.never (PW.pt (cN (ax gY (pv 4) af (aq _)) (cI (ax ba (aw aU (pv 3) (pv 1)) af (aq _))))) (ag (nN (i:=3) nd rfl (Or.inl rfl) (pv 1) (rM oW)) (ak (nN (i:=4) nd rfl (Or.inl rfl) af (rM yf))))) (ak (au (fS (ax ba (pv 4) af (aq _)) (pv 3) af)))))),?_⟩
 show b9 _ _ _ [some (.int n),some (.int q),some (.int k),none,none] H
 k_data
 refine cM (α:=Int × Int) (λx=>[some (.int n),some (.int q),some (.int k),some (.int x.1),some (.int x.2)]) (λx H1=>H1=H/\1<=x.1/\x.1<=n/\0<=x.2/\x.2<=k/\n=q^(k-x.2).toNat*x.1) (λx=>x.1.toNat) (n,k) rfl ⟨rfl,n1,Int.le_refl _,by show 0<=k;omega,Int.le_refl _,by show n=q^(k-k).toNat*n;rw [Int.sub_self];show n=q^0*n;rw [Int.pow_zero,Int.one_mul]⟩ ?_
 rintro⟨l,m⟩ H1 ⟨rfl,l1,l2,m0,m1,e⟩
 replace l1:1<=l:=l1
 replace l2:l<=n:=l2
 replace m0:0<=m:=m0
 replace m1:m<=k:=m1
 replace e:n=q^(k-m).toNat*l:=e
 k_data
 refine aH (λc=>?_) (λc=>?_)
 ·refine⟨by omega,?_⟩
  refine aH (λc2=>?_) (λc2=>?_)
  ·obtain⟨y,hy⟩:=Int.dvd_of_emod_eq_zero c2
   have ey:l/q=y:=by rw [hy];exact Int.mul_ediv_cancel_left _ (by omega)
   have y1:1<=y:=by
    rcases (by omega:y<=0∨1<=y) with z | z
    ·have:=Int.mul_nonpos_of_nonneg_of_nonpos (show 0<=q by omega) z
     omega
    ·exact z
   have yl:y<l:=by
    rw [hy]
    have:=Int.mul_le_mul_of_nonneg_right q2 (show 0<=y by omega)
    omega
   refine⟨_,λ_ _ z=>z,by omega,Bd.of (by omega) (by omega),(y,m-1),by rw [ey],rfl,y1,by show y<=n;omega,by show 0<=m-1;omega,by show m-1<=k;omega,?_,by show y.toNat<l.toNat;omega⟩
   show n=q^(k-(m-1)).toNat*y
   rw [show (k-(m-1)).toNat=(k-m).toNat+1 by omega,Int.pow_succ,Int.mul_assoc,<- hy]
   exact e
  ·rw [if_neg (by omega)]
   refine Qr 0 (.inr ⟨λz=>?_,rfl⟩) (Int.le_refl _) (by omega)
   have pp:=Num.bN (show 0<q by omega) (k-m).toNat
   obtain⟨t,ht⟩:=z
   have e3:q^k.toNat=q^(k-m).toNat*q^m.toNat:=by rw [<- Pw.pow_add];congr 1;omega
   rw [e,e3,Int.mul_assoc] at ht
   have ht2:=Int.eq_of_mul_eq_mul_left (by omega) ht
   obtain⟨j,hj⟩:∃ j,m.toNat=j+1:=⟨m.toNat-1,by omega⟩
   rw [hj,Int.pow_succ,Int.mul_comm (q^j) q,Int.mul_assoc] at ht2
   exact c2 (Int.emod_eq_zero_of_dvd ⟨_,ht2⟩)
 ·have mz:m=0:=by omega
  rw [if_pos mz]
  rw [mz,Int.sub_zero] at e
  exact Qr l (.inl ⟨⟨l,e⟩,e⟩) (by omega) l2
def CT (width:Nat):Int->Int->List PyData->Prop
 | left,_,[]=>left=1
 | left,last,d::ds=>1<=left/\∃(p g k:Int) (rows more:List PyData),d=.tuple (.tuple [.int p,.int g,.tuple rows]::.int k::more)/\more.length+2=width/\2<=p/\1<=k/\last<p/\∃ r,Wo left p k r/\CT width r p ds
def Cy (K:PySem.W.Frag):Sp:=λvs H Q _=>∃(n:Int) (rows:List PyData) (v:V) (m:Nat),vs=[.int n,v,.int m]/\2<=m/\n<=10^110/\dv K H (.tuple rows) v/\(∀(p g k:Int) (rs more:List PyData),.tuple (.tuple [.int p,.int g,.tuple rs]::.int k::more)∈rows->p<=10^110)/\∀ b:Bool,(b=true↔CT m n 1 rows)->Q (.bl b) H
theorem Wo.one {n q k r r':Int} (h2:2<=q) (h:Wo n q k r) (h':Wo n q k r'):r=r':=by
 have pp:=Num.bN (show 0<q by omega) k.toNat
 rcases h with⟨h1,h2⟩|⟨h1,h2⟩<;>rcases h' with⟨h3,h4⟩|⟨h3,h4⟩
 ·exact Int.eq_of_mul_eq_mul_left (by omega) (h2.symm.trans h4)
 ·exact absurd h1 h3
 ·exact absurd h3 h1
 ·rw [h2,h4]
theorem lF:aC ["n","rows","width","left","last","row"] ["n","rows","width"] (ao (top 24)):=c7
theorem Cg (D:aA K mg "come_to" (top 24)) (c_is_row_form:Callee P w K mg base aV 3 "is_row_form" ["thing","width"] (CB K)) (c_without:Callee P w K mg base aV 1 "without" ["whole","prime","many"] CC):Callee P w K mg base aV 4 "come_to" ["n","rows","width"] (Cy K):=by
 refine cO D lF (λf cdv A outer s H vs Q E hr h=>?_)
 obtain⟨n,rows,v,m,rfl,hm,n9,hd,hb9,q⟩:=h
 obtain⟨p,xs,rfl,hS,ht⟩:=hd
 have nd:=lF.nd
 refine⟨_,(ag (cp (i:=3) nd (pv 0)) (ag (cp (i:=4) nd af) (ag (dZ PassesOwn.never rfl (nL (pv 1)) (aF (i:=5) nd rfl (Or.inl rfl) (.inr rfl)) (ag (aQ (PW.pt (cF (ax cU (pv 3) af (aq _)) (cF (bX (aM (br c_is_row_form hr ay (aa (pv 5) (aa (pv 2) ae))) (λ_=>rfl))) (d5 (ax lb (aB aI (aB aI (pv 5) af (λ_ _=>rfl)) af (λ_ _=>rfl)) (pv 4) (aq _)))))) (ak (au bO)) aD) (ag (cp (i:=4) nd (aB aI (aB aI (pv 5) af (λ_ _=>rfl)) af (λ_ _=>rfl))) (ak (cp (i:=3) nd (br c_without hr ay (aa (pv 3) (aa (pv 4) (aa (aB aI (pv 5) af (λ_ _=>rfl)) ae))))))))) (ak (au (bh ba (pv 3) af (aq _))))))),?_⟩
 show b9 _ _ _ [some (.int n),some (.ref p),some (.int m),none,none,none] H
 k_data
 refine⟨⟨_,hS⟩,?_⟩
 refine vK (xs:=xs) (λi σ' H'=>H'=H/\∃(l t:Int) (o:Option V),σ'=[some (.int n),some (.ref p),some (.int m),some (.int l),some (.int t),o]/\l<=10^110/\(CT m n 1 rows↔CT m l t (rows.drop i))) ⟨rfl,n,1,none,rfl,n9,by rw [List.drop_zero]⟩ (λi σ' H' _ h=>by rw [h.1];exact hS) ?_ ?_
 ·rintro i x σ' H' hx ⟨rfl,l,t,o,rfl,l9,hc⟩
  obtain⟨d,hd,hv⟩:=ht.get hx
  have dr:rows.drop i=d::rows.drop (i+1):=by
   obtain⟨hi,e⟩:=List.getElem?_eq_some_iff.mp hd
   rw [List.drop_eq_getElem_cons hi,e]
  rw [dr] at hc
  k_data
  refine aH (λc=>?_) (λc=>?_)
  ·exact q false ⟨λz=>(by cases z),λz=>absurd (hc.mp z).1 (by omega)⟩
  refine⟨d,x,m,rfl,hm,hv,λb hb=>⟨b,aO.mpr rfl,?_⟩⟩
  refine aH (λc1=>?_) (λc1=>?_)
  ·refine q false ⟨λz=>(by cases z),λz=>?_⟩
   obtain⟨_,p',g',k',rs',more',e1,e2,e3,e4,_⟩:=hc.mp z
   have:=hb.mpr ⟨_,k',more',e1,e2,⟨p',g',rs',rfl,e3⟩,e4⟩
   rw [c1] at this
   cases this
  ·obtain⟨pd,k,more,rfl,f2,⟨p',g,rs,rfl,f3⟩,f4⟩:=hb.mp (by simpa using c1)
   obtain⟨a1,y1,rfl,t1,u1,r1,rfl,hv2,u2,r2,rfl,hk,hmr⟩:=hv
   obtain⟨a2,x1,x2,x3,rfl,t2,w1,w2,w3⟩:=BU hv2
   cases w1
   cases hk
   refine bj t1 fL (bj t2 fL ⟨p',rfl,?_⟩)
   refine aH (λc2=>?_) (λc2=>?_)
   ·refine q false ⟨λz=>(by cases z),λz=>?_⟩
    obtain⟨_,p2,g2,k2,rs2,more2,e1,e2,e3,e4,e5,_⟩:=hc.mp z
    cases e1
    omega
   ·have p9:=hb9 p' g k rs more (List.mem_of_getElem? hd)
    refine bj t1 fL (bj t2 fL (bj t1 jc ⟨l,p',k,rfl,by omega,l9,f3,p9,f4,λr hr' r0 r1=>⟨rfl,r,rfl,p',rfl,by omega,?_⟩⟩))
    rw [hc]
    constructor
    ·rintro⟨_,p2,g2,k2,rs2,more2,e1,e2,e3,e4,e5,r',e6,e7⟩
     cases e1
     rw [hr'.one f3 e6]
     exact e7
    ·intro z
     exact⟨by omega,p',g,k,rs,more,rfl,f2,f3,f4,by omega,r,hr',z⟩
 ·rintro σ' H' ⟨rfl,l,t,o,rfl,l9,hc⟩
  k_data
  rw [ht.length,List.drop_length] at hc
  refine q _ ?_
  rw [hc]
  exact decide_eq_true_iff
end
end K
namespace K
open PySem PySem.Spec PyProof.Rows L2
mutual
def iX:PyData->Prop
 | .int i=>i<=10^110
 | .tuple ds=>fC ds
 | .list ds=>fC ds
 | _=>True
def fC:List PyData->Prop
 | []=>True
 | d::ds=>iX d/\fC ds
end
mutual
def c6:PyData->Nat
 | .tuple ds=>1+bJ ds
 | .list ds=>1+bJ ds
 | _=>1
def bJ:List PyData->Nat
 | []=>0
 | d::ds=>c6 d+bJ ds
end
theorem en:∀{ds:List PyData} {d:PyData},fC ds->d∈ds->iX d
 | a::r,d,⟨h1,h2⟩,h=>by
  rcases List.mem_cons.mp h with z | z
  ·rw [z];exact h1
  ·exact en h2 z
theorem gP:∀{ds:List PyData},(∀ d∈ds,iX d)->fC ds
 | [],_=>True.intro
 | a::r,h=>⟨h a (by simp),gP λd hd=>h d (List.mem_cons_of_mem _ hd)⟩
theorem gD:∀(xs ys:List PyData),bJ (xs++ys)=bJ xs+bJ ys
 | [],ys=>by simp [bJ]
 | a::r,ys=>by
  show c6 a+bJ (r++ys)=c6 a+bJ r+bJ ys
  rw [gD r ys]
  omega
theorem nX:∀ d:PyData,1<=c6 d
 | .tuple _=>by simp [c6]
 | .list _=>by simp [c6]
 | .none=>Nat.le_refl _
 | .bool _=>Nat.le_refl _
 | .int _=>Nat.le_refl _
 | .str _=>Nat.le_refl _
 | .dict _=>by simp [c6]
theorem fg:∀ ds:List PyData,ds.length<=bJ ds
 | []=>Nat.le_refl _
 | a::r=>by
  have:=nX a
  have:=fg r
  show r.length+1<=c6 a+bJ r
  omega
def lW:PyData->PyData
 | .tuple (x::_)=>x
 | _=>.none
def qD:PyData->Int
 | .tuple (.tuple (.int q::_)::_)=>q
 | _=>0
def RA (d:PyData):Prop:=∃(p g:Int) (rows:List PyData),d=.tuple [.int p,.int g,.tuple rows]/\2<=p/\1<=g/\g<p/\CT 2 (p-1) 1 rows/\BD p g (p-1) (rows.map qD)
inductive PP:PyData->Prop
 | mk (p g:Int) (rows:List PyData):RA (.tuple [.int p,.int g,.tuple rows])->(∀ r∈rows,PP (lW r))->PP (.tuple [.int p,.int g,.tuple rows])
theorem kh {w:Nat} {rows:List PyData}:∀{l t:Int},CT w l t rows->∀ r∈rows,∃(p g k:Int) (rs more:List PyData),r=.tuple (.tuple [.int p,.int g,.tuple rs]::.int k::more)/\2<=p/\1<=k/\more.length+2=w:=by
 induction rows with
 | nil =>
  intro l t _ r hr
  cases hr
 | cons d ds ih =>
  intro l t h r hr
  rcases List.mem_cons.mp hr with z | z
  ·obtain⟨p,g,k,rs,more,e1,e2,e3,e4,_⟩:=h.2
   exact⟨p,g,k,rs,more,z.trans e1,e3,e4,e2⟩
  ·obtain⟨p,g,k,rs,more,_,_,_,_,_,r',_,e7⟩:=h.2
   exact ih e7 r z
theorem Ao {w:Nat} {rows:List PyData} {l t:Int} (h:CT w l t rows):C3 rows (rows.map qD):=by
 refine⟨by rw [List.length_map],λi row hi=>?_⟩
 obtain⟨p,g,k,rs,more,e,_⟩:=kh h row (List.mem_of_getElem? hi)
 exact⟨p,by rw [List.getElem?_map,hi,e];rfl,[.int g,.tuple rs],.int k::more,e⟩
section
variable {P:Program} {w:World} {K:PySem.W.Frag} {mg:Str->Option Value} {base:Heap}
def CA (K:PySem.W.Frag):Sp:=λvs H Q _=>∃ d v,vs=[v]/\dv K H d v/\iX d/\c6 d<=10^6/\∀ b H',(b=true↔RA d)->aE H H'->Q (.bl b) H'
theorem eQ:aC ["thing","p","full","parts"] ["thing"] (ao (top 22)):=c7
theorem Ck (D:aA K mg "is_right_above" (top 22)) (c_is_paper_form:Callee P w K mg base aV 2 "is_paper_form" ["thing"] (Bg K)) (c_come_to:Callee P w K mg base aV 4 "come_to" ["n","rows","width"] (Cy K)) (c_is_least:Callee P w K mg base aV 5 "is_least" ["n","a","e","primes"] (jD K)) (c_primes_in:Callee P w K mg base aV 1 "primes_in" ["parts"] (ir K)):Callee P w K mg base aV 6 "is_right_above" ["thing"] (CA K):=by
 refine cO D eQ (λf cdv A outer s H vs Q E hr h=>?_)
 obtain⟨d,v,rfl,hd,hs,hz,q⟩:=h
 have nd:=eQ.nd
 refine⟨_,(ag (aQ (bX (aM (br c_is_paper_form hr ay (aa (pv 0) ae)) (λ_=>rfl))) (ak (au bO)) aD) (ag (fz (pv 0) (ie (n:=3) rfl (bc (aF (i:=1) nd rfl (Or.inl rfl) (.inr rfl)) (bc (aF (i:=2) nd rfl (Or.inl rfl) (.inr rfl)) (bc (aF (i:=3) nd rfl (Or.inl rfl) (.inr rfl)) cW))))) (ak (au (bG (lh lb cU af (pv 2) (pv 1)) (bG (br c_come_to hr ay (aa (aw cq (pv 1) af) (aa (pv 3) (aa af ae)))) (cA (br c_is_least hr ay (aa (pv 1) (aa (pv 2) (aa (aw cq (pv 1) af) (aa (br c_primes_in hr ay (aa (pv 3) ae)) ae)))))))))))),?_⟩
 show b9 _ _ _ [some v,none,none,none] H
 k_data
 refine⟨d,v,rfl,hd,λb hb=>⟨b,aO.mpr rfl,?_⟩⟩
 refine aH (λc=>?_) (λc=>?_)
 ·refine q false _ ⟨λz=>(by cases z),fun⟨p,g,rows,e,p2,_⟩=>?_⟩ (aE.refl _)
  have:=hb.mpr ⟨p,g,rows,e,p2⟩
  rw [c] at this
  cases this
 ·obtain⟨p,g,rows,rfl,p2⟩:=hb.mp (by simpa using c)
  obtain⟨pa,x1,x2,x3,rfl,hS,e1,e2,e3⟩:=BU hd
  cases e1
  cases e2
  refine⟨pa,_,rfl,hS,rfl,?_⟩
  k_data
  simp only [jJ,xn,tC,wK,List.getElem?_cons_zero,List.getElem?_cons_succ,Option.some.injEq,exists_eq_left',V.int.injEq,exists_and_left,V.bl.injEq]
  obtain⟨hp9,hrows⟩:p<=10^110/\fC rows:=by
   simp only [iX,fC,and_true] at hs
   exact⟨hs.1,hs.2.2⟩
  have hzr:bJ rows<=10^6:=by
   simp only [c6,bJ] at hz
   omega
  have no:∀{b:Bool},b=false->¬RA (.tuple [.int p,.int g,.tuple rows])->(b=true↔RA (.tuple [.int p,.int g,.tuple rows])):=λe n=>⟨λz=>(by rw [e] at z;cases z),λz=>absurd z n⟩
  refine aH (λc1=>?_) (λc1=>?_)
  ·refine aH (λc2=>?_) (λc2=>?_)
   ·have g1:1<=g:=of_decide_eq_true c1
    have g2:g<p:=of_decide_eq_true c2
    refine⟨p-1,rows,x3,2,rfl,by decide,by omega,e3,λp' g' k' rs more hm=>?_,λb1 hb1=>⟨b1,rfl,?_⟩⟩
    ·have:=en hrows hm
     simp only [iX,fC] at this
     exact this.1.1
    refine aH (λc3=>?_) (λc3=>?_)
    ·have hct:=hb1.mp c3
     have hh:=Ao hct
     have rl:rows.length<=10^6:=Nat.le_trans (fg rows) hzr
     refine⟨x3,rows,rows.map qD,rfl,e3,hh,rl,λpq H1 s1 f1 h1=>?_⟩
     refine⟨p,g,p-1,pq,rows.map qD,rfl,by omega,by omega,by omega,by omega,aS.of h1,λy hy=>?_,by rw [List.length_map];exact rl,λb2 H2 hb2 s2=>?_⟩
     ·obtain⟨r,hr',rfl⟩:=List.mem_map.mp hy
      obtain⟨p',g',k',rs,more,e,h2,_⟩:=kh hct r hr'
      have:=en hrows hr'
      rw [e] at this ⊢
      simp only [iX,fC] at this
      show 0<p'/\p'<=_
      omega
     ·refine q b2 H2 (hb2.trans ⟨λz=>⟨p,g,rows,rfl,p2,g1,g2,hct,z⟩,fun⟨p',g',rows',e,_,_,_,_,z⟩=>?_⟩) (s1.trans s2)
      cases e
      exact z
    ·refine q false _ (no rfl fun⟨p',g',rows',e,_,_,_,z,_⟩=>?_) (aE.refl _)
     cases e
     exact c3 (hb1.mpr z)
   ·refine q false _ (no rfl fun⟨p',g',rows',e,_,_,z,_⟩=>?_) (aE.refl _)
    cases e
    exact c2 (decide_eq_true z)
  ·refine q false _ (no rfl fun⟨p',g',rows',e,_,z,_⟩=>?_) (aE.refl _)
   cases e
   exact c1 (decide_eq_true z)
theorem oK {H:Hp}:∀{ds:List PyData} {us:List V},bo K H ds us->ds≠[]->∃ ds' d us' u,ds=ds'++[d]/\us=us'++[u]/\bo K H ds' us'/\dv K H d u
 | [d],us,⟨x,r,e,h,t⟩,_=>by
  cases t
  exact⟨[],d,[],x,rfl,e,rfl,h⟩
 | d::d2::ds,us,⟨x,r,e,h,t⟩,_=>by
  obtain⟨ds',d',us',u,e1,e2,h1,h2⟩:=oK t (by simp)
  exact⟨d::ds',d',x::us',u,by rw [e1];rfl,by rw [e,e2];rfl,⟨x,us',rfl,h,h1⟩,h2⟩
theorem lL:∀ rows:List PyData,bJ (rows.map lW)<=bJ rows
 | []=>Nat.le_refl _
 | a::r=>by
  have h1:=lL r
  have h2:c6 (lW a)<=c6 a:=by
   match a with
   | .tuple (x::xs) =>
    show c6 x<=1+(c6 x+bJ xs)
    omega
   | .tuple []=>exact Nat.le_refl _
   | .list ds=>exact nX (.list ds)
   | .none=>exact Nat.le_refl _
   | .bool _=>exact Nat.le_refl _
   | .int _=>exact Nat.le_refl _
   | .str _=>exact Nat.le_refl _
   | .dict ds=>exact nX (.dict ds)
  show c6 (lW a)+bJ (r.map lW)<=c6 a+bJ r
  omega
def xc (K:PySem.W.Frag):Sp:=λvs H Q _=>∃(p:Addr) (ds:List PyData) (us:List V),vs=[.ref p]/\(aS K H p us∨aY K H p us)/\bo K H ds us/\fC ds/\bJ ds<=10^6/\∀ b H',(b=true↔∀ d∈ds,PP d)->aE H H'->Q (.bl b) H'
theorem dI:aC ["things","waiting","paper"] ["things"] (ao (top 21)):=c7
theorem AU (D:aA K mg "are_prime_papers" (top 21)) (c_is_right_above:Callee P w K mg base aV 6 "is_right_above" ["thing"] (CA K)) (n_list:mg "list"=none):Callee P w K mg base aV 7 "are_prime_papers" ["things"] (xc K):=by
 refine cO D dI (λf cdv A outer s H vs Q E hr h=>?_)
 obtain⟨p,ds0,us0,rfl,hS,hd0,hsm0,hsz0,q⟩:=h
 have nd:=dI.nd
 refine⟨_,(ag (cp (i:=1) nd (bp cf rfl n_list L2.boot_list (aa (pv 0) ae))) (ag (cL PassesOwn.never (aM (pv 1) (λ_=>rfl)) (ag (cp (i:=2) nd (AZ PySem.F.plainAttrs_list PySem.F.slot_list_pop PySem.F.type_list_pop AL (pv 1))) (ag (aQ (bX (aM (br c_is_right_above hr ay (aa (pv 2) ae)) (λ_=>rfl))) (ak (au bO)) aD) (ak (gO (mJ PySem.F.plainAttrs_list PySem.F.slot_list_extend PySem.F.type_list_extend tZ (pv 1) (aa (c8 rfl (jO (N':=["row"]) (js:=[none]) rfl rfl) (nL (aB aI (pv 2) af (λ_ _=>rfl))) (λ_ _ _ _=>(aF (i:=0) (show List.Nodup [("row":Str)] from by decide +kernel) rfl (Or.inl rfl) (.inr rfl))) (λ_ _ _ _=>bD) (λ_ _ _ _=>(aB (fq K rfl) (pv 0) af (λ_ _=>rfl)))) ae))))))) (ak (au bO)))),?_⟩
 show b9 _ _ _ [some (.ref p),none,none] H
 k_data
 refine⟨us0,hS,λpw hpw=>?_⟩
 refine cM (α:=List PyData × List V × Option V) (λx=>[some (.ref p),some (.ref pw),x.2.2]) (λx H1=>aE H H1/\H1 pw=some (.lst x.2.1)/\bo K H x.1 x.2.1/\fC x.1/\bJ x.1<=10^6/\((∀ d∈ds0,PP d)↔∀ d∈x.1,PP d)) (λx=>bJ x.1) (ds0,us0,none) rfl ⟨aj hpw,ai,hd0,hsm0,hsz0,Iff.rfl⟩ ?_
 rintro⟨ds,us,o⟩ H1 ⟨s1,h1,hd,hsm,hsz,hPP⟩
 replace h1:H1 pw=some (.lst us):=h1
 replace hd:bo K H ds us:=hd
 replace hsm:fC ds:=hsm
 replace hsz:bJ ds<=10^6:=hsz
 replace hPP:(∀ d∈ds0,PP d)↔∀ d∈ds,PP d:=hPP
 k_data
 refine⟨!us.isEmpty,.inl ⟨us,aS.of h1,rfl⟩,?_⟩
 by_cases hne:ds=[]
 ·subst hne
  have hu:us=[]:=hd
  subst hu
  rw [if_neg (by simp)]
  exact q true H1 ⟨λ_=>hPP.mpr λd z=>by simp at z,λ_=>rfl⟩ s1
 obtain⟨ds',d,us',u,rfl,rfl,hd',hdu⟩:=oK hd hne
 rw [if_pos (by simp)]
 have smd:iX d:=en hsm (by simp)
 have szd:bJ (ds'++[d])=bJ ds'+c6 d:=by
  rw [gD]
  show bJ ds'+(c6 d+0)=_
  omega
 refine⟨_,λ_ _ z=>z,.inl ⟨rfl,_,aS.of h1⟩,pw,us'++[u],u,rfl,rfl,h1,by simp,?_⟩
 rw [List.dropLast_concat]
 have S2:=s1.upd (o:=.lst us') hpw
 have e2:upd H1 pw (.lst us') pw=some (.lst us'):=ai
 generalize upd H1 pw _=H2 at *
 refine⟨d,u,rfl,dv.same S2 _ hdu,smd,by omega,λb H3 hb s3=>⟨b,aO.mpr rfl,?_⟩⟩
 have S3:=S2.trans s3
 have e3:=s3 _ _ e2
 refine aH (λc=>?_) (λc=>?_)
 ·refine q false H3 ⟨λz=>(by cases z),λz=>?_⟩ S3
  have hp:=hPP.mp z d (by simp)
  cases hp with
  | mk _ _ _ hra _ =>
   have:=hb.mpr hra
   rw [c] at this
   cases this
 ·have hra:=hb.mp (by simpa using c)
  obtain⟨p',g,rows,rfl,p2,g1,g2,hct,hlst⟩:=hra
  have hra:=hb.mp (by simpa using c)
  obtain⟨pa,x1,x2,x3,rfl,hSu,f1,f2,f3⟩:=BU hdu
  obtain⟨pr,xs,rfl,hSr,hdr⟩:=f3
  have xl:=hdr.length
  have szr:bJ rows<c6 (.tuple [.int p',.int g,.tuple rows]):=by
   simp only [c6,bJ]
   omega
  have rl:=fg rows
  refine⟨.inl ⟨rfl,_,aS.of e3⟩,bj (hSu.same S3) rfl ⟨pr,rfl,⟨_,hSr.same S3⟩,?_⟩⟩
  refine jr (xs:=xs) (λi zs H4=>H4=H3/\bo K H ((rows.take i).map lW) zs) ⟨rfl,rfl⟩ (Nat.le_trans (show xs.length<=10^6 by omega) (by decide)) (λi zs H4 hi ⟨z1,z2⟩=>⟨by rw [z1];exact hSr.same S3,by rw [z2.length,List.length_map,List.length_take];omega⟩) ?_ ?_
  ·rintro i x zs H4 hx ⟨rfl,hz⟩
   obtain⟨r,hr',hv⟩:=hdr.get hx
   obtain⟨p4,g4,k4,rs,more,rfl,_⟩:=kh hct r (List.mem_of_getElem? hr')
   obtain⟨a1,y1,rfl,t1,u1,r1,rfl,hv2,_⟩:=hv
   show cK 0 _ [none] _ _
   k_data
   refine⟨True.intro,bj (t1.same S3) fL ⟨rfl,?_⟩⟩
   rw [List.take_add_one,hr',List.map_append]
   exact bo.append hz (.one hv2)
  ·rintro zs H4 p4 ⟨rfl,hz⟩ hp4
   rw [show xs.length=rows.length by omega,List.take_length] at hz
   have zl:zs.length=rows.length:=by rw [hz.length,List.length_map]
   have s5:=aj (o:=.lst zs) hp4
   have e5:upd H4 p4 (.lst zs) p4=some (.lst zs):=ai
   have e6:=s5 _ _ e3
   have S5:=S3.trans s5
   generalize upd H4 p4 _=H5 at *
   have ul:=hd'.length
   have dl:=fg ds'
   refine⟨pw,p4,us',zs,rfl,rfl,e6,e5,Nat.le_trans (show us'.length+zs.length<=10^6 by omega) (by decide),(ds'++rows.map lW,us'++zs,some (.ref pa)),rfl,S5.upd hpw,ai,bo.append hd' hz,?_,?_,?_,?_⟩
   ·refine gP λx hx=>?_
    rcases List.mem_append.mp hx with z | z
    ·exact en hsm (List.mem_append.mpr (.inl z))
    ·obtain⟨r,hr',rfl⟩:=List.mem_map.mp z
     obtain⟨p4,g4,k4,rs,more,rfl,_⟩:=kh hct r hr'
     simp only [iX,fC] at smd
     have:=en smd.2.2.1 hr'
     simp only [iX,fC] at this
     simp only [lW,iX,fC]
     exact this.1
   ·show bJ (ds'++rows.map lW)<=_
    rw [gD]
    have:=lL rows
    omega
   ·rw [hPP]
    constructor
    ·intro z x hx
     rcases List.mem_append.mp hx with y | y
     ·exact z x (List.mem_append.mpr (.inl y))
     ·obtain⟨r,hr',rfl⟩:=List.mem_map.mp y
      have hp:=z (.tuple [.int p',.int g,.tuple rows]) (by simp)
      cases hp with
      | mk _ _ _ _ h=>exact h r hr'
    ·intro z x hx
     rcases List.mem_append.mp hx with y | y
     ·exact z x (List.mem_append.mpr (.inl y))
     ·rw [List.mem_singleton.mp y]
      exact .mk p' g rows hra λr hr'=>z _ (List.mem_append.mpr (.inr (List.mem_map.mpr ⟨r,hr',rfl⟩)))
   ·show bJ (ds'++rows.map lW)<_
    rw [gD,szd]
    have:=lL rows
    omega
def Cz (K:PySem.W.Frag):Sp:=λvs H Q _=>∃ d v,vs=[v]/\dv K H d v/\iX d/\c6 d<=10^6/\∀ b H',(b=true↔PP d)->aE H H'->Q (.bl b) H'
theorem eP:aC ["thing"] ["thing"] (ao (top 19)):=c7
theorem Cj (D:aA K mg "is_prime_paper" (top 19)) (c_are_prime_papers:Callee P w K mg base aV 7 "are_prime_papers" ["things"] (xc K)):Callee P w K mg base aV 8 "is_prime_paper" ["thing"] (Cz K):=by
 refine cO D eP (λf cdv A outer s H vs Q E hr h=>?_)
 obtain⟨d,v,rfl,hd,hs,hz,q⟩:=h
 have nd:=eP.nd
 refine⟨_,(ak (au (br c_are_prime_papers hr ay (aa (aX (aa (pv 0) ae)) ae)))),?_⟩
 show gT _ _ [some v] H
 k_data
 refine⟨by show 1<=sizeLine;decide,λpl hpl=>?_⟩
 have s1:=aj (o:=.lst [v]) hpl
 refine⟨pl,[d],[v],rfl,.inl (aS.of ai),.one (dv.same s1 _ hd),⟨hs,True.intro⟩,by show c6 d+0<=_;omega,λb H' hb s2=>?_⟩
 exact q b H' (hb.trans ⟨λz=>z d (by simp),λz x hx=>by rw [List.mem_singleton.mp hx];exact z⟩) (s1.trans s2)
end
end K
namespace K
open PySem PySem.Spec PyProof.Rows L2
theorem eJ {p:Int × Int} {ps:List (Int × Int)} {ds:Nat->PyData}:Num.rowsOf (p::ps) ds=.tuple [ds 0,.int p.2]::Num.rowsOf ps (λi=>ds (i+1)):=by
 unfold Num.rowsOf
 rw [List.length_cons,List.range_succ_eq_map,List.map_cons,List.map_map]
 rfl
theorem pG:∀{ps:List (Int × Int)},(∀ p∈ps,2<=p.1)->1<=Num.bC ps
 | [],_=>Int.le_refl _
 | p::ps,h=>by
  have h1:=pG (ps:=ps) λq hq=>h q (List.mem_cons_of_mem _ hq)
  have h2:=Num.bN (show 0<p.1 by have:=h p (by simp);omega) p.2.toNat
  have:=Int.mul_pos h2 (show 0<Num.bC ps by omega)
  show 1<=p.1^p.2.toNat*Num.bC ps
  omega
theorem zo:∀{ps:List (Int × Int)} {ds:Nat->PyData} {t:Int},(∀ p∈ps,2<=p.1/\1<=p.2/\t<p.1)->ps.Pairwise (λa b=>a.1<b.1)->(∀ i q k,ps[i]?=some (q,k)->∃ g rows,ds i=.tuple [.int q,.int g,.tuple rows])->CT 2 (Num.bC ps) t (Num.rowsOf ps ds)
 | [],_,_,_,_,_=>rfl
 | p::ps,ds,t,h,hw,hd=>by
  rw [eJ]
  obtain⟨g,rows,e⟩:=hd 0 p.1 p.2 rfl
  obtain⟨p2,k1,tp⟩:=h p (by simp)
  obtain⟨w1,w2⟩:=List.pairwise_cons.mp hw
  refine⟨pG λq hq=>(h q hq).1,p.1,g,p.2,rows,[],by rw [e],rfl,p2,k1,tp,Num.bC ps,.inl ⟨⟨_,rfl⟩,rfl⟩,?_⟩
  exact zo (λq hq=>⟨(h q (List.mem_cons_of_mem _ hq)).1,(h q (List.mem_cons_of_mem _ hq)).2.1,w1 q hq⟩) w2 λi q k hi=>hd (i+1) q k (by simpa using hi)
theorem yF {n:Int} {ps:List (Int × Int)} {ds:Nat->PyData} (h:Num.Part n ps) (hd:∀ i q k,ps[i]?=some (q,k)->Num.cR q (ds i)):CT 2 n 1 (Num.rowsOf ps ds):=by
 have:=zo (t:=1) (ds:=ds) (λp hp=>⟨(h.ok p hp).1.two,(h.ok p hp).2.1,by have:=(h.ok p hp).1.two;omega⟩) h.rise λi q k hi=>(hd i q k hi).head
 rwa [h.prod] at this
theorem wQ:∀{ps:List (Int × Int)} {ds:Nat->PyData},(∀ i q k,ps[i]?=some (q,k)->∃ g rows,ds i=.tuple [.int q,.int g,.tuple rows])->(Num.rowsOf ps ds).map qD=ps.map (·.1)
 | [],_,_=>rfl
 | p::ps,ds,hd=>by
  rw [eJ]
  obtain⟨g,rows,e⟩:=hd 0 p.1 p.2 rfl
  rw [List.map_cons,List.map_cons,wQ λi q k hi=>hd (i+1) q k (by simpa using hi),e]
  rfl
theorem lE {ps:List (Int × Int)} {ds:Nat->PyData} {r:PyData} (h:r∈Num.rowsOf ps ds):∃ i q k,ps[i]?=some (q,k)/\r=.tuple [ds i,.int k]:=by
 unfold Num.rowsOf at h
 obtain⟨i,hi,e⟩:=List.mem_map.mp h
 have hi':=List.mem_range.mp hi
 have g:=List.getElem?_eq_getElem hi'
 refine⟨i,ps[i].1,ps[i].2,g,?_⟩
 rw [<- e,List.getD_eq_getElem?_getD,g]
 rfl
theorem wO {n a:Int} {ps:List (Int × Int)} {ds:Nat->PyData} (n2:2<=n) (h:Num.Part (n-1) ps) (hd:∀ i q k,ps[i]?=some (q,k)->Num.cR q (ds i)):RA (.tuple [.int n,.int a,.tuple (Num.rowsOf ps ds)])↔1<=a/\a<n/\Num.Ord n a (n-1).toNat:=by
 have hq:=wQ (ps:=ps) (ds:=ds) λi q k hi=>(hd i q k hi).head
 constructor
 ·rintro⟨p,g,rows,e,p2,g1,g2,c,l⟩
  cases e
  rw [hq,rV n2 h (by omega)] at l
  exact⟨g1,g2,l⟩
 ·rintro⟨a1,a2,o⟩
  exact⟨n,a,_,rfl,n2,a1,a2,yF h hd,by rw [hq,rV n2 h (by omega)];exact o⟩
theorem wq {n:Int} {d:PyData} (h:Num.cR n d):PP d:=by
 induction h with
 | mk p g ps ds hp h9 hl hP hn hds ih =>
  refine .mk p g _ ((wO hp.two hP hds).mpr ⟨hl.one,hl.lt,hl.ord⟩) λr hr=>?_
  obtain⟨i,q,k,hi,rfl⟩:=lE hr
  exact ih i q k hi
theorem qS {n a:Int} {ps:List (Int × Int)} {ds:Nat->PyData} (n2:2<=n) (h:Num.Part (n-1) ps) (hd:∀ i q k,ps[i]?=some (q,k)->Num.cR q (ds i)):PP (.tuple [.int n,.int a,.tuple (Num.rowsOf ps ds)])↔1<=a/\a<n/\Num.Ord n a (n-1).toNat:=by
 rw [<- wO n2 h hd]
 constructor
 ·intro z
  cases z with
  | mk _ _ _ h1 _=>exact h1
 ·intro z
  refine .mk n a _ z λr hr=>?_
  obtain⟨i,q,k,hi,rfl⟩:=lE hr
  exact wq (hd i q k hi)
theorem qP {n:Int} {d:PyData} (h:Num.cR n d):iX d:=by
 induction h with
 | mk p g ps ds hp h9 hl hP hn hds ih =>
  have:=hl.lt
  simp only [iX,fC,and_true]
  refine⟨by omega,by omega,gP λr hr=>?_⟩
  obtain⟨i,q,k,hi,rfl⟩:=lE hr
  have hk:=(hP.ok _ (List.mem_of_getElem? hi)).2.2
  simp only [iX,fC,and_true]
  exact⟨ih i q k hi,by show k<=_;have:k<=30:=hk;omega⟩
theorem sF:∀{ps:List (Int × Int)} {ds:Nat->PyData},(∀ p∈ps,2<=p.1/\1<=p.2)->(∀ i q k,ps[i]?=some (q,k)->2^(c6 (ds i)+2)<=q.natAbs^12)->2^bJ (Num.rowsOf ps ds)<=(Num.bC ps).natAbs^12
 | [],_,_,_=>by show 2^0<=1^12;decide
 | p::ps,ds,h,hd=>by
  rw [eJ]
  have h1:=hd 0 p.1 p.2 rfl
  have h2:=sF (ps:=ps) (ds:=λi=>ds (i+1)) (λq hq=>h q (List.mem_cons_of_mem _ hq)) λi q k hi=>hd (i+1) q k (by simpa using hi)
  obtain⟨p2,k1⟩:=h p (by simp)
  have e:bJ (.tuple [ds 0,.int p.2]::Num.rowsOf ps (λi=>ds (i+1)))=(c6 (ds 0)+2)+bJ (Num.rowsOf ps (λi=>ds (i+1))):=by
   simp only [bJ,c6]
   omega
  rw [e,Nat.pow_add]
  have h3:=Nat.mul_le_mul h1 h2
  rw [<- Nat.mul_pow] at h3
  refine Nat.le_trans h3 (Nat.pow_le_pow_left ?_ 12)
  show _<=(p.1^p.2.toNat*Num.bC ps).natAbs
  rw [Int.natAbs_mul,Int.natAbs_pow]
  exact Nat.mul_le_mul_right _ (Nat.le_self_pow (by omega) _)
theorem AY {n:Int} {d:PyData} (h:Num.cR n d):2^(c6 d+2)<=n.natAbs^12/\(n=2->c6 d=4):=by
 induction h with
 | mk p g ps ds hp h9 hl hP hn hds ih =>
  have p2:=hp.two
  have esz:c6 (.tuple [.int p,.int g,.tuple (Num.rowsOf ps ds)])=4+bJ (Num.rowsOf ps ds):=by
   simp only [c6,bJ]
   omega
  have nil2:p=2->ps=[]:=λe=>by
   cases ps with
   | nil=>rfl
   | cons x r =>
    exfalso
    obtain⟨o1,o2,_⟩:=hP.ok x (by simp)
    have:=Num.eW (ps:=x::r) (p:=x) (by simp) o2
    rw [hP.prod,e] at this
    have:=Int.le_of_dvd (by decide) this
    have:=o1.two
    omega
  refine⟨?_,λe=>by rw [esz,nil2 e];rfl⟩
  rw [esz]
  by_cases c:p=2
  ·rw [nil2 c,c]
   show 2^(4+0+2)<=2^12
   decide
  ·have podd:p%2=1:=by
    rcases (by omega:p%2=1∨p%2=0) with z | z
    ·exact z
    ·exact absurd (Int.dvd_of_emod_eq_zero z) (hp.no 2 (by decide) (by omega))
   have pm2:Num.Pm 2:=⟨by decide,λd d2 dn=>by omega⟩
   obtain⟨x,hx,ex⟩:=Num.dY pm2 (λx z=>(hP.ok x z).1) (by rw [hP.prod];exact⟨(p-1)/2,by omega⟩)
   cases ps with
   | nil=>simp at hx
   | cons y r =>
    have ey:y.1=2:=by
     have:=(hP.ok y (by simp)).1.two
     rcases List.mem_cons.mp hx with z | z
     ·rw [<- z];exact ex
     ·have:=(List.pairwise_cons.mp hP.rise).1 x z
      omega
    have s0:=(ih 0 y.1 y.2 rfl).2 ey
    have hr:=sF (ps:=r) (ds:=λi=>ds (i+1)) (λq hq=>⟨(hP.ok q (List.mem_cons_of_mem _ hq)).1.two,(hP.ok q (List.mem_cons_of_mem _ hq)).2.1⟩) λi q k hi=>(ih (i+1) q k (by simpa using hi)).1
    rw [eJ]
    have e:4+bJ (.tuple [ds 0,.int y.2]::Num.rowsOf r (λi=>ds (i+1)))+2=12+bJ (Num.rowsOf r (λi=>ds (i+1))):=by
     simp only [bJ,c6,s0]
     omega
    rw [e,Nat.pow_add]
    have h3:=Nat.mul_le_mul_left (2^12) hr
    rw [<- Nat.mul_pow] at h3
    refine Nat.le_trans h3 (Nat.pow_le_pow_left ?_ 12)
    have hpr:Num.bC (y::r)=p-1:=hP.prod
    have k1:=(hP.ok y (by simp)).2.1
    have:(Num.bC (y::r)).natAbs=2^y.2.toNat*(Num.bC r).natAbs:=by
     show (y.1^y.2.toNat*Num.bC r).natAbs=_
     rw [Int.natAbs_mul,Int.natAbs_pow,ey]
     rfl
    rw [hpr] at this
    have h5:2*(Num.bC r).natAbs<=2^y.2.toNat*(Num.bC r).natAbs:=Nat.mul_le_mul_right _ (Nat.le_self_pow (by omega) _)
    omega
theorem gK {n:Int} {d:PyData} (h:Num.cR n d):c6 d<=358:=by
 have h1:=(AY h).1
 have h9:n<=10^9/\2<=n:=by
  cases h with
  | mk _ _ _ _ a b=>exact⟨b,a.two⟩
 have e30:(2:Nat)^30=1073741824:=by decide
 have h2:n.natAbs^12<=(2^30)^12:=Nat.pow_le_pow_left (show n.natAbs<=2^30 by omega) 12
 rw [<- Nat.pow_mul] at h2
 have:=(Nat.pow_le_pow_iff_right (by decide:1<2)).mp (Nat.le_trans h1 h2)
 omega
end K
namespace K
open PySem PySem.Spec PyProof.Rows L2
section
variable {P:Program} {w:World} {K:PySem.W.Frag} {mg:Str->Option Value} {base:Heap}
theorem xJ {p a:Int} {e:Nat} (hp:Num.Pm p) (h:Num.Ord p a e):e∣(p-1).toNat:=by
 refine h.dv _ (Num.kK hp λz=>?_)
 have h0:Num.Al p (a^e) 0:=by
  obtain⟨k,hk⟩:∃ k,e=k+1:=⟨e-1,by have:=h.pos;omega⟩
  rw [hk,Int.pow_succ]
  show p∣a^k*a-0
  rw [Int.sub_zero]
  exact Int.dvd_mul_of_dvd_right z
 exact hp.ym (h0.symm.trans h.one)
theorem vL {p a e:Int} {ps:List (Int × Int)} (hp:Num.Pm p) (h:Num.Part (p-1) ps) (he:1<=e) (hd:e∣p-1):BD p a e ((ps.map (·.1)).filter λq=>decide (e%q=0))↔Num.Ord p a e.toNat:=by
 have p2:=hp.two
 constructor
 ·rintro⟨h1,h2⟩
  refine Num.wm (by omega) ((eS p2).mp h1) λq hq hq' z=>?_
  have hd':(q:Int)∣e:=by
   have:=Int.natCast_dvd_natCast.mpr hq'
   rwa [show (e.toNat:Int)=e by omega] at this
  obtain⟨x,hx,ex⟩:=Num.dY (Num.zL hq) (λx z=>(h.ok x z).1) (by rw [h.prod];exact Int.dvd_trans hd' hd)
  refine h2 q (List.mem_filter.mpr ⟨List.mem_map.mpr ⟨x,hx,ex⟩,decide_eq_true (Int.emod_eq_zero_of_dvd hd')⟩) ((eS p2).mpr ?_)
  rwa [show (e/(q:Int)).toNat=e.toNat/q by
   have:e/(q:Int)=((e.toNat/q:Nat):Int):=by rw [Int.natCast_ediv];congr 1;omega
   rw [this,Int.toNat_natCast]]
 ·intro h1
  refine⟨(eS p2).mpr h1.one,λq hq z=>?_⟩
  obtain⟨m1,m2⟩:=List.mem_filter.mp hq
  obtain⟨x,hx,rfl⟩:=List.mem_map.mp m1
  obtain⟨o1,o2,_⟩:=h.ok x hx
  have d:x.1∣e:=Int.dvd_of_emod_eq_zero (of_decide_eq_true m2)
  have t:=o1.two
  refine h1.j5 (Num.rX o1) (by
   have:(x.1.toNat:Int)∣(e.toNat:Int):=by rw [show (x.1.toNat:Int)=x.1 by omega,show (e.toNat:Int)=e by omega];exact d
   exact Int.natCast_dvd_natCast.mp this) ?_
  rw [show e.toNat/x.1.toNat=(e/x.1).toNat by
   have:e/x.1=((e.toNat/x.1.toNat:Nat):Int):=by rw [Int.natCast_ediv];congr 1<;>omega
   rw [this,Int.toNat_natCast]]
  exact (eS p2).mp z
def mQ (K:PySem.W.Frag):Sp:=λvs H Q _=>∃(v:V) (p a e:Int) (g:PyData) (rows:List PyData) (ps:List (Int × Int)),vs=[v,.int a,.int e]/\dv K H (.tuple [.int p,g,.tuple rows]) v/\C3 rows (ps.map (·.1))/\Num.Pm p/\Num.Part (p-1) ps/\p<=10^100/\ps.length<=10^5 /\ -(10^100)<=e/\e<=10^100/\∀ b H',(b=true↔1<=e/\Num.Ord p a e.toNat)->aE H H'->Q (.bl b) H'
theorem jY:aC ["paper","a","e","p","full","parts"] ["paper","a","e"] (ao (top 20)):=c7
theorem qI (D:aA K mg "is_order" (top 20)) (c_is_least:Callee P w K mg base aV 5 "is_least" ["n","a","e","primes"] (jD K)) (c_primes_in:Callee P w K mg base aV 1 "primes_in" ["parts"] (ir K)):Callee P w K mg base aV 6 "is_order" ["paper","a","e"] (mQ K):=by
 refine cO D jY (λf cdv A outer s H vs Q E hr h=>?_)
 obtain⟨v,p,a,e,g,rows,ps,rfl,hd,hq,hp,hP,p1,hl,e0,e1,q⟩:=h
 have p2:=hp.two
 obtain⟨pa,xs,rfl,hS,x0,r0,rfl,d0,vg,r1,rfl,dg,vr,r2,rfl,dr,z⟩:=hd
 cases z
 cases d0
 have nd:=jY.nd
 refine⟨_,(ag (fz (pv 0) (ie (n:=3) rfl (bc (aF (i:=3) nd rfl (Or.inl rfl) (.inr rfl)) (bc (aF (i:=4) nd rfl (Or.inl rfl) (.inr rfl)) (bc (aF (i:=5) nd rfl (Or.inl rfl) (.inr rfl)) cW))))) (ag (aQ (PW.pt (cF (ax cU (pv 2) af (aq _)) (d5 (ax fF (aw aU (aw cq (pv 3) af) (pv 2)) af (aq _))))) (ak (au bO)) aD) (ak (au (br c_is_least hr ay (aa (pv 3) (aa (pv 1) (aa (pv 2) (aa (c8 rfl (jO (N':=["prime","e"]) (js:=[none,some 2]) rfl rfl) (bP (br c_primes_in hr ay (aa (pv 5) ae))) (λ_ _ _ _=>(aF (i:=0) (show List.Nodup [("prime":Str),("e":Str)] from by decide +kernel) rfl (Or.inl rfl) (.inr rfl))) (λ_ _ _ _=>(dE (ax ba (aw aU (pv 1) (pv 0)) af (aq _)))) (λ_ _ _ _=>(pv 0))) ae))))))))),?_⟩
 show b9 _ _ _ [some (.ref pa),some (.int a),some (.int e),none,none,none] H
 k_data
 refine⟨pa,_,rfl,hS,rfl,?_⟩
 k_data
 refine aH (λc=>?_) (λc=>?_)
 ·exact q false _ ⟨λz=>(by cases z),λz=>absurd z.1 (by omega)⟩ (aE.refl _)
 refine⟨by omega,?_⟩
 refine aH (λc2=>?_) (λc2=>?_)
 ·refine q false _ ⟨λz=>(by cases z),λz=>?_⟩ (aE.refl _)
  have h1:=Int.natCast_dvd_natCast.mpr (xJ hp z.2)
  rw [show (e.toNat:Int)=e by omega,show ((p-1).toNat:Int)=p-1 by omega] at h1
  exact absurd (Int.emod_eq_zero_of_dvd h1) (by simpa using c2)
 refine⟨vr,rows,ps.map (·.1),rfl,dr,hq,by rw [hq.1,List.length_map];omega,λpq H1 s1 f1 h1=>⟨pq,rfl,⟨_,aS.of h1⟩,?_⟩⟩
 have d0:e∣p-1:=Int.dvd_of_emod_eq_zero (by simpa using c2)
 refine bQ (xs:=(ps.map (·.1)).map V.int) (λi zs H3=>H3=H1/\zs=(((ps.map (·.1)).take i).filter λq=>decide (e%q=0)).map V.int) ⟨rfl,rfl⟩ (by rw [List.length_map,List.length_map];exact Nat.le_trans hl (by decide)) (λi zs H3 hi ⟨z1,z2⟩=>⟨by rw [z1];exact aS.of h1,by rw [z2,List.length_map];exact Nat.le_trans (List.length_filter_le _ _) (by rw [List.length_take];omega)⟩) ?_ ?_
 ·rintro i x zs H3 hx ⟨rfl,rfl⟩
  rw [List.getElem?_map] at hx
  obtain⟨y,hy,rfl⟩:=Option.map_eq_some_iff.mp hx
  have my:=sk hP (by omega) y (List.mem_of_getElem? hy)
  show cK 0 _ [none,some (.int e)] _ _
  k_data
  refine⟨⟨rfl,True.intro⟩,by omega,?_⟩
  rw [List.take_add_one,hy,List.filter_append]
  refine aH (λc3=>?_) (λc3=>?_)
  ·simp [c3]
  ·simp [c3]
 ·rintro zs H3 p3 ⟨rfl,rfl⟩ hp3
  rw [List.length_map,List.take_length]
  refine⟨p,a,e,p3,_,rfl,by omega,by omega,by omega,by omega,aS.of ai,λy hy=>?_,?_,λb H4 hb s4=>?_⟩
  ·have:=sk hP (by omega) y (List.mem_filter.mp hy).1
   omega
  ·exact Nat.le_trans (List.length_filter_le _ _) (by rw [List.length_map];omega)
  ·rw [vL hp hP (by omega) d0] at hb
   exact q b H4 (hb.trans ⟨λz=>⟨by omega,z⟩,λz=>z.2⟩) ((s1.trans (aj hp3)).trans s4)
mutual
def rD:Nat->PyData->Prop
 | 0,_=>False
 | _+1,.int _=>True
 | _+1,.str x=>PyData.canLay0 (.str x)=true
 | L+1,.list ds=>ds.length<=10^6/\uE L ds
 | L+1,.tuple ds=>ds.length<=10^6/\uE L ds
 | _+1,_=>False
def uE:Nat->List PyData->Prop
 | _,[]=>True
 | L,d::ds=>rD L d/\uE L ds
end
theorem wJ:∀{L:Nat} {ds:List PyData} {i:Nat} {d:PyData},uE L ds->ds[i]?=some d->rD L d
 | L,[],i,d,_,h=>by simp at h
 | L,e::ds,0,d,h,z=>by
  cases z
  exact (show rD L e/\uE L ds from h).1
 | L,e::ds,i+1,d,h,z=>by
  exact wJ (show rD L e/\uE L ds from h).2 (by simpa using z)
theorem mx:∀{ds:List PyData} {i:Nat} {d:PyData},PyData.canLayAll0 ds=true->ds[i]?=some d->d.canLay0=true
 | [],i,d,_,h=>by simp at h
 | e::ds,0,d,h,z=>by
  cases z
  have h':e.canLay0=true/\PyData.canLayAll0 ds=true:=by simpa [PyData.canLayAll0] using h
  exact h'.1
 | e::ds,i+1,d,h,z=>by
  have h':e.canLay0=true/\PyData.canLayAll0 ds=true:=by simpa [PyData.canLayAll0] using h
  exact mx h'.2 (by simpa using z)
def jE (K:PySem.W.Frag) (L:Nat):Sp:=λvs H Q _=>∃(u v:V) (d r:PyData),vs=[u,v]/\dv K H d u/\dv K H r v/\d.canLay0=true/\rD L r/\∀ b H',(b=true↔d=r)->aE H H'->Q (.bl b) H'
def sM (K:PySem.W.Frag) (L:Nat):Sp:=λvs H Q _=>∃(k:Sd) (a c:Addr) (us vs':List V) (ds rs:List PyData),vs=[.ref a,.ref c]/\ja k K H a us/\ja k K H c vs'/\bo K H ds us/\bo K H rs vs'/\PyData.canLayAll0 ds=true/\uE L rs/\rs.length<=10^6/\∀ b H',(b=true↔ds=rs)->aE H H'->Q (.bl b) H'
theorem me {k:Sd} {H H':Hp} {a:Addr} {xs:List V} (h:ja k K H a xs) (s:aE H H'):ja k K H' a xs:=by
 cases k
 ·exact aS.same h s
 ·exact aY.same h s
theorem B9 {k:Sd} {H:Hp} {a:Addr} {xs:List V} {Q:VK} (h:ja k K H a xs) (q:Q (.int xs.length) H):wM K [.ref a] H Q:=by
 cases k
 ·exact aZ h q
 ·exact dj h q
theorem jW:aC ["things","rights"] ["things","rights"] (ao (top 12)):=c7
theorem vZ {L:Nat} (D:aA K mg "are_just" (top 12)) (c_is_just:Callee P w K mg base aV (2*L+1) "is_just" ["thing","right"] (jE K L)) (n_len:mg "len"=none) (n_zip:mg "zip"=none) (n_all:mg "all"=none):Callee P w K mg base aV (2*L+2) "are_just" ["things","rights"] (sM K L):=by
 refine cO D jW (λf cdv A outer s H vs Q E hr h=>?_)
 obtain⟨k,a,c,us,vs',ds,rs,rfl,hS,hR,dd,dr,cl,hr',hl,q⟩:=h
 have nd:=jW.nd
 refine⟨_,(ak (au (bG (bh ba (av aG rfl n_len PySem.boot_len (aa (pv 0) ae)) (av aG rfl n_len PySem.boot_len (aa (pv 1) ae)) (aq _)) (cA (av (dW rfl) rfl n_all L2.boot_all (aa (c8 rfl (jO (N':=["thing","right"]) (js:=[none,none]) rfl rfl) (yH rfl n_zip (aa (pv 0) (aa (pv 1) ae))) (λ_ _ _ _=>(iM K rfl (n:=2) rfl (bc (aF (i:=0) (show List.Nodup [("thing":Str),("right":Str)] from by decide +kernel) rfl (Or.inl rfl) (.inr rfl)) (bc (aF (i:=1) (show List.Nodup [("thing":Str),("right":Str)] from by decide +kernel) rfl (Or.inl rfl) (.inr rfl)) cW)))) (λ_ _ _ _=>bD) (λ_ _ _ _=>(cV c_is_just (hr.mono (by omega)) rfl ay (aa (pv 0) (aa (pv 1) ae))))) ae)))))),?_⟩
 show gT _ _ [some (.ref a),some (.ref c)] H
 have ul:=dd.length
 have vl:=dr.length
 k_data
 refine B9 hS (B9 hR ⟨kr,?_⟩)
 by_cases ln:us.length=vs'.length
 ·rw [if_pos (by rw [ln])]
  refine⟨k,⟨_,hS⟩,k,⟨_,hR⟩,?_⟩
  refine jt (xs:=us) (ys:=vs') (λi zs H3=>aE H H3/\∃ bs:List Bool,zs=bs.map V.bl/\bs.length=i/\(bs.all id=true↔ds.take i=rs.take i)) ⟨aE.refl _,[],rfl,rfl,by simp⟩ (by omega) (Nat.le_trans (by omega) (show 10^6<=sizeLine by decide)) (λi zs H3 hi ⟨z1,bs,z2,z3,_⟩=>⟨me hS z1,me hR z1,by rw [z2,List.length_map,z3];exact Nat.le_refl _⟩) ?_ ?_
  ·rintro i x y zs H3 p3 hx hy ⟨s3,bs,rfl,bl,hb⟩ hp3
   obtain⟨d1,e1,v1⟩:=dd.get hx
   obtain⟨r1,e2,v2⟩:=dr.get hy
   have s4:=aj (o:=.tup [x,y]) hp3
   show tI K 2 _ _ [none,none] _ _
   refine⟨p3,_,rfl,aY.of ai,rfl,?_⟩
   generalize upd H3 p3 _=H4 at *
   k_data
   refine⟨True.intro,x,y,d1,r1,rfl,dv.same (s3.trans s4) _ v1,dv.same (s3.trans s4) _ v2,mx cl e1,wJ hr' e2,λb H5 hb1 s5=>⟨(s3.trans s4).trans s5,bs++[b],by rw [List.map_append];rfl,by rw [List.length_append,bl];rfl,?_⟩⟩
   rw [List.all_append,Bool.and_eq_true,hb,List.take_add_one,List.take_add_one,e1,e2]
   have l1:(ds.take i).length=(rs.take i).length:=by
    have:=(List.getElem?_eq_some_iff.mp e1).1
    have:=(List.getElem?_eq_some_iff.mp e2).1
    rw [List.length_take,List.length_take]
    omega
   constructor
   ·rintro⟨h1,h2⟩
    have:b=true:=by simpa using h2
    rw [h1,hb1.mp this]
   ·intro h
    obtain⟨h1,h2⟩:=List.append_inj h l1
    have:d1=r1:=by simpa using h2
    exact⟨h1,by simp [hb1.mpr this]⟩
  ·rintro zs H3 p3 ⟨s3,bs,rfl,bl,hb⟩ hp3
   refine jj (bs:=bs) (aS.of ai) ?_
   rw [show us.length=ds.length from ul,List.take_length,show ds.length=rs.length by omega,List.take_length] at hb
   exact q _ _ hb (s3.trans (aj hp3))
 ·rw [if_neg (by intro z;have:=V.int.inj z;omega)]
  exact q false H ⟨(λz=>by cases z),λz=>by rw [z] at ul;omega⟩ (aE.refl _)
theorem mB {d:PyData} {i:Int}:(PyData.eqv d (.int i)=true/\gH d=true)↔d=.int i:=by
 constructor
 ·rintro⟨h1,h2⟩
  cases d with
  | int j =>
   have:j=i:=by simpa [PyData.eqv] using h1
   rw [this]
  | _=>simp [gH] at h2
 ·rintro rfl
  exact⟨by simp [PyData.eqv],rfl⟩
theorem ip:aC ["thing","right"] ["thing","right"] (ao (top 11)):=c7
theorem vX (D:aA K mg "is_just" (top 11)):Callee P w K mg base aV 1 "is_just" ["thing","right"] (jE K 0):=by
 refine cO D ip (λf cdv A outer s H vs Q E hr h=>?_)
 obtain⟨u,v,d,r,rfl,hu,hv,cl,hs,q⟩:=h
 cases r<;>exact hs.elim
theorem vY {L:Nat} (D:aA K mg "is_just" (top 11)) (c_are_just:Callee P w K mg base aV (2*L+2) "are_just" ["things","rights"] (sM K L)) (c_is_whole:Callee P w K mg base aV 1 "is_whole" ["thing"] (zU K)) (n_isinstance:mg "isinstance"=none) (n_list:mg "list"=none) (n_tuple:mg "tuple"=none):Callee P w K mg base aV (2*L+3) "is_just" ["thing","right"] (jE K (L+1)):=by
 refine cO D ip (λf cdv A outer s H vs Q E hr h=>?_)
 obtain⟨u,v,d,r,rfl,hu,hv,cl,hs,q⟩:=h
 have nd:=ip.nd
 refine⟨_,(ag (aQ (aM (av bA rfl n_isinstance PyProof.Rows.boot_isinstance (aa (pv 1) (aa (bZ (v:=.ty "tuple") rfl n_tuple L2.boot_tuple rfl) ae))) (λ_=>rfl)) (ak (au (bG (av bA rfl n_isinstance PyProof.Rows.boot_isinstance (aa (pv 0) (aa (bZ (v:=.ty "tuple") rfl n_tuple L2.boot_tuple rfl) ae))) (cA (cV c_are_just (hr.mono (by omega)) rfl ay (aa (pv 0) (aa (pv 1) ae))))))) aD) (ag (aQ (aM (av bA rfl n_isinstance PyProof.Rows.boot_isinstance (aa (pv 1) (aa (bZ (v:=.ty "list") rfl n_list L2.boot_list rfl) ae))) (λ_=>rfl)) (ak (au (bG (av bA rfl n_isinstance PyProof.Rows.boot_isinstance (aa (pv 0) (aa (bZ (v:=.ty "list") rfl n_list L2.boot_list rfl) ae))) (cA (cV c_are_just (hr.mono (by omega)) rfl ay (aa (pv 0) (aa (pv 1) ae))))))) aD) (ak (au (bG (bh (eT hr.units) (pv 0) (pv 1) (aq _)) (cA (bh ba (cV c_is_whole (hr.mono (by omega)) rfl ay (aa (pv 0) ae)) (cV c_is_whole (hr.mono (by omega)) rfl ay (aa (pv 1) ae)) (aq _)))))))),?_⟩
 show b9 _ _ _ [some u,some v] H
 k_data
 cases r with
 | tuple rs =>
  replace hs:rs.length<=10^6/\uE L rs:=hs
  refine cT hv ⟨true,aO.mpr rfl,?_⟩
  rw [if_pos rfl]
  refine cT hu ⟨_,rfl,?_⟩
  cases d with
  | tuple ds =>
   rw [if_pos (show B8 (.tuple ds)=true from rfl)]
   obtain⟨a,us,rfl,hS,dd⟩:=hu
   obtain⟨c,vs',rfl,hR,dr⟩:=hv
   exact⟨.t,a,c,us,vs',ds,rs,rfl,hS,hR,dd,dr,cl,hs.2,hs.1,λb H' hb s'=>q b H' (hb.trans (by rw [PyData.tuple.injEq])) s'⟩
  | _ =>
   rw [if_neg (by simp [B8])]
   exact q false H ⟨(λz=>by cases z),λz=>by cases z⟩ (aE.refl _)
 | list rs =>
  replace hs:rs.length<=10^6/\uE L rs:=hs
  refine cT hv ⟨false,aO.mpr rfl,?_⟩
  rw [if_neg (by decide)]
  refine fo hv ⟨true,aO.mpr rfl,?_⟩
  rw [if_pos rfl]
  refine fo hu ⟨_,rfl,?_⟩
  cases d with
  | list ds =>
   rw [if_pos (show DK (.list ds)=true from rfl)]
   obtain⟨a,us,rfl,hS,dd⟩:=hu
   obtain⟨c,vs',rfl,hR,dr⟩:=hv
   exact⟨.l,a,c,us,vs',ds,rs,rfl,hS,hR,dd,dr,cl,hs.2,hs.1,λb H' hb s'=>q b H' (hb.trans (by rw [PyData.list.injEq])) s'⟩
  | _ =>
   rw [if_neg (by simp [DK])]
   exact q false H ⟨(λz=>by cases z),λz=>by cases z⟩ (aE.refl _)
 | int i =>
  refine cT hv ⟨false,aO.mpr rfl,?_⟩
  rw [if_neg (by decide)]
  refine fo hv ⟨false,aO.mpr rfl,?_⟩
  rw [if_neg (by decide)]
  refine⟨d,.int i,hu,hv,cl,rfl,by simp [PyData.depth],⟨_,rfl,?_⟩⟩
  refine aH (λc=>?_) (λc=>?_)
  ·refine⟨d,u,rfl,hu,⟨.int i,v,rfl,hv,⟨rfl,?_⟩⟩⟩
   refine q _ H ?_ (aE.refl _)
   rw [<- mB]
   have c':PyData.eqv d (.int i)=true:=by simpa using c
   rw [c']
   cases hw:gH d<;>simp [gH]
  ·refine q false H ⟨(λz=>by cases z),λz=>?_⟩ (aE.refl _)
   have:=(mB.mpr z).1
   exact absurd this (by simpa using c)
 | str z =>
  refine cT hv ⟨false,aO.mpr rfl,?_⟩
  rw [if_neg (by decide)]
  refine fo hv ⟨false,aO.mpr rfl,?_⟩
  rw [if_neg (by decide)]
  replace hs:PyData.canLay0 (.str z)=true:=hs
  refine⟨d,.str z,hu,hv,cl,hs,by simp [PyData.depth],⟨_,rfl,?_⟩⟩
  have es:PyData.eqv d (.str z)=true↔d=.str z:=by cases d<;>simp [PyData.eqv]
  refine aH (λc=>?_) (λc=>?_)
  ·refine⟨d,u,rfl,hu,⟨.str z,v,rfl,hv,⟨rfl,?_⟩⟩⟩
   refine q _ H ?_ (aE.refl _)
   have c':d=.str z:=es.mp (by simpa using c)
   rw [c']
   simp
  ·exact q false H ⟨(λz=>by cases z),λz=>absurd (es.mpr z) (by simpa using c)⟩ (aE.refl _)
 | _=>exact hs.elim
theorem sg {fi:Addr} (D:aA K mg "is_just" (top 11)) (D2:aA K mg "are_just" (top 12)) (c_is_whole:Callee P w K mg base aV 1 "is_whole" ["thing"] (zU K)) (n_isinstance:mg "isinstance"=none) (n_list:mg "list"=none) (n_tuple:mg "tuple"=none) (n_len:mg "len"=none) (n_zip:mg "zip"=none) (n_all:mg "all"=none):∀ L:Nat,Callee P w K mg base aV (2*L+1) "is_just" ["thing","right"] (jE K L)
 | 0=>vX D
 | L+1=>vY D (vZ D2 (sg (fi:=fi) D D2 c_is_whole n_isinstance n_list n_tuple n_len n_zip n_all L) n_len n_zip n_all) c_is_whole n_isinstance n_list n_tuple
end
end K
namespace K
open PySem PySem.Spec PyProof.Rows L2
section
variable {P:Program} {w:World} {K:PySem.W.Frag} {mg:Str->Option Value} {base:Heap} {C:Addr}
structure xN (p g:Int) (ps:List (Int × Int)) (ds:Nat->PyData):Prop where
 pm:Num.Pm p
 p9:p<=10^9
 hP:Num.Part (p-1) ps
 l29:ps.length<=29
 hds:∀ i q k,ps[i]?=some (q,k)->Num.cR q (ds i)
 g1:1<=g
 gp:g<p
 o:Num.Ord p g (p-1).toNat
 sm:iX (.tuple [.int p,.int g,.tuple (Num.rowsOf ps ds)])
 sz:c6 (.tuple [.int p,.int g,.tuple (Num.rowsOf ps ds)])<=10^6
structure mU (ps:List Int) (ds:List PyData):Prop where
 len:ds.length=ps.length
 at_:∀(i:Nat) p d,ps[i]?=some p->ds[i]?=some d->Num.cR p d
theorem Bb {p:Int} {d:PyData} (h:Num.cR p d):∃ g pl dx,d=.tuple [.int p,.int g,.tuple (Num.rowsOf pl dx)]/\xN p g pl dx:=by
 have sm:=qP h
 have sz:=gK h
 cases h with
 | mk _ g pl dx h1 h2 h3 h4 h5 h6=>exact⟨g,pl,dx,rfl,h1,h2,h4,h5,h6,h3.one,h3.lt,h3.ord,sm,by omega⟩
theorem mU.get {ps:List Int} {ds:List PyData} (h:mU ps ds) {H:Hp} {us:List V} (hd:bo K H ds us) {i:Nat} {x:V} (hx:us[i]?=some x):∃ p g pl dx,ps[i]?=some p/\xN p g pl dx/\dv K H (.tuple [.int p,.int g,.tuple (Num.rowsOf pl dx)]) x:=by
 obtain⟨d,hd',hv⟩:=hd.get hx
 have il:=(List.getElem?_eq_some_iff.mp hd').1
 rw [h.len] at il
 have hp:=List.getElem?_eq_getElem il
 obtain⟨g,pl,dx,rfl,R⟩:=Bb (h.at_ i _ d hp hd')
 exact⟨_,g,pl,dx,hp,R,hv⟩
end
end K
namespace K
open PySem PySem.Spec PyProof.Rows L2
section
variable {P:Program} {w:World} {K:PySem.W.Frag} {mg:Str->Option Value} {base:Heap}
def pO:Sp:=λvs H Q _=>∃ a b:Int,vs=[.int a,.int b]/\0<a/\0<=b/\∀ g,Gd a b g->Q (.int g) H
theorem fZ:aC ["_law_one","_law_other"] ["_law_one","_law_other"] (ao (top 52)):=c7
theorem uc (D:aA K mg "_law_common" (top 52)):Callee P w K mg base aV 1 "_law_common" ["_law_one","_law_other"] pO:=by
 refine cO D fZ (λf cdv A outer s H vs Q E hr h=>?_)
 obtain⟨a,b,rfl,ha,hb,q⟩:=h
 have nd:=fZ.nd
 refine⟨_,(ag (cL PassesOwn.never (ax fF (pv 1) af (aq _)) (ak (jz (i:=0) (j:=1) rfl nd rfl rfl (by decide) rfl rfl (aa (pv 1) (aa (aw aU (pv 0) (pv 1)) ae)) rfl))) (ak (au (pv 0)))),?_⟩
 show b9 _ _ _ [some (.int a),some (.int b)] H
 k_data
 refine cM (α:=Int × Int) (λx=>[some (.int x.1),some (.int x.2)]) (λx H'=>H'=H/\0<x.1/\0<=x.2/\∀ d:Int,(d∣x.1/\d∣x.2)↔(d∣a/\d∣b)) (λx=>x.2.toNat) (a,b) rfl ⟨rfl,ha,hb,λ_=>Iff.rfl⟩ ?_
 rintro⟨x,y⟩ H1 ⟨rfl,hx,hy,hd⟩
 k_data
 refine aH (λc=>?_) (λc=>?_)
 ·have hy':0<y:=by have:0<=y:=hy;omega
  refine⟨_,λ_ _ z=>z,hy',(y,x%y),rfl,rfl,hy',Int.emod_nonneg _ (by omega),λd=>?_,?_⟩
  ·rw [<- hd d]
   constructor
   ·rintro⟨h1,h2⟩
    exact⟨(iB h1).mp h2,h1⟩
   ·rintro⟨h1,h2⟩
    exact⟨h2,(iB h2).mpr h1⟩
  ·have:=Int.emod_lt_of_pos x hy'
   show (x%y).toNat<y.toNat
   omega
 ·have c':y=0:=by omega
  subst c'
  refine q x ⟨hx,((hd x).mp ⟨Int.dvd_refl x,Int.dvd_zero x⟩).1,((hd x).mp ⟨Int.dvd_refl x,Int.dvd_zero x⟩).2,λd h1 h2=>((hd d).mpr ⟨h1,h2⟩).1⟩
def Dg (p k d:Int):Prop:=∃ u v,Gcd.C1 k (p-1) d u v
theorem Dg.pos {p k d:Int} (h:Dg p k d) (k0:0<k):0<d:=by
 obtain⟨u,v,B⟩:=h
 rcases Int.lt_or_eq_of_le B.g0 with z | z
 ·exact z
 ·have:=B.da;rw [<- z] at this;have:=Int.zero_dvd.mp this;omega
theorem Dg.one {p k d d':Int} (h:Dg p k d) (h':Dg p k d'):d=d':=by
 obtain⟨u,v,B⟩:=h
 obtain⟨u',v',B'⟩:=h'
 have l1:d∣d':=by rw [<- B'.lin];exact Int.dvd_add (Int.dvd_mul_of_dvd_right B.da) (Int.dvd_mul_of_dvd_right B.db)
 have l2:d'∣d:=by rw [<- B.lin];exact Int.dvd_add (Int.dvd_mul_of_dvd_right B'.da) (Int.dvd_mul_of_dvd_right B'.db)
 exact Int.dvd_antisymm B.g0 B'.g0 l1 l2
def pP:Sp:=λvs H Q _=>∃(p k a:Int),vs=[.int p,.int k,.int a]/\0<p/\p<=10^100/\0<k/\k<=10^100/\(p∣a->Q (.int 1) H)/\(¬p∣a->∀ d H',Dg p k d->aE H H'->Q (.int d) H')
theorem eO:aC ["p","k","a"] ["p","k","a"] (ao (top 29)):=c7
theorem AQ (D:aA K mg "how_many_roots" (top 29)) (c_divisor:Callee P w K mg base aV 1 "divisor" ["a","b"] mP):Callee P w K mg base aV 2 "how_many_roots" ["p","k","a"] pP:=by
 refine cO D eO (λf cdv A outer s H vs Q E hr h=>?_)
 obtain⟨p,k,a,rfl,p0,p1,k0,k1,q1,q2⟩:=h
 have nd:=eO.nd
 refine⟨_,(ak (au (fS (ax ba (aw aU (pv 2) (pv 0)) af (aq _)) af (aB aI (br c_divisor hr ay (aa (pv 1) (aa (aw cq (pv 0) af) ae))) af (λ_ _=>rfl))))),?_⟩
 show gT _ _ [some (.int p),some (.int k),some (.int a)] H
 k_data
 refine⟨p0,aH (λc=>q1 (Int.dvd_of_emod_eq_zero c)) (λc=>⟨k,p-1,rfl,⟨by omega,by omega⟩,⟨by omega,by omega⟩,λg u v t H' B s' e=>bj (aY.of e) fL (q2 (λz=>c (Int.emod_eq_zero_of_dvd z)) g H' ⟨u,v,B⟩ s')⟩)⟩
def rY (e r:Int):PyData:=.tuple [.str "none",.int e,.int r]
def wZ (K:PySem.W.Frag):Sp:=λvs H Q _=>∃(p k a:Int),vs=[.int p,.int k,.int a]/\Num.Pm p/\p<=10^100/\0<k/\k<=10^100/\(p∣a->Q .bY H) /\
 (¬p∣a->∀ d,Dg p k d->(Num.Al p (a^((p-1)/d).toNat) 1->∀ H',aE H H'->Q .bY H')/\(¬Num.Al p (a^((p-1)/d).toNat) 1->∀ u H',aE H H'->dv K H' (rY ((p-1)/d) (a^((p-1)/d).toNat%p)) u->Q u H'))
theorem ia:aC ["p","k","a","e","rest"] ["p","k","a"] (ao (top 30)):=c7
theorem yx (D:aA K mg "shown_none" (top 30)) (c_how_many_roots:Callee P w K mg base aV 2 "how_many_roots" ["p","k","a"] pP) (c_power:Callee P w K mg base aV 4 "power" ["n","a","e"] kx):Callee P w K mg base aV 5 "shown_none" ["p","k","a"] (wZ K):=by
 refine cO D ia (λf cdv A outer s H vs Q E hr h=>?_)
 obtain⟨p,k,a,rfl,pm,p1,k0,k1,q1,q2⟩:=h
 have p2:=pm.two
 have nd:=ia.nd
 refine⟨_,(ag (aQ (ax ba (aw aU (pv 2) (pv 0)) af (aq _)) (ak (au fU)) aD) (ag (cp (i:=3) nd (aw eI (aw cq (pv 0) af) (br c_how_many_roots hr ay (aa (pv 0) (aa (pv 1) (aa (pv 2) ae)))))) (ag (cp (i:=4) nd (br c_power hr ay (aa (pv 0) (aa (pv 2) (aa (pv 3) ae))))) (ak (au (fS (ax ba (pv 4) af (aq _)) fU (aR (aa aT (aa (pv 3) (aa (pv 4) ae)))))))))),?_⟩
 show b9 _ _ _ [some (.int p),some (.int k),some (.int a),none,none] H
 k_data
 refine⟨by omega,aH (λc=>q1 (Int.dvd_of_emod_eq_zero c)) (λc=>?_)⟩
 have na:¬p∣a:=λz=>c (Int.emod_eq_zero_of_dvd z)
 refine⟨p,k,a,rfl,by omega,p1,k0,k1,λz=>absurd z na,λ_ d H1 D s1=>?_⟩
 have d0:=D.pos k0
 have hd1:d<=p-1:=by obtain⟨u,v,B⟩:=id D;exact Int.le_of_dvd (by omega) B.db
 have e0:=Int.ediv_nonneg (show 0<=p-1 by omega) (show 0<=d by omega)
 obtain⟨q3,q4⟩:=q2 na d D
 refine⟨d,rfl,d0,Bd.of (by omega) (by omega),p,a,(p-1)/d,rfl,by omega,by omega,e0,λH2 s2=>⟨rfl,aH (λc2=>?_) (λc2=>⟨by show 3<=sizeLine;decide,λt ht=>?_⟩)⟩⟩
 ·have c3:=V.int.inj c2
  exact q3 (Num.Al.iff.mpr (by rw [c3,Int.emod_eq_of_lt (by decide) (by omega)])) H2 (s1.trans s2)
 ·have s3:=aj (o:=.tup [V.str "none",V.int ((p-1)/d),V.int (a^((p-1)/d).toNat%p)]) ht
  exact q4 (λz=>c2 (by rw [Num.Al.iff.mp z,Int.emod_eq_of_lt (by decide) (by omega)])) _ _ ((s1.trans s2).trans s3) ⟨t,_,rfl,aY.of ai,_,_,rfl,rfl,_,_,rfl,rfl,_,_,rfl,rfl,rfl⟩
end
end K
namespace K
open PySem PySem.Spec PyProof.Rows L2
section
variable {P:Program} {w:World} {K:PySem.W.Frag} {mg:Str->Option Value} {base:Heap} {C:Addr}
def aL:List Int->Int
 | []=>1
 | x::r=>x*aL r
theorem fw:∀{l:List Int} {x:Int},aL (l++[x])=aL l*x
 | [],x=>by show x*1=1*x;omega
 | y::l,x=>by
  show y*aL (l++[x])=y*aL l*x
  rw [fw,Int.mul_assoc]
theorem dF {B:Int} (b0:0<=B):∀{l:List Int},(∀ x∈l,0<x/\x<=B)->0<aL l/\aL l<=B^l.length
 | [],_=>⟨by decide,by rw [List.length_nil,Int.pow_zero];exact Int.le_refl _⟩
 | x::l,h=>by
  obtain⟨h1,h2⟩:=dF b0 (l:=l) λy hy=>h y (List.mem_cons_of_mem _ hy)
  obtain⟨x0,x1⟩:=h x (by simp)
  refine⟨Int.mul_pos x0 h1,?_⟩
  show x*aL l<=B^(l.length+1)
  rw [Int.pow_succ,Int.mul_comm (B^l.length)]
  exact Int.mul_le_mul x1 h2 (by omega) b0
theorem ly {l:List Int} {i:Nat} {x:Int} (h:l[i]?=some x):aL (l.take (i+1))=aL (l.take i)*x:=by
 rw [List.take_add_one,h]
 exact fw
theorem zM {n:Nat} (h:n<=5):(31:Int)^n<=10^8:=by
 have:∀ n:Nat,n<6->(31:Int)^n<=10^8:=by decide
 exact this n (by omega)
def sP (K:PySem.W.Frag):Sp:=λvs H Q _=>∃(l:Addr) (ns:List Int),vs=[.ref l]/\aS K H l (ns.map V.int)/\(∀ n∈ns,0<n/\n<=31)/\ns.length<=5/\Q (.int (aL ns)) H
theorem h8:aC ["numbers","product","number"] ["numbers"] (ao (top 13)):=c7
theorem wa (D:aA K mg "product_of" (top 13)):Callee P w K mg base aV 1 "product_of" ["numbers"] (sP K):=by
 refine cO D h8 (λf cdv A outer s H vs Q E hr h=>?_)
 obtain⟨l,ns,rfl,hl,hn,n5,q⟩:=h
 have nd:=h8.nd
 refine⟨_,(ag (cp (i:=1) nd af) (ag (dZ PassesOwn.never rfl (bP (pv 0)) (aF (i:=2) nd rfl (Or.inl rfl) (.inr rfl)) (ak (nN (i:=1) nd rfl (Or.inl rfl) (pv 2) (rM vA)))) (ak (au (pv 1))))),?_⟩
 show b9 _ _ _ [some (.ref l),none,none] H
 k_data
 refine⟨⟨_,hl⟩,?_⟩
 have tk:∀ i,0<aL (ns.take i)/\aL (ns.take i)<=10^8:=λi=>by
  obtain⟨h1,h2⟩:=dF (B:=31) (by decide) (l:=ns.take i) λx hx=>hn x (List.mem_of_mem_take hx)
  have:=zM (n:=(ns.take i).length) (by rw [List.length_take];omega)
  exact⟨h1,by omega⟩
 refine dS (xs:=ns.map V.int) (λi σ' H'=>(∃ o2,σ'=[some (.ref l),some (.int (aL (ns.take i))),o2])/\H'=H) ⟨⟨_,rfl⟩,rfl⟩ (λi σ' H' _ h=>h.2▸hl) ?_ ?_
 ·rintro i x σ' H' hx ⟨⟨o2,rfl⟩,rfl⟩
  rw [List.getElem?_map] at hx
  obtain⟨n,hn',rfl⟩:=Option.map_eq_some_iff.mp hx
  obtain⟨n0,n1⟩:=hn n (List.mem_of_getElem? hn')
  obtain⟨t0,t1⟩:=tk i
  k_data
  refine⟨Bd.of (by omega) (by omega),Bd.of (by omega) (by omega),?_⟩
  rw [ly hn']
 ·rintro σ' H' ⟨⟨o2,rfl⟩,rfl⟩
  k_data
  rw [List.length_map,List.take_length]
  exact q
def pQ:Sp:=λvs H Q _=>∃(p k a r:Int),vs=[.int p,.int k,.int a,.int r]/\Num.Pm p/\p<=10^9/\0<k/\k<=10^100/\∀ b H',(b=true↔Num.Al p (r^k.toNat) a)->aE H H'->Q (.bl b) H'
theorem lH:aC ["p","k","a","root"] ["p","k","a","root"] (ao (top 33)):=c7
theorem ud (D:aA K mg "is_root" (top 33)) (c_power:Callee P w K mg base aV 4 "power" ["n","a","e"] kx):Callee P w K mg base aV 5 "is_root" ["p","k","a","root"] pQ:=by
 refine cO D lH (λf cdv A outer s H vs Q E hr h=>?_)
 obtain⟨p,k,a,r,rfl,pm,p9,k0,k1,q⟩:=h
 have p2:=pm.two
 have nd:=lH.nd
 refine⟨_,(ag (aQ (PW.pt (cF (ax ba (aw aU (pv 2) (pv 0)) af (aq _)) (d5 (ax ba (aw aU (pv 3) (pv 0)) af (aq _))))) (ak (au (bh ba (aw aU (pv 2) (pv 0)) (aw aU (pv 3) (pv 0)) (aq _)))) aD) (ak (au (bh ba (br c_power hr ay (aa (pv 0) (aa (pv 3) (aa (pv 1) ae)))) (aw aU (pv 2) (pv 0)) (aq _))))),?_⟩
 show b9 _ _ _ [some (.int p),some (.int k),some (.int a),some (.int r)] H
 have k':k.toNat=(k.toNat-1)+1:=by omega
 have pr:p∣r->p∣r^k.toNat:=λh=>by rw [k',Int.pow_succ];exact Int.dvd_mul_of_dvd_right h
 have rp:p∣r^k.toNat->p∣r:=λh=>by
  rcases Classical.em (p∣r) with z | z
  ·exact z
  ·exact absurd h (pm.unit ((pm.co z).pow k.toNat))
 have ra:p∣a->(Num.Al p (r^k.toNat) a↔p∣r):=λh=>⟨λal=>rp (by
  have h5:p∣r^k.toNat-a:=al
  have:=Int.dvd_add h5 h
  rwa [Int.sub_add_cancel] at this),λh2=>Int.dvd_sub (pr h2) h⟩
 have na:¬p∣a->p∣r->¬Num.Al p (r^k.toNat) a:=λh h2 al=>h (by
  have h5:p∣r^k.toNat-a:=al
  have:=Int.dvd_sub (pr h2) h5
  rwa [show r^k.toNat-(r^k.toNat-a)=a by omega] at this)
 have dm:∀ x:Int,x%p=0↔p∣x:=λx=>⟨Int.dvd_of_emod_eq_zero,Int.emod_eq_zero_of_dvd⟩
 k_data
 refine⟨by omega,aH (λc=>⟨by omega,by omega,?_⟩) (λc=>⟨by omega,aH (λc2=>⟨by omega,by omega,?_⟩) (λc2=>?_)⟩)⟩
 ·refine q _ H ?_ (aE.refl _)
  rw [ra ((dm a).mp c),decide_eq_true_eq,c,<- dm r]
  exact eq_comm
 ·refine q _ H ?_ (aE.refl _)
  rw [decide_eq_true_eq,c2]
  exact⟨λz=>absurd z c,λz=>absurd z (na (λz=>c ((dm a).mpr z)) ((dm r).mp c2))⟩
 ·refine⟨p,r,k,rfl,by omega,by omega,by omega,λH1 s1=>⟨by omega,rfl,q _ H1 ?_ s1⟩⟩
  rw [decide_eq_true_eq,Num.Al.iff]
  exact⟨λz=>by injection z,λz=>by rw [z]⟩
theorem dD:∀{a b:List Int},a.map PyData.int=b.map PyData.int->a=b
 | [],[],_=>rfl
 | [],_::_,h=>by cases h
 | _::_,[],h=>by cases h
 | x::a,y::b,h=>by
  simp only [List.map_cons,List.cons.injEq,PyData.int.injEq] at h
  rw [h.1,dD h.2]
theorem nG:∀{ds:List PyData},ds.all gH=true->∃ rs:List Int,ds=rs.map PyData.int
 | [],_=>⟨[],rfl⟩
 | d::ds,h=>by
  rw [List.all_cons,Bool.and_eq_true] at h
  obtain⟨rs,rfl⟩:=nG h.2
  cases d with
  | int i=>exact⟨i::rs,rfl⟩
  | _=>exact absurd h.1 (by simp [gH])
theorem rN (rs:List Int):(rs.map PyData.int).all gH=true:=by
 rw [List.all_eq_true]
 intro d hd
 obtain⟨i,_,rfl⟩:=List.mem_map.mp hd
 rfl
def zz (lo m:Int) (rs:List Int):List Bool:=List.zipWith (λa b=>decide (a<b)) (lo::rs) (rs++[m])
theorem xD {m:Int}:∀{rs:List Int} {lo:Int},(zz lo m rs).all id=true↔lo<m/\rs.Pairwise (·<·)/\∀ r∈rs,lo<r/\r<m
 | [],lo=>by simp [zz]
 | r::rs,lo=>by
  have ih:=xD (m:=m) (rs:=rs) (lo:=r)
  have e:zz lo m (r::rs)=decide (lo<r)::zz r m rs:=rfl
  rw [e,List.all_cons,Bool.and_eq_true,ih,List.pairwise_cons]
  simp only [id,decide_eq_true_eq,List.mem_cons,forall_eq_or_imp]
  constructor
  ·rintro⟨h1,h2,h3,h4⟩
   exact⟨by omega,⟨λx hx=>(h4 x hx).1,h3⟩,⟨h1,h2⟩,λx hx=>⟨by have:=(h4 x hx).1;omega,(h4 x hx).2⟩⟩
  ·rintro⟨h1,⟨h2,h3⟩,⟨h4,h5⟩,h6⟩
   exact⟨h4,h5,h3,λx hx=>⟨h2 x hx,(h6 x hx).2⟩⟩
def EG (m:Int) (ds:List PyData):Prop:=∃ rs:List Int,ds=rs.map PyData.int/\rs.Pairwise (·<·)/\∀ r∈rs,0<=r/\r<m
theorem dy {H:Hp}:∀{ns:List Int} {ds:List V},bo K H (ns.map PyData.int) ds->ds=ns.map V.int
 | [],_,h=>h
 | n::ns,_,⟨x,r,e,h,t⟩=>by
  subst e
  rw [dy t,show x=V.int n from h]
  rfl
def sQ (K:PySem.W.Frag):Sp:=λvs H Q _=>∃(l:Addr) (m:Int) (us:List V) (ds:List PyData),vs=[.int m,.ref l]/\H l=some (.lst us)/\bo K H ds us/\us.length<=1000/\0<m/\∀ b H',(b=true↔EG m ds)->aE H H'->Q (.bl b) H'
theorem dJ:aC ["whole","numbers"] ["whole","numbers"] (ao (top 32)):=c7
theorem wb (D:aA K mg "are_rising_below" (top 32)) (c_is_whole:Callee P w K mg base aV 1 "is_whole" ["thing"] (zU K)) (n_all:mg "all"=none) (n_zip:mg "zip"=none):Callee P w K mg base aV 2 "are_rising_below" ["whole","numbers"] (sQ K):=by
 refine cO D dJ (λf cdv A outer s H vs Q E hr h=>?_)
 obtain⟨l,m,us,ds,rfl,hl,hd,r9,m0,q⟩:=h
 have nd:=dJ.nd
 have ln:ds.length=us.length:=i9.len hd
 refine⟨_,(ag (aQ (bX (aM (av (dW rfl) rfl n_all L2.boot_all (aa (c8 rfl (jO (N':=["number"]) (js:=[none]) rfl rfl) (bP (pv 1)) (λ_ _ _ _=>(aF (i:=0) (show List.Nodup [("number":Str)] from by decide +kernel) rfl (Or.inl rfl) (.inr rfl))) (λ_ _ _ _=>bD) (λ_ _ _ _=>(br c_is_whole hr ay (aa (pv 0) ae)))) ae)) (λ_=>rfl))) (ak (au bO)) aD) (ak (au (av (dW rfl) rfl n_all L2.boot_all (aa (c8 rfl (jO (N':=["low","high"]) (js:=[none,none]) rfl rfl) (wz .l .l rfl n_zip (aa (aw cm (aX (aa (eZ dc af) ae)) (pv 1)) (aa (aw cm (pv 1) (aX (aa (pv 0) ae))) ae))) (λ_ _ _ _=>(iM K rfl (n:=2) rfl (bc (aF (i:=0) (show List.Nodup [("low":Str),("high":Str)] from by decide +kernel) rfl (Or.inl rfl) (.inr rfl)) (bc (aF (i:=1) (show List.Nodup [("low":Str),("high":Str)] from by decide +kernel) rfl (Or.inl rfl) (.inr rfl)) cW)))) (λ_ _ _ _=>bD) (λ_ _ _ _=>(bh cU (pv 0) (pv 1) (aq _)))) ae))))),?_⟩
 show b9 _ _ _ [some (.int m),some (.ref l)] H
 k_data
 refine⟨⟨_,aS.of hl⟩,?_⟩
 refine bQ (xs:=us) (λi ys H'=>H'=H/\ys=(ds.take i).map λd=>V.bl (gH d)) ⟨rfl,rfl⟩ (Nat.le_trans r9 (by decide)) (λi ys H' hi h=>⟨aS.of (h.1▸hl),by rw [h.2,List.length_map,List.length_take];exact Nat.min_le_left ..⟩) ?_ ?_
 ·rintro i v ys H2 hx ⟨rfl,rfl⟩
  obtain⟨d,hd',hv⟩:=hd.get hx
  simp only [cn,List.map_cons,List.map_nil,Option.join]
  k_data
  refine⟨True.intro,d,_,rfl,hv,rfl,?_⟩
  rw [List.take_add_one,hd',List.map_append]
  rfl
 rintro ys H2 pl ⟨rfl,rfl⟩ hpl
 rw [<- ln,List.take_length]
 have s1:=aj (o:=.lst (ds.map λd=>V.bl (gH d))) hpl
 have ea:∀ ds:List PyData,(ds.map λd=>V.bl (gH d))=(ds.map gH).map V.bl:=λds=>by rw [List.map_map];rfl
 rw [ea] at s1 ⊢
 refine jj (aS.of ai) ⟨_,aO.mpr rfl,?_⟩
 have ew:(ds.map gH).all id=ds.all gH:=by rw [List.all_map];rfl
 rw [ew]
 generalize upd H2 pl (.lst ((ds.map gH).map V.bl))=H3 at *
 refine aH (λz=>?_) (λz=>?_)
 ·refine q false H3 ⟨λy=>absurd y (by decide),?_⟩ s1
  rintro⟨rs,rfl,_⟩
  rw [rN] at z
  exact absurd z (by decide)
 obtain⟨rs,rfl⟩:=nG (by simpa using z)
 obtain rfl:us=rs.map V.int:=dy hd
 have rl:(rs.map V.int).length=rs.length:=List.length_map ..
 refine⟨by decide,λp1 hp1=>?_⟩
 have s2:=aj (o:=.lst [V.int (-1)]) hp1
 refine⟨p1,l,_,_,rfl,rfl,ai,s2 _ _ (s1 _ _ hl),by rw [rl];exact Nat.le_trans (show 1+rs.length<=1001 by omega) (by decide),λp2 hp2=>?_⟩
 have s3:=aj (o:=.lst ([V.int (-1)]++rs.map V.int)) hp2
 have e3:upd (upd H3 p1 (.lst [V.int (-1)])) p2 (.lst ([V.int (-1)]++rs.map V.int)) p2=some (.lst ([V.int (-1)]++rs.map V.int)):=ai
 generalize upd (upd H3 p1 (.lst [V.int (-1)])) p2 (.lst ([V.int (-1)]++rs.map V.int))=H4 at *
 have S3:=(s1.trans s2).trans s3
 refine⟨by show 1<=sizeLine;decide,λp3 hp3=>?_⟩
 have s4:=aj (o:=.lst [V.int m]) hp3
 refine⟨l,p3,_,_,rfl,rfl,s4 _ _ (S3 _ _ hl),ai,by rw [rl];exact Nat.le_trans (show rs.length+1<=1001 by omega) (by decide),λp4 hp4=>?_⟩
 have s5:=aj (o:=.lst (rs.map V.int++[V.int m])) hp4
 have e5:upd (upd H4 p3 (.lst [V.int m])) p4 (.lst (rs.map V.int++[V.int m])) p4=some (.lst (rs.map V.int++[V.int m])):=ai
 generalize upd (upd H4 p3 (.lst [V.int m])) p4 (.lst (rs.map V.int++[V.int m]))=H5 at *
 have e6:=s5 _ _ (s4 _ _ e3)
 have S5:=(S3.trans s4).trans s5
 have ex:[V.int (-1)]++rs.map V.int=(-1::rs).map V.int:=rfl
 have ey:rs.map V.int++[V.int m]=(rs++[m]).map V.int:=by rw [List.map_append];rfl
 have zl':(zz (-1) m rs).length=rs.length+1:=by unfold zz;rw [List.length_zipWith,List.length_cons,List.length_append,List.length_singleton];omega
 refine⟨p2,rfl,p4,rfl,⟨_,aS.of e6⟩,⟨_,aS.of e5⟩,?_⟩
 refine jt (k1:=.l) (k2:=.l) (xs:=[V.int (-1)]++rs.map V.int) (ys:=rs.map V.int++[V.int m]) (λi zs H'=>aE H5 H'/\zs=((zz (-1) m rs).take i).map V.bl) ⟨aE.refl _,rfl⟩ (by simp [Nat.add_comm]) (by rw [List.length_append,rl];exact Nat.le_trans (show 1+rs.length<=1001 by omega) (by decide)) (λi zs H' hi ⟨z1,z2⟩=>⟨aS.of (z1 _ _ e6),aS.of (z1 _ _ e5),by rw [z2,List.length_map,List.length_take];exact Nat.min_le_left ..⟩) ?_ ?_
 ·rintro i x y zs H' pz hx hy ⟨z1,rfl⟩ hpz
  rw [ex,List.getElem?_map] at hx
  rw [ey,List.getElem?_map] at hy
  obtain⟨lo,hlo,rfl⟩:=Option.map_eq_some_iff.mp hx
  obtain⟨hi,hhi,rfl⟩:=Option.map_eq_some_iff.mp hy
  have s6:=aj (o:=.tup [V.int lo,V.int hi]) hpz
  simp only [cn,List.map_cons,List.map_nil,Option.join]
  refine⟨pz,_,rfl,aY.of ai,rfl,?_⟩
  k_data
  refine⟨True.intro,z1.trans s6,?_⟩
  have ez:(zz (-1) m rs)[i]?=some (decide (lo<hi)):=by
   unfold zz
   rw [List.getElem?_zipWith,hlo,hhi]
  rw [List.take_add_one,ez,List.map_append]
  rfl
 ·rintro zs H' pz ⟨z1,rfl⟩ hpz
  have e7:(zz (-1) m rs).take ([V.int (-1)]++rs.map V.int).length=zz (-1) m rs:=by
   rw [List.take_of_length_le]
   rw [zl',List.length_append,rl,List.length_singleton]
   omega
  rw [e7]
  refine jj (aS.of ai) (q _ _ ?_ ((S5.trans z1).trans (aj hpz)))
  rw [xD]
  constructor
  ·rintro⟨_,h2,h3⟩
   exact⟨rs,rfl,h2,λr hr'=>⟨by have:=(h3 r hr').1;omega,(h3 r hr').2⟩⟩
  ·rintro⟨rs',e,h2,h3⟩
   obtain rfl:rs=rs':=dD e
   exact⟨by omega,h2,λr hr'=>⟨by have:=(h3 r hr').1;omega,(h3 r hr').2⟩⟩
def gc (k p:Int):Nat:=Nat.gcd k.toNat (p-1).toNat
theorem uW {p k d:Int} (h:Dg p k d) (p1:1<=p) (k0:0<k):d=(gc k p:Nat):=by
 have d0:=h.pos k0
 unfold gc
 obtain⟨u,v,B⟩:=h
 have e1:((k.toNat:Nat):Int)=k:=Int.toNat_of_nonneg (by omega)
 have e2:(((p-1).toNat:Nat):Int)=p-1:=Int.toNat_of_nonneg (by omega)
 have e3:((d.toNat:Nat):Int)=d:=Int.toNat_of_nonneg (by omega)
 have h1:d.toNat∣Nat.gcd k.toNat (p-1).toNat:=Nat.dvd_gcd (Int.natCast_dvd_natCast.mp (by rw [e3,e1];exact B.da)) (Int.natCast_dvd_natCast.mp (by rw [e3,e2];exact B.db))
 have h2:Nat.gcd k.toNat (p-1).toNat∣d.toNat:=by
  refine Int.natCast_dvd_natCast.mp ?_
  rw [e3,<- B.lin]
  refine Int.dvd_add (Int.dvd_mul_of_dvd_right ?_) (Int.dvd_mul_of_dvd_right ?_)
  ·rw [<- e1];exact Int.natCast_dvd_natCast.mpr (by rw [e1];exact Nat.gcd_dvd_left _ _)
  ·rw [<- e2];exact Int.natCast_dvd_natCast.mpr (by rw [e2];exact Nat.gcd_dvd_right _ _)
 have:=Nat.dvd_antisymm h1 h2
 omega
def hm (k a p:Int):Int:=open Classical in if p∣a then 1 else (gc k p:Nat)
theorem qz {k a p:Int} (p2:2<=p) (k0:0<k):0<hm k a p/\hm k a p<=p-1:=by
 unfold hm
 split
 ·omega
 ·have h1:0<gc k p:=Nat.gcd_pos_of_pos_left _ (by omega)
  have h2:gc k p<=(p-1).toNat:=Nat.le_of_dvd (by omega) (Nat.gcd_dvd_right _ _)
  omega
theorem rm {H:Hp} {Q:VK} {E:XK} {p k a:Int} (p2:2<=p) (p9:p<=10^9) (k0:0<k) (k1:k<=10^60) (q:∀ H',aE H H'->Q (.int (hm k a p)) H'):pP [.int p,.int k,.int a] H Q E :=
 ⟨p,k,a,rfl,by omega,by omega,k0,by omega,λz=>by have:=q H (aE.refl _);unfold hm at this;rwa [if_pos z] at this,λz d H' D s=>by
  have:=q H' s
  unfold hm at this
  rw [if_neg z,<- uW D (by omega) k0] at this
  exact this⟩
def Bt (P:Prop) (n:Nat) (ys:List V):Prop:=∃ bs:List Bool,ys=bs.map V.bl/\bs.length=n/\(bs.all id=true↔P)
theorem Bt.snoc {P P' R:Prop} {n:Nat} {ys:List V} {c:Bool} (h:Bt P n ys) (hc:c=true↔R) (hp:P'↔P/\R):Bt P' (n+1) (ys++[V.bl c]):=by
 obtain⟨bs,rfl,rfl,hb⟩:=h
 refine⟨bs++[c],by simp,by simp,?_⟩
 rw [List.all_append,Bool.and_eq_true,hb,hp,<- hc]
 simp
structure AR (ls:List Int) (k a:Int) (rs:List Int):Prop where
 len:(rs.length:Int)=aL (ls.map (hm k a))
 km:rs.length<=400
 rise:rs.Pairwise (·<·)
 bd:∀ r∈rs,0<=r/\r<aL ls
 ok:∀ p∈ls,∀ r∈rs,Num.Al p (r^k.toNat) a
def nV (K:PySem.W.Frag):Sp:=λvs H Q _=>∃(lp:Addr) (u:V) (ls:List Int) (k a:Int) (d:PyData),vs=[.ref lp,.int k,.int a,u]/\aS K H lp (ls.map V.int)/\fH K H d u/\(∀ p∈ls,Num.Pm p/\p<=31)/\ls.length<=5/\0<k/\k<=10^60/\∀ b H',(b=true↔∃ rs:List Int,d=.list (rs.map PyData.int)/\AR ls k a rs)->aE H H'->Q (.bl b) H'
theorem fc:aC ["primes","k","a","found","many"] ["primes","k","a","found"] (ao (top 31)):=c7
theorem yp (D:aA K mg "are_all_roots" (top 31)) (c_product_of:Callee P w K mg base aV 1 "product_of" ["numbers"] (sP K)) (c_how_many_roots:Callee P w K mg base aV 2 "how_many_roots" ["p","k","a"] pP) (c_are_rising_below:Callee P w K mg base aV 2 "are_rising_below" ["whole","numbers"] (sQ K)) (c_is_root:Callee P w K mg base aV 5 "is_root" ["p","k","a","root"] pQ) (g_MOST_TOLD:∃ t,mg "MOST_TOLD"=some (.int 400 t)) (n_isinstance:mg "isinstance"=none) (n_list:mg "list"=none) (n_len:mg "len"=none) (n_all:mg "all"=none):Callee P w K mg base aV 6 "are_all_roots" ["primes","k","a","found"] (nV K):=by
 refine cO D fc (λf cdv A outer s H vs Q E hr h=>?_)
 obtain⟨lp,u,ls,k,a,d,rfl,hlp,hd,pm,l5,k0,k1,q⟩:=h
 obtain⟨t0,g_MOST_TOLD⟩:=g_MOST_TOLD
 have nd:=fc.nd
 have hml:∀ n∈ls.map (hm k a),0<n/\n<=31:=λn hn=>by
  obtain⟨p,hp,rfl⟩:=List.mem_map.mp hn
  obtain⟨h1,h2⟩:=pm p hp
  obtain⟨h3,h4⟩:=qz (a:=a) h1.two k0
  omega
 have pl:∀ n∈ls,0<n/\n<=31:=λp hp=>⟨by have:=(pm p hp).1.two;omega,(pm p hp).2⟩
 obtain⟨W0,W1⟩:=dF (B:=31) (by decide) pl
 have W2:=zM l5
 obtain⟨m0,m1⟩:=dF (B:=31) (by decide) hml
 obtain⟨mn,hmn⟩:∃ mn:Nat,aL (ls.map (hm k a))=mn:=⟨(aL (ls.map (hm k a))).toNat,by omega⟩
 refine⟨_,(ag (cp (i:=4) nd (br c_product_of hr ay (aa (c8 rfl (jO (N':=["p","k","a"]) (js:=[none,some 1,some 2]) rfl rfl) (bP (pv 0)) (λ_ _ _ _=>(aF (i:=0) (show List.Nodup [("p":Str),("k":Str),("a":Str)] from by decide +kernel) rfl (Or.inl rfl) (.inr rfl))) (λ_ _ _ _=>bD) (λ_ _ _ _=>(br c_how_many_roots hr ay (aa (pv 0) (aa (pv 1) (aa (pv 2) ae)))))) ae))) (ag (aQ (PW.pt (cF (ax gY (pv 4) (sx (v:=.int 400) rfl g_MOST_TOLD ⟨_,rfl⟩) (aq _)) (cF (bX (aM (av bA rfl n_isinstance PyProof.Rows.boot_isinstance (aa (pv 3) (aa (bZ (v:=.ty "list") rfl n_list L2.boot_list rfl) ae))) (λ_=>rfl))) (d5 (ax fF (av aG rfl n_len PySem.boot_len (aa (pv 3) ae)) (pv 4) (aq _)))))) (ak (au bO)) aD) (ag (aQ (bX (aM (br c_are_rising_below hr ay (aa (br c_product_of hr ay (aa (pv 0) ae)) (aa (pv 3) ae))) (λ_=>rfl))) (ak (au bO)) aD) (ak (au (av (dW rfl) rfl n_all L2.boot_all (aa (A0 rfl (jO (N':=["p","root","k","a","found"]) (js:=[none,none,some 1,some 2,some 3]) rfl rfl) (bP (pv 0)) (λ_ _ _ _=>(aF (i:=0) (show List.Nodup [("p":Str),("root":Str),("k":Str),("a":Str),("found":Str)] from by decide +kernel) rfl (Or.inl rfl) (.inr rfl))) (λ_ _ _ _=>bD) (λ_ _ _ _=>(wy (K:=K) rfl (pv 4))) (λ_ _ _ _=>(aF (i:=1) (show List.Nodup [("p":Str),("root":Str),("k":Str),("a":Str),("found":Str)] from by decide +kernel) rfl (Or.inl rfl) (.inr rfl))) (λ_ _ _ _=>bD) (λ_ _ _ _=>(br c_is_root hr ay (aa (pv 0) (aa (pv 2) (aa (pv 3) (aa (pv 1) ae))))))) ae))))))),?_⟩
 show b9 _ _ _ [some (.ref lp),some (.int k),some (.int a),some u,none] H
 k_data
 refine⟨⟨_,hlp⟩,?_⟩
 refine bQ (xs:=ls.map V.int) (λi ys H'=>aE H H'/\ys=((ls.take i).map (hm k a)).map V.int) ⟨aE.refl _,rfl⟩ (by rw [List.length_map];exact Nat.le_trans l5 (by decide)) (λi ys H' hi h=>⟨hlp.same h.1,by rw [h.2];simp;omega⟩) ?_ ?_
 ·rintro i v ys H2 hx ⟨s1,rfl⟩
  rw [List.getElem?_map] at hx
  obtain⟨p,hp,rfl⟩:=Option.map_eq_some_iff.mp hx
  obtain⟨h1,h2⟩:=pm p (List.mem_of_getElem? hp)
  simp only [cn,List.map_cons,List.map_nil,Option.join]
  k_data
  refine⟨⟨rfl,rfl,True.intro⟩,_,rfl,_,rfl,rm h1.two (by omega) k0 k1 λH' s2=>⟨s1.trans s2,?_⟩⟩
  rw [List.take_add_one,hp,List.map_append,List.map_append]
  rfl
 rintro ys H2 pl' ⟨s1,rfl⟩ hpl
 rw [List.length_map,List.take_length]
 have s2:=aj (o:=.lst ((ls.map (hm k a)).map V.int)) hpl
 have e2:upd H2 pl' (.lst ((ls.map (hm k a)).map V.int)) pl'=some (.lst ((ls.map (hm k a)).map V.int)):=ai
 generalize upd H2 pl' _=H3 at *
 have S:=s1.trans s2
 refine⟨pl',_,rfl,aS.of e2,hml,by rw [List.length_map];exact l5,?_⟩
 rw [hmn]
 refine⟨(mn:Int),rfl,aH (λc=>q false H3 ⟨nofun,fun⟨rs,_,A⟩=>by have:=A.len;have:=A.km;omega⟩ S) (λc=>?_)⟩
 have hd3:=hd.same S
 refine fo hd3.dv ⟨_,aO.mpr rfl,?_⟩
 refine aH (λz=>q false H3 ⟨nofun,fun⟨rs,e,_⟩=>by rw [e] at z;cases z⟩ S) (λz=>?_)
 obtain⟨ds,rfl⟩:∃ ds,d=.list ds:=by
  cases d with
  | list ds=>exact⟨ds,rfl⟩
  | _=>exact absurd rfl z
 obtain⟨l,us,rfl,hH,hds'⟩:=hd3
 have hds:=hds'.bo
 have ln:ds.length=us.length:=i9.len hds
 clear z
 refine aZ (aS.of hH) ⟨rfl,aH (λz=>q false H3 ⟨nofun,fun⟨rs,e,A⟩=>?_⟩ S) (λz=>?_)⟩
 ·injection e with e
  subst e
  rw [List.length_map] at ln
  have:=A.len
  exact absurd (congrArg V.int (by omega)) z
 have lm:us.length=mn:=by
  have z':V.int (us.length:Int)=V.int mn:=Classical.byContradiction λy=>z y
  injection z' with z'
  omega
 refine⟨lp,ls,rfl,hlp.same S,pl,l5,l,aL ls,us,ds,rfl,hH,hds,by omega,W0,λbb H4 hb s4=>⟨bb,aO.mpr rfl,?_⟩⟩
 have S4:=S.trans s4
 refine aH (λz=>q false H4 ⟨nofun,fun⟨rs,e,A⟩=>?_⟩ S4) (λz=>?_)
 ·injection e with e
  rw [hb.mpr ⟨rs,e,A.rise,A.bd⟩] at z
  cases z
 obtain⟨rs,rfl,ri,rb⟩:=hb.mp (by simpa using z)
 obtain rfl:us=rs.map V.int:=dy hds
 have rl:(rs.map V.int).length=rs.length:=List.length_map ..
 rw [rl] at lm
 have hl4:=s4 _ _ hH
 have sz:5*400<sizeLine:=by decide
 refine⟨⟨_,hlp.same S4⟩,?_⟩
 have il:∀ i,i<=5->i*rs.length<=5*400:=λi hi=>Nat.mul_le_mul hi (by omega)
 refine oF (xs:=ls.map V.int) (λi ys H'=>aE H4 H'/\Bt (∀ p∈ls.take i,∀ r∈rs,Num.Al p (r^k.toNat) a) (i*rs.length) ys) ⟨aE.refl _,[],rfl,by simp,by simp⟩ (λi ys H' hi ⟨h,bs,e,e2,_⟩=>⟨(hlp.same S4).same h,?_⟩) ?_ ?_
 ·rw [e,List.length_map,e2]
  have:=il i (by rw [List.length_map] at hi;omega)
  omega
 ·rintro i v ys H5 hx ⟨s5,hE⟩
  rw [List.getElem?_map] at hx
  obtain⟨p,hp,rfl⟩:=Option.map_eq_some_iff.mp hx
  obtain⟨h1,h2⟩:=pm p (List.mem_of_getElem? hp)
  have i5:=(List.getElem?_eq_some_iff.mp hp).1
  simp only [cn,List.map_cons,List.map_nil,Option.join]
  k_data
  refine⟨⟨rfl,rfl,rfl,True.intro⟩,_,rfl,l,rfl,⟨_,aS.of (s5 _ _ hl4)⟩,?_⟩
  refine qA (xs:=rs.map V.int) (λj zs H'=>aE H4 H'/\Bt ((∀ p∈ls.take i,∀ r∈rs,Num.Al p (r^k.toNat) a)/\∀ r∈rs.take j,Num.Al p (r^k.toNat) a) (i*rs.length+j) zs) ⟨s5,by obtain⟨bs,e1,e2,e3⟩:=hE;exact⟨bs,e1,e2,by rw [e3];simp⟩⟩ (λj zs H' hj ⟨h,bs,e,e2,_⟩=>⟨aS.of (h _ _ hl4),?_⟩) ?_ (λzs H' h=>⟨h.1,?_⟩)
  ·rw [e,List.length_map,e2]
   have:=il (i+1) (by omega)
   rw [Nat.succ_mul] at this
   rw [rl] at hj
   omega
  ·rintro j v zs H6 hx ⟨s6,hE⟩
   rw [List.getElem?_map] at hx
   obtain⟨r,hr',rfl⟩:=Option.map_eq_some_iff.mp hx
   k_data
   refine⟨⟨rfl,rfl,rfl,rfl,True.intro⟩,_,rfl,_,rfl,p,k,a,r,rfl,h1,by omega,k0,by omega,λb7 H7 hb7 s7=>⟨s6.trans s7,hE.snoc hb7 ?_⟩⟩
   rw [List.take_add_one,hr',and_assoc]
   simp [or_imp,forall_and]
  ·obtain⟨bs,e1,e2,e3⟩:=h.2
   refine⟨bs,e1,by rw [e2,rl,Nat.succ_mul],?_⟩
   rw [e3,rl,List.take_length,List.take_add_one,hp]
   simp [or_imp,forall_and]
 rintro ys H2' pz ⟨s5,bs,rfl,_,hbs⟩ hpz
 have s6:=aj (o:=.lst (bs.map V.bl)) hpz
 refine jj (aS.of ai) (q _ _ ?_ (S4.trans (s5.trans s6)))
 rw [hbs,List.length_map,List.take_length]
 constructor
 ·intro z
  exact⟨rs,rfl,by rw [hmn];omega,by omega,ri,rb,z⟩
 ·rintro⟨rs',e,A⟩
  injection e with e
  obtain rfl:rs=rs':=dD e
  exact A.ok
def fh (r t:Int):PyData:=.tuple [.str "turned",.int r,.int t]
def fK (p k a:Int) (rs:List Int) (sh:PyData):Prop:=(p∣a/\sh=.tuple [.str "nought"])∨(¬p∣a/\∃ m t:Int,m∈rs.map (λr=>r%p)/\(∀ x∈rs.map (λr=>r%p),m<=x)/\0<=t/\t<p/\Num.Ord p t (gc k p)/\sh=fh m t)
theorem Ef {d:PyData} {n:Nat} (h:dz d n=true):∃ ds,d=.tuple ds/\ds.length=n:=by
 cases d with
 | tuple ds=>exact⟨ds,rfl,by simpa [dz] using h⟩
 | _=>exact absurd h (by simp [dz])
def iY (K:PySem.W.Frag):Sp:=λvs H Q _=>∃(v u:V) (l:Addr) (p g k a:Int) (ps:List (Int × Int)) (ds:Nat->PyData) (rs:List Int) (sh:PyData),vs=[v,.int k,.int a,.ref l,u]/\dv K H (.tuple [.int p,.int g,.tuple (Num.rowsOf ps ds)]) v/\xN p g ps ds/\0<k/\k<=10^60/\aS K H l (rs.map V.int)/\rs≠[]/\rs.length<=400/\dv K H sh u/\gd sh/\∀ b H',(b=true↔fK p k a rs sh)->aE H H'->Q (.bl b) H'
theorem gu:aC ["paper","k","a","found","shown","p","least"] ["paper","k","a","found","shown"] (ao (top 34)):=c7
theorem uj (D:aA K mg "is_shown_by" (top 34)) (c_is_just:Callee P w K mg base aV 15 "is_just" ["thing","right"] (jE K 7)) (c_is_tuple_of:Callee P w K mg base aV 1 "is_tuple_of" ["thing","many"] (j4 K)) (c_is_whole:Callee P w K mg base aV 1 "is_whole" ["thing"] (zU K)) (c_is_order:Callee P w K mg base aV 6 "is_order" ["paper","a","e"] (mQ K)) (c_how_many_roots:Callee P w K mg base aV 2 "how_many_roots" ["p","k","a"] pP) (n_min:mg "min"=none):Callee P w K mg base aV 16 "is_shown_by" ["paper","k","a","found","shown"] (iY K):=by
 refine cO D gu (λf cdv A outer s H vs Q E hr h=>?_)
 obtain⟨v,u,l,p,g,k,a,ps,ds,rs,sh,rfl,hd,R,k0,k1,hl,nrs,h4,hu,gs,q⟩:=h
 have p2:=R.pm.two
 have p9:=R.p9
 have rl:(rs.map V.int).length=rs.length:=List.length_map ..
 have nd:=gu.nd
 refine⟨_,(ag (fW (i:=5) nd rfl (Or.inr rfl) (aB aI (pv 0) af (λ_ _=>rfl))) (ag (aQ (ax ba (aw aU (pv 2) (pv 5)) af (aq _)) (ak (au (br c_is_just hr ay (aa (pv 4) (aa (aR (aa aT ae)) ae))))) aD) (ag (cp (i:=6) nd (av (tq rfl) rfl n_min L2.boot_min (aa (c8 rfl (jO (N':=["root","p"]) (js:=[none,some 5]) rfl rfl) (bP (pv 3)) (λ_ _ _ _=>(aF (i:=0) (show List.Nodup [("root":Str),("p":Str)] from by decide +kernel) rfl (Or.inl rfl) (.inr rfl))) (λ_ _ _ _=>bD) (λ_ _ _ _=>(aw aU (pv 0) (pv 1)))) ae))) (ag (aQ (bX (PW.pt (cN (aM (br c_is_tuple_of hr ay (aa (pv 4) (aa af ae))) (λ_=>rfl)) (cN (aM (br c_is_just hr ay (aa (aK wU (pv 4) aW (aN af)) (aa (aR (aa aT (aa (pv 6) ae))) ae))) (λ_=>rfl)) (cI (aM (br c_is_whole hr ay (aa (aB aI (pv 4) af (λ_ _=>rfl)) ae)) (λ_=>rfl))))))) (ak (au bO)) aD) (ak (au (bG (lh lb cU af (aB aI (pv 4) af (λ_ _=>rfl)) (pv 5)) (cA (br c_is_order hr ay (aa (pv 0) (aa (aB aI (pv 4) af (λ_ _=>rfl)) (aa (br c_how_many_roots hr ay (aa (pv 5) (aa (pv 1) (aa (pv 2) ae)))) ae)))))))))))),?_⟩
 show b9 _ _ _ [some v,some (.int k),some (.int a),some (.ref l),some u,none,none] H
 obtain⟨pp,y1,y2,vr,rfl,tS,e0,eg,dr⟩:=qw hd
 cases e0
 cases eg
 k_data
 refine bj tS fL ?_
 k_data
 refine⟨by omega,aH (λc=>?_) (λc=>?_)⟩
 ·have pa:=Int.dvd_of_emod_eq_zero c
  refine⟨by show 1<=sizeLine;decide,λp1 hp1=>?_⟩
  have s1:=aj (o:=.tup [V.str "nought"]) hp1
  refine⟨_,_,sh,.tuple [.str "nought"],rfl,dv.same s1 _ hu,dv.tup ai (.one rfl),gd.lay _ gs,?_,λb' H' hb' s'=>?_⟩
  ·simp only [rD,uE,List.length_cons,List.length_nil,and_true]
   exact⟨by decide,by decide +kernel⟩
  ·refine q b' H' ?_ (s1.trans s')
   rw [hb']
   exact⟨λz=>.inl ⟨pa,z⟩,λz=>z.elim (λz=>z.2) λz=>absurd pa z.1⟩
 have na:¬p∣a:=λz=>c (Int.emod_eq_zero_of_dvd z)
 refine⟨⟨_,hl⟩,?_⟩
 refine bQ (xs:=rs.map V.int) (λi ys H'=>H'=H/\ys=((rs.take i).map λr=>r%p).map V.int) ⟨rfl,rfl⟩ (by rw [rl];exact Nat.le_trans h4 (by decide)) (λi ys H' hi h=>⟨h.1▸hl,by rw [h.2,List.length_map,List.length_map,List.length_take];exact Nat.min_le_left ..⟩) ?_ ?_
 ·rintro i v ys H2 hx ⟨rfl,rfl⟩
  rw [List.getElem?_map] at hx
  obtain⟨r,hr',rfl⟩:=Option.map_eq_some_iff.mp hx
  simp only [cn,List.map_cons,List.map_nil,Option.join]
  k_data
  refine⟨⟨rfl,True.intro⟩,_,rfl,p,rfl,by omega,?_⟩
  rw [List.take_add_one,hr',List.map_append,List.map_append]
  rfl
 rintro ys H2 pl ⟨rfl,rfl⟩ hpl
 rw [rl,List.take_length]
 have s1:=aj (o:=.lst ((rs.map λr=>r%p).map V.int)) hpl
 refine⟨pl,rs.map λr=>r%p,rfl,aS.of ai,λz=>nrs (List.map_eq_nil_iff.mp z),λm mh hmin=>?_⟩
 generalize upd H2 pl (.lst ((rs.map λr=>r%p).map V.int))=H3 at *
 have told_inv:fK p k a rs sh->∃ t,0<=t/\t<p/\Num.Ord p t (gc k p)/\sh=fh m t:=by
  rintro (⟨z,_⟩|⟨_,m',t,hm',hmin',h2,h3,h4,h5⟩)
  ·exact absurd z na
  ·have:=hmin m' hm'
   have:=hmin' m mh
   obtain rfl:m=m':=by omega
   exact⟨t,h2,h3,h4,h5⟩
 have hu1:=dv.same s1 _ hu
 refine⟨sh,u,3,rfl,hu1,_,aO.mpr rfl,?_⟩
 refine aH (λz=>?_) (λz=>q false H3 ⟨λy=>absurd y (by decide),λT=>absurd (by obtain⟨t,_,_,_,rfl⟩:=told_inv T;rfl) z⟩ s1)
 obtain⟨ss,rfl,ls⟩:=Ef z
 obtain⟨x0,x1,x2,rfl⟩:∃ x0 x1 x2,ss=[x0,x1,x2]:=by
  match ss,ls with
  | [x0,x1,x2],_=>exact⟨x0,x1,x2,rfl⟩
 simp only [gd,fP,and_true] at gs
 obtain⟨pu,z1,z2,z3,rfl,tU,u0,u1,u2⟩:=qw hu1
 refine⟨pu,_,rfl,tU,show ¬((0:Nat)=0/\(2:Nat)=3) by decide,λp3 hp3=>?_⟩
 have s3:=aj (o:=.tup (cz [z1,z2,z3] none (some 2))) hp3
 have e3:upd H3 p3 (.tup (cz [z1,z2,z3] none (some 2))) p3=some (.tup [z1,z2]):=ai
 generalize upd H3 p3 (.tup (cz [z1,z2,z3] none (some 2)))=H4 at *
 refine⟨by show 2<=sizeLine;decide,λp4 hp4=>?_⟩
 have s4:=aj (o:=.tup [V.str "turned",V.int m]) hp4
 have S34:=s3.trans s4
 refine⟨_,_,.tuple [x0,x1],.tuple [.str "turned",.int m],rfl,dv.tup (s4 _ _ e3) ⟨_,_,rfl,dv.same S34 _ u0,.one (dv.same S34 _ u1)⟩,dv.tup ai ⟨_,_,rfl,rfl,.one rfl⟩,gd.lay _ (by simp only [gd,fP,and_true];exact⟨gs.1,gs.2.1⟩),?_,λb' H5 hb' s5=>?_⟩
 ·simp only [rD,uE,List.length_cons,List.length_nil,and_true]
  exact⟨by decide,by decide +kernel⟩
 have S5:=s3.trans (s4.trans s5)
 have T5:=s1.trans S5
 refine⟨b',aO.mpr rfl,?_⟩
 refine aH (λz=>?_) (λz=>q false H5 ⟨λy=>absurd y (by decide),λT=>absurd (by
  obtain⟨t,_,_,_,e⟩:=told_inv T
  simp only [fh,PyData.tuple.injEq,List.cons.injEq] at e
  rw [hb',e.1,e.2.1]) z⟩ T5)
 have hb:=hb'.mp z
 simp only [PyData.tuple.injEq,List.cons.injEq,and_true] at hb
 obtain⟨rfl,rfl⟩:=hb
 cases u0
 cases u1
 refine bj (tU.same S5) (show ([V.str "turned",V.int m,z3]:List V)[2]?=some z3 from rfl) ⟨x2,z3,rfl,dv.same S5 _ u2,_,aO.mpr rfl,?_⟩
 refine aH (λz=>?_) (λz=>?_)
 ·refine q false H5 ⟨λy=>absurd y (by decide),λT=>?_⟩ T5
  obtain⟨t,_,_,_,e⟩:=told_inv T
  simp only [fh,PyData.tuple.injEq,List.cons.injEq,and_true,true_and] at e
  rw [e] at z
  exact absurd z (by simp [gH])
 obtain⟨t,rfl⟩:∃ t:Int,x2=.int t:=by
  cases x2 with
  | int i=>exact⟨i,rfl⟩
  | _=>exact absurd rfl z
 cases u2
 have told_iff:fK p k a rs (.tuple [.str "turned",.int m,.int t])↔1<=t/\t<p/\Num.Ord p t (gc k p):=by
  constructor
  ·intro T
   obtain⟨t',h1,h2,h3,e⟩:=told_inv T
   simp only [fh,PyData.tuple.injEq,List.cons.injEq,and_true,true_and,PyData.int.injEq] at e
   subst e
   refine⟨?_,h2,h3⟩
   rcases Int.lt_or_eq_of_le h1 with z | z
   ·omega
   ·subst z
    have h1:=h3.one
    rw [Int.zero_pow (Nat.pos_iff_ne_zero.mp h3.pos)] at h1
    have h2:p∣0-1:=h1
    have:=Int.le_of_dvd (by decide) (Int.dvd_neg.mpr h2)
    omega
  ·rintro⟨h1,h2,h3⟩
   exact .inr ⟨na,m,t,mh,hmin,by omega,h2,h3,rfl⟩
 unfold jJ
 k_data
 refine bj (tU.same S5) (show ([V.str "turned",V.int m,V.int t]:List V)[2]?=some (.int t) from rfl) ?_
 k_data
 refine aH (λt1=>?_) (λt1=>q _ H5 ?_ T5)
 rotate_left
 ·rw [told_iff]
  exact⟨λy=>absurd y (by decide),λy=>absurd y.1 t1⟩
 refine aH (λt2=>?_) (λt2=>q _ H5 ?_ T5)
 rotate_left
 ·rw [told_iff]
  exact⟨λy=>absurd y (by decide),λy=>absurd y.2.1 t2⟩
 have hd5:=dv.same T5 _ hd
 refine bj (tU.same S5) (show ([V.str "turned",V.int m,V.int t]:List V)[2]?=some (.int t) from rfl) (rm p2 p9 k0 k1 λH6 s6=>?_)
 have hh:hm k a p=(gc k p:Nat):=by unfold hm;rw [if_neg na]
 have dp:=qz (a:=a) p2 k0
 rw [hh] at dp ⊢
 refine⟨.ref pp,p,t,(gc k p:Nat),.int g,_,ps,rfl,dv.same s6 _ hd5,vp R.hds,R.pm,R.hP,by omega,Nat.le_trans R.l29 (by decide),by omega,by omega,λbb H7 hb s7=>?_⟩
 rw [Int.toNat_natCast] at hb
 refine q bb H7 ?_ (T5.trans (s6.trans s7))
 rw [hb,told_iff]
 exact⟨λy=>⟨t1,t2,y.2⟩,λy=>⟨by omega,y.2.2⟩⟩
def gJ (k p:Int):Int:=(p-1)/(gc k p:Nat)
def jh (p k a:Int) (df de dr:PyData):Prop:=¬p∣a/\¬Num.Al p (a^(gJ k p).toNat) 1/\df=.list []/\de=.int (gJ k p)/\dr=.int (a^(gJ k p).toNat%p)
theorem CD {s t:Str} (h:s≠t):PyData.str s≠PyData.str t:=λz=>by injection z with z;exact h z
theorem AR.ne {ls:List Int} {k a:Int} {rs:List Int} (h:AR ls k a rs) (h2:∀ p∈ls,2<=p) (k0:0<k):rs≠[]:=λz=>by
 have:=h.len
 rw [z] at this
 have key:∀ l:List Int,(∀ p∈l,2<=p)->0<aL (l.map (hm k a)):=λl=>by
  induction l with
  | nil=>intro _;exact Int.one_pos
  | cons x l ih=>intro h;exact Int.mul_pos (qz (h x (by simp)) k0).1 (ih λp hp=>h p (List.mem_cons_of_mem _ hp))
 have:=key ls h2
 simp only [List.length_nil] at *
 omega
def pX (K:PySem.W.Frag):Sp:=λvs H Q _=>∃(v u:V) (p g k a:Int) (ps:List (Int × Int)) (ds:Nat->PyData) (df de dr:PyData),vs=[v,.int k,.int a,u]/\dv K H (.tuple [.int p,.int g,.tuple (Num.rowsOf ps ds)]) v/\xN p g ps ds/\p<=31/\0<k/\k<=10^60/\fH K H (.tuple [df,.tuple [.str "none",de,dr]]) u/\gd df/\gd de/\gd dr/\∀ b H',(b=true↔jh p k a df de dr)->aE H H'->Q (.bl b) H'
theorem gy:aC ["paper","k","a","thing","found","shown","none"] ["paper","k","a","thing"] (ao (top 28)):=c7
theorem uk (D:aA K mg "shows_roots" (top 28)) (c_is_prime_paper:Callee P w K mg base aV 8 "is_prime_paper" ["thing"] (Cz K)) (c_is_tuple_of:Callee P w K mg base aV 1 "is_tuple_of" ["thing","many"] (j4 K)) (c_shown_none:Callee P w K mg base aV 5 "shown_none" ["p","k","a"] (wZ K)) (c_is_just:Callee P w K mg base aV 15 "is_just" ["thing","right"] (jE K 7)) (c_are_all_roots:Callee P w K mg base aV 6 "are_all_roots" ["primes","k","a","found"] (nV K)) (c_is_shown_by:Callee P w K mg base aV 16 "is_shown_by" ["paper","k","a","found","shown"] (iY K)):Callee P w K mg base aV 17 "shows_roots" ["paper","k","a","thing"] (pX K):=by
 refine cO D gy (λf cdv A outer s H vs Q E hr h=>?_)
 obtain⟨v,u,p,g,k,a,ps,ds,df,de,dr,rfl,hd,R,p4,k0,k1,hu,g1,g2,g3,q⟩:=h
 have p2:=R.pm.two
 have nd:=gy.nd
 refine⟨_,(ag (aQ (bX (PW.pt (cN (aM (br c_is_prime_paper hr ay (aa (pv 0) ae)) (λ_=>rfl)) (cI (aM (br c_is_tuple_of hr ay (aa (pv 3) (aa af ae))) (λ_=>rfl)))))) (ak (au bO)) aD) (ag (fz (pv 3) (ie (n:=2) rfl (bc (aF (i:=4) nd rfl (Or.inl rfl) (.inr rfl)) (bc (aF (i:=5) nd rfl (Or.inl rfl) (.inr rfl)) cW)))) (ag (cp (i:=6) nd (br c_shown_none hr ay (aa (aB aI (pv 0) af (λ_ _=>rfl)) (aa (pv 1) (aa (pv 2) ae))))) (ag (aQ (ax yC (pv 6) fU (aq _)) (ak (au (br c_is_just hr ay (aa (pv 3) (aa (aR (aa (aX ae) (aa (pv 6) ae))) ae))))) aD) (ak (au (bG (br c_are_all_roots hr ay (aa (aX (aa (aB aI (pv 0) af (λ_ _=>rfl)) ae)) (aa (pv 1) (aa (pv 2) (aa (pv 4) ae))))) (cA (br c_is_shown_by hr ay (aa (pv 0) (aa (pv 1) (aa (pv 2) (aa (pv 4) (aa (pv 5) ae)))))))))))))),?_⟩
 show b9 _ _ _ [some v,some (.int k),some (.int a),some u,none,none,none] H
 obtain⟨pp,y1,y2,vr,rfl,tS,e0,eg,dr'⟩:=qw hd
 cases e0
 cases eg
 k_data
 have ppp:=(qS p2 R.hP R.hds).mpr ⟨R.g1,R.gp,R.o⟩
 refine⟨_,_,rfl,hd,R.sm,R.sz,λbb H1 hb s1=>?_⟩
 obtain rfl:bb=true:=hb.mpr ppp
 refine⟨true,aO.mpr rfl,?_⟩
 rw [if_pos rfl]
 refine⟨_,u,2,rfl,(hu.same s1).dv,_,aO.mpr rfl,?_⟩
 refine aH (λz=>nomatch (show true=false from z)) (λ_=>?_)
 obtain⟨t,us,rfl,tT,vf,r1,rfl,hf,vs',r2,rfl,hs,z⟩:=hu
 cases z
 refine⟨t,_,rfl,tT.same s1,rfl,?_⟩
 k_data
 have gsh:gd (.tuple [.str "none",de,dr]):=by simp only [gd,fP,and_true];exact⟨by decide +kernel,g2,g3⟩
 have rest:∀ H2,aE H1 H2->¬jh p k a df de dr->wL K (.ref pp) (.int 0) H2 λx H3=>[x].length<=sizeLine/\∀ p3,H3 p3=none->nV K [.ref p3,.int k,.int a,vf] (upd H3 p3 (.lst [x])) (λx H'=>∃ c,x=.bl c/\if c=true then iY K [.ref pp,.int k,.int a,vf,vs'] H' Q E0 else Q (.bl false) H') E0:=by
  intro H2 s2 NI
  refine bj (tS.same (s1.trans s2)) fL ⟨by show 1<=sizeLine;decide,λp3 hp3=>?_⟩
  have s3:=aj (o:=.lst [V.int p]) hp3
  have S3:=s1.trans (s2.trans s3)
  refine⟨p3,vf,[p],k,a,df,rfl,aS.of ai,hf.same S3,λx hx=>by rw [List.mem_singleton.mp hx];exact⟨R.pm,p4⟩,(by show 1<=5;decide),k0,k1,λb4 H4 hb4 s4=>⟨b4,rfl,?_⟩⟩
  have S4:=S3.trans s4
  refine aH (λz=>?_) (λz=>q false H4 ⟨nofun,λz=>absurd z NI⟩ S4)
  obtain⟨rs,rfl,A⟩:=hb4.mp z
  obtain⟨l,xs,rfl,hl,hxs⟩:=hf
  obtain rfl:xs=rs.map V.int:=dy hxs.bo
  refine⟨_,vs',l,p,g,k,a,ps,ds,rs,_,rfl,dv.same S4 _ hd,R,k0,k1,aS.of (S4 _ _ hl),A.ne (λx hx=>by rw [List.mem_singleton.mp hx];exact p2) k0,A.km,(hs.same S4).dv,gsh,λb5 H5 hb5 s5=>q b5 H5 ?_ (S4.trans s5)⟩
  rw [hb5]
  refine⟨λT=>?_,λz=>absurd z NI⟩
  rcases T with⟨_,e⟩|⟨_,m,t',_,_,_,_,_,e⟩
  ·simp at e
  ·injection e with e
   injection e with e
   exact absurd e (CD (by decide))
 refine bj (tS.same s1) fL ⟨p,k,a,rfl,R.pm,by omega,k0,by omega,λz=>?_,λz d' D'=>?_⟩
 ·k_data
  rw [if_neg (λz=>z True.intro)]
  exact rest H1 (aE.refl _) λy=>y.1 z
 obtain rfl:=uW D' (by omega) k0
 refine⟨λal H2 s2=>?_,λnal w' H2 s2 hw=>?_⟩
 ·k_data
  rw [if_neg (λz=>z True.intro)]
  exact rest H2 s2 λy=>y.2.1 al
 ·obtain⟨pn,n1,n2,n3,rfl,tN,_⟩:=qw hw
  k_data
  rw [if_pos (λz=>nomatch z)]
  refine⟨by show 0<=sizeLine;decide,λp3 hp3=>⟨by show 2<=sizeLine;decide,λp4' hp4=>?_⟩⟩
  have s3:=aj (o:=.lst []) hp3
  have s4:=aj (o:=.tup [V.ref p3,V.ref pn]) hp4
  have e3:upd H2 p3 (.lst []) p3=some (.lst []):=ai
  have S4:=s1.trans (s2.trans (s3.trans s4))
  refine⟨_,_,.tuple [df,.tuple [.str "none",de,dr]],.tuple [.list [],rY (gJ k p) (a^(gJ k p).toNat%p)],rfl,⟨t,_,rfl,tT.same S4,_,_,rfl,(hf.same S4).dv,.one (hs.same S4).dv⟩,dv.tup ai ⟨_,_,rfl,⟨p3,[],rfl,aS.of (s4 _ _ e3),rfl⟩,.one (dv.same (s3.trans s4) _ hw)⟩,gd.lay _ (by simp only [gd,fP,and_true] at gsh ⊢;exact⟨g1,gsh⟩),?_,λb' H' hb' s'=>?_⟩
  ·simp only [rY,rD,uE,List.length_cons,List.length_nil,and_true]
   exact⟨by decide,by decide,by decide,by decide +kernel⟩
  ·refine q b' H' ?_ (S4.trans s')
   rw [hb']
   constructor
   ·intro e
    simp only [rY,PyData.tuple.injEq,List.cons.injEq,and_true,true_and] at e
    exact⟨z,nal,e.1,e.2.1,e.2.2⟩
   ·rintro⟨_,_,rfl,rfl,rfl⟩
    rfl
end
end K
namespace K
open PySem PySem.Spec PyProof.Rows L2
section
variable {P:Program} {w:World} {K:PySem.W.Frag} {mg:Str->Option Value} {base:Heap}
theorem DA {H:Hp} {d1 d2:PyData} {v:V} (h:dv K H (.tuple [d1,d2]) v):∃ p x1 x2,v=.ref p/\aY K H p [x1,x2]/\dv K H d1 x1/\dv K H d2 x2:=by
 obtain⟨p,xs,rfl,h1,x1,r1,rfl,e1,x2,r2,rfl,e2,z⟩:=h
 cases z
 exact⟨p,x1,x2,rfl,h1,e1,e2⟩
theorem CZ {d:PyData} (h:dz d 2=true):∃ d1 d2,d=.tuple [d1,d2]:=by
 cases d with
 | tuple ds =>
  match ds,h with
  | [d1,d2],_=>exact⟨d1,d2,rfl⟩
  | [],h=>exact absurd h (by decide)
  | [_],h=>exact absurd h (by simp [dz])
  | _::_::_::_,h=>exact absurd h (by simp [dz])
 | _=>cases h
def vB:PyData->Int->Bool
 | .int i,m=>decide (0<=i/\i<m)
 | _,_=>false
def sO (K:PySem.W.Frag):Sp:=λvs H Q _=>∃(d:PyData) (v:V) (m:Int),vs=[v,.int m]/\dv K H d v/\Q (.bl (vB d m)) H
theorem jZ:aC ["thing","many"] ["thing","many"] (ao (top 40)):=c7
theorem v8 (D:aA K mg "is_place" (top 40)) (c_is_whole:Callee P w K mg base aV 1 "is_whole" ["thing"] (zU K)):Callee P w K mg base aV 2 "is_place" ["thing","many"] (sO K):=by
 refine cO D jZ (λf cdv A outer s H vs Q E hr h=>?_)
 obtain⟨d,v,m,rfl,hd,q⟩:=h
 have nd:=jZ.nd
 refine⟨_,(ak (au (bG (br c_is_whole hr ay (aa (pv 0) ae)) (cA (lh lb cU af (pv 0) (pv 1)))))),?_⟩
 show gT _ _ [some v,some (.int m)] H
 k_data
 refine⟨d,v,rfl,hd,gH d,rfl,?_⟩
 cases c:gH d with
 | false =>
  rw [if_neg (by decide)]
  cases d<;>first | exact q | cases c
 | true =>
  rw [if_pos rfl]
  obtain⟨i,rfl⟩:=dR c
  cases hd
  unfold jJ
  k_data
  refine aH (λc1=>?_) (λc1=>?_)
  ·have:decide (i<m)=vB (.int i) m:=by
    show _=decide (0<=i/\i<m)
    simp [c1]
   rw [this]
   exact q
  ·have:false=vB (.int i) m:=by
    show _=decide (0<=i/\i<m)
    simp [c1]
   rw [this]
   exact q
theorem rH {d:PyData} {s:Str} (h:PyData.eqv d (.str s)=true):d=.str s:=by
 cases d<;>simp_all [PyData.eqv]
theorem iD {d:PyData} {s:Str} (hs:PyData.canLay0 (.str s)=true):PyData.eqv d (.str s)=true↔d=.str s :=
 ⟨rH,λh=>by rw [h];exact eqv_refl _ hs⟩
theorem vC {d:PyData} {m:Int}:vB d m=true↔∃ i,d=.int i/\0<=i/\i<m:=by
 cases d<;>simp [vB]
theorem C0 {d:PyData} {m:Nat} (h:dz d m=true):∃ ds,d=.tuple ds/\ds.length=m:=by
 cases d<;>simp_all [dz]
theorem DE {H:Hp} {d1 d2 d3 d4:PyData} {xs:List V} (h:bo K H [d1,d2,d3,d4] xs):∃ x1 x2 x3 x4,xs=[x1,x2,x3,x4]/\dv K H d1 x1/\dv K H d2 x2/\dv K H d3 x3/\dv K H d4 x4:=by
 obtain⟨x1,r,rfl,e1,z⟩:=h
 obtain⟨x2,x3,x4,rfl,e2⟩:=BW z
 exact⟨x1,x2,x3,x4,rfl,e1,e2⟩
theorem BV {H:Hp} {d1 d2 d3 d4:PyData} {v:V} (h:dv K H (.tuple [d1,d2,d3,d4]) v):∃ p x1 x2 x3 x4,v=.ref p/\aY K H p [x1,x2,x3,x4]/\dv K H d1 x1/\dv K H d2 x2/\dv K H d3 x3/\dv K H d4 x4:=by
 obtain⟨p,xs,hv,h1,h⟩:=h
 obtain⟨x1,x2,x3,x4,rfl,e⟩:=DE h
 exact⟨p,x1,x2,x3,x4,hv,h1,e⟩
theorem vH {d:PyData} {ds:List PyData} (h:PyData.canLay0 (.tuple (d::ds))=true):d.canLay0=true:=by
 simp only [PyData.canLay0,PyData.canLayAll0,Bool.and_eq_true] at h
 exact h.1
theorem iC {H:Hp} {d:PyData} {x:V} {s:Str} {Q:VK} (hd:dv K H d x) (lay:d.canLay0=true) (hs:PyData.canLay0 (.str s)=true) (q:∀ c,(c=true↔d=.str s)->Q (.bl c) H):uu K false x (.str s) H Q :=
 ⟨d,.str s,hd,rfl,lay,hs,Nat.le_trans (Nat.min_le_right _ _) (by show 0<=60;decide),q _ (iD hs)⟩
def pR (K:PySem.W.Frag):Sp:=λvs H Q _=>∃(d:PyData) (v:V) (m:Int),vs=[v,.int m]/\dv K H d v/\d.canLay0=true/\∀ bb,(bb=true↔∃ i e r,d=.tuple [.str "none",.int i,e,r]/\0<=i/\i<m)->Q (.bl bb) H
theorem h7:aC ["shown","many"] ["shown","many"] (ao (top 39)):=c7
theorem uf (D:aA K mg "is_none_at" (top 39)) (c_is_tuple_of:Callee P w K mg base aV 1 "is_tuple_of" ["thing","many"] (j4 K)) (c_is_place:Callee P w K mg base aV 2 "is_place" ["thing","many"] (sO K)):Callee P w K mg base aV 3 "is_none_at" ["shown","many"] (pR K):=by
 refine cO D h7 (λf cdv A outer s H vs Q E hr h=>?_)
 obtain⟨d,v,m,rfl,hd,lay,q⟩:=h
 have nd:=h7.nd
 refine⟨_,(ak (au (bG (br c_is_tuple_of hr ay (aa (pv 0) (aa af ae))) (bG (bh (eT hr.units) (aB aI (pv 0) af (λ_ _=>rfl)) aT (aq _)) (cA (br c_is_place hr ay (aa (aB aI (pv 0) af (λ_ _=>rfl)) (aa (pv 1) ae)))))))),?_⟩
 show gT _ _ [some v,some (.int m)] H
 k_data
 refine⟨d,v,4,rfl,hd,dz d 4,rfl,aH (λc=>?_) (λc=>?_)⟩
 ·obtain⟨ds,rfl,l⟩:=C0 c
  match ds,l with
  | [d1,d2,d3,d4],_ =>
   obtain⟨p,x1,x2,x3,x4,rfl,hS,e1,e2,e3,e4⟩:=BV hd
   refine bj hS fL (iC e1 (vH lay) (by decide +kernel) λc1 hc1=>⟨_,rfl,aH (λz=>?_) (λz=>?_)⟩)
   ·obtain rfl:=hc1.mp z
    refine bj hS jc ⟨d2,_,m,rfl,e2,q _ ?_⟩
    rw [vC]
    constructor
    ·rintro⟨i,rfl,h1,h2⟩
     exact⟨i,d3,d4,rfl,h1,h2⟩
    ·rintro⟨i,e,r,z,h1,h2⟩
     cases z
     exact⟨i,rfl,h1,h2⟩
   ·refine q false ⟨nofun,?_⟩
    rintro⟨i,e,r,y,_⟩
    cases y
    exact absurd (hc1.mpr rfl) z
 ·refine q false ⟨nofun,?_⟩
  rintro⟨i,e,r,rfl,_⟩
  exact absurd rfl c
def Cw (K:PySem.W.Frag):Sp:=λvs H Q _=>∃(d:PyData) (v:V) (m:Nat),vs=[v,.int m]/\dv K H d v/\d.canLay0=true/\∀ bb,(bb=true↔∃ ds,d=.tuple [.str "by",.tuple ds]/\ds.length=m)->Q (.bl bb) H
theorem pL:aC ["shown","many"] ["shown","many"] (ao (top 41)):=c7
theorem Cf (D:aA K mg "is_by" (top 41)) (c_is_tuple_of:Callee P w K mg base aV 1 "is_tuple_of" ["thing","many"] (j4 K)):Callee P w K mg base aV 2 "is_by" ["shown","many"] (Cw K):=by
 refine cO D pL (λf cdv A outer s H vs Q E hr h=>?_)
 obtain⟨d,v,m,rfl,hd,lay,q⟩:=h
 have nd:=pL.nd
 refine⟨_,(ak (au (bG (br c_is_tuple_of hr ay (aa (pv 0) (aa af ae))) (bG (bh (eT hr.units) (aB aI (pv 0) af (λ_ _=>rfl)) aT (aq _)) (cA (br c_is_tuple_of hr ay (aa (aB aI (pv 0) af (λ_ _=>rfl)) (aa (pv 1) ae)))))))),?_⟩
 show gT _ _ [some v,some (.int m)] H
 k_data
 refine⟨d,v,2,rfl,hd,dz d 2,rfl,aH (λc=>?_) (λc=>?_)⟩
 ·obtain⟨d1,d2,rfl⟩:=CZ c
  obtain⟨p,x1,x2,rfl,hS,e1,e2⟩:=DA hd
  refine bj hS fL (iC e1 (vH lay) (by decide +kernel) λc1 hc1=>⟨_,rfl,aH (λz=>?_) (λz=>?_)⟩)
  ·obtain rfl:=hc1.mp z
   refine bj hS jc ⟨d2,_,m,rfl,e2,q _ ⟨λy=>?_,?_⟩⟩
   ·obtain⟨ds,rfl,l⟩:=C0 y
    exact⟨ds,rfl,l⟩
   ·rintro⟨ds,y,l⟩
    cases y
    show decide (ds.length=m)=true
    exact decide_eq_true l
  ·refine q false ⟨nofun,?_⟩
   rintro⟨ds,y,_⟩
   cases y
   exact absurd (hc1.mpr rfl) z
 ·refine q false ⟨nofun,?_⟩
  rintro⟨ds,rfl,_⟩
  exact absurd rfl c
theorem du {us:List V} {m:Nat} (h:m<=us.length):cz us none (some (m:Int))=us.take m:=by
 unfold cz
 have e1:HT.cP us.length 0 none=0:=rfl
 have e2:HT.cP us.length us.length (some (m:Int))=m:=by
  simp only [HT.cP]
  split<;>omega
 rw [e1,e2,List.drop_zero,Nat.sub_zero]
theorem cE {us:List V} {m:Nat} (h:m<=us.length):cz us (some (m:Int)) none=us.drop m:=by
 unfold cz
 have e1:HT.cP us.length us.length none=us.length:=rfl
 have e2:HT.cP us.length 0 (some (m:Int))=m:=by
  simp only [HT.cP]
  split<;>omega
 rw [e1,e2]
 exact List.take_of_length_le (by rw [List.length_drop];omega)
theorem xW {us:List V} (h:1<=us.length):cz us (some 1) none=us.drop 1:=cE (m:=1) h
theorem xO {ns:List Int}:(∀(i:Nat) lo hi,ns[i]?=some lo->ns[i+1]?=some hi->lo<hi)↔ns.Pairwise (·<·):=by
 induction ns with
 | nil=>simp
 | cons a r ih =>
  rw [List.pairwise_cons,<- ih]
  constructor
  ·intro h
   have h2:∀(i:Nat) lo hi,r[i]?=some lo->r[i+1]?=some hi->lo<hi:=λi lo hi e1 e2=>h (i+1) lo hi (by simpa using e1) (by simpa using e2)
   refine⟨λb hb=>?_,h2⟩
   have h3:=List.pairwise_iff_getElem.mp (ih.mp h2)
   cases r with
   | nil=>simp at hb
   | cons c r' =>
    have ac:=h 0 a c rfl rfl
    rcases List.mem_cons.mp hb with z | z
    ·rw [z];exact ac
    ·have:=(List.pairwise_cons.mp (ih.mp h2)).1 b z
     omega
  ·rintro⟨h1,h2⟩ i lo hi e1 e2
   cases i with
   | zero =>
    cases e1
    exact h1 hi (List.mem_of_getElem? (by simpa using e2))
   | succ i=>exact h2 i lo hi (by simpa using e1) (by simpa using e2)
def pV (K:PySem.W.Frag):Sp:=λvs H Q _=>∃(p:Addr) (ns:List Int),vs=[.ref p]/\aS K H p (ns.map V.int)/\1<=ns.length/\ns.length<=1000/\∀ bb H',(bb=true↔ns.Pairwise (·<·))->aE H H'->Q (.bl bb) H'
theorem hX:aC ["things"] ["things"] (ao (top 38)):=c7
theorem ui (D:aA K mg "are_rising" (top 38)) (n_all:mg "all"=none) (n_zip:mg "zip"=none):Callee P w K mg base aV 1 "are_rising" ["things"] (pV K):=by
 refine cO D hX (λf cdv A outer s H vs Q E hr h=>?_)
 obtain⟨p,ns,rfl,hS,h1,hl,q⟩:=h
 have nd:=hX.nd
 refine⟨_,(ak (au (av (dW rfl) rfl n_all L2.boot_all (aa (c8 rfl (jO (N':=["low","high"]) (js:=[none,none]) rfl rfl) (yI rfl n_zip (aa (pv 0) (aa (aK bI (pv 0) (aN af) aW) ae))) (λ_ _ _ _=>(iM K rfl (n:=2) rfl (bc (aF (i:=0) (show List.Nodup [("low":Str),("high":Str)] from by decide +kernel) rfl (Or.inl rfl) (.inr rfl)) (bc (aF (i:=1) (show List.Nodup [("low":Str),("high":Str)] from by decide +kernel) rfl (Or.inl rfl) (.inr rfl)) cW)))) (λ_ _ _ _=>bD) (λ_ _ _ _=>(bh cU (pv 0) (pv 1) (aq _)))) ae)))),?_⟩
 show gT _ _ [some (.ref p)] H
 k_data
 refine⟨p,_,rfl,hS,λp1 hp1=>⟨p1,rfl,?_⟩⟩
 rw [xW (by rw [List.length_map];exact h1)]
 have s1:=aj (o:=.lst ((ns.map V.int).drop 1)) hp1
 have e1:upd H p1 (.lst ((ns.map V.int).drop 1)) p1=some (.lst ((ns.map V.int).drop 1)):=ai
 generalize upd H p1 _=H1 at *
 have hS1:=hS.same s1
 refine⟨.l,⟨_,hS1⟩,.l,⟨_,aS.of e1⟩,?_⟩
 refine qu (k1:=.l) (k2:=.l) (xs:=ns.map V.int) (ys:=(ns.map V.int).drop 1) (ns.length-1) (λi zs H'=>aE H1 H'/\∃ bs:List Bool,zs=bs.map V.bl/\bs.length=i/\((∀ b∈bs,b=true)↔∀(j:Nat) lo hi,j<i->ns[j]?=some lo->ns[j+1]?=some hi->lo<hi)) ⟨aE.refl _,[],rfl,rfl,by simp⟩ (by simp) (Nat.le_trans (show ns.length-1<=1000 by omega) (by decide)) (λi zs H' _ ⟨z1,bs,z2,z3,_⟩=>⟨hS1.same z1,aS.of (z1 _ _ e1),by rw [z2,List.length_map,z3];exact Nat.le_refl _⟩) ?_ ?_
 ·rintro i x y zs H' pz hx hy ⟨z1,bs,rfl,bl,hbs⟩ hpz
  rw [List.getElem?_map] at hx
  rw [List.getElem?_drop,List.getElem?_map] at hy
  obtain⟨lo,hlo,rfl⟩:=Option.map_eq_some_iff.mp hx
  obtain⟨hi,hhi,rfl⟩:=Option.map_eq_some_iff.mp hy
  have s2:=aj (o:=.tup [V.int lo,V.int hi]) hpz
  show tI K 2 _ _ [none,none] _ _
  refine⟨pz,_,rfl,aY.of ai,rfl,?_⟩
  k_data
  refine⟨True.intro,z1.trans s2,bs++[decide (lo<hi)],by simp,by simp [bl],?_⟩
  constructor
  ·intro h j lo' hi' hj e3 e4
   rcases (by omega:j<i∨j=i) with z | z
   ·exact hbs.mp (λb hb=>h b (List.mem_append.mpr (.inl hb))) j lo' hi' z e3 e4
   ·subst z
    have:=h (decide (lo<hi)) (by simp)
    rw [hlo] at e3
    rw [Nat.add_comm,hhi] at e4
    cases e3
    cases e4
    exact of_decide_eq_true this
  ·intro h b hb
   rcases List.mem_append.mp hb with z | z
   ·exact hbs.mpr (λj lo' hi' hj=>h j lo' hi' (by omega)) b z
   ·rw [List.mem_singleton.mp z]
    exact decide_eq_true (h i lo hi (by omega) hlo (by rw [Nat.add_comm];exact hhi))
 ·rintro zs H' p2 ⟨z1,bs,rfl,bl,hbs⟩ hp2
  refine allB (aS.of ai) (q _ _ ?_ ((s1.trans z1).trans (aj hp2)))
  rw [<- xO,List.all_eq_true]
  show (∀ b∈bs,b=true)↔_
  rw [hbs]
  constructor
  ·intro h i lo hi e3 e4
   exact h i lo hi (by have:=(List.getElem?_eq_some_iff.mp e4).1;omega) e3 e4
  ·intro h j lo hi _ e3 e4
   exact h j lo hi e3 e4
def pD:PyData->Int
 | .tuple (.int p::_)=>p
 | _=>0
def qi (d:PyData):Prop:=∃ ds,d=.list ds/\1<=ds.length/\ds.length<=5/\(∀ x∈ds,PP x)/\(ds.map pD).Pairwise (·<·)
def pT (K:PySem.W.Frag):Sp:=λvs H Q _=>∃ d v,vs=[v]/\dv K H d v/\iX d/\c6 d<=10^6/\∀ bb H',(bb=true↔qi d)->aE H H'->Q (.bl bb) H'
theorem hW:aC ["things"] ["things"] (ao (top 37)):=c7
theorem uh (D:aA K mg "are_papers" (top 37)) (c_are_prime_papers:Callee P w K mg base aV 7 "are_prime_papers" ["things"] (xc K)) (c_are_rising:Callee P w K mg base aV 1 "are_rising" ["things"] (pV K)) (g_MOST_PRIMES:∃ t,mg "MOST_PRIMES"=some (.int 5 t)) (n_isinstance:mg "isinstance"=none) (n_list:mg "list"=none) (n_len:mg "len"=none):Callee P w K mg base aV 8 "are_papers" ["things"] (pT K):=by
 obtain⟨t0,g_MOST_PRIMES⟩:=g_MOST_PRIMES
 refine cO D hW (λf cdv A outer s H vs Q E hr h=>?_)
 obtain⟨d,v,rfl,hd,sm,sz,q⟩:=h
 have nd:=hW.nd
 refine⟨_,(ag (aQ (bX (PW.pt (cN (aM (av bA rfl n_isinstance PyProof.Rows.boot_isinstance (aa (pv 0) (aa (bZ (v:=.ty "list") rfl n_list L2.boot_list rfl) ae))) (λ_=>rfl)) (cN (wG lb lb af (av aG rfl n_len PySem.boot_len (aa (pv 0) ae)) (sx (v:=.int 5) rfl g_MOST_PRIMES ⟨_,rfl⟩)) (cI (aM (br c_are_prime_papers hr ay (aa (pv 0) ae)) (λ_=>rfl))))))) (ak (au bO)) aD) (ak (au (br c_are_rising hr ay (aa (c8 rfl (jO (N':=["paper"]) (js:=[none]) rfl rfl) (bP (pv 0)) (λ_ _ _ _=>(aF (i:=0) (show List.Nodup [("paper":Str)] from by decide +kernel) rfl (Or.inl rfl) (.inr rfl))) (λ_ _ _ _=>bD) (λ_ _ _ _=>(aB (fq K rfl) (pv 0) af (λ_ _=>rfl)))) ae))))),?_⟩
 show b9 _ _ _ [some v] H
 k_data
 refine fo hd ⟨_,aO.mpr rfl,aH (λc=>?_) (λc=>?_)⟩
 ·obtain⟨ds,rfl⟩:∃ ds,d=.list ds:=by cases d<;>first | exact⟨_,rfl⟩ | cases c
  obtain⟨p,xs,rfl,hS,hds⟩:=hd
  have xl:=hds.length
  unfold jJ
  k_data
  refine aZ hS ⟨_,rfl,?_⟩
  have no:¬(1<=ds.length/\ds.length<=5)->(false=true↔qi (.list ds)):=λn=>⟨nofun,fun⟨ds',e,l1,l2,_⟩=>by cases e;exact absurd ⟨l1,l2⟩ n⟩
  refine aH (λc1=>⟨_,rfl,aH (λc2=>?_) (λc2=>?_)⟩) (λc1=>?_)
  ·have smd:fC ds:=by simpa only [iX] using sm
   have szd:bJ ds<=10^6:=by
    simp only [c6] at sz
    omega
   refine⟨p,ds,xs,rfl,.inl hS,hds,smd,szd,λb H1 hb s1=>⟨b,aO.mpr rfl,aH (λc3=>?_) (λc3=>?_)⟩⟩
   ·refine q false H1 ⟨nofun,fun⟨ds',e,_,_,pp,_⟩=>?_⟩ s1
    cases e
    rw [hb.mpr pp] at c3
    cases c3
   ·have pp:=hb.mp (by simpa using c3)
    have hS1:=hS.same s1
    have hds1:=bo.same s1 _ hds
    refine⟨⟨_,hS1⟩,bQ (xs:=xs) (λi zs H2=>H2=H1/\zs=((ds.take i).map pD).map V.int) ⟨rfl,rfl⟩ (Nat.le_trans (show xs.length<=5 by omega) (by decide)) (λi zs H2 hi ⟨z1,z2⟩=>⟨z1▸hS1,by rw [z2,List.length_map,List.length_map,List.length_take];omega⟩) ?_ ?_⟩
    ·rintro i x zs H2 hx ⟨rfl,rfl⟩
     obtain⟨d,hd',hv⟩:=hds1.get hx
     have ppd:=pp d (List.mem_of_getElem? hd')
     cases ppd with
     | mk p' g rows ra _ =>
      obtain⟨pa,x1,x2,x3,rfl,hSu,f1,f2,f3⟩:=BU hv
      cases f1
      show cK 0 _ [none] _ _
      k_data
      refine⟨True.intro,bj hSu fL ⟨rfl,?_⟩⟩
      rw [List.take_add_one,hd',List.map_append,List.map_append]
      rfl
    ·rintro zs H2 p2 ⟨rfl,rfl⟩ hp2
     rw [show xs.length=ds.length by omega,List.take_length]
     refine⟨p2,ds.map pD,rfl,aS.of ai,by rw [List.length_map];omega,by rw [List.length_map];omega,λbb H3 hbb s3=>q bb H3 (hbb.trans ⟨λz=>⟨ds,rfl,by omega,by omega,pp,z⟩,fun⟨ds',e,_,_,_,z⟩=>?_⟩) ((s1.trans (aj hp2)).trans s3)⟩
     cases e
     exact z
  ·exact q false H (no (by omega)) (aE.refl _)
  ·exact q false H (no (by omega)) (aE.refl _)
 ·refine q false H ⟨nofun,fun⟨ds,e,_⟩=>?_⟩ (aE.refl _)
  subst e
  exact absurd rfl c
end
end K
namespace K
open PySem PySem.Spec PyProof.Rows L2
section
variable {P:Program} {w:World} {K:PySem.W.Frag} {mg:Str->Option Value} {base:Heap} {C:Addr}
structure Pw (K:PySem.W.Frag) (H:Hp) (pp:Addr) (us:List V) (ls:List Int) (ds:List PyData):Prop where
 hS:aS K H pp us
 hd:bo K H ds us
 F:mU ls ds
 so:ls.Pairwise (·<·)
 l1:1<=ls.length
 l4:ls.length<=4
theorem Pw.map {H H':Hp} {pp:Addr} {us:List V} {ls:List Int} {ds:List PyData} (W:Pw K H pp us ls ds) (h1:aS K H' pp us) (h2:bo K H' ds us):Pw K H' pp us ls ds:=⟨h1,h2,W.F,W.so,W.l1,W.l4⟩
theorem mU.fst {ls:List Int} {ds:List PyData} (F:mU ls ds):ds.map pD=ls:=by
 refine List.ext_getElem? λi=>?_
 rw [List.getElem?_map]
 by_cases il:i<ls.length
 ·have h1:=List.getElem?_eq_getElem (show i<ds.length by rw [F.len];exact il)
  have h2:=List.getElem?_eq_getElem il
  rw [h1,h2]
  obtain⟨g,pl,dx,e,_⟩:=Bb (F.at_ i _ _ h2 h1)
  rw [e]
  rfl
 ·rw [List.getElem?_eq_none (by rw [F.len];omega),List.getElem?_eq_none (by omega)]
  rfl
theorem mU.mem {ls:List Int} {ds:List PyData} (F:mU ls ds) {d:PyData} (h:d∈ds):∃ p∈ls,Num.cR p d:=by
 obtain⟨i,il,ei⟩:=List.mem_iff_getElem.mp h
 have h2:=List.getElem?_eq_getElem (show i<ls.length by rw [<- F.len];exact il)
 exact⟨_,List.mem_of_getElem? h2,F.at_ i _ _ h2 (by rw [List.getElem?_eq_getElem il,ei])⟩
theorem i4 {N:Nat}:∀{ds:List PyData},(∀ d∈ds,c6 d<=N)->bJ ds<=ds.length*N
 | [],_=>Nat.zero_le _
 | d::r,h=>by
  have h1:=h d (by simp)
  have h2:=i4 (ds:=r) λx hx=>h x (List.mem_cons_of_mem _ hx)
  show c6 d+bJ r<=(r.length+1)*N
  rw [Nat.succ_mul]
  omega
theorem mU.sm {ls:List Int} {ds:List PyData} (F:mU ls ds):fC ds:=gP λd hd=>by
 obtain⟨p,_,h⟩:=F.mem hd
 exact qP h
theorem mU.sz {ls:List Int} {ds:List PyData} (F:mU ls ds):bJ ds<=ds.length*358:=i4 λd hd=>by
 obtain⟨p,_,h⟩:=F.mem hd
 exact gK h
theorem mU.zN {ls:List Int} {ds:List PyData} (F:mU ls ds) (so:ls.Pairwise (·<·)) (l1:1<=ls.length) (l5:ls.length<=5):qi (.list ds):=⟨ds,rfl,by rw [F.len];exact l1,by rw [F.len];exact l5,λd hd=>by
 obtain⟨p,_,h⟩:=F.mem hd
 exact wq h,by rw [F.fst];exact so⟩
theorem Ba {H:Hp} {pr:Addr} {xs:List V} {k:Nat} {v:V} {Q:VK} (hS:aS K H pr xs) (hx:xs[k]?=some v) (h:Q v H):qT K (.ref pr) (.int (k:Int)) H Q:=⟨pr,xs,_,_,rfl,rfl,hS,bF hx,h⟩
theorem fM {H:Hp} {a:Addr} {xs:List V} {lo hi:Option Int} {Q:VK} (hS:aY K H a xs) (q:∀ p H',aE H H'->aY K H' p (cz xs lo hi)->Q (.ref p) H'):yM K (.ref a) lo hi H Q :=
 ⟨a,xs,rfl,hS,λp H' s hp=>q p H' s hp⟩
inductive RO (ls:List Int) (k a:Int):PyData->Prop
 | no (i:Nat) (p:Int) (df de dr:PyData):ls[i]?=some p->jh p k a df de dr->RO ls k a (.tuple [df,.tuple [.str "none",.int i,de,dr]])
 | j5 (rs:List Int) (rows:List PyData):rows.length=ls.length->AR ls k a rs->(∀(i:Nat) p row,ls[i]?=some p->rows[i]?=some row->fK p k a rs row)->RO ls k a (.tuple [.list (rs.map PyData.int),.tuple [.str "by",.tuple rows]])
theorem RO.AA {ls:List Int} {k a:Int} {i:Int} {df de dr:PyData} (h:RO ls k a (.tuple [df,.tuple [.str "none",.int i,de,dr]])):∃(j:Nat) (p:Int),i=j/\ls[j]?=some p/\jh p k a df de dr:=by
 generalize hD:PyData.tuple [df,.tuple [.str "none",.int i,de,dr]]=D at h
 cases h with
 | no j p df' de' dr' h1 h2 =>
  simp only [PyData.tuple.injEq,List.cons.injEq,and_true,true_and,PyData.int.injEq] at hD
  obtain⟨rfl,rfl,rfl,rfl⟩:=hD
  exact⟨j,p,rfl,h1,h2⟩
 | j5=>simp at hD
theorem RO.Az {ls:List Int} {k a:Int} {df sh:PyData} (h:RO ls k a (.tuple [df,sh])) (n:∀ i e r,sh≠.tuple [.str "none",.int i,e,r]):∃(rs:List Int) (rows:List PyData),df=.list (rs.map PyData.int)/\sh=.tuple [.str "by",.tuple rows]/\rows.length=ls.length/\AR ls k a rs/\∀(i:Nat) p row,ls[i]?=some p->rows[i]?=some row->fK p k a rs row:=by
 generalize hD:PyData.tuple [df,sh]=D at h
 cases h with
 | no j p df' de' dr' h1 h2 =>
  simp only [PyData.tuple.injEq,List.cons.injEq,and_true] at hD
  exact absurd hD.2 (n _ _ _)
 | j5 rs rows h1 h2 h3 =>
  simp only [PyData.tuple.injEq,List.cons.injEq,and_true] at hD
  exact⟨rs,rows,hD.1,hD.2,h1,h2,h3⟩
theorem RO.two {ls:List Int} {k a:Int} {d:PyData} (h:RO ls k a d):∃ df sh,d=.tuple [df,sh]:=by
 cases h<;>exact⟨_,_,rfl⟩
def Bh (K:PySem.W.Frag):Sp:=λvs H Q _=>∃(v u:V) (dP d:PyData) (k a:Int),vs=[v,.int k,.int a,u]/\dv K H dP v/\iX dP/\c6 dP<=10^6/\fH K H d u/\gd d/\0<k/\k<=10^60/\((¬qi dP/\∀ H',aE H H'->Q (.bl false) H')∨∃ ls ds,dP=.list ds/\mU ls ds/\qi dP/\(∀ p∈ls,p<=31)/\∀ bb H',(bb=true↔RO ls k a d)->aE H H'->Q (.bl bb) H')
theorem eR:aC ["papers","k","a","thing","found","shown"] ["papers","k","a","thing"] (ao (top 36)):=c7
theorem Ce (D:aA K mg "shows_roots_of" (top 36)) (c_are_papers:Callee P w K mg base aV 8 "are_papers" ["things"] (pT K)) (c_is_tuple_of:Callee P w K mg base aV 1 "is_tuple_of" ["thing","many"] (j4 K)) (c_is_none_at:Callee P w K mg base aV 3 "is_none_at" ["shown","many"] (pR K)) (c_is_by:Callee P w K mg base aV 2 "is_by" ["shown","many"] (Cw K)) (c_shows_roots:Callee P w K mg base aV 17 "shows_roots" ["paper","k","a","thing"] (pX K)) (c_are_all_roots:Callee P w K mg base aV 6 "are_all_roots" ["primes","k","a","found"] (nV K)) (c_is_shown_by:Callee P w K mg base aV 16 "is_shown_by" ["paper","k","a","found","shown"] (iY K)) (n_all:mg "all"=none) (n_len:mg "len"=none) (n_zip:mg "zip"=none):Callee P w K mg base aV 18 "shows_roots_of" ["papers","k","a","thing"] (Bh K):=by
 refine cO D eR (λf cdv A outer s H vs Q E hr h=>?_)
 obtain⟨v,u,dP,d,k,a,rfl,hP,sm,sz,hd,gd_,k0,k1,q⟩:=h
 have nd:=eR.nd
 refine⟨_,(ag (aQ (bX (PW.pt (cN (aM (br c_are_papers hr ay (aa (pv 0) ae)) (λ_=>rfl)) (cI (aM (br c_is_tuple_of hr ay (aa (pv 3) (aa af ae))) (λ_=>rfl)))))) (ak (au bO)) aD) (ag (fz (pv 3) (ie (n:=2) rfl (bc (aF (i:=4) nd rfl (Or.inr rfl) (.inl rfl)) (bc (aF (i:=5) nd rfl (Or.inl rfl) (.inr rfl)) cW)))) (ag (aQ (aM (br c_is_none_at hr ay (aa (pv 5) (aa (av aG rfl n_len PySem.boot_len (aa (pv 0) ae)) ae))) (λ_=>rfl)) (ak (au (br c_shows_roots hr ay (aa (aB aP (pv 0) (aB aI (pv 5) af (λ_ _=>rfl)) (λ_ _=>rfl)) (aa (pv 1) (aa (pv 2) (aa (aR (aa (pv 4) (aa (aR (aa aT (aa (aB aI (pv 5) af (λ_ _=>rfl)) (aa (aB aI (pv 5) af (λ_ _=>rfl)) ae)))) ae))) ae))))))) aD) (ag (aQ (bX (PW.pt (cN (aM (br c_is_by hr ay (aa (pv 5) (aa (av aG rfl n_len PySem.boot_len (aa (pv 0) ae)) ae))) (λ_=>rfl)) (cI (aM (br c_are_all_roots hr ay (aa (c8 rfl (jO (N':=["paper"]) (js:=[none]) rfl rfl) (bP (pv 0)) (λ_ _ _ _=>(aF (i:=0) (show List.Nodup [("paper":Str)] from by decide +kernel) rfl (Or.inl rfl) (.inr rfl))) (λ_ _ _ _=>bD) (λ_ _ _ _=>(aB (fq K rfl) (pv 0) af (λ_ _=>rfl)))) (aa (pv 1) (aa (pv 2) (aa (pv 4) ae))))) (λ_=>rfl)))))) (ak (au bO)) aD) (ak (au (av (dW rfl) rfl n_all L2.boot_all (aa (c8 rfl (jO (N':=["paper","row","k","a","found"]) (js:=[none,none,some 1,some 2,some 4]) rfl rfl) (wz .l .t rfl n_zip (aa (pv 0) (aa (aB aI (pv 5) af (λ_ _=>rfl)) ae))) (λ_ _ _ _=>(iM K rfl (n:=2) rfl (bc (aF (i:=0) (show List.Nodup [("paper":Str),("row":Str),("k":Str),("a":Str),("found":Str)] from by decide +kernel) rfl (Or.inl rfl) (.inr rfl)) (bc (aF (i:=1) (show List.Nodup [("paper":Str),("row":Str),("k":Str),("a":Str),("found":Str)] from by decide +kernel) rfl (Or.inl rfl) (.inr rfl)) cW)))) (λ_ _ _ _=>bD) (λ_ _ _ _=>(br c_is_shown_by hr ay (aa (pv 0) (aa (pv 2) (aa (pv 3) (aa (pv 4) (aa (pv 1) ae)))))))) ae)))))))),?_⟩
 show b9 _ _ _ [some v,some (.int k),some (.int a),some u,none,none] H
 k_data
 refine⟨dP,v,rfl,hP,sm,sz,λb1 H1 hb1 s1=>⟨b1,aO.mpr rfl,?_⟩⟩
 rcases q with⟨nP,q⟩|⟨ls,ds,rfl,F,zN,l31,q⟩
 ·rw [if_neg λz=>nP (hb1.mp z)]
  exact q H1 s1
 rw [if_pos (hb1.mpr zN)]
 obtain⟨A1,us,rfl,hS,hds⟩:=hP
 have ul:us.length=ls.length:=hds.length.trans F.len
 have l5:ls.length<=5:=by
  obtain⟨ds',e,_,z,_⟩:=zN
  cases e
  have:=F.len
  omega
 have hS1:=hS.same s1
 have hds1:=bo.same s1 _ hds
 have hd1:=hd.same s1
 refine⟨d,u,2,rfl,hd1.dv,_,aO.mpr rfl,aH (λc=>?_) (λc=>?_)⟩
 ·refine q false H1 ⟨nofun,λz=>?_⟩ s1
  obtain⟨df,sh,rfl⟩:=z.two
  cases c
 obtain⟨df,sh,rfl⟩:=CZ (by simpa using c)
 obtain⟨pu,xs,rfl,tU,fv,r1,rfl,hf,sv,r2,rfl,hs,z⟩:=hd1
 cases z
 have fP:gd df/\gd sh:=by
  simp only [gd,fP,and_true] at gd_
  exact gd_
 refine⟨pu,_,rfl,tU,rfl,?_⟩
 k_data
 have lays:=gd.lay _ fP.2
 refine aZ hS1 ⟨sh,sv,us.length,rfl,hs.dv,lays,λb2 hb2=>⟨b2,aO.mpr rfl,aH (λc2=>?_) (λc2=>?_)⟩⟩
 ·obtain⟨i,de,dr,rfl,i0,i1⟩:=hb2.mp c2
  obtain⟨i,rfl⟩:∃ n:Nat,i=n:=⟨i.toNat,by omega⟩
  obtain⟨ps,ys,rfl,tS,y0,r,rfl,f0,y1,r,rfl,f1,y2,r,rfl,f2,y3,r,rfl,f3,z⟩:=hs
  cases z
  cases f0
  cases f1
  obtain⟨x,hx⟩:∃ x,us[i]?=some x:=⟨_,List.getElem?_eq_getElem (show i<us.length by omega)⟩
  obtain⟨p,g,pl,dx,hp,R,hv⟩:=F.get hds1 hx
  have gs2:=fP.2
  simp only [gd,L2.fP,and_true] at gs2
  refine bj tS jc ⟨A1,us,_,_,rfl,rfl,hS1,bF hx,bj tS rfl (bj tS rfl ⟨by show 3<=sizeLine;decide,λa1 ha1=>⟨by show 2<=sizeLine;decide,λa2 ha2=>?_⟩⟩)⟩
  have s2:=aj (o:=.tup [V.str "none",y2,y3]) ha1
  have e2:upd H1 a1 (.tup [V.str "none",y2,y3]) a1=some (.tup [V.str "none",y2,y3]):=ai
  generalize upd H1 a1 _=H2 at *
  have s3:=aj (o:=.tup [fv,V.ref a1]) ha2
  have S3:=s2.trans s3
  refine⟨x,.ref a2,p,g,k,a,pl,dx,df,de,dr,rfl,dv.same S3 _ hv,R,l31 _ (List.mem_of_getElem? hp),k0,k1,⟨a2,_,rfl,aY.of ai,_,_,rfl,hf.same S3,_,_,rfl,⟨a1,_,rfl,aY.of (s3 _ _ e2),_,_,rfl,rfl,_,_,rfl,f2.same S3,_,_,rfl,f3.same S3,rfl⟩,rfl⟩,fP.1,gs2.2.2.1,gs2.2.2.2,λb H' hb s'=>q b H' ?_ ((s1.trans S3).trans s')⟩
  rw [hb]
  refine⟨λz=>.no i p df de dr hp z,λz=>?_⟩
  obtain⟨j,p',e,hp',N⟩:=z.AA
  obtain rfl:i=j:=by omega
  rw [hp] at hp'
  cases hp'
  exact N
 ·have byF:RO ls k a (.tuple [df,sh])->∃(rs:List Int) (rows:List PyData),df=.list (rs.map PyData.int)/\sh=.tuple [.str "by",.tuple rows]/\rows.length=ls.length/\AR ls k a rs/\∀(i:Nat) p row,ls[i]?=some p->rows[i]?=some row->fK p k a rs row:=λz=>by
   generalize hD:PyData.tuple [df,sh]=D at z
   cases z with
   | no j p df' de' dr' h1 h2 =>
    simp only [PyData.tuple.injEq,List.cons.injEq,and_true] at hD
    have:=(List.getElem?_eq_some_iff.mp h1).1
    exact absurd (hb2.mpr ⟨j,_,_,hD.2,by omega,by omega⟩) c2
   | j5 rs rows h1 h2 h3 =>
    simp only [PyData.tuple.injEq,List.cons.injEq,and_true] at hD
    exact⟨rs,rows,hD.1,hD.2,h1,h2,h3⟩
  refine aZ hS1 ⟨sh,sv,us.length,rfl,hs.dv,lays,λb3 hb3=>⟨b3,aO.mpr rfl,aH (λc3=>?_) (λc3=>q false H1 ⟨nofun,λz=>?_⟩ s1)⟩⟩
  rotate_left
  ·obtain⟨rs,rows,_,e,l,_⟩:=byF z
   exact absurd (hb3.mpr ⟨rows,e,by omega⟩) c3
  obtain⟨rows,rfl,rl⟩:=hb3.mp c3
  have pmF:∀ p∈ls,Num.Pm p/\p<=31:=λp hp=>by
   obtain⟨i,il,ei⟩:=List.mem_iff_getElem.mp hp
   obtain⟨p',g,pl,dx,hp',R,_⟩:=F.get hds1 (List.getElem?_eq_getElem (show i<us.length by omega))
   rw [List.getElem?_eq_getElem il,ei] at hp'
   cases hp'
   exact⟨R.pm,l31 _ hp⟩
  refine⟨⟨_,hS1⟩,bQ (xs:=us) (λi ys H'=>H'=H1/\ys=(ls.take i).map V.int) ⟨rfl,rfl⟩ (Nat.le_trans (show us.length<=5 by omega) (by decide)) (λi ys H' hi h=>⟨h.1▸hS1,by rw [h.2,List.length_map,List.length_take];omega⟩) ?_ ?_⟩
  ·rintro i x ys H' hx ⟨eH,ey⟩
   rw [eH]
   obtain⟨p,g,pl,dx,hp,R,hv⟩:=F.get hds1 hx
   obtain⟨pp,y1,y2,y3,rfl,tP,e0,_,_⟩:=qw hv
   cases e0
   show cK 0 _ [none] _ _
   k_data
   refine⟨trivial,bj tP fL ⟨rfl,?_⟩⟩
   rw [ey,List.take_add_one,hp,List.map_append]
   rfl
  rintro ys H' pz ⟨eH,ey⟩ hpz
  rw [eH] at hpz ⊢
  rw [ul,List.take_length] at ey
  subst ey
  have s2:=aj (o:=.lst (ls.map V.int)) hpz
  have e2:upd H1 pz (.lst (ls.map V.int)) pz=some (.lst (ls.map V.int)):=ai
  generalize upd H1 pz _=H2 at *
  refine⟨pz,fv,ls,k,a,df,rfl,aS.of e2,hf.same s2,pmF,l5,k0,k1,λb4 H4 hb4 s4=>⟨b4,aO.mpr rfl,?_⟩⟩
  have S4:=s2.trans s4
  refine aH (λc4=>q false H4 ⟨nofun,λz=>?_⟩ (s1.trans S4)) (λc4=>?_)
  ·obtain⟨rs,rows',e,_,_,A,_⟩:=byF z
   rw [hb4.mpr ⟨rs,e,A⟩] at c4
   cases c4
  obtain⟨rs,rfl,A⟩:=hb4.mp (by simpa using c4)
  obtain⟨l,ws,rfl,hl,hws⟩:=hf
  obtain rfl:ws=rs.map V.int:=dy hws.bo
  obtain⟨ps,ys,rfl,tS,y0,r,rfl,f0,y1,r,rfl,f1,z⟩:=hs
  cases z
  cases f0
  obtain⟨pr,zs,rfl,tR,hzs⟩:=f1
  have hz4:=bo.same S4 _ hzs.bo
  have zl:zs.length=rows.length:=(i9.len hzs.bo).symm
  have nrs:=A.ne (λp hp=>(pmF p hp).1.two) k0
  have gR:∀ row∈rows,gd row:=by
   have gs2:=fP.2
   simp only [gd,L2.fP,and_true] at gs2
   exact dQ.mp gs2.2
  refine bj (tS.same S4) jc ⟨pr,rfl,⟨_,hS1.same S4⟩,⟨_,tR.same S4⟩,?_⟩
  refine jt (k1:=.l) (k2:=.t) (xs:=us) (ys:=zs) (λi qs H'=>aE H4 H'/\Bt (∀(j:Nat) p row,j<i->ls[j]?=some p->rows[j]?=some row->fK p k a rs row) i qs) ⟨aE.refl _,[],rfl,rfl,by simp⟩ (by omega) (Nat.le_trans (show us.length<=5 by omega) (by decide)) (λi qs H' hi ⟨z1,bs,z2,z3,_⟩=>⟨(hS1.same S4).same z1,(tR.same S4).same z1,by rw [z2,List.length_map,z3];exact Nat.le_refl _⟩) ?_ ?_
  ·rintro i x y qs H' pq hx hy ⟨s5,hE⟩ hpq
   have s6:=aj (o:=.tup [x,y]) hpq
   obtain⟨p,g,pl,dx,hp,R,hv⟩:=F.get hds1 hx
   obtain⟨row,hrow,hrv⟩:=hz4.get hy
   show tI K 2 _ _ [none,none,some (.int k),some (.int a),some (.ref l)] _ _
   refine⟨pq,_,rfl,aY.of ai,rfl,?_⟩
   k_data
   have S6:=(S4.trans s5).trans s6
   refine⟨⟨rfl,rfl,rfl,trivial⟩,x,y,l,p,g,k,a,pl,dx,rs,row,rfl,dv.same S6 _ hv,R,k0,k1,aS.of (S6 _ _ hl),nrs,A.km,dv.same (s5.trans s6) _ hrv,gR row (List.mem_of_getElem? hrow),λb7 H7 hb7 s7=>⟨(s5.trans s6).trans s7,hE.snoc hb7 ⟨λh=>⟨λj p' row' hj=>h j p' row' (by omega),h i p row (by omega) hp hrow⟩,λh j p' row' hj e1 e2=>?_⟩⟩⟩
   rcases (by omega:j<i∨j=i) with z | z
   ·exact h.1 j p' row' z e1 e2
   ·subst z
    rw [hp] at e1
    rw [hrow] at e2
    cases e1
    cases e2
    exact h.2
  ·rintro qs H' p2 ⟨z1,bs,rfl,bl,hbs⟩ hp2
   refine jj (aS.of ai) (q _ _ ?_ ((s1.trans (S4.trans z1)).trans (aj hp2)))
   rw [hbs]
   constructor
   ·intro h
    exact .j5 rs rows (by omega) A λi p row hp hr'=>h i p row (by have:=(List.getElem?_eq_some_iff.mp hp).1;omega) hp hr'
   ·intro z j p row _ hp hr'
    obtain⟨rs',rows',e1,e2,_,_,h⟩:=byF z
    injection e1 with e1
    obtain rfl:=dD e1
    injection e2 with e2
    injection e2 with _ e2
    injection e2 with e2
    injection e2 with e2
    subst e2
    exact h j p row hp hr'
end
end K
namespace K
open PySem PySem.Spec PyProof.Rows L2
section
def b6 (p k a:Int) (n:Nat):List Int:=((List.range n).map λi:Nat=>(i:Int)).filter λx=>decide (x^k.toNat%p=a%p)
theorem kj {p k a x:Int} {n:Nat}:x∈b6 p k a n↔0<=x/\x<n/\x^k.toNat%p=a%p:=by
 unfold b6
 rw [List.mem_filter,List.mem_map]
 constructor
 ·rintro⟨⟨i,hi,rfl⟩,h⟩
  exact⟨by omega,by have:=List.mem_range.mp hi;omega,by simpa using h⟩
 ·rintro⟨h0,h1,h2⟩
  exact⟨⟨x.toNat,List.mem_range.mpr (by omega),by omega⟩,by simpa using h2⟩
theorem lC {n:Nat} (f:Int->Bool):(((List.range n).map λi:Nat=>(i:Int)).filter f).Pairwise (·<·):=by
 refine List.Pairwise.filter _ (List.pairwise_map.mpr ?_)
 exact List.pairwise_lt_range.imp λh=>by omega
theorem oI {p k a:Int} {n:Nat}:(b6 p k a n).Pairwise (·<·):=lC _
theorem sC {p x k:Int} (pm:Num.Pm p) (k0:0<k):x^k.toNat%p=x^(((k-1)%(p-1)).toNat+1)%p:=by
 have p2:=pm.two
 have e0:=Int.emod_nonneg (k-1) (show p-1≠0 by omega)
 have ee:=Int.mul_ediv_add_emod (k-1) (p-1)
 have q0:0<=(k-1)/(p-1):=Int.ediv_nonneg (by omega) (by omega)
 generalize (k-1)%(p-1)=e at *
 generalize (k-1)/(p-1)=q at *
 have hk:k.toNat=(p-1).toNat*q.toNat+(e.toNat+1):=by
  have:(((p-1).toNat*q.toNat:Nat):Int)=(p-1)*q:=by
   rw [Int.natCast_mul,Int.toNat_of_nonneg (by omega),Int.toNat_of_nonneg q0]
  omega
 rw [hk]
 refine Num.Al.iff.mp ?_
 rw [Pw.pow_add]
 rcases Classical.em (p∣x) with z | z
 ·have h:∀ n:Nat,p∣x^(n+1):=λn=>by rw [Int.pow_succ];exact Int.dvd_mul_of_dvd_right z
  exact Int.dvd_sub (Int.dvd_mul_of_dvd_right (h _)) (h _)
 ·have h1:=(Num.kK pm z).pow q.toNat
  rw [Num.cH,Int.one_pow] at h1
  have:=h1.mul (Num.Al.refl p (x^(e.toNat+1)))
  rwa [Int.one_mul] at this
def El (p e a:Nat):Bool :=
 let L:=(List.range p).filter λx=>x^e%p==a
 let g:=Nat.gcd e (p-1)
 if a==0 then L==[0] else (L.isEmpty && a^((p-1)/g)%p != 1) || (L.length==g && a^((p-1)/g)%p==1)
theorem Ee:∀ p∈[2,3,5,7,11,13],∀ a,a<p->∀ e,e<p-1->El p (e+1) a=true:=by decide +kernel
theorem xX {p e a:Nat}:b6 p ((e:Nat):Int) ((a:Nat):Int) p=((List.range p).filter λx=>x^e%p==a%p).map λi:Nat=>(i:Int):=by
 unfold b6
 rw [List.filter_map]
 congr 1
 refine List.filter_congr λx _=>?_
 rw [Function.comp,Int.toNat_natCast,Bool.eq_iff_iff,decide_eq_true_eq,beq_iff_eq,<- Int.natCast_pow,<- Int.natCast_emod,<- Int.natCast_emod]
 omega
theorem ny {p k a:Int} (hp:p∈([2,3,5,7,11,13]:List Int)) (pm:Num.Pm p) (k0:0<k):(p∣a->b6 p k a p.toNat=[0])/\(¬p∣a->(b6 p k a p.toNat=[]/\¬Num.Al p (a^(gJ k p).toNat) 1)∨((b6 p k a p.toNat).length=gc k p/\Num.Al p (a^(gJ k p).toNat) 1)):=by
 have p2:=pm.two
 obtain⟨n,rfl⟩:∃ n:Nat,p=n:=⟨p.toNat,by omega⟩
 have hn:n∈[2,3,5,7,11,13]:=by
  simp only [List.mem_cons,List.not_mem_nil,or_false] at hp ⊢
  omega
 have e0:=Int.emod_nonneg (k-1) (show (n:Int)-1≠0 by omega)
 have e1:=Int.emod_lt_of_pos (k-1) (show 0<(n:Int)-1 by omega)
 have a0:=Int.emod_nonneg a (show (n:Int)≠0 by omega)
 have a1:=Int.emod_lt_of_pos a (show 0<(n:Int) by omega)
 have red:b6 n k a n=b6 n (((((k-1)%((n:Int)-1)).toNat+1:Nat)):Int) (((a%n).toNat:Nat):Int) n:=by
  unfold b6
  refine List.filter_congr λx _=>?_
  rw [Bool.eq_iff_iff,decide_eq_true_eq,decide_eq_true_eq,Int.toNat_natCast,sC pm k0,Int.toNat_of_nonneg a0,Int.emod_emod]
 have hg:gc k n=Nat.gcd (((k-1)%((n:Int)-1)).toNat+1) (n-1):=by
  unfold gc
  rw [show ((n:Int)-1).toNat=n-1 by omega]
  have ee:=Int.mul_ediv_add_emod (k-1) ((n:Int)-1)
  have q0:0<=(k-1)/((n:Int)-1):=Int.ediv_nonneg (by omega) (by omega)
  have hk:k.toNat=(n-1)*((k-1)/((n:Int)-1)).toNat+(((k-1)%((n:Int)-1)).toNat+1):=by
   have:(((n-1)*((k-1)/((n:Int)-1)).toNat:Nat):Int)=((n:Int)-1)*((k-1)/((n:Int)-1)):=by
    rw [Int.natCast_mul,Int.toNat_of_nonneg q0]
    congr 1
    omega
   omega
  rw [hk]
  refine Nat.dvd_antisymm (Nat.dvd_gcd ?_ (Nat.gcd_dvd_right _ _)) (Nat.dvd_gcd ?_ (Nat.gcd_dvd_right _ _))
  ·exact (Nat.dvd_add_right (Nat.dvd_mul_right_of_dvd (Nat.gcd_dvd_right _ _) _)).mp (Nat.gcd_dvd_left _ _)
  ·exact Nat.dvd_add (Nat.dvd_mul_right_of_dvd (Nat.gcd_dvd_right _ _) _) (Nat.gcd_dvd_left _ _)
 have hne:(gJ k n).toNat=(n-1)/gc k n:=by
  unfold gJ
  rw [show (n:Int)-1=((n-1:Nat):Int) by omega,<- Int.natCast_ediv,Int.toNat_natCast]
 have hal:∀ m:Nat,Num.Al n (a^m) 1↔(a%n).toNat^m%n=1:=λm=>by
  rw [Num.Al.iff,Int.emod_eq_of_lt (by decide) (show (1:Int)<n by omega),<- Pw.fb]
  have:((((a%n).toNat^m%n:Nat)):Int)=(a%n)^m%n:=by
   rw [Int.natCast_emod,Int.natCast_pow,Int.toNat_of_nonneg a0]
  rw [<- this]
  omega
 have T:=Ee n hn (a%n).toNat (by omega) ((k-1)%((n:Int)-1)).toNat (by omega)
 rw [Int.toNat_natCast,red,xX,List.length_map,hne,hal,hg]
 have az:(a%n).toNat%n=(a%n).toNat:=Nat.mod_eq_of_lt (by omega)
 rw [az]
 unfold El at T
 simp only at T
 generalize (List.range n).filter _=L at *
 have pa:(n:Int)∣a↔(a%n).toNat=0:=by
  rw [Int.dvd_iff_emod_eq_zero]
  omega
 rw [pa]
 refine⟨λz=>?_,λz=>?_⟩
 ·rw [if_pos (by simpa using z)] at T
  rw [beq_iff_eq.mp T]
  rfl
 ·rw [if_neg (by simpa using z),Bool.or_eq_true,Bool.and_eq_true,Bool.and_eq_true,bne_iff_ne,beq_iff_eq,beq_iff_eq,List.isEmpty_iff] at T
  rcases T with⟨h1,h2⟩|⟨h1,h2⟩
  ·exact .inl ⟨by rw [h1];rfl,h2⟩
  ·exact .inr ⟨h1,h2⟩
def dU (ls:List Int) (As:List (List Int)):List Int:=((List.range (aL ls).toNat).map λi:Nat=>(i:Int)).filter λx=>decide (∀ q∈ls.zip As,x%q.1∈q.2)
theorem eF {ls:List Int} {As:List (List Int)} {x:Int}:x∈dU ls As↔0<=x/\x<aL ls/\∀ q∈ls.zip As,x%q.1∈q.2:=by
 unfold dU
 rw [List.mem_filter,List.mem_map,decide_eq_true_eq]
 constructor
 ·rintro⟨⟨i,hi,rfl⟩,h⟩
  exact⟨by omega,by have:=List.mem_range.mp hi;omega,h⟩
 ·rintro⟨h0,h1,h2⟩
  exact⟨⟨x.toNat,List.mem_range.mpr (by omega),by omega⟩,h2⟩
theorem iw {ls:List Int} {As:List (List Int)}:(dU ls As).Pairwise (·<·):=lC _
def uJ (ls:List Int):Prop:=(∀ p∈ls,Num.Pm p)/\ls.Pairwise (·<·)
theorem uJ.tl {p:Int} {ls:List Int} (h:uJ (p::ls)):uJ ls:=⟨λq hq=>h.1 q (List.mem_cons_of_mem _ hq),(List.pairwise_cons.mp h.2).2⟩
theorem uJ.nd:∀{ls:List Int} {p:Int},Num.Pm p->(∀ q∈ls,Num.Pm q/\p≠q)->¬p∣aL ls
 | [],p,pm,_,h=>by
  have:=Int.le_of_dvd (by decide) (show p∣1 from h)
  have:=pm.two
  omega
 | q::ls,p,pm,hl,h=>by
  obtain⟨h1,h2⟩:=hl q (by simp)
  have ih:=uJ.nd pm λx hx=>hl x (List.mem_cons_of_mem _ hx)
  have pq:¬p∣q:=λz=>by
   have:=Int.le_of_dvd (by have:=h1.two;omega) z
   exact h1.no p pm.two (by omega) z
  exact ih (pm.or h pq)
theorem gN:∀{ls:List Int},(∀ p∈ls,Num.Pm p)->0<aL ls
 | [],_=>by decide
 | p::ls,h=>Int.mul_pos (by have:=(h p (by simp)).two;omega) (gN λq hq=>h q (List.mem_cons_of_mem _ hq))
theorem gM:∀{ls:List Int} {p:Int},p∈ls->p∣aL ls
 | q::ls,p,h=>by
  rcases List.mem_cons.mp h with rfl | h
  ·exact Int.dvd_mul_right _ _
  ·exact Int.dvd_mul_of_dvd_right (gM h)
theorem oM {x y p:Int} (h:p∣x-y):x%p=y%p:=Num.Al.iff.mp h
structure Cr (p W:Int) (f:Int->Int->Int):Prop where
 z0:∀ y x,0<=f y x/\f y x<p*W
 m1:∀ y x,f y x%p=y%p
 m2:∀ y x,f y x%W=x%W
 on:∀ z z',0<=z->z<p*W->0<=z'->z'<p*W->z%p=z'%p->z%W=z'%W->z=z'
theorem zm {p W:Int} (pm:Num.Pm p) (W0:0<W) (n:¬p∣W):∃ f,Cr p W f:=by
 obtain⟨u,v,e⟩:=pm.co n
 have p2:=pm.two
 have pW:0<p*W:=Int.mul_pos (by omega) W0
 refine⟨λy x=>(y*(u*W)+x*(v*p))%(p*W),λy x=>⟨Int.emod_nonneg _ (by omega),Int.emod_lt_of_pos _ pW⟩,λy x=>?_,λy x=>?_,λz z' h1 h2 h3 h4 h5 h6=>?_⟩
 ·show (y*(u*W)+x*(v*p))%(p*W)%p=_
  rw [Int.emod_emod_of_dvd _ ⟨W,rfl⟩]
  exact oM ⟨x*v-y*v,by grind⟩
 ·show (y*(u*W)+x*(v*p))%(p*W)%W=_
  rw [Int.emod_emod_of_dvd _ ⟨p,Int.mul_comm _ _⟩]
  exact oM ⟨y*u-x*u,by grind⟩
 ·obtain⟨s,hs⟩:=Num.Al.iff.mpr h5
  obtain⟨t,ht⟩:=Num.Al.iff.mpr h6
  have:p*W∣z-z':=⟨u*s+v*t,by grind⟩
  have e1:=Num.Al.iff.mp (show Num.Al (p*W) z z' from this)
  rwa [Int.emod_eq_of_lt h1 h2,Int.emod_eq_of_lt h3 h4] at e1
theorem oP {α β γ:Type} (f:α->β->γ) (L:List β):∀ A:List α,(A.flatMap λy=>L.map (f y)).length=A.length*L.length
 | []=>by simp
 | y::A=>by rw [List.flatMap_cons,List.length_append,List.length_map,oP f L A,List.length_cons,Nat.succ_mul];omega
theorem kM {α β γ:Type} {f:α->β->γ} {L:List β}:∀{A:List α},A.Nodup->L.Nodup->(∀ y∈A,∀ y'∈A,∀ x∈L,∀ x'∈L,f y x=f y' x'->y=y'/\x=x')->(A.flatMap λy=>L.map (f y)).Nodup
 | [],_,_,_=>by simp
 | y::A,hA,hL,h=>by
  have hA':=List.nodup_cons.mp hA
  rw [List.flatMap_cons,List.nodup_append]
  refine⟨?_,kM hA'.2 hL λy1 h1 y2 h2=>h y1 (List.mem_cons_of_mem _ h1) y2 (List.mem_cons_of_mem _ h2),λa ha b hb e=>?_⟩
  ·refine List.pairwise_map.mpr (List.Pairwise.imp_of_mem (R:=(·≠·)) (λ{a b} ha hb n e=>n ?_) hL)
   exact (h y (by simp) y (by simp) a ha b hb e).2
  ·obtain⟨x,hx,rfl⟩:=List.mem_map.mp ha
   obtain⟨y',hy',hb⟩:=List.mem_flatMap.mp hb
   obtain⟨x',hx',rfl⟩:=List.mem_map.mp hb
   have:=(h y (by simp) y' (List.mem_cons_of_mem _ hy') x hx x' hx' e).1
   exact hA'.1 (this▸hy')
theorem ig {l:List Int} (h:l.Pairwise (·<·)):l.Nodup:=h.imp λh=>by omega
def Rs (ls:List Int) (As:List (List Int)):Prop:=ls.length=As.length/\∀ q∈ls.zip As,q.2.Nodup/\∀ y∈q.2,0<=y/\y<q.1
theorem Rs.tl {p:Int} {ls:List Int} {A:List Int} {As:List (List Int)} (h:Rs (p::ls) (A::As)):Rs ls As:=⟨by have:=h.1;simpa using this,λq hq=>h.2 q (by rw [List.zip_cons_cons];exact List.mem_cons_of_mem _ hq)⟩
theorem all_cons {p:Int} {ls:List Int} {A:List Int} {As:List (List Int)} {f:Int->Int->Int} (hP:uJ (p::ls)) (hR:Rs (p::ls) (A::As)) (C:Cr p (aL ls) f) {z:Int}:z∈dU (p::ls) (A::As)↔∃ y∈A,∃ x∈dU ls As,f y x=z:=by
 have W0:=gN hP.tl.1
 have hA:=hR.2 (p,A) (by rw [List.zip_cons_cons];simp)
 have dq:∀(q:Int × List Int),q∈ls.zip As->q.1∣aL ls:=λq hq=>gM (List.of_mem_zip hq).1
 rw [eF,List.zip_cons_cons]
 constructor
 ·rintro⟨h0,h1,h2⟩
  have m0:=Int.emod_nonneg z (show aL ls≠0 by omega)
  have m1:=Int.emod_lt_of_pos z W0
  refine⟨z%p,h2 (p,A) (by simp),z%aL ls,eF.mpr ⟨m0,m1,λq hq=>?_⟩,?_⟩
  ·rw [Int.emod_emod_of_dvd _ (dq q hq)]
   exact h2 q (List.mem_cons_of_mem _ hq)
  ·obtain⟨z0,z1⟩:=C.z0 (z%p) (z%aL ls)
   exact C.on _ _ z0 z1 h0 h1 (by rw [C.m1,Int.emod_emod]) (by rw [C.m2,Int.emod_emod])
 ·rintro⟨y,hy,x,hx,rfl⟩
  obtain⟨x0,x1,hx2⟩:=eF.mp hx
  obtain⟨z0,z1⟩:=C.z0 y x
  obtain⟨y0,y1⟩:=hA.2 y hy
  refine⟨z0,z1,λq hq=>?_⟩
  rcases List.mem_cons.mp hq with rfl | hq
  ·show f y x%p∈A
   rw [C.m1,Int.emod_eq_of_lt y0 y1]
   exact hy
  ·have:=hx2 q hq
   rwa [<- Int.emod_emod_of_dvd (f y x) (dq q hq),C.m2,Int.emod_emod_of_dvd _ (dq q hq)]
theorem mW:∀{ls:List Int} {As:List (List Int)},uJ ls->Rs ls As->((dU ls As).length:Int)=aL (As.map λA=>(A.length:Int))
 | [],[],_,_=>by decide
 | [],_::_,_,h=>by have:=h.1;simp at this
 | _::_,[],_,h=>by have:=h.1;simp at this
 | p::ls,A::As,hP,hR=>by
  have ih:=mW hP.tl hR.tl
  have W0:=gN hP.tl.1
  obtain⟨f,C⟩:=zm (hP.1 p (by simp)) W0 (uJ.nd (hP.1 p (by simp)) λq hq=>⟨hP.1 q (List.mem_cons_of_mem _ hq),by have:=(List.pairwise_cons.mp hP.2).1 q hq;omega⟩)
  have hA:=hR.2 (p,A) (by rw [List.zip_cons_cons];simp)
  have key:(dU (p::ls) (A::As)).Perm (A.flatMap λy=>(dU ls As).map (f y)):=by
   refine (List.perm_ext_iff_of_nodup (ig iw) (kM hA.1 (ig iw) λy hy y' hy' x hx x' hx' e=>?_)).mpr λz=>?_
   ·obtain⟨y0,y1⟩:=hA.2 y hy
    obtain⟨y0',y1'⟩:=hA.2 y' hy'
    obtain⟨x0,x1,_⟩:=eF.mp hx
    obtain⟨x0',x1',_⟩:=eF.mp hx'
    have e1:=C.m1 y x
    have e2:=C.m2 y x
    rw [e,C.m1,Int.emod_eq_of_lt y0 y1,Int.emod_eq_of_lt y0' y1'] at e1
    rw [e,C.m2,Int.emod_eq_of_lt x0 x1,Int.emod_eq_of_lt x0' x1'] at e2
    exact⟨e1.symm,e2.symm⟩
   ·rw [all_cons hP hR C,List.mem_flatMap]
    constructor
    ·rintro⟨y,hy,x,hx,e⟩
     exact⟨y,hy,List.mem_map.mpr ⟨x,hx,e⟩⟩
    ·rintro⟨y,hy,h⟩
     obtain⟨x,hx,e⟩:=List.mem_map.mp h
     exact⟨y,hy,x,hx,e⟩
  rw [key.length_eq,oP,Int.natCast_mul,ih]
  rfl
theorem rj:∀{ls:List Int} {As:List (List Int)},uJ ls->Rs ls As->(∀ A∈As,A≠[])->(∃ x,x∈dU ls As)/\∀ q∈ls.zip As,∀ y∈q.2,∃ x∈dU ls As,x%q.1=y
 | [],[],_,_,_=>⟨⟨0,by decide⟩,λq hq=>by simp at hq⟩
 | [],_::_,_,h,_=>by have:=h.1;simp at this
 | _::_,[],_,h,_=>by have:=h.1;simp at this
 | p::ls,A::As,hP,hR,hN=>by
  obtain⟨⟨x1,hx1⟩,ih⟩:=rj hP.tl hR.tl λB hB=>hN B (List.mem_cons_of_mem _ hB)
  have W0:=gN hP.tl.1
  obtain⟨f,C⟩:=zm (hP.1 p (by simp)) W0 (uJ.nd (hP.1 p (by simp)) λq hq=>⟨hP.1 q (List.mem_cons_of_mem _ hq),by have:=(List.pairwise_cons.mp hP.2).1 q hq;omega⟩)
  have hA:=hR.2 (p,A) (by rw [List.zip_cons_cons];simp)
  obtain⟨y1,hy1⟩:=List.exists_mem_of_ne_nil A (hN A (by simp))
  refine⟨⟨_,(all_cons hP hR C).mpr ⟨y1,hy1,x1,hx1,rfl⟩⟩,λq hq y hy=>?_⟩
  rw [List.zip_cons_cons] at hq
  rcases List.mem_cons.mp hq with rfl | hq
  ·refine⟨f y x1,(all_cons hP hR C).mpr ⟨y,hy,x1,hx1,rfl⟩,?_⟩
   show f y x1%p=y
   obtain⟨y0,y1⟩:=hA.2 y hy
   rw [C.m1,Int.emod_eq_of_lt y0 y1]
  ·obtain⟨x,hx,e⟩:=ih q hq y hy
   refine⟨f y1 x,(all_cons hP hR C).mpr ⟨y1,hy1,x,hx,rfl⟩,?_⟩
   rw [<- Int.emod_emod_of_dvd (f y1 x) (gM (List.of_mem_zip hq).1),C.m2,Int.emod_emod_of_dvd _ (gM (List.of_mem_zip hq).1)]
   exact e
end
end K
namespace K
open PySem PySem.Spec PyProof.Rows L2
section
def dO (ls:List Int) (k a:Int):List (List Int):=ls.map λp=>b6 p k a p.toNat
structure P6 (ls:List Int):Prop where
 prs:uJ ls
 six:∀ p∈ls,p∈([2,3,5,7,11,13]:List Int)
theorem P6.b {ls:List Int} (h:P6 ls) {p:Int} (hp:p∈ls):2<=p/\p<=13:=by
 have:=h.six p hp
 simp only [List.mem_cons,List.not_mem_nil,or_false] at this
 omega
theorem i8 {k a:Int}:∀{ls:List Int} {q:Int × List Int},q∈ls.zip (dO ls k a)↔q.1∈ls/\q.2=b6 q.1 k a q.1.toNat
 | [],q=>by simp
 | p::ls,q=>by
  show q∈(p,b6 p k a p.toNat)::ls.zip (dO ls k a)↔_
  rw [List.mem_cons,i8,List.mem_cons]
  constructor
  ·rintro (rfl | ⟨h1,h2⟩)
   ·exact⟨.inl rfl,rfl⟩
   ·exact⟨.inr h1,h2⟩
  ·rintro⟨h1 | h1,h2⟩
   ·exact .inl (by rw [<- h1,<- h2])
   ·exact .inr ⟨h1,h2⟩
theorem nj {ls:List Int} {k a:Int} (h:P6 ls):Rs ls (dO ls k a):=⟨by unfold dO;rw [List.length_map],λq hq=>by
 obtain⟨h1,h2⟩:=i8.mp hq
 rw [h2]
 refine⟨ig oI,λy hy=>?_⟩
 obtain⟨y0,y1,_⟩:=kj.mp hy
 have:=h.b h1
 omega⟩
theorem ki {p k a x:Int} (p2:2<=p):x%p∈b6 p k a p.toNat↔Num.Al p (x^k.toNat) a:=by
 rw [kj,Pw.fb,Num.Al.iff]
 have:=Int.emod_nonneg x (show p≠0 by omega)
 have:=Int.emod_lt_of_pos x (show 0<p by omega)
 constructor
 ·exact λh=>h.2.2
 ·exact λh=>⟨by omega,by omega,h⟩
theorem kg {ls:List Int} {k a x:Int} (h:P6 ls):x∈dU ls (dO ls k a)↔(0<=x/\x<aL ls)/\∀ p∈ls,Num.Al p (x^k.toNat) a:=by
 rw [eF,<- and_assoc]
 refine and_congr Iff.rfl ⟨λg p hp=>?_,λg q hq=>?_⟩
 ·exact (ki (h.b hp).1).mp (g (p,b6 p k a p.toNat) (i8.mpr ⟨hp,rfl⟩))
 ·obtain⟨h1,h2⟩:=i8.mp hq
  rw [h2]
  exact (ki (h.b h1).1).mpr (g q.1 h1)
theorem vc {ls:List Int} {k a p:Int} (h:P6 ls) (k0:0<k) (hp:p∈ls) (n:b6 p k a p.toNat≠[]):((b6 p k a p.toNat).length:Int)=hm k a p:=by
 obtain⟨h1,h2⟩:=ny (a:=a) (h.six p hp) (h.prs.1 p hp) k0
 unfold hm
 split
 ·rename_i z
  rw [h1 z]
  rfl
 ·rename_i z
  rcases h2 z with⟨y,_⟩|⟨y,_⟩
  ·exact absurd y n
  ·rw [y]
theorem lD:∀{b a:List Int},a.Pairwise (·<·)->b.Pairwise (·<·)->(∀ x∈a,x∈b)->List.Sublist a b
 | [],[],_,_,_=>.slnil
 | [],x::a,_,_,h=>absurd (h x (by simp)) (by simp)
 | y::b,[],_,_,_=>List.nil_sublist _
 | y::b,x::a,ha,hb,h=>by
  have ha':=List.pairwise_cons.mp ha
  have hb':=List.pairwise_cons.mp hb
  rcases List.mem_cons.mp (h x (by simp)) with e | e
  ·subst e
   refine .cons₂ _ (lD ha'.2 hb'.2 λz hz=>?_)
   rcases List.mem_cons.mp (h z (List.mem_cons_of_mem _ hz)) with e | e
   ·have:=ha'.1 z hz
    omega
   ·exact e
  ·refine .cons _ (lD ha hb'.2 λz hz=>?_)
   rcases List.mem_cons.mp (h z hz) with e' | e'
   ·have:=hb'.1 x e
    rcases List.mem_cons.mp hz with w | w
    ·omega
    ·have:=ha'.1 z w
     omega
   ·exact e'
theorem uM {ls:List Int} {k a:Int} {rs:List Int} (h:P6 ls) (k0:0<k) (n:∀ A∈dO ls k a,A≠[]) (km:aL ((dO ls k a).map λA=>(A.length:Int))<=400):AR ls k a rs↔rs=dU ls (dO ls k a):=by
 have hl:=mW h.prs (nj (k:=k) (a:=a) h)
 have he:aL ((dO ls k a).map λA=>(A.length:Int))=aL (ls.map (hm k a)):=by
  unfold dO
  rw [List.map_map]
  congr 1
  refine List.map_congr_left λp hp=>?_
  exact vc h k0 hp (n _ (List.mem_map.mpr ⟨p,hp,rfl⟩))
 constructor
 ·intro A
  refine (lD A.rise iw λx hx=>(kg h).mpr ⟨A.bd x hx,λp hp=>A.ok p hp x hx⟩).eq_of_length ?_
  have:=A.len
  omega
 ·rintro rfl
  exact⟨by omega,by omega,iw,λr hr=>((kg h).mp hr).1,λp hp r hr=>((kg h).mp hr).2 p hp⟩
theorem BM {ls:List Int} {k a:Int} {rs:List Int} (h:P6 ls) (k0:0<k) (A:AR ls k a rs):∀ B∈dO ls k a,B≠[]:=λB hB e=>by
 obtain⟨p,hp,rfl⟩:=List.mem_map.mp hB
 have nr:=A.ne (λq hq=>(h.b hq).1) k0
 obtain⟨r,hr⟩:=List.exists_mem_of_ne_nil rs nr
 have:=(ki (k:=k) (a:=a) (x:=r) (h.b hp).1).mpr (A.ok p hp r hr)
 rw [e] at this
 cases this
def lT (p k a:Int) (row:PyData):Prop:=(p∣a/\row=.tuple [.str "nought"])∨(¬p∣a/\∃ h t:Int,(b6 p k a p.toNat)[0]?=some h/\0<t/\t<p/\Num.Ord p t (b6 p k a p.toNat).length/\row=fh h t)
theorem qb {ls:List Int} {k a p:Int} {row:PyData} (h:P6 ls) (k0:0<k) (n:∀ A∈dO ls k a,A≠[]) (hp:p∈ls):fK p k a (dU ls (dO ls k a)) row↔lT p k a row:=by
 have np:=n _ (List.mem_map.mpr ⟨p,hp,rfl⟩)
 have p2:=(h.b hp).1
 obtain⟨_,cov⟩:=rj h.prs (nj (k:=k) (a:=a) h) n
 have mem:∀ x,x∈(dU ls (dO ls k a)).map (λr=>r%p)↔x∈b6 p k a p.toNat:=λx=>by
  rw [List.mem_map]
  constructor
  ·rintro⟨r,hr,rfl⟩
   exact (ki p2).mpr (((kg h).mp hr).2 p hp)
  ·intro hx
   exact cov (p,b6 p k a p.toNat) (i8.mpr ⟨hp,rfl⟩) x hx
 unfold fK lT
 refine or_congr Iff.rfl (and_congr_right λna=>?_)
 have hl:=vc (a:=a) h k0 hp np
 unfold hm at hl
 rw [if_neg na] at hl
 have hl':(b6 p k a p.toNat).length=gc k p:=by omega
 rw [hl']
 have ri:=oI (p:=p) (k:=k) (a:=a) (n:=p.toNat)
 simp only [mem]
 generalize b6 p k a p.toNat=L at *
 cases L with
 | nil=>exact absurd rfl np
 | cons x L =>
  have ri':=(List.pairwise_cons.mp ri).1
  constructor
  ·rintro⟨m,t,h1,h2,h3,h4,h5,h6⟩
   have e:m=x:=by
    have:=h2 x (by simp)
    rcases List.mem_cons.mp h1 with z | z
    ·exact z
    ·have:=ri' m z
     omega
   subst e
   refine⟨m,t,rfl,?_,h4,h5,h6⟩
   rcases Int.lt_or_eq_of_le h3 with z | z
   ·exact z
   ·subst z
    have h1:=h5.one
    rw [Int.zero_pow (Nat.pos_iff_ne_zero.mp h5.pos)] at h1
    have h2:p∣0-1:=h1
    have:=Int.le_of_dvd (by decide) (Int.dvd_neg.mpr h2)
    omega
  ·rintro⟨m,t,h1,h2,h3,h4,h5⟩
   cases h1
   exact⟨x,t,by simp,λy hy=>by
    rcases List.mem_cons.mp hy with z | z
    ·omega
    ·have:=ri' y z
     omega,by omega,h3,h4,h5⟩
end
end K
namespace K
open PySem PySem.Spec PyProof.Rows L2
section
variable {K:PySem.W.Frag} {H H':Hp}
def bL:Nat->Nat
 | 0=>100
 | 1=>1000
 | 2=>10000
 | 3=>300000
 | _=>1600000
structure GL (l:Nat) (d:PyData):Prop where
 g:gd d
 s:d.showable=true
 n:d.hasDict=false
 dp:d.depth<=3+l
 ln:d.shown.length<=bL l
 z:c6 d<=bL l
theorem uO {l m:Nat} (lm:l<=m):bL l<=bL m:=by
 match l,m,lm with
 | 0,0,_ | 0,1,_ | 0,2,_ | 0,3,_ | 1,1,_ | 1,2,_ | 1,3,_ | 2,2,_ | 2,3,_ | 3,3,_=>decide
 | 0,m+4,_ | 1,m+4,_ | 2,m+4,_ | 3,m+4,_=>simp only [bL];omega
 | l+4,m+4,_=>exact Nat.le_refl _
theorem GL.up {l m:Nat} {d:PyData} (h:GL l d) (lm:l<=m):GL m d:=⟨h.g,h.s,h.n,by have:=h.dp;omega,Nat.le_trans h.ln (uO lm),Nat.le_trans h.z (uO lm)⟩
theorem GL.of0 {d:PyData} (h:Z0 d) (z:c6 d<=100):GL 0 d:=⟨h.g,h.s,h.n,h.dp,h.ln,z⟩
theorem GL.seq {l m:Nat} {ds:List PyData} (lm:l<m) (hb:ds.length*(bL l+2)+3<=bL m) (h:∀ d∈ds,GL l d):GL m (.list ds)/\GL m (.tuple ds):=by
 have a1:=sG λd hd=>(h d hd).s
 have a2:=mH λd hd=>(h d hd).n
 have a3:=ni λd hd=>(h d hd).dp
 obtain⟨a4,a5⟩:=vJ λd hd=>(h d hd).ln
 have l1:=listText_len_le (PyData.shownAll ds)
 have l2:=tupleText_len_le (PyData.shownAll ds)
 have hg:fP ds:=dQ.mpr λd hd=>(h d hd).g
 have a6:=i4 λd hd=>(h d hd).z
 have a7:1+bJ ds<=bL m:=by rw [Nat.mul_add] at hb;omega
 rw [Nat.mul_add] at hb
 refine⟨⟨by simp only [gd];exact hg,by simp only [PyData.showable];exact a1,by simp only [PyData.hasDict];exact a2,by simp only [PyData.depth];omega,?_,a7⟩,⟨by simp only [gd];exact hg,by simp only [PyData.showable];exact a1,by simp only [PyData.hasDict];exact a2,by simp only [PyData.depth];omega,?_,a7⟩⟩
 ·show (listText (PyData.shownAll ds)).length<=_
  omega
 ·show (tupleText (PyData.shownAll ds)).length<=_
  omega
def bK (K:PySem.W.Frag) (l:Nat) (H:Hp) (x:V):Prop:=∃ d,fH K H d x/\GL l d
def bz (K:PySem.W.Frag) (l:Nat) (H:Hp) (xs:List V):Prop:=∀ x∈xs,bK K l H x
theorem bK.up {l m:Nat} {x:V} (h:bK K l H x) (lm:l<=m):bK K m H x:=by
 obtain⟨d,h1,h2⟩:=h
 exact⟨d,h1,h2.up lm⟩
theorem bK.map {l:Nat} {x:V} (h:bK K l H x) (k:∀ d v,fH K H d v->fH K H' d v):bK K l H' x:=by
 obtain⟨d,h1,h2⟩:=h
 exact⟨d,k _ _ h1,h2⟩
theorem bK.same {l:Nat} {x:V} (h:bK K l H x) (s:aE H H'):bK K l H' x:=h.map λ_ _ z=>z.same s
theorem bz.same {l:Nat} {xs:List V} (h:bz K l H xs) (s:aE H H'):bz K l H' xs:=λx hx=>(h x hx).same s
theorem bz.map {l:Nat} {xs:List V} (h:bz K l H xs) (k:∀ d v,fH K H d v->fH K H' d v):bz K l H' xs:=λx hx=>(h x hx).map k
theorem bz.nil {l:Nat}:bz K l H []:=λx hx=>by cases hx
theorem bz.cons {l:Nat} {x:V} {xs:List V} (h:bK K l H x) (g:bz K l H xs):bz K l H (x::xs):=λy hy=>(List.mem_cons.mp hy).elim (λz=>z▸h) (g y)
theorem bz.app {l:Nat} {xs ys:List V} (h:bz K l H xs) (g:bz K l H ys):bz K l H (xs++ys):=λx hx=>(List.mem_append.mp hx).elim (h x) (g x)
theorem bz.cut {l:Nat} {xs:List V} (lo hi:Option Int) (h:bz K l H xs):bz K l H (cz xs lo hi):=λx hx=>by
 unfold cz at hx
 exact h x (List.mem_of_mem_drop (List.mem_of_mem_take hx))
theorem bz.ex {l:Nat}:∀{xs:List V},bz K l H xs->∃ ds,cw K H ds xs/\ds.length=xs.length/\∀ d∈ds,GL l d
 | [],_=>⟨[],rfl,rfl,by simp⟩
 | x::xs,h=>by
  obtain⟨d,h1,h2⟩:=h x (by simp)
  obtain⟨ds,g1,g2,g3⟩:=bz.ex (xs:=xs) λy hy=>h y (List.mem_cons_of_mem _ hy)
  exact⟨d::ds,⟨x,xs,rfl,h1,g1⟩,by simp [g2],λe he=>(List.mem_cons.mp he).elim (λz=>z▸h2) (g3 e)⟩
theorem bK.tup {l m:Nat} {p:Addr} {xs:List V} (hS:aY K H p xs) (lm:l<m) (hb:xs.length*(bL l+2)+3<=bL m) (h:bz K l H xs):bK K m H (.ref p):=by
 obtain⟨ds,h1,h2,h3⟩:=h.ex
 exact⟨.tuple ds,⟨p,xs,rfl,hS,h1⟩,(GL.seq lm (by rw [h2];exact hb) h3).2⟩
theorem bK.lst {l m:Nat} {p:Addr} {xs:List V} (hS:H p=some (.lst xs)) (lm:l<m) (hb:xs.length*(bL l+2)+3<=bL m) (h:bz K l H xs):bK K m H (.ref p):=by
 obtain⟨ds,h1,h2,h3⟩:=h.ex
 exact⟨.list ds,⟨p,xs,rfl,hS,h1⟩,(GL.seq lm (by rw [h2];exact hb) h3).1⟩
theorem bK.int {i:Int} (h0:-(10^90)<=i) (h1:i<=10^90):bK K 0 H (.int i):=⟨.int i,rfl,.of0 (rg h0 h1) (by decide:1<=100)⟩
theorem bK.bY:bK K 0 H .bY:=⟨.none,rfl,.of0 ⟨by simp only [gd],rfl,rfl,by decide,by decide +kernel⟩ (by decide)⟩
theorem bK.bl {b:Bool}:bK K 0 H (.bl b):=⟨.bool b,rfl,.of0 ⟨by simp only [gd],rfl,rfl,by simp only [PyData.depth];omega,by cases b<;>decide +kernel⟩ (by decide:1<=100)⟩
theorem bK.str {x:Str} (h:PyData.canLay0 (.str x)=true) (l:(reprText x).length<=100):bK K 0 H (.str x):=⟨.str x,rfl,.of0 ⟨by simp only [gd];exact h,rfl,rfl,by simp only [PyData.depth];omega,l⟩ (by decide:1<=100)⟩
theorem bz.ints {ns:List Int} (h:∀ n∈ns,-(10^90)<=n/\n<=10^90):bz K 0 H (ns.map V.int):=λx hx=>by
 obtain⟨n,hn,rfl⟩:=List.mem_map.mp hx
 exact .int (h n hn).1 (h n hn).2
theorem GL.repr {l:Nat} {d:PyData} {x:V} {Q:VK} (h1:dv K H d x) (h2:GL l d) (l4:l<=4) (q:Q (.str d.shown) H):zO K [x] H Q:=by
 have zz:bL l<=sizeLine:=by
  rcases (by omega:l=0∨l=1∨l=2∨l=3∨l=4) with rfl | rfl | rfl | rfl | rfl<;>decide +kernel
 exact⟨x,d,rfl,h1,h2.s,h2.n,by have:=h2.dp;omega,Nat.le_trans h2.ln zz,q⟩
end
end K
namespace K
open PySem PySem.Spec PyProof.Rows L2
section
variable {P:Program} {w:World} {K:PySem.W.Frag} {mg:Str->Option Value} {base:Heap} {C:Addr}
def BP (K:PySem.W.Frag) (H:Hp) (v:V):Prop:=∃ d,dv K H d v/\¬qi d/\iX d/\c6 d<=10^6
theorem BP.same {H H':Hp} {v:V} (h:BP K H v) (s:aE H H'):BP K H' v:=by
 obtain⟨d,h1,h2⟩:=h
 exact⟨d,dv.same s _ h1,h2⟩
theorem fk {H:Hp} {a:Addr} {xs:List V} {lo hi:Option Int} {Q:VK} (hS:aS K H a xs) (q:∀ p H',aE H H'->H' p=some (.lst (cz xs lo hi))->Q (.ref p) H'):Cv K (.ref a) lo hi H Q:=⟨a,xs,rfl,hS,λp hp=>q p _ (aj hp) ai⟩
theorem iy {H:Hp} {a b:Addr} {xs ys:List V} {Q:VK} (ha:H a=some (.lst xs)) (hb:H b=some (.lst ys)) (hl:xs.length+ys.length<=1000) (q:∀ p H',aE H H'->H' p=some (.lst (xs++ys))->Q (.ref p) H'):Cq (.ref a) (.ref b) H Q:=⟨a,b,xs,ys,rfl,rfl,ha,hb,Nat.le_trans hl (by decide),λp hp=>q p _ (aj hp) ai⟩
theorem nB {H:Hp}:∀(m:Nat) {ds:List PyData} {us:List V},bo K H ds us->bo K H (ds.take m) (us.take m)/\bo K H (ds.drop m) (us.drop m)
 | 0,ds,us,h=>⟨by simp only [List.take_zero];exact rfl,by simpa using h⟩
 | m+1,[],us,h=>by cases h;exact⟨rfl,rfl⟩
 | m+1,d::ds,us,h=>by
  obtain⟨x,r,rfl,h1,h2⟩:=h
  have ih:=nB m h2
  exact⟨⟨x,_,rfl,h1,ih.1⟩,ih.2⟩
theorem kq {es:List PyData} {x:PyData} (hx:x∈es) (n:¬PP x):¬qi (.list es):=fun⟨ds,e,_,_,h,_⟩=>by
 injection e with e
 exact n (h x (e▸hx))
theorem ua {ds:List PyData} {m:Nat} {d:PyData} (hd:ds[m]?=some d):¬qi (.list (ds.take m++[d]++ds.drop m)):=fun⟨es,e,_,_,_,h⟩=>by
 injection e with e
 have il:=(List.getElem?_eq_some_iff.mp hd).1
 have ed:=List.drop_eq_getElem_cons il
 rw [show ds[m]=d from (List.getElem?_eq_some_iff.mp hd).2] at ed
 rw [<- e,ed,List.map_append,List.map_append,List.map_cons,List.append_assoc] at h
 have h:=(List.pairwise_append.mp h).2.1
 have:=(List.pairwise_cons.mp h).1 (pD d) (by simp)
 omega
def lowP (p:Int):Int:=if 3<p then p-1 else 0
theorem AH {p:Int}:qp [V.int 0,V.int (p-1)] (if 3<p then 1 else 0)=some (V.int (lowP p)):=by
 unfold lowP
 split<;>rfl
theorem AM {p:Int} {pl:List (Int × Int)} {dx:Nat->PyData} (p2:2<=p) (hP:Num.Part (p-1) pl) (hd:∀ i q k,pl[i]?=some (q,k)->Num.cR q (dx i)):¬PP (.tuple [.int p,.int (lowP p),.tuple (Num.rowsOf pl dx)]):=λh=>by
 obtain⟨h1,h2,o⟩:=(qS p2 hP hd).mp h
 unfold lowP at h1 h2 o
 split at h1
 ·rename_i c
  rw [if_pos c] at o
  have:=Nat.le_of_dvd (by decide) (o.dv 2 ⟨p-2,by grind⟩)
  omega
 ·omega
def Ei (K:PySem.W.Frag) (pp t:Addr) (way m:Nat) (lo:Int) (H:Hp) (n:Nat) (σ':L2.St) (H':Hp):Prop:=aE H H'/\∃(L:Addr) (xs:List V),σ'=[some (.ref pp),some (.int way),some (.int m),some (.ref t),some (.int lo),some (.ref L)]/\H' L=some (.lst xs)/\xs.length=n/\∀ v∈xs,BP K H' v
def sI (K:PySem.W.Frag):Sp:=λvs H Q _=>∃(pp:Addr) (us:List V) (ls:List Int) (ds:List PyData) (way m:Nat),vs=[.ref pp,.int way,.int m]/\Pw K H pp us ls ds/\H pp=some (.lst us)/\way<7/\m<ls.length/\∀ v d H',dv K H' d v->¬qi d->iX d->c6 d<=10^6->aE H H'->Q v H'
theorem dH:aC ["_law_papers","_law_way","_law_at","_law_one","_law_low","_law_some"] ["_law_papers","_law_way","_law_at"] (ao (top 68)):=c7
theorem vU (D:aA K mg "_law_bent_papers" (top 68)) (n_int:mg "int"=none) (n_tuple:mg "tuple"=none):Callee P w K mg base aV 1 "_law_bent_papers" ["_law_papers","_law_way","_law_at"] (sI K):=by
 refine cO D dH (λf cdv A outer s H vs Q E hr h=>?_)
 obtain⟨pp,us,ls,ds,way,m,rfl,W,hpp,w7,ml,q⟩:=h
 have nd:=dH.nd
 refine⟨_,(ag (cp (i:=3) nd (aB aP (pv 0) (pv 2) (λ_ _=>rfl))) (ag (bf (cp (i:=4) nd (aB aP (aX (aa af (aa (aw cq (aB aI (pv 3) af (λ_ _=>rfl)) af) ae))) (bp mv rfl n_int L2.boot_int (aa (bh gY (aB aI (pv 3) af (λ_ _=>rfl)) af (aq _)) ae)) (λ_ _=>rfl)))) (ag (bf (cp (i:=5) nd (aX (aa (aw cm (aw cm (aK bI (pv 0) aW (aN (pv 2))) (aX (aa (pv 3) ae))) (aK bI (pv 0) (aN (pv 2)) aW)) (aa (aw cm (aw cm (aK bI (pv 0) aW (aN (pv 2))) (aX (aa (aR (aa (aB aI (pv 3) af (λ_ _=>rfl)) (aa af (aa (aB aI (pv 3) af (λ_ _=>rfl)) ae)))) ae))) (aK bI (pv 0) (aN (aw b8 (pv 2) af)) aW)) (aa (bp bH rfl n_tuple L2.boot_tuple (aa (pv 0) ae)) (aa (aX ae) ae))))))) (ag (bf (cp (i:=5) nd (aw cm (pv 5) (aX (aa (aw cm (aw cm (aK bI (pv 0) aW (aN (pv 2))) (aX (aa (aK cJ (pv 3) aW (aN af)) ae))) (aK bI (pv 0) (aN (aw b8 (pv 2) af)) aW)) (aa (aw cm (aw cm (aK bI (pv 0) aW (aN (pv 2))) (aX (aa fU ae))) (aK bI (pv 0) (aN (pv 2)) aW)) ae)))))) (ak (au (aB aP (aw cm (pv 5) (aX (aa (aw cm (aw cm (aK bI (pv 0) aW (aN (pv 2))) (aX (aa (aR (aa (aB aI (pv 3) af (λ_ _=>rfl)) (aa (pv 4) (aa (aB aI (pv 3) af (λ_ _=>rfl)) ae)))) ae))) (aK bI (pv 0) (aN (aw b8 (pv 2) af)) aW)) ae))) (pv 1) (λ_ _=>rfl)))))))),?_⟩
 show b9 _ _ _ [some (.ref pp),some (.int way),some (.int m),none,none,none] H
 have ul:us.length=ls.length:=by rw [W.hd.length,W.F.len]
 have l4:=W.l4
 obtain⟨u,hu⟩:∃ u,us[m]?=some u:=⟨_,List.getElem?_eq_getElem (show m<us.length by omega)⟩
 obtain⟨d,hd,hv⟩:=W.hd.get hu
 obtain⟨p,hp⟩:∃ p,ls[m]?=some p:=⟨_,List.getElem?_eq_getElem ml⟩
 have hF:=W.F.at_ m p d hp hd
 obtain⟨g,pl,dx,rfl,R⟩:=Bb hF
 have elB:∀ x∈ds,iX x/\c6 x<=400:=λx hx=>by
  obtain⟨p,_,h⟩:=W.F.mem hx
  exact⟨qP h,Nat.le_trans (gK h) (by decide)⟩
 have bE:=elB _ (List.mem_of_getElem? hd)
 have p2:=R.pm.two
 have b0:iX (.tuple [.int p,.int 0,.tuple (Num.rowsOf pl dx)])/\c6 (.tuple [.int p,.int 0,.tuple (Num.rowsOf pl dx)])<=400:=⟨⟨bE.1.1,by show (0:Int)<=_;decide,bE.1.2.2⟩,bE.2⟩
 have bL:iX (.tuple [.int p,.int (lowP p),.tuple (Num.rowsOf pl dx)])/\c6 (.tuple [.int p,.int (lowP p),.tuple (Num.rowsOf pl dx)])<=400:=⟨⟨bE.1.1,by show lowP p<=10^110;have:=R.p9;unfold lowP;split<;>omega,bE.1.2.2⟩,bE.2⟩
 have b2:iX (.tuple [.int p,.int g])/\c6 (.tuple [.int p,.int g])<=400:=⟨⟨bE.1.1,bE.1.2.1,trivial⟩,by show 1+(1+(1+0))<=400;decide⟩
 have bnd:∀{x:PyData} {k:Nat},iX x/\c6 x<=400->ds.length<=4->iX (.list (ds.take m++[x]++ds.drop k))/\c6 (.list (ds.take m++[x]++ds.drop k))<=10^6:=λ{x k} hx hl=>by
  have ha:∀ y∈ds.take m++[x]++ds.drop k,iX y/\c6 y<=400:=λy hy=>by
   rcases List.mem_append.mp hy with z | z
   ·rcases List.mem_append.mp z with z | z
    ·exact elB y (List.mem_of_mem_take z)
    ·rw [List.mem_singleton.mp z];exact hx
   ·exact elB y (List.mem_of_mem_drop z)
  refine⟨gP λy hy=>(ha y hy).1,?_⟩
  have:=i4 λy hy=>(ha y hy).2
  have hl2:(ds.take m++[x]++ds.drop k).length<=9:=by simp only [List.length_append,List.length_take,List.length_drop,List.length_cons,List.length_nil];omega
  show 1+bJ _<=10^6
  omega
 have hT:∀{H':Hp},aE H H'->bo K H' (ds.take m) (us.take m):=λs=>(nB m (bo.same s _ W.hd)).1
 have hD:∀(k:Nat) {H':Hp},aE H H'->bo K H' (ds.drop k) (us.drop k):=λk _ s=>(nB k (bo.same s _ W.hd)).2
 have no0:¬PP (.tuple [.int p,.int 0,.tuple (Num.rowsOf pl dx)]):=λh=>by
  have:=((qS p2 R.hP R.hds).mp h).1
  omega
 have yj:=AM p2 R.hP R.hds
 have no2:¬PP (.tuple [.int p,.int g]):=λh=>by cases h
 have noN:¬PP .none:=λh=>by cases h
 obtain⟨t,x0,x1,x2,rfl,tU,f0,f1,f2⟩:=qw hv
 cases f0
 cases f1
 k_data
 refine Ba W.hS hu ⟨λσ' H'=>aE H H'/\σ'=[some (.ref pp),some (.int way),some (.int m),some (.ref t),some (.int (lowP p)),none],?_,?_⟩
 ·k_data
  refine bj tU fL ⟨p,rfl,by show 2<=sizeLine;decide,λa1 ha1=>?_⟩
  have s1:=aj (o:=.lst [V.int 0,V.int (p-1)]) ha1
  exact bj (tU.same s1) fL ⟨p,rfl,.inr ⟨a1,_,_,V.int (lowP p),rfl,rfl,aS.of ai,AH,s1,rfl⟩⟩
 rintro σ' B ⟨S0,rfl⟩
 refine⟨λσ' H'=>Ei K pp t way m (lowP p) H 4 σ' H',?_,?_⟩
 ·k_data
  refine fk (W.hS.same (S0)) λa1 J1 s1 e1=>?_
  rw [du (us:=us) (m:=m) (by omega)] at e1
  have S1:=s1
  refine⟨by show 1<=sizeLine;decide,λa2 ha2=>?_⟩
  have s2:=aj (o:=.lst [V.ref t]) ha2
  have e2:upd J1 a2 (.lst [V.ref t]) a2=some (.lst [V.ref t]):=ai
  generalize upd J1 a2 _=J2 at *
  have S2:=S1.trans s2
  refine iy (s2 _ _ (e1)) (e2) (by simp only [List.length_append,List.length_take,List.length_drop,List.length_cons,List.length_nil];omega) λa3 J3 s3 e3=>?_
  have S3:=S2.trans s3
  refine fk (W.hS.same (S0.trans S3)) λa4 J4 s4 e4=>?_
  rw [cE (us:=us) (m:=m) (by omega)] at e4
  have S4:=S3.trans s4
  refine iy (s4 _ _ (e3)) (e4) (by simp only [List.length_append,List.length_take,List.length_drop,List.length_cons,List.length_nil];omega) λa5 J5 s5 e5=>?_
  have S5:=S4.trans s5
  have g5:BP K J5 (.ref a5):=⟨.list (ds.take m++[.tuple [.int p,.int g,.tuple (Num.rowsOf pl dx)]]++ds.drop (m)),dv.lst e5 (((hT (S0.trans S5)).append (.one (dv.same (S0.trans S5) _ hv))).append (hD (m) (S0.trans S5))),ua hd,bnd (bE) (by rw [W.F.len];omega)⟩
  refine fk (W.hS.same (S0.trans S5)) λa6 J6 s6 e6=>?_
  rw [du (us:=us) (m:=m) (by omega)] at e6
  have S6:=S5.trans s6
  refine bj (tU.same (S0.trans S6)) fL (bj (tU.same (S0.trans S6)) rfl ?_)
  refine⟨by show 3<=sizeLine;decide,λa7 ha7=>?_⟩
  have s7:=aj (o:=.tup [V.int p,V.int 0,x2]) ha7
  have e7:upd J6 a7 (.tup [V.int p,V.int 0,x2]) a7=some (.tup [V.int p,V.int 0,x2]):=ai
  generalize upd J6 a7 _=J7 at *
  have S7:=S6.trans s7
  refine⟨by show 1<=sizeLine;decide,λa8 ha8=>?_⟩
  have s8:=aj (o:=.lst [V.ref a7]) ha8
  have e8:upd J7 a8 (.lst [V.ref a7]) a8=some (.lst [V.ref a7]):=ai
  generalize upd J7 a8 _=J8 at *
  have S8:=S7.trans s8
  refine iy (s8 _ _ (s7 _ _ (e6))) (e8) (by simp only [List.length_append,List.length_take,List.length_drop,List.length_cons,List.length_nil];omega) λa9 J9 s9 e9=>?_
  have S9:=S8.trans s9
  refine fk (W.hS.same (S0.trans S9)) λa10 J10 s10 e10=>?_
  rw [show ((m:Int)+1)=((m+1:Nat):Int) by omega,cE (us:=us) (m:=m+1) (by omega)] at e10
  have S10:=S9.trans s10
  refine iy (s10 _ _ (e9)) (e10) (by simp only [List.length_append,List.length_take,List.length_drop,List.length_cons,List.length_nil];omega) λa11 J11 s11 e11=>?_
  have S11:=S10.trans s11
  have g11:BP K J11 (.ref a11):=⟨.list (ds.take m++[.tuple [.int p,.int 0,.tuple (Num.rowsOf pl dx)]]++ds.drop (m+1)),dv.lst e11 (((hT (S0.trans S11)).append (.one (dv.tup (ds:=[.int p,.int 0,.tuple (Num.rowsOf pl dx)]) (s11 _ _ (s10 _ _ (s9 _ _ (s8 _ _ (e7))))) ⟨_,_,rfl,rfl,_,_,rfl,rfl,.one (dv.same (S0.trans S11) _ f2)⟩))).append (hD (m+1) (S0.trans S11))),kq (by simp) no0,bnd (b0) (by rw [W.F.len];omega)⟩
  refine⟨us,.inl ⟨W.hS.same (S0.trans S11),λa12 ha12=>?_⟩⟩
  have s12:=aj (o:=.tup us) ha12
  have e12:upd J11 a12 (.tup us) a12=some (.tup us):=ai
  generalize upd J11 a12 _=J12 at *
  have S12:=S11.trans s12
  have g12:BP K J12 (.ref a12):=⟨.tuple ds,dv.tup e12 (bo.same (S0.trans S12) _ W.hd),(λz=>by obtain⟨_,z,_⟩:=z;cases z),W.F.sm,by show 1+bJ ds<=10^6;have:=W.F.sz;have:=W.F.len;omega⟩
  refine⟨by show 0<=sizeLine;decide,λa13 ha13=>?_⟩
  have s13:=aj (o:=.lst []) ha13
  have e13:upd J12 a13 (.lst []) a13=some (.lst []):=ai
  generalize upd J12 a13 _=J13 at *
  have S13:=S12.trans s13
  have g13:BP K J13 (.ref a13):=⟨.list [],dv.lst e13 rfl,(λz=>by obtain⟨_,z,h,_⟩:=z;cases z;exact absurd h (by decide)),trivial,by show 1<=10^6;decide⟩
  refine⟨by show 4<=sizeLine;decide,λa14 ha14=>?_⟩
  have s14:=aj (o:=.lst [V.ref a5,V.ref a11,V.ref a12,V.ref a13]) ha14
  have e14:upd J13 a14 (.lst [V.ref a5,V.ref a11,V.ref a12,V.ref a13]) a14=some (.lst [V.ref a5,V.ref a11,V.ref a12,V.ref a13]):=ai
  generalize upd J13 a14 _=J14 at *
  have S14:=S13.trans s14
  refine⟨S0.trans S14,a14,_,rfl,e14,rfl,λv hv=>?_⟩
  simp only [List.mem_cons,List.not_mem_nil,or_false] at hv
  rcases hv with rfl | rfl | rfl | rfl
  ·exact g5.same (s6.trans (s7.trans (s8.trans (s9.trans (s10.trans (s11.trans (s12.trans (s13.trans (s14)))))))))
  ·exact g11.same (s12.trans (s13.trans (s14)))
  ·exact g12.same (s13.trans (s14))
  ·exact g13.same (s14)
 rintro σ' B ⟨S0,L4,x4,rfl,e4,l4',g4⟩
 refine⟨λσ' H'=>Ei K pp t way m (lowP p) H 6 σ' H',?_,?_⟩
 ·k_data
  refine fk (W.hS.same (S0)) λa101 J101 s101 e101=>?_
  rw [du (us:=us) (m:=m) (by omega)] at e101
  have S101:=s101
  refine fM (tU.same (S0.trans S101)) λa102 J102 s102 t102=>?_
  rw [show cz [V.int p,V.int g,x2] none (some 2)=[V.int p,V.int g] from du (m:=2) (by show 2<=3;decide)] at t102
  have S102:=S101.trans s102
  refine⟨by show 1<=sizeLine;decide,λa103 ha103=>?_⟩
  have s103:=aj (o:=.lst [V.ref a102]) ha103
  have e103:upd J102 a103 (.lst [V.ref a102]) a103=some (.lst [V.ref a102]):=ai
  generalize upd J102 a103 _=J103 at *
  have S103:=S102.trans s103
  refine iy (s103 _ _ (s102 _ _ (e101))) (e103) (by simp only [List.length_append,List.length_take,List.length_drop,List.length_cons,List.length_nil];omega) λa104 J104 s104 e104=>?_
  have S104:=S103.trans s104
  refine fk (W.hS.same (S0.trans S104)) λa105 J105 s105 e105=>?_
  rw [show ((m:Int)+1)=((m+1:Nat):Int) by omega,cE (us:=us) (m:=m+1) (by omega)] at e105
  have S105:=S104.trans s105
  refine iy (s105 _ _ (e104)) (e105) (by simp only [List.length_append,List.length_take,List.length_drop,List.length_cons,List.length_nil];omega) λa106 J106 s106 e106=>?_
  have S106:=S105.trans s106
  have g106:BP K J106 (.ref a106):=⟨.list (ds.take m++[.tuple [.int p,.int g]]++ds.drop (m+1)),dv.lst e106 (((hT (S0.trans S106)).append (.one (show dv K J106 (.tuple [.int p,.int g]) (.ref a102) from ⟨a102,_,rfl,((((t102).same s103).same s104).same s105).same s106,_,_,rfl,rfl,.one rfl⟩))).append (hD (m+1) (S0.trans S106))),kq (by simp) no2,bnd (b2) (by rw [W.F.len];omega)⟩
  refine fk (W.hS.same (S0.trans S106)) λa107 J107 s107 e107=>?_
  rw [du (us:=us) (m:=m) (by omega)] at e107
  have S107:=S106.trans s107
  refine⟨by show 1<=sizeLine;decide,λa108 ha108=>?_⟩
  have s108:=aj (o:=.lst [V.bY]) ha108
  have e108:upd J107 a108 (.lst [V.bY]) a108=some (.lst [V.bY]):=ai
  generalize upd J107 a108 _=J108 at *
  have S108:=S107.trans s108
  refine iy (s108 _ _ (e107)) (e108) (by simp only [List.length_append,List.length_take,List.length_drop,List.length_cons,List.length_nil];omega) λa109 J109 s109 e109=>?_
  have S109:=S108.trans s109
  refine fk (W.hS.same (S0.trans S109)) λa110 J110 s110 e110=>?_
  rw [cE (us:=us) (m:=m) (by omega)] at e110
  have S110:=S109.trans s110
  refine iy (s110 _ _ (e109)) (e110) (by simp only [List.length_append,List.length_take,List.length_drop,List.length_cons,List.length_nil];omega) λa111 J111 s111 e111=>?_
  have S111:=S110.trans s111
  have g111:BP K J111 (.ref a111):=⟨.list (ds.take m++[.none]++ds.drop (m)),dv.lst e111 (((hT (S0.trans S111)).append (.one (show dv K J111 .none .bY from rfl))).append (hD (m) (S0.trans S111))),kq (by simp) noN,bnd (show iX .none/\c6 .none<=400 from ⟨trivial,by decide⟩) (by rw [W.F.len];omega)⟩
  refine⟨by show 2<=sizeLine;decide,λa112 ha112=>?_⟩
  have s112:=aj (o:=.lst [V.ref a106,V.ref a111]) ha112
  have e112:upd J111 a112 (.lst [V.ref a106,V.ref a111]) a112=some (.lst [V.ref a106,V.ref a111]):=ai
  generalize upd J111 a112 _=J112 at *
  have S112:=S111.trans s112
  refine iy (S112 _ _ e4) (e112) (by rw [l4'];show 4+2<=1000;decide) λa113 J113 s113 e113=>?_
  have S113:=S112.trans s113
  refine⟨S0.trans S113,a113,_,rfl,e113,by rw [List.length_append,l4'];rfl,λv hv=>?_⟩
  rcases List.mem_append.mp hv with hv | hv
  ·exact (g4 v hv).same S113
  simp only [List.mem_cons,List.not_mem_nil,or_false] at hv
  rcases hv with rfl | rfl
  ·exact g106.same (s107.trans (s108.trans (s109.trans (s110.trans (s111.trans (s112.trans (s113)))))))
  ·exact g111.same (s112.trans (s113))
 rintro σ' B ⟨S0,L6,x6,rfl,e6,l6',g6⟩
 k_data
 refine fk (W.hS.same (S0)) λa201 J201 s201 e201=>?_
 rw [du (us:=us) (m:=m) (by omega)] at e201
 have S201:=s201
 refine bj (tU.same (S0.trans S201)) fL (bj (tU.same (S0.trans S201)) rfl ?_)
 refine⟨by show 3<=sizeLine;decide,λa202 ha202=>?_⟩
 have s202:=aj (o:=.tup [V.int p,V.int (lowP p),x2]) ha202
 have e202:upd J201 a202 (.tup [V.int p,V.int (lowP p),x2]) a202=some (.tup [V.int p,V.int (lowP p),x2]):=ai
 generalize upd J201 a202 _=J202 at *
 have S202:=S201.trans s202
 refine⟨by show 1<=sizeLine;decide,λa203 ha203=>?_⟩
 have s203:=aj (o:=.lst [V.ref a202]) ha203
 have e203:upd J202 a203 (.lst [V.ref a202]) a203=some (.lst [V.ref a202]):=ai
 generalize upd J202 a203 _=J203 at *
 have S203:=S202.trans s203
 refine iy (s203 _ _ (s202 _ _ (e201))) (e203) (by simp only [List.length_append,List.length_take,List.length_drop,List.length_cons,List.length_nil];omega) λa204 J204 s204 e204=>?_
 have S204:=S203.trans s204
 refine fk (W.hS.same (S0.trans S204)) λa205 J205 s205 e205=>?_
 rw [show ((m:Int)+1)=((m+1:Nat):Int) by omega,cE (us:=us) (m:=m+1) (by omega)] at e205
 have S205:=S204.trans s205
 refine iy (s205 _ _ (e204)) (e205) (by simp only [List.length_append,List.length_take,List.length_drop,List.length_cons,List.length_nil];omega) λa206 J206 s206 e206=>?_
 have S206:=S205.trans s206
 have g206:BP K J206 (.ref a206):=⟨.list (ds.take m++[.tuple [.int p,.int (lowP p),.tuple (Num.rowsOf pl dx)]]++ds.drop (m+1)),dv.lst e206 (((hT (S0.trans S206)).append (.one (dv.tup (ds:=[.int p,.int (lowP p),.tuple (Num.rowsOf pl dx)]) (s206 _ _ (s205 _ _ (s204 _ _ (s203 _ _ (e202))))) ⟨_,_,rfl,rfl,_,_,rfl,rfl,.one (dv.same (S0.trans S206) _ f2)⟩))).append (hD (m+1) (S0.trans S206))),kq (by simp) yj,bnd (bL) (by rw [W.F.len];omega)⟩
 refine⟨by show 1<=sizeLine;decide,λa207 ha207=>?_⟩
 have s207:=aj (o:=.lst [V.ref a206]) ha207
 have e207:upd J206 a207 (.lst [V.ref a206]) a207=some (.lst [V.ref a206]):=ai
 generalize upd J206 a207 _=J207 at *
 have S207:=S206.trans s207
 refine iy (S207 _ _ e6) (e207) (by rw [l6'];show 6+1<=1000;decide) λa208 J208 s208 e208=>?_
 have S208:=S207.trans s208
 refine cj (aS.of e208) (by omega) (by rw [List.length_append,l6'];show (way:Int)<7;omega) λv hv=>?_
 have gv:BP K J208 v:=by
  rcases List.mem_append.mp hv with hv | hv
  ·exact (g6 v hv).same S208
  ·rw [List.mem_singleton.mp hv]
   exact g206.same (s207.trans (s208))
 obtain⟨d,h1,h2,h3,h4⟩:=gv
 exact q _ _ _ h1 h2 h3 h4 (S0.trans S208)
end
end K
namespace K
open PySem PySem.Spec PyProof.Rows L2
section
variable {P:Program} {w:World} {K:PySem.W.Frag} {mg:Str->Option Value} {base:Heap}
def tQ (ns:List Int):List (Key × V):=ns.map λn=>((Sum.inl n:Key),V.bl true)
theorem sW:∀{ns:List Int} (n:Int),fj (tQ ns) (Sum.inl n)=if n∈ns then some (V.bl true) else none
 | [],n=>by simp [tQ,fj]
 | m::ns,n=>by
  show fj (((Sum.inl m:Key),V.bl true)::tQ ns) _=_
  by_cases c:m=n
  ·subst c
   rw [gG rfl,if_pos (List.mem_cons_self ..)]
  ·rw [gF (λz=>c (Sum.inl.inj z)),sW n]
   by_cases c2:n∈ns
   ·rw [if_pos c2,if_pos (List.mem_cons_of_mem _ c2)]
   ·rw [if_neg c2,if_neg (λz=>by rcases List.mem_cons.mp z with y | y;exact c y.symm;exact c2 y)]
theorem yJ {ns:List Int} (n:Int):putK (tQ ns) (Sum.inl n) (.bl true)=tQ (if n∈ns then ns else ns++[n]):=by
 unfold putK
 rw [lN,sW]
 by_cases c:n∈ns
 ·rw [if_pos c,if_pos c,if_pos (by rfl)]
  unfold tQ
  rw [List.map_map]
  refine List.map_congr_left λm hm=>?_
  show (if (Sum.inl m:Key)=Sum.inl n then _ else _)=_
  by_cases c2:(Sum.inl m:Key)=Sum.inl n
  ·rw [if_pos c2]
  ·rw [if_neg c2]
 ·rw [if_neg c,if_neg c,if_neg (by simp)]
  unfold tQ
  rw [List.map_append]
  rfl
theorem vF (ns:List Int):(tQ ns).map (·.1)=ns.map Sum.inl:=by
 unfold tQ
 rw [List.map_map]
 rfl
theorem yh (ns:List Int):(tQ ns).length=ns.length:=by unfold tQ;rw [List.length_map]
theorem zK {v:V} (hv:v∈[V.int 2,V.int 3,V.int 5,V.int 7,V.int 11,V.int 13]):∃ q:Int,v=.int q/\Num.Pm q/\q∈([2,3,5,7,11,13]:List Int):=by
 have key:∀ n:Nat,2<=n->n<100->(∀ k,k<n->2<=k->¬k∣n)->Num.Pm (n:Int):=λn h2 h9 h=>⟨by omega,λd d2 dn hd=>h d.toNat (by omega) (by omega) (Int.natCast_dvd_natCast.mp (by rw [show ((d.toNat:Nat):Int)=d by omega];exact hd))⟩
 simp only [List.mem_cons,List.not_mem_nil,or_false] at hv
 rcases hv with rfl | rfl | rfl | rfl | rfl | rfl
 ·exact⟨2,rfl,key 2 (by decide) (by decide) (by decide),by decide⟩
 ·exact⟨3,rfl,key 3 (by decide) (by decide) (by decide),by decide⟩
 ·exact⟨5,rfl,key 5 (by decide) (by decide) (by decide),by decide⟩
 ·exact⟨7,rfl,key 7 (by decide) (by decide) (by decide),by decide⟩
 ·exact⟨11,rfl,key 11 (by decide) (by decide) (by decide),by decide⟩
 ·exact⟨13,rfl,key 13 (by decide) (by decide) (by decide),by decide⟩
theorem tV {ns:List Int} {n:Int} (h:ns.Nodup):(if n∈ns then ns else ns++[n]).Nodup:=by
 split
 ·exact h
 ·rename_i c
  rw [List.nodup_append]
  refine⟨h,by simp,λa ha b hb=>?_⟩
  rw [List.mem_singleton.mp hb]
  exact λz=>c (z▸ha)
def pU:Sp:=λvs H Q _=>∃(p:Addr) (l:Int) (b:Bool),vs=[.ref p]/\H p=some (jH l b)/\rZ l b/\∀(pl:Addr) (ls:List Int) (H':Hp),(∀ n∈ls,Num.Pm n/\n∈([2,3,5,7,11,13]:List Int))->ls.Pairwise (·<·)->1<=ls.length->ls.length<=3->Us p b H H'->H pl=none->H' pl=some (.lst (ls.map V.int))->Q (.ref pl) H'
def ED (p fd:Addr) (b:Bool) (H:Hp) (i:Nat) (σ':L2.St) (H':Hp):Prop:=∃(ns:List Int) (o3:Option V),σ'=[some (.ref p),some (.ref fd),o3]/\Us p b H H'/\H' fd=some (.dK (tQ ns))/\ns.length<=i/\(0<i->1<=ns.length)/\ns.Nodup/\∀ n∈ns,Num.Pm n/\n∈([2,3,5,7,11,13]:List Int)
theorem gi:aC ["_law_state_here","_law_found","_law_k"] ["_law_state_here"] (ao (top 51)):=c7
theorem qM (D:aA K mg "_law_primes" (top 51)) (c__law_take:Callee P w K mg base aV 1 "_law_take" ["_law_state_here","_law_many"] fD) (n_range:mg "range"=none) (n_sorted:mg "sorted"=none):Callee P w K mg base aV 2 "_law_primes" ["_law_state_here"] pU:=by
 refine cO D gi (λf cdv A outer s H vs Q E hr h=>?_)
 obtain⟨p,l,b,rfl,hp,hl,q⟩:=h
 have nd:=gi.nd
 refine⟨_,(ag (cp (i:=1) nd wu) (ag (dZ PassesOwn.never rfl (cG rfl n_range (aa (aw b8 af (br c__law_take hr ay (aa (pv 0) (aa af ae)))) ae)) (aF (i:=2) nd rfl (Or.inl rfl) (.inr rfl)) (ak (nO (jP hr) (pv 1) (aB aP (aX (sj (.c (.c (.c (.c (.c (.c .n)))))))) (br c__law_take hr ay (aa (pv 0) (aa af ae))) (λ_ _=>rfl)) bO rfl))) (ak (au (av (mZ rfl) rfl n_sorted PyProof.Rows.boot_sorted (aa (pv 1) ae)))))),?_⟩
 show b9 _ _ _ [some (.ref p),none,none] H
 k_data
 intro fd hfd
 have nfd:fd≠p:=λz=>by rw [z,hp] at hfd;cases hfd
 have u0:Us p b H (upd H fd (.dK [])):=(Us.refl hp hl).lay hfd
 have ef0:upd H fd (.dK []) fd=some (.dK (tQ [])):=ai
 generalize upd H fd _=H0 at *
 obtain⟨l0,k0,e0⟩:=u0.1
 refine⟨p,3,l0,b,rfl,e0,k0,by decide,by decide,λr2 H2 r20 r21 u2=>⟨_,rfl,by omega,by omega,?_⟩⟩
 have U2:=u0.trans u2.us
 have ef2:=u2.us.2 _ _ nfd ef0
 refine fu (λi σ' H'=>ED p fd b H i σ' H') ⟨[],none,rfl,U2,ef2,Nat.le_refl _,λz=>by omega,List.nodup_nil,λn hn=>by simp at hn⟩ ?_ ?_
 ·rintro i σ' H3 hi ⟨ns,o3,rfl,U3,ef3,nl,n1,nn,hns⟩
  obtain⟨l3,k3,e3⟩:=U3.1
  k_data
  refine⟨by show 6<=sizeLine;decide,λp4 hp4=>?_⟩
  have np4:p4≠fd:=λz=>by rw [z,ef3] at hp4;cases hp4
  have np4':p4≠p:=λz=>by rw [z,e3] at hp4;cases hp4
  have U4:=U3.lay (o:=.lst [V.int 2,V.int 3,V.int 5,V.int 7,V.int 11,V.int 13]) hp4
  have e4:upd H3 p4 (.lst [V.int 2,V.int 3,V.int 5,V.int 7,V.int 11,V.int 13]) p4=some (.lst [V.int 2,V.int 3,V.int 5,V.int 7,V.int 11,V.int 13]):=ai
  have ef4:upd H3 p4 (.lst [V.int 2,V.int 3,V.int 5,V.int 7,V.int 11,V.int 13]) fd=_:=(aJ (Ne.symm np4)).trans ef3
  generalize upd H3 p4 _=H4 at *
  obtain⟨l4,k4,et4⟩:=U4.1
  refine⟨p,6,l4,b,rfl,et4,k4,by decide,by decide,λr6 H6 r60 r61 u6=>?_⟩
  have U6:=U4.trans u6.us
  have ef6:=u6.us.2 _ _ nfd ef4
  have ep6:=u6.us.2 _ _ np4' e4
  refine cj (aS.of ep6) r60 (by show r6<(6:Int);omega) λv hv=>?_
  obtain⟨n,rfl,pm,n67⟩:=zK hv
  refine⟨_,oi.k (k:=Sum.inl n) ef6 ?_,if n∈ns then ns else ns++[n],_,rfl,U6.set hfd nfd,?_,?_,λ_=>?_,tV nn,?_⟩
  ·rw [yh];exact Nat.lt_of_le_of_lt (show ns.length<=5 by omega) (by decide)
  ·rw [ai,yJ]
  ·split
   ·omega
   ·rw [List.length_append,List.length_singleton];omega
  ·split
   ·rename_i c
    exact List.length_pos_of_mem c
   ·rw [List.length_append,List.length_singleton];omega
  ·intro x hx
   split at hx
   ·exact hns x hx
   ·rcases List.mem_append.mp hx with z | z
    ·exact hns x z
    ·rw [List.mem_singleton.mp z];exact⟨pm,n67⟩
 ·rintro σ' H3 ⟨ns,o3,rfl,U3,ef3,nl,n1,nn,hns⟩
  k_data
  refine⟨fd,_,ns,rfl,ef3,vF ns,by omega,λpl ls hpm hso hpl=>?_⟩
  have nd':=hpm.nodup_iff.mpr nn
  exact q pl ls _ (λn hn=>hns n (hpm.mem_iff.mp hn)) (List.pairwise_iff_getElem.mpr λi j hi hj ij=>by
   have h1:=List.pairwise_iff_getElem.mp hso i j hi hj ij
   have h2:=List.pairwise_iff_getElem.mp nd' i j hi hj ij
   omega) (by rw [hpm.length_eq];exact n1 (by omega)) (by rw [hpm.length_eq];omega) (U3.lay hpl) (U3.free hpl) ai
end
end K
namespace K
open PySem PySem.Spec PyProof.Rows L2
section
variable {P:Program} {w:World} {K:PySem.W.Frag} {mg:Str->Option Value} {base:Heap} {C:Addr}
theorem uq (K:PySem.W.Frag) {X:Cx} (e:X.K=K):fE X (compareOp .NotIn) (Eo K true):=e▸nJ
theorem B3 {k p g:Int} (k0:0<k) (p1:1<=p) (h:Gd k (p-1) g):g=(gc k p:Nat):=by
 have e1:((k.toNat:Nat):Int)=k:=Int.toNat_of_nonneg (by omega)
 have e2:(((p-1).toNat:Nat):Int)=p-1:=Int.toNat_of_nonneg (by omega)
 have e3:((g.toNat:Nat):Int)=g:=Int.toNat_of_nonneg (by have:=h.pos;omega)
 unfold gc
 have h1:g.toNat∣Nat.gcd k.toNat (p-1).toNat:=Nat.dvd_gcd (Int.natCast_dvd_natCast.mp (by rw [e3,e1];exact h.dn)) (Int.natCast_dvd_natCast.mp (by rw [e3,e2];exact h.da))
 have h2:Nat.gcd k.toNat (p-1).toNat∣g.toNat:=by
  refine Int.natCast_dvd_natCast.mp ?_
  rw [e3]
  refine h.gr _ ?_ ?_
  ·rw [<- e1];exact Int.natCast_dvd_natCast.mpr (by rw [e1];exact Nat.gcd_dvd_left _ _)
  ·rw [<- e2];exact Int.natCast_dvd_natCast.mpr (by rw [e2];exact Nat.gcd_dvd_right _ _)
 have:=Nat.dvd_antisymm h1 h2
 omega
theorem vP {k p:Int} (p2:2<=p) (k0:0<k):0<(gc k p:Nat)/\0<=gJ k p/\gJ k p<=p-1:=by
 have h1:0<gc k p:=Nat.gcd_pos_of_pos_left _ (by omega)
 unfold gJ
 exact⟨h1,Int.ediv_nonneg (by omega) (by omega),Int.ediv_le_self _ (by omega)⟩
def ku (K:PySem.W.Frag):Sp:=λvs H Q _=>∃(p n k a:Int),vs=[.int p,.int n,.int k,.int a]/\2<=p/\p<=1000/\0<k/\∀ t H',aE H H'->aY K H' t [.str "none",.int n,.int (gJ k p),.int (a^(gJ k p).toNat%p)]->Q (.ref t) H'
theorem iT:aC ["_law_p","_law_n","_law_k","_law_a","_law_e"] ["_law_p","_law_n","_law_k","_law_a"] (ao (top 55)):=c7
theorem v5 (D:aA K mg "_law_none" (top 55)) (c__law_common:Callee P w K mg base aV 1 "_law_common" ["_law_one","_law_other"] pO) (c__law_power:Callee P w K mg base aV 1 "_law_power" ["_law_n","_law_a","_law_e"] lJ):Callee P w K mg base aV 2 "_law_none" ["_law_p","_law_n","_law_k","_law_a"] (ku K):=by
 refine cO D iT (λf cdv A outer s H vs Q E hr h=>?_)
 obtain⟨p,n,k,a,rfl,p2,p9,k0,q⟩:=h
 have nd:=iT.nd
 refine⟨_,(ag (cp (i:=4) nd (aw eI (aw cq (pv 0) af) (br c__law_common hr ay (aa (pv 2) (aa (aw cq (pv 0) af) ae))))) (ak (au (aR (aa aT (aa (pv 1) (aa (pv 4) (aa (br c__law_power hr ay (aa (pv 0) (aa (pv 3) (aa (pv 4) ae)))) ae)))))))),?_⟩
 show b9 _ _ _ [some (.int p),some (.int n),some (.int k),some (.int a),none] H
 k_data
 refine⟨k,p-1,rfl,k0,by omega,λg hg=>?_⟩
 obtain rfl:=B3 k0 (by omega) hg
 obtain⟨g0,e0,e1⟩:=vP p2 k0
 have g1:gc k p<=(p-1).toNat:=Nat.le_of_dvd (by omega) (Nat.gcd_dvd_right _ _)
 refine⟨_,rfl,by omega,Bd.of (by omega) (by omega),p,a,gJ k p,rfl,by omega,by omega,e0,by show 4<=sizeLine;decide,λt ht=>q t _ (aj ht) (aY.of ai)⟩
theorem oR {r:Int} {A:List Int}:C8 (.int r) (A.map V.int)=true↔r∈A:=by
 unfold C8
 rw [List.any_eq_true]
 constructor
 ·rintro⟨v,hv,e⟩
  obtain⟨x,hx,rfl⟩:=List.mem_map.mp hv
  obtain rfl:x=r:=beq_iff_eq.mp (show (x==r)=true from e)
  exact hx
 ·exact λh=>⟨.int r,List.mem_map.mpr ⟨r,h,rfl⟩,show (r==r)=true from beq_self_eq_true r⟩
theorem tG {A:List Int}:(A.map V.int).all fO=true:=by
 rw [List.all_eq_true]
 intro v hv
 obtain⟨x,_,rfl⟩:=List.mem_map.mp hv
 rfl
def ot (ls:List Int) (As:List (List Int)) (n:Nat):List Int:=((List.range n).map λi:Nat=>(i:Int)).filter λx=>decide (∀ q∈ls.zip As,x%q.1∈q.2)
theorem mf {ls:List Int} {As:List (List Int)} {n:Nat}:ot ls As (n+1)=ot ls As n++(if ∀ q∈ls.zip As,(n:Int)%q.1∈q.2 then [(n:Int)] else []):=by
 unfold ot
 rw [List.range_succ,List.map_append,List.filter_append]
 congr 1
 by_cases c:∀ q∈ls.zip As,(n:Int)%q.1∈q.2
 ·rw [if_pos c];simpa using c
 ·rw [if_neg c];simpa using c
theorem uL {ls:List Int} {As:List (List Int)} {n:Nat}:(ot ls As n).length<=n:=by
 unfold ot
 refine Nat.le_trans (List.length_filter_le _ _) ?_
 simp
def rT (As:List (List Int)):List PyData:=As.map λA=>.list (A.map PyData.int)
structure qf (K:PySem.W.Frag) (H:Hp) (pl lp:Addr) (us:List V) (ls:List Int) (As:List (List Int)):Prop where
 hp:aS K H pl (ls.map V.int)
 hl:aS K H lp us
 ds:bo K H (rT As) us
 len:As.length=ls.length
 l3:ls.length<=3
 l1:1<=ls.length
 b:∀ p∈ls,2<=p/\p<=13
 km:∀ A∈As,A.length<=13/\∀ x∈A,0<=x/\x<=13
theorem qf.map {H H':Hp} {pl lp:Addr} {us:List V} {ls:List Int} {As:List (List Int)} (h:qf K H pl lp us ls As) (h1:aS K H' pl (ls.map V.int)) (h2:aS K H' lp us) (h3:bo K H' (rT As) us):qf K H' pl lp us ls As:=⟨h1,h2,h3,h.len,h.l3,h.l1,h.b,h.km⟩
theorem qf.same {H H':Hp} {pl lp:Addr} {us:List V} {ls:List Int} {As:List (List Int)} (h:qf K H pl lp us ls As) (s:aE H H'):qf K H' pl lp us ls As:=h.map (h.hp.same s) (h.hl.same s) (bo.same s _ h.ds)
theorem qf.get {H:Hp} {pl lp:Addr} {us:List V} {ls:List Int} {As:List (List Int)} (h:qf K H pl lp us ls As) {i:Nat} (hi:i<ls.length):∃(p:Int) (A:List Int) (q:Addr),ls[i]?=some p/\As[i]?=some A/\us[i]?=some (.ref q)/\aS K H q (A.map V.int):=by
 have h1:=List.getElem?_eq_getElem hi
 obtain⟨A,h2⟩:∃ A,As[i]?=some A:=⟨_,List.getElem?_eq_getElem (show i<As.length by rw [h.len];exact hi)⟩
 obtain⟨v,hv,hd⟩:=h.ds.get' (i:=i) (d:=.list (A.map PyData.int)) (by unfold rT;rw [List.getElem?_map,h2];rfl)
 obtain⟨q,xs,rfl,hq,hx⟩:=hd
 obtain rfl:=dy hx
 exact⟨_,_,q,h1,h2,hv,hq⟩
theorem Cp {ls:List Int} (b:∀ p∈ls,2<=p/\p<=13) (l3:ls.length<=3) (i:Nat):0<aL (ls.take i)/\aL (ls.take i)<=2197:=by
 obtain⟨h1,h2⟩:=dF (B:=13) (by decide) (l:=ls.take i) λx hx=>⟨by have:=b x (List.mem_of_mem_take hx);omega,(b x (List.mem_of_mem_take hx)).2⟩
 have:∀ n:Nat,n<4->(13:Int)^n<=2197:=by decide
 have:=this (ls.take i).length (by rw [List.length_take];omega)
 exact⟨h1,by omega⟩
def Dl (pl lp pr:Addr) (ls:List Int) (i:Nat) (σ':L2.St):Prop:=∃ o4 o5:Option V,σ'=[some (.ref pl),some (.ref lp),some (.ref pr),some (.int (aL (ls.take i))),o4,o5]
def Dm (K:PySem.W.Frag) (H:Hp) (pl lp pr:Addr) (us:List V) (ls:List Int) (As:List (List Int)) (wl:V) (i:Nat) (σ':L2.St) (H':Hp):Prop:=aE H H'/\H' pr=some (.lst ((ot ls As i).map V.int))/\∃ o4 o5:Option V,σ'=[some (.ref pl),some (.ref lp),some (.ref pr),some wl,o4,o5]
def nW (K:PySem.W.Frag):Sp:=λvs H Q _=>∃(pl lp:Addr) (us:List V) (ls:List Int) (As:List (List Int)),vs=[.ref pl,.ref lp]/\qf K H pl lp us ls As/\∀ pr H',aE H H'->H pr=none->H' pr=some (.lst ((dU ls As).map V.int))->Q (.ref pr) H'
theorem jS:aC ["_law_primes_here","_law_lists","_law_found","_law_whole","_law_p","_law_x"] ["_law_primes_here","_law_lists"] (ao (top 54)):=c7
theorem yt (D:aA K mg "_law_all" (top 54)) (n_range:mg "range"=none) (n_len:mg "len"=none):Callee P w K mg base aV 1 "_law_all" ["_law_primes_here","_law_lists"] (nW K):=by
 refine cO D jS (λf cdv A outer s H vs Q E hr h=>?_)
 obtain⟨pl,lp,us,ls,As,rfl,D,q⟩:=h
 have nd:=jS.nd
 refine⟨_,(ag (cp (i:=2) nd (aX ae)) (ag (cp (i:=3) nd af) (ag (dZ PassesOwn.never rfl (bP (pv 0)) (aF (i:=4) nd rfl (Or.inl rfl) (.inr rfl)) (ak (cp (i:=3) nd (aw bU (pv 3) (pv 4))))) (ag (dZ PassesOwn.never rfl (cG rfl n_range (aa (pv 3) ae)) (aF (i:=5) nd rfl (Or.inr rfl) (.inl rfl)) (ak (aQ (ax ba (av aG rfl n_len PySem.boot_len (aa (c8 rfl (jO (N':=["_law_n","_law_x","_law_lists","_law_primes_here"]) (js:=[none,some 5,some 1,some 0]) rfl rfl) (cG rfl n_range (aa (av aG rfl n_len PySem.boot_len (aa (pv 0) ae)) ae)) (λ_ _ _ _=>(aF (i:=0) (show List.Nodup [("_law_n":Str),("_law_x":Str),("_law_lists":Str),("_law_primes_here":Str)] from by decide +kernel) rfl (Or.inl rfl) (.inr rfl))) (λ_ _ _ _=>(dE (ax (uq K rfl) (aw aU (pv 1) (aB (dX K rfl) (pv 3) (pv 0) (λ_ _=>rfl))) (aB (dX K rfl) (pv 2) (pv 0) (λ_ _=>rfl)) (by with_unfolding_all rfl)))) (λ_ _ _ _=>(pv 0))) ae)) af (aq _)) (ak (gO (mJ PySem.F.plainAttrs_list PySem.F.slot_list_append PySem.F.type_list_append eY (pv 2) (aa (pv 5) ae)))) aD))) (ak (au (pv 2))))))),?_⟩
 show b9 _ _ _ [some (.ref pl),some (.ref lp),none,none,none,none] H
 have tk:=Cp D.b D.l3
 k_data
 refine⟨by show 0<=sizeLine;decide,λpr hpr=>?_⟩
 have s1:=aj (o:=.lst []) hpr
 have e1:upd H pr (.lst []) pr=some (.lst []):=ai
 generalize upd H pr _=H1 at *
 have D1:=D.same s1
 refine⟨⟨_,D1.hp⟩,?_⟩
 refine dS (xs:=ls.map V.int) (λi σ' H'=>Dl pl lp pr ls i σ'/\H'=H1) ⟨⟨_,_,rfl⟩,rfl⟩ (λi σ' H' _ h=>h.2▸D1.hp) ?_ ?_
 ·rintro i x σ' H' hx ⟨⟨o4,o5,rfl⟩,rfl⟩
  rw [List.getElem?_map] at hx
  obtain⟨n,hn',rfl⟩:=Option.map_eq_some_iff.mp hx
  obtain⟨n0,n1⟩:=D.b n (List.mem_of_getElem? hn')
  obtain⟨t0,t1⟩:=tk i
  k_data
  refine⟨Bd.of (by omega) (by omega),Bd.of (by omega) (by omega),?_⟩
  exact⟨some (.int n),o5,by rw [ly hn']⟩
 rintro σ' H' ⟨⟨o4,o5,rfl⟩,rfl⟩
 rw [List.length_map,List.take_length]
 have W:=tk ls.length
 rw [List.take_length] at W
 obtain⟨wn,hwn⟩:∃ wn:Nat,aL ls=wn:=⟨(aL ls).toNat,by omega⟩
 rw [hwn] at W ⊢
 k_data
 refine⟨by omega,by omega,?_⟩
 rw [Int.toNat_natCast]
 refine fu (λi σ' H2=>Dm K H pl lp pr us ls As (.int (wn:Int)) i σ' H2) ⟨s1,e1,_,_,rfl⟩ ?_ ?_
 ·rintro i σ' H2 hi ⟨s2,e2,o4',o5',rfl⟩
  k_data
  have D2:=D.same s2
  have l3:=D.l3
  refine aZ D2.hp ⟨_,rfl,by rw [List.length_map];omega,by rw [List.length_map];omega,?_⟩
  rw [Int.toNat_natCast,List.length_map]
  refine cD (λj ys H3=>H3=H2/\ys.length<=j/\(ys.length=0↔∀(j':Nat) p A,j'<j->ls[j']?=some p->As[j']?=some A->(i:Int)%p∈A)) ⟨rfl,Nat.le_refl _,by simp⟩ (Nat.le_trans (show ls.length<=3 from D.l3) (by decide)) (λj ys H3 _ h=>h.2.1) ?_ ?_
  ·rintro j ys H3 hj ⟨eH,y1,y2⟩
   rw [eH]
   obtain⟨p,A,r,g1,g2,g3,g4⟩:=D2.get hj
   have p2:=D.b p (List.mem_of_getElem? g1)
   show cK 0 _ [none,some (.int (i:Int)),some (.ref lp),some (.ref pl)] _ _
   k_data
   refine⟨⟨rfl,rfl,rfl,trivial⟩,pl,_,_,_,rfl,rfl,D2.hp,bF (by rw [List.getElem?_map,g1];rfl),p,rfl,by omega,lp,_,_,_,rfl,rfl,D2.hl,bF g3,r,_,rfl,.inl g4,rfl,tG,?_⟩
   refine⟨_,rfl,aH (λc=>⟨rfl,by simp;omega,?_⟩) (λc=>⟨rfl,by omega,?_⟩)⟩
   ·rw [if_pos rfl,Bool.not_eq_true'] at c
    constructor
    ·intro z
     simp at z
    ·intro z
     rw [oR.mpr (z j p A (by omega) g1 g2)] at c
     cases c
   ·rw [y2]
    rw [if_pos rfl,Bool.not_eq_true',Bool.not_eq_false] at c
    have c:=oR.mp c
    constructor
    ·intro z j' p' A' h1 h2 h3
     rcases (by omega:j'<j∨j'=j) with w | w
     ·exact z j' p' A' w h2 h3
     ·subst w
      rw [g1] at h2
      rw [g2] at h3
      cases h2
      cases h3
      exact c
    ·exact λz j' p' A' h1=>z j' p' A' (by omega)
  ·rintro ys H3 pz ⟨eH,y1,y2⟩ hpz
   rw [eH] at hpz ⊢
   have s3:=aj (o:=.lst ys) hpz
   have key:ys.length=0↔∀ q∈ls.zip As,(i:Int)%q.1∈q.2:=by
    rw [y2]
    constructor
    ·intro z q hq
     obtain⟨j,hj,ej⟩:=List.mem_iff_getElem.mp hq
     rw [List.getElem_zip] at ej
     have hj':=hj
     rw [List.length_zip] at hj'
     have:=z j ls[j] As[j] (by omega) (List.getElem?_eq_getElem _) (List.getElem?_eq_getElem _)
     rw [<- ej]
     exact this
    ·intro z j' p' A' h1 h2 h3
     exact z (p',A') (List.mem_iff_getElem?.mpr ⟨j',by rw [List.getElem?_zip_eq_some];exact⟨h2,h3⟩⟩)
   refine aZ (aS.of ai) ⟨rfl,aH (λc=>?_) (λc=>?_)⟩
   ·have c:=key.mp (by have:=V.int.inj c;omega)
    refine⟨.inl ⟨rfl,_,aS.of (s3 _ _ e2)⟩,xS (s3 _ _ e2) (Nat.lt_of_le_of_lt uL (Nat.lt_of_lt_of_le (show i<3000 by omega) (by decide))) ⟨λb o e=>?_,?_,_,_,rfl⟩⟩
    ·rw [aJ (λz=>by rw [z,hpr] at e;cases e)]
     exact s3 _ _ (s2 _ _ e)
    ·rw [ai,mf,if_pos c]
   ·have c:¬∀ q∈ls.zip As,(i:Int)%q.1∈q.2:=λz=>c (congrArg V.int (by have:=key.mpr z;omega))
    exact⟨s2.trans s3,by rw [mf,if_neg c,List.append_nil];exact s3 _ _ e2,_,_,rfl⟩
 ·rintro σ' H2 ⟨s2,e2,o4',o5',rfl⟩
  k_data
  refine q pr H2 s2 hpr ?_
  ·have:dU ls As=ot ls As wn:=by unfold dU ot;rw [hwn,Int.toNat_natCast]
   rw [this]
   exact e2
def qW (K:PySem.W.Frag):Sp:=λvs H Q _=>∃(a:Addr) (us:List V) (m:Nat) (v:V),vs=[.ref a,.int m,v]/\aS K H a us/\m<us.length/\us.length<=900/\∀ p H',aE H H'->H p=none->H' p=some (.lst (us.take m++[v]++us.drop (m+1)))->Q (.ref p) H'
theorem jU:aC ["_law_things","_law_at","_law_thing"] ["_law_things","_law_at","_law_thing"] (ao (top 57)):=c7
theorem yu (D:aA K mg "_law_put" (top 57)):Callee P w K mg base aV 1 "_law_put" ["_law_things","_law_at","_law_thing"] (qW K):=by
 refine cO D jU (λf cdv A outer s H vs Q E hr h=>?_)
 obtain⟨a,us,m,v,rfl,hS,hm',h9,q⟩:=h
 have nd:=jU.nd
 refine⟨_,(ak (au (aw cm (aw cm (aK bI (pv 0) aW (aN (pv 1))) (aX (aa (pv 2) ae))) (aK bI (pv 0) (aN (aw b8 (pv 1) af)) aW)))),?_⟩
 show gT _ _ [some (.ref a),some (.int m),some v] H
 k_data
 refine fk hS λa1 J1 s1 e1=>⟨by show 1<=sizeLine;decide,λa2 ha2=>?_⟩
 rw [du (us:=us) (m:=m) (by omega)] at e1
 have s2:=aj (o:=.lst [v]) ha2
 have e2:upd J1 a2 (.lst [v]) a2=some (.lst [v]):=ai
 generalize upd J1 a2 _=J2 at *
 refine iy (s2 _ _ e1) e2 (by simp;omega) λa3 J3 s3 e3=>?_
 have S3:=(s1.trans s2).trans s3
 refine fk (hS.same S3) λa4 J4 s4 e4=>?_
 rw [show ((m:Int)+1)=((m+1:Nat):Int) by omega,cE (us:=us) (m:=m+1) (by omega)] at e4
 refine⟨a3,a4,_,_,rfl,rfl,s4 _ _ e3,e4,Nat.le_trans (show _<=2000 by simp;omega) (by decide),λa5 ha5=>?_⟩
 exact q a5 _ ((S3.trans s4).trans (aj ha5)) ((S3.trans s4).free ha5) ai
section
variable {H H' H2:Hp} {p:Addr} {fr:Bool} {l:Int}
theorem eC (h:Us p fr H H') (hp:H p=some (jH l fr)) {a:Addr} {xs:List V} (z:aS K H a xs):aS K H' a xs:=by
 refine z.imp (λz=>?_) id
 rcases z with z | ⟨o,z⟩
 ·exact .inl (h.2 _ _ (λe=>by rw [e,hp] at z;cases z) z)
 ·exact .inr ⟨o,h.2 _ _ (λe=>by rw [e,hp] at z;cases z) z⟩
theorem j9 (h:Us p fr H H') (hp:H p=some (jH l fr)) {a:Addr} {xs:List V} (z:aY K H a xs):aY K H' a xs:=z.dB (h.dB hp)
theorem mS (h:Us p fr H H') (hp:H p=some (jH l fr)) {d:List PyData} {v:List V} (z:bo K H d v):bo K H' d v:=bo.jQ (λ_ _=>j9 h hp) (λ_ _=>eC h hp) d z
theorem bT (h:Us p fr H H') (s:aE H' H2):Us p fr H H2:=by
 obtain⟨⟨l,k,e⟩,h2⟩:=h
 exact⟨⟨l,k,s _ _ e⟩,λq o n e=>s _ _ (h2 q o n e)⟩
theorem fI (h:Us p fr H H') (hp:H p=some (jH l fr)) {d:PyData} {v:V} (z:fH K H d v):fH K H' d v:=z.keep (λ_ _=>j9 h hp) λa xs e=>h.2 _ _ (λy=>by rw [y,hp] at e;cases e) e
theorem sV (h:Us p fr H H') (hp:H p=some (jH l fr)) {d:List PyData} {v:List V} (z:cw K H d v):cw K H' d v:=z.keep (λ_ _=>j9 h hp) λa xs e=>h.2 _ _ (λy=>by rw [y,hp] at e;cases e) e
theorem ib (h:Us p fr H H') (hp:H p=some (jH l fr)) {pl lp:Addr} {us:List V} {ls:List Int} {As:List (List Int)} (z:qf K H pl lp us ls As):qf K H' pl lp us ls As:=z.map (eC h hp z.hp) (eC h hp z.hl) (mS h hp z.ds)
end
theorem ft:∀{ds:List PyData},(∀ d∈ds,d.canLay0=true)->PyData.canLayAll0 ds=true
 | [],_=>by simp [PyData.canLayAll0]
 | d::ds,h=>by
  simp only [PyData.canLayAll0,Bool.and_eq_true]
  exact⟨h d (List.mem_cons_self ..),ft λe z=>h e (List.mem_cons_of_mem _ z)⟩
def oh (σ':L2.St) (H':Hp) (σ:L2.St) (H:Hp):Prop:=σ'=σ/\H'=H
def zh (σ':L2.St) (H':Hp) (σ:L2.St) (H:Hp):Prop:=σ'=σ/\aE H H'
theorem cw.snoc {H:Hp}:∀{ds:List PyData} {xs:List V} {d:PyData} {x:V},cw K H ds xs->fH K H d x->cw K H (ds++[d]) (xs++[x])
 | [],_,d,x,h,g=>by cases h;exact⟨x,[],rfl,g,rfl⟩
 | e::ds,_,d,x,⟨y,r,e1,h1,h2⟩,g=>by subst e1;exact⟨y,r++[x],rfl,h1,cw.snoc h2 g⟩
end
end K
namespace K
open PySem PySem.Spec PyProof.Rows L2
section
variable {P:Program} {w:World} {K:PySem.W.Frag} {mg:Str->Option Value} {base:Heap} {C:Addr}
def lS (row:PyData):Prop:=row=.tuple [.str "nought"]∨∃ h t:Int,row=fh h t/\0<=h/\h<=13/\0<=t/\t<=13
def wX (K:PySem.W.Frag):Sp:=λvs H Q _=>∃(p k a at_:Int) (q:Addr),vs=[.int p,.int a,.ref q,.int at_]/\Num.Pm p/\p∈([2,3,5,7,11,13]:List Int)/\0<k/\aS K H q ((b6 p k a p.toNat).map V.int)/\b6 p k a p.toNat≠[]/\0<=at_/\∀ v row H',aE H H'->fH K H' row v->lS row->Q v H'
theorem jV:aC ["_law_p","_law_a","_law_alike","_law_at","_law_some"] ["_law_p","_law_a","_law_alike","_law_at"] (ao (top 53)):=c7
theorem yv (D:aA K mg "_law_row" (top 53)) (c__law_steps:Callee P w K mg base aV 1 "_law_steps" ["_law_p","_law_a"] iZ) (n_range:mg "range"=none) (n_len:mg "len"=none):Callee P w K mg base aV 2 "_law_row" ["_law_p","_law_a","_law_alike","_law_at"] (wX K):=by
 refine cO D jV (λf cdv A outer s H vs Q E hr h=>?_)
 obtain⟨p,k,a,at_,q',rfl,pm,p6,k0,hS,ne,a0,q⟩:=h
 have nd:=jV.nd
 refine⟨_,(ag (aQ (ax ba (aw aU (pv 1) (pv 0)) af (aq _)) (ak (au (aR (aa aT ae)))) aD) (ag (fA (i0:=4) nd rfl (Or.inl rfl) rfl (jO (N':=["_law_turn","_law_p","_law_alike"]) (js:=[none,some 0,some 2]) rfl rfl) (mK rfl n_range (aa af (aa (pv 0) ae))) (λ_ _ _ _=>(aF (i:=0) (show List.Nodup [("_law_turn":Str),("_law_p":Str),("_law_alike":Str)] from by decide +kernel) rfl (Or.inl rfl) (.inr rfl))) (λ_ _ _ _=>(dE (ax ba (br c__law_steps hr ay (aa (pv 1) (aa (pv 0) ae))) (av (kE K rfl) rfl n_len PySem.boot_len (aa (pv 2) ae)) (aq _)))) (λ_ _ _ _=>(pv 0)) (by rfl) (by first | exact .inl rfl | exact .inr rfl)) (ak (au (aR (aa aT (aa (aB aP (pv 2) af (λ_ _=>rfl)) (aa (aB aP (pv 4) (aw aU (pv 3) (av (kE K rfl) rfl n_len PySem.boot_len (aa (pv 4) ae))) (λ_ _=>rfl)) ae)))))))),?_⟩
 show b9 _ _ _ [some (.int p),some (.int a),some (.ref q'),some (.int at_),none] H
 have p2:=pm.two
 have p13:p<=13:=by simp only [List.mem_cons,List.not_mem_nil,or_false] at p6;omega
 obtain⟨t1,t2⟩:=ny (a:=a) p6 pm k0
 k_data
 refine⟨by omega,aH (λc=>⟨by show 1<=sizeLine;decide,λt ht=>?_⟩) (λc=>?_)⟩
 ·exact q _ (.tuple [.str "nought"]) _ (aj ht) ⟨t,_,rfl,aY.of ai,_,_,rfl,rfl,rfl⟩ (.inl rfl)
 have na:¬p∣a:=λz=>c (Int.emod_eq_zero_of_dvd z)
 have hl:(b6 p k a p.toNat).length=gc k p:=by
  rcases t2 na with⟨z,_⟩|⟨z,_⟩
  ·exact absurd z ne
  ·exact z
 have lM:((b6 p k a p.toNat).map V.int).length=gc k p:=by rw [List.length_map,hl]
 obtain⟨g0,_,_⟩:=vP (k:=k) p2 k0
 refine⟨by omega,by omega,cD (λi zs H1=>H1=H/\zs.length<=i/\∃ ns:List Int,zs=ns.map V.int/\(∀ x∈ns,1<=x/\x<p)/\∀ x:Int,1<=x->x<=i->Num.Ord p x (gc k p)->x∈ns) ⟨rfl,Nat.le_refl _,[],rfl,λx z=>by simp at z,λx x1 x2=>by omega⟩ (Nat.le_trans (show (p-1).toNat<=1000 by omega) (by decide)) (λi zs H1 _ ⟨_,z,_⟩=>z) ?_ ?_⟩
 ·rintro i zs H2 hi ⟨eH,zl,ns,rfl,f1,f2⟩
  rw [eH]
  show cK 0 _ [none,some (.int p),some (.ref q')] _ _
  k_data
  refine⟨⟨rfl,rfl,True.intro⟩,p,1+i,rfl,pm,by omega,by omega,by omega,λz=>by have:=Int.le_of_dvd (by omega) z;omega,λr r1 rn o=>aZ hS ⟨rfl,?_⟩⟩
  rw [lM]
  rw [List.length_map] at zl
  refine aH (λc=>?_) (λc=>?_)
  ·refine⟨rfl,by simp;omega,ns++[1+(i:Int)],by simp,λx hx=>?_,λx x1 x2 x3=>?_⟩
   ·rcases List.mem_append.mp hx with z | z
    ·exact f1 x z
    ·rw [List.mem_singleton.mp z]
     omega
   ·rcases (by omega:x<=i∨x=1+i) with z | z
    ·exact List.mem_append.mpr (.inl (f2 x x1 z x3))
    ·exact List.mem_append.mpr (.inr (List.mem_singleton.mpr z))
  ·refine⟨rfl,by simp;omega,ns,rfl,f1,λx x1 x2 x3=>?_⟩
   rcases (by omega:x<=i∨x=1+i) with z | z
   ·exact f2 x x1 z x3
   ·subst z
    have:=o.qN x3
    exact absurd (congrArg V.int (show r=(gc k p:Nat) by omega)) c
 rintro zs H2 p2' ⟨eH,zl,ns,rfl,f1,f2⟩ hp2
 rw [eH] at hp2 ⊢
 obtain⟨x0,x1,x2,x3⟩:=Num.kI pm g0 (Nat.gcd_dvd_right _ _)
 have g4:=f2 x0 x1 (by omega) x3
 have S3:=aj (o:=.lst (ns.map V.int)) hp2
 have e3:upd H p2' (.lst (ns.map V.int)) p2'=some (.lst (ns.map V.int)):=ai
 generalize upd H p2' _=H3 at *
 have nl:0<ns.length:=List.length_pos_of_mem g4
 refine cj (hS.same S3) (Int.le_refl _) (by rw [lM];omega) λv hv=>?_
 obtain⟨h,hh,rfl⟩:=List.mem_map.mp hv
 obtain⟨h0,h1,_⟩:=kj.mp hh
 refine aZ (aS.of e3) ⟨_,rfl,by rw [List.length_map];omega,?_⟩
 rw [List.length_map]
 refine cj (aS.of e3) (Int.emod_nonneg _ (by omega)) (by rw [List.length_map];exact Int.emod_lt_of_pos _ (by omega)) λv hv=>?_
 obtain⟨t,ht,rfl⟩:=List.mem_map.mp hv
 obtain⟨tb0,tb1⟩:=f1 t ht
 refine⟨by show 3<=sizeLine;decide,λa4 ha4=>?_⟩
 exact q _ (fh h t) _ (S3.trans (aj ha4)) ⟨a4,_,rfl,aY.of ai,_,_,rfl,rfl,_,_,rfl,rfl,_,_,rfl,rfl,rfl⟩ (.inr ⟨h,t,rfl,by omega,by omega,by omega,by omega⟩)
theorem any_nil {As:List (List Int)}:((rT As).any λe=>PyData.eqv e (.list []))=true↔[]∈As:=by
 unfold rT
 rw [List.any_map,List.any_eq_true]
 constructor
 ·rintro⟨A,hA,e⟩
  cases A with
  | nil=>exact hA
  | cons x A=>cases e
 ·exact λh=>⟨[],h,rfl⟩
theorem dw {H:Hp}:∀ ns:List Int,bo K H (ns.map PyData.int) (ns.map V.int)
 | []=>rfl
 | n::ns=>⟨_,_,rfl,rfl,dw ns⟩
theorem kH {H:Hp}:∀ ns:List Int,cw K H (ns.map PyData.int) (ns.map V.int)
 | []=>rfl
 | n::ns=>⟨_,_,rfl,rfl,kH ns⟩
inductive BE (ls:List Int) (As:List (List Int)):PyData->Prop
 | no (n e r:Nat):n<=2->e<=100->r<=100->[]∈As->BE ls As (.tuple [.list [],.tuple [.str "none",.int n,.int e,.int r]])
 | j5 (rows:List PyData):[]∉As->rows.length=ls.length->(∀ row∈rows,lS row)->BE ls As (.tuple [.list ((dU ls As).map PyData.int),.tuple [.str "by",.tuple rows]])
def wY (K:PySem.W.Frag):Sp:=λvs H Q _=>∃(pl lp p:Addr) (us:List V) (ls:List Int) (k a l:Int) (fr:Bool),vs=[.ref pl,.ref lp,.int k,.int a,.ref p]/\qf K H pl lp us ls (dO ls k a)/\P6 ls/\0<k/\H p=some (jH l fr)/\rZ l fr/\∀ v d H',BE ls (dO ls k a) d->Us p fr H H'->fH K H' d v->Q v H'
theorem iS:aC ["_law_primes_here","_law_lists","_law_k","_law_a","_law_state_here","_law_some","_law_n","_law_rows"] ["_law_primes_here","_law_lists","_law_k","_law_a","_law_state_here"] (ao (top 56)):=c7
theorem yw (D:aA K mg "_law_made" (top 56)) (c__law_take:Callee P w K mg base aV 1 "_law_take" ["_law_state_here","_law_many"] fD) (c__law_none:Callee P w K mg base aV 2 "_law_none" ["_law_p","_law_n","_law_k","_law_a"] (ku K)) (c__law_row:Callee P w K mg base aV 2 "_law_row" ["_law_p","_law_a","_law_alike","_law_at"] (wX K)) (c__law_all:Callee P w K mg base aV 1 "_law_all" ["_law_primes_here","_law_lists"] (nW K)) (n_range:mg "range"=none) (n_len:mg "len"=none) (n_tuple:mg "tuple"=none):Callee P w K mg base aV 3 "_law_made" ["_law_primes_here","_law_lists","_law_k","_law_a","_law_state_here"] (wY K):=by
 refine cO D iS (λf cdv A outer s H vs Q E hr h=>?_)
 obtain⟨pl,lp,p,us,ls,k,a,l,fr,rfl,D,hP6,k0,hp,hl,q⟩:=h
 have nd:=iS.nd
 refine⟨_,(ag (bf (aQ (ax (wg hr.units) (aX ae) (pv 1) (by with_unfolding_all rfl)) (ag (fA (i0:=5) nd rfl (Or.inl rfl) rfl (jO (N':=["_law_n","_law_lists"]) (js:=[none,some 1]) rfl rfl) (cG rfl n_range (aa (av aG rfl n_len PySem.boot_len (aa (pv 0) ae)) ae)) (λ_ _ _ _=>(aF (i:=0) (show List.Nodup [("_law_n":Str),("_law_lists":Str)] from by decide +kernel) rfl (Or.inl rfl) (.inr rfl))) (λ_ _ _ _=>(dE (ax (yB K rfl hr.units) (aB (dX K rfl) (pv 1) (pv 0) (λ_ _=>rfl)) (aX ae) (aq _)))) (λ_ _ _ _=>(pv 0)) (by rfl) (by first | exact .inl rfl | exact .inr rfl)) (ag (cp (i:=6) nd (aB aP (pv 5) (br c__law_take hr ay (aa (pv 4) (aa (av aG rfl n_len PySem.boot_len (aa (pv 5) ae)) ae))) (λ_ _=>rfl))) (ak (au (aR (aa (aX ae) (aa (br c__law_none hr ay (aa (aB aP (pv 0) (pv 6) (λ_ _=>rfl)) (aa (pv 6) (aa (pv 2) (aa (pv 3) ae))))) ae))))))) aD)) (ag (fA (i0:=7) nd rfl (Or.inl rfl) rfl (jO (N':=["_law_n","_law_a","_law_primes_here","_law_lists","_law_state_here"]) (js:=[none,some 3,some 0,some 1,some 4]) rfl rfl) (cG rfl n_range (aa (av aG rfl n_len PySem.boot_len (aa (pv 0) ae)) ae)) (λ_ _ _ _=>(aF (i:=0) (show List.Nodup [("_law_n":Str),("_law_a":Str),("_law_primes_here":Str),("_law_lists":Str),("_law_state_here":Str)] from by decide +kernel) rfl (Or.inl rfl) (.inr rfl))) (λ_ _ _ _=>bD) (λ_ _ _ _=>(br c__law_row hr ay (aa (aB (dX K rfl) (pv 2) (pv 0) (λ_ _=>rfl)) (aa (pv 1) (aa (aB (dX K rfl) (pv 3) (pv 0) (λ_ _=>rfl)) (aa (br c__law_take hr ay (aa (pv 4) (aa af ae))) ae)))))) (by rfl) (by first | exact .inl rfl | exact .inr rfl)) (ak (au (aR (aa (br c__law_all hr ay (aa (pv 0) (aa (pv 1) ae))) (aa (aR (aa aT (aa (bp bH rfl n_tuple L2.boot_tuple (aa (pv 7) ae)) ae))) ae))))))),?_⟩
 show b9 _ _ _ [some (.ref pl),some (.ref lp),some (.int k),some (.int a),some (.ref p),none,none,none] H
 k_data
 have l3:=D.l3
 have layAs:∀{As:List (List Int)},PyData.canLayAll0 (rT As)=true:=λ{As}=>ft λd hd=>by
  obtain⟨A,_,rfl⟩:=List.mem_map.mp hd
  exact ft λe he=>by obtain⟨x,_,rfl⟩:=List.mem_map.mp he;rfl
 refine⟨λσ' H'=>zh σ' H' [some (.ref pl),some (.ref lp),some (.int k),some (.int a),some (.ref p),none,none,none] H/\[]∉dO ls k a,?_,?_⟩
 ·k_data
  refine⟨by show 0<=sizeLine;decide,λa1 ha1=>?_⟩
  have s1:=aj (o:=.lst []) ha1
  have e1:upd H a1 (.lst []) a1=some (.lst []):=ai
  generalize upd H a1 _=H1 at *
  have D1:=D.same s1
  have hp1:=s1 _ _ hp
  refine⟨.list [],rT (dO ls k a),dv.lst (ds:=[]) e1 rfl,⟨lp,us,rfl,D1.hl,D1.ds⟩,rfl,layAs,by decide,_,rfl,?_⟩
  rw [if_neg (show ¬false=true by decide)]
  refine aH (λc=>?_) (λc=>⟨⟨rfl,s1⟩,λz=>c (any_nil.mpr z)⟩)
  have hin:=any_nil.mp c
  refine aZ D1.hp ⟨_,rfl,by rw [List.length_map];omega,by rw [List.length_map];omega,?_⟩
  rw [Int.toNat_natCast,List.length_map]
  refine cD (λi ys H'=>aE H1 H'/\ys.length<=i/\∃ ns:List Nat,ys=ns.map (λn:Nat=>V.int (n:Int))/\(∀ n∈ns,(dO ls k a)[n]?=some [])/\∀ j,j<i->(dO ls k a)[j]?=some []->j∈ns) ⟨aE.refl _,Nat.le_refl _,[],rfl,by simp,by simp⟩ (Nat.le_trans (show ls.length<=3 from l3) (by decide)) (λi ys H' hi h=>h.2.1) ?_ ?_
  ·rintro i ys H2 hi ⟨s2,yl,ns,rfl,f1,f2⟩
   have D2:=D1.same s2
   obtain⟨p',A,r,g1,g2,g3,g4⟩:=D2.get hi
   show cK 0 _ [none,some (.ref lp)] _ _
   k_data
   refine⟨⟨rfl,trivial⟩,lp,us,_,_,rfl,rfl,D2.hl,bF g3,by show 0<=sizeLine;decide,λa3 ha3=>?_⟩
   have s3:=aj (o:=.lst []) ha3
   have lA:PyData.canLay0 (.list (A.map PyData.int))=true:=ft λe he=>by obtain⟨x,_,rfl⟩:=List.mem_map.mp he;rfl
   have dA:PyData.depth (.list (A.map PyData.int))<=60:=by
    simp only [PyData.depth]
    have:=ni (m:=0) (ds:=A.map PyData.int) λd hd=>by obtain⟨x,_,rfl⟩:=List.mem_map.mp hd;exact Nat.le_refl _
    omega
   refine⟨.list (A.map PyData.int),.list [],⟨r,_,rfl,g4.same s3,dw A⟩,dv.lst (ds:=[]) ai rfl,lA,rfl,Nat.le_trans (Nat.min_le_left _ _) dA,?_⟩
   rw [List.length_map] at yl
   have key:PyData.eqv (.list (A.map PyData.int)) (.list [])=true↔A=[]:=by
    cases A with
    | nil=>exact⟨λ_=>rfl,λ_=>rfl⟩
    | cons x A=>exact⟨λz=>(by cases z),λz=>(by cases z)⟩
   refine⟨_,rfl,?_⟩
   rw [if_neg (show ¬false=true by decide)]
   refine aH (λc=>?_) (λc=>?_)
   ·obtain rfl:=key.mp c
    refine⟨s2.trans s3,by simp;omega,ns++[i],by simp,λn hn=>?_,λj hj hj2=>?_⟩
    ·rcases List.mem_append.mp hn with z | z
     ·exact f1 n z
     ·rw [List.mem_singleton.mp z];exact g2
    ·rcases (by omega:j<i∨j=i) with z | z
     ·exact List.mem_append_left _ (f2 j z hj2)
     ·rw [z];simp
   ·refine⟨s2.trans s3,by simp;omega,ns,rfl,f1,λj hj hj2=>?_⟩
    rcases (by omega:j<i∨j=i) with z | z
    ·exact f2 j z hj2
    ·subst z
     rw [g2] at hj2
     cases hj2
     exact absurd (key.mpr rfl) c
  rintro ys H2 p2 ⟨s2,yl,ns,rfl,f1,f2⟩ hp2
  have s3:=aj (o:=.lst (ns.map λn:Nat=>V.int (n:Int))) hp2
  have e3:upd H2 p2 (.lst (ns.map λn:Nat=>V.int (n:Int))) p2=some (.lst (ns.map λn:Nat=>V.int (n:Int))):=ai
  generalize upd H2 p2 _=H3 at *
  have S3:=s2.trans s3
  have hp3:=S3 _ _ hp1
  obtain⟨j,hj⟩:=List.mem_iff_getElem?.mp hin
  have jl:=(List.getElem?_eq_some_iff.mp hj).1
  rw [D.len] at jl
  have nl:0<ns.length:=List.length_pos_of_mem (f2 j jl hj)
  refine aZ (aS.of e3) ⟨p,_,l,fr,rfl,hp3,hl,by rw [List.length_map];omega,by rw [List.length_map] at yl ⊢;omega,λr H4 r0 r1 u4=>?_⟩
  have U4:Us p fr H H4:=⟨u4.us.1,λq o n e=>u4.us.2 q o n (S3 _ _ (s1 _ _ e))⟩
  have D4:=ib u4.us hp3 (D1.same S3)
  refine cj (eC u4.us hp3 (aS.of e3)) r0 r1 λv hv=>?_
  obtain⟨n,hn,rfl⟩:=List.mem_map.mp hv
  have nA:=f1 n hn
  have nlt:=(List.getElem?_eq_some_iff.mp nA).1
  rw [D.len] at nlt
  have hnp:=List.getElem?_eq_getElem nlt
  generalize ls[n]=pn at hnp
  obtain⟨b1,b2⟩:=D.b pn (List.mem_of_getElem? hnp)
  obtain⟨_,e0,e1'⟩:=vP (p:=pn) b1 k0
  refine⟨by show 0<=sizeLine;decide,λa5 ha5=>?_⟩
  have s5:=aj (o:=.lst []) ha5
  have e5:upd H4 a5 (.lst []) a5=some (.lst []):=ai
  generalize upd H4 a5 _=H5 at *
  have D5:=D4.same s5
  refine⟨pl,_,_,_,rfl,rfl,D5.hp,bF (by rw [List.getElem?_map,hnp];rfl),pn,n,k,a,rfl,b1,by omega,k0,λt H6 s6 t6=>⟨by show 2<=sizeLine;decide,λa7 ha7=>?_⟩⟩
  have s7:=aj (o:=.tup [V.ref a5,V.ref t]) ha7
  have r0':=Int.emod_nonneg (a^(gJ k pn).toNat) (show pn≠0 by omega)
  have r1':=Int.emod_lt_of_pos (a^(gJ k pn).toNat) (show 0<pn by omega)
  obtain⟨rr,hrr⟩:∃ m:Nat,a^(gJ k pn).toNat%pn=m:=⟨(a^(gJ k pn).toNat%pn).toNat,by omega⟩
  obtain⟨ee,hee⟩:∃ m:Nat,gJ k pn=m:=⟨(gJ k pn).toNat,by omega⟩
  rw [hrr,hee] at t6
  refine q _ _ _ (.no n ee rr (by omega) (by omega) (by omega) hin) (bT U4 ((s5.trans s6).trans s7)) ⟨a7,_,rfl,aY.of ai,_,_,rfl,⟨a5,[],rfl,s7 _ _ (s6 _ _ e5),rfl⟩,_,_,rfl,⟨t,_,rfl,t6.same s7,_,_,rfl,rfl,_,_,rfl,rfl,_,_,rfl,rfl,_,_,rfl,rfl,rfl⟩,rfl⟩
 ·rintro σ' H1 ⟨⟨rfl,s1⟩,hn⟩
  k_data
  have D1:=D.same s1
  have hp1:=s1 _ _ hp
  have nAs:∀ A∈dO ls k a,A≠[]:=λA hA z=>hn (z▸hA)
  refine aZ D1.hp ⟨_,rfl,by rw [List.length_map];omega,by rw [List.length_map];omega,?_⟩
  rw [Int.toNat_natCast,List.length_map]
  refine cD (λi ys H'=>Us p fr H1 H'/\ys.length<=i/\∃ rows:List PyData,cw K H' rows ys/\rows.length=i/\∀ row∈rows,lS row) ⟨Us.refl hp1 hl,Nat.le_refl _,[],rfl,rfl,by simp⟩ (Nat.le_trans (show ls.length<=3 from l3) (by decide)) (λi ys H' hi h=>h.2.1) ?_ ?_
  ·rintro i ys H2 hi ⟨u2,yl,rows,hrows,rl,f1⟩
   have D2:=ib u2 hp1 D1
   obtain⟨l2,k2,e2⟩:=u2.1
   obtain⟨p',A,r,g1,g2,g3,g4⟩:=D2.get hi
   have hpm:=List.mem_of_getElem? g1
   have eA:A=b6 p' k a p'.toNat:=by
    unfold dO at g2
    rw [List.getElem?_map,g1] at g2
    cases g2
    rfl
   subst eA
   show cK 0 _ [none,some (.int a),some (.ref pl),some (.ref lp),some (.ref p)] _ _
   k_data
   refine⟨⟨rfl,rfl,rfl,rfl,trivial⟩,pl,_,_,_,rfl,rfl,D2.hp,bF (by rw [List.getElem?_map,g1];rfl),lp,us,_,_,rfl,rfl,D2.hl,bF g3,p,12,l2,fr,rfl,e2,k2,by decide,by decide,λr' H3 r0 r1 u3=>?_⟩
   refine⟨p',k,a,r',r,rfl,hP6.prs.1 p' hpm,hP6.six p' hpm,k0,eC u3.us e2 g4,nAs _ (List.mem_of_getElem? g2),r0,λv row H4 s4 hv hr'=>⟨bT (u2.trans u3.us) s4,by simp;omega,rows++[row],cw.snoc ((sV u3.us e2 hrows).same s4) hv,by simp [rl],λx hx=>?_⟩⟩
   rcases List.mem_append.mp hx with z | z
   ·exact f1 x z
   ·rw [List.mem_singleton.mp z];exact hr'
  rintro ys H2 p2 ⟨u2,yl,rows,hrows,rl,f1⟩ hp2
  have s3:=aj (o:=.lst ys) hp2
  have e3:upd H2 p2 (.lst ys) p2=some (.lst ys):=ai
  generalize upd H2 p2 _=H3 at *
  have U3:=bT u2 s3
  have D3:=ib U3 hp1 D1
  refine⟨pl,lp,us,ls,dO ls k a,rfl,D3,λpa H4 s4 f4 e4=>⟨p2,rfl,ys,.inl ⟨aS.of (s4 _ _ e3),λa5 ha5=>⟨by show 2<=sizeLine;decide,λa6 ha6=>⟨by show 2<=sizeLine;decide,λa7 ha7=>?_⟩⟩⟩⟩⟩
  have s5:=aj (o:=.tup ys) ha5
  have e5:upd H4 a5 (.tup ys) a5=some (.tup ys):=ai
  generalize upd H4 a5 _=H5 at *
  have s6:=aj (o:=.tup [V.str "by",V.ref a5]) ha6
  have e6:upd H5 a6 (.tup [V.str "by",V.ref a5]) a6=some (.tup [V.str "by",V.ref a5]):=ai
  generalize upd H5 a6 _=H6 at *
  have s7:=aj (o:=.tup [V.ref pa,V.ref a6]) ha7
  have S7:=(s5.trans s6).trans s7
  have U0:Us p fr H H1:=bT (Us.refl hp hl) s1
  refine q _ _ _ (.j5 rows hn rl f1) (bT (U0.trans U3) (s4.trans S7)) ⟨a7,_,rfl,aY.of ai,_,_,rfl,⟨pa,_,rfl,S7 _ _ e4,kH _⟩,_,_,rfl,⟨a6,_,rfl,aY.of (s7 _ _ e6),_,_,rfl,rfl,_,_,rfl,⟨a5,_,rfl,aY.of (s7 _ _ (s6 _ _ e5)),hrows.same ((s3.trans s4).trans S7)⟩,rfl⟩,rfl⟩
theorem cu (xs:List V) (lo hi:Option Int):(cz xs lo hi).length<=xs.length:=eG _ _ _
theorem bz.Ap {l m:Nat} {H:Hp} {xs:List V} (h:bz K l H xs):bz K l H (xs.take m):=λx hx=>h x (List.mem_of_mem_take hx)
theorem bz.cutD {l m:Nat} {H:Hp} {xs:List V} (h:bz K l H xs):bz K l H (xs.drop m):=λx hx=>h x (List.mem_of_mem_drop hx)
theorem GL.one:GL 0 (.tuple [.int 1]):=⟨by simp only [gd,fP,and_true];omega,by decide +kernel,by decide +kernel,by decide +kernel,by decide +kernel,by decide⟩
def sH (K:PySem.W.Frag):Sp:=λvs H Q _=>∃(a p:Addr) (ns:List Int) (l:Int) (fr:Bool),vs=[.ref a,.ref p]/\aS K H a (ns.map V.int)/\ns.length<=400/\(∀ n∈ns,0<=n/\n<=10^6)/\H p=some (jH l fr)/\rZ l fr/\∀ v H',bK K 3 H' v->Us p fr H H'->Q v H'
theorem eK:aC ["_law_numbers","_law_state_here","_law_way","_law_at"] ["_law_numbers","_law_state_here"] (ao (top 58)):=c7
theorem vT (D:aA K mg "_law_bent_list" (top 58)) (c__law_take:Callee P w K mg base aV 1 "_law_take" ["_law_state_here","_law_many"] fD) (c__law_put:Callee P w K mg base aV 1 "_law_put" ["_law_things","_law_at","_law_thing"] (qW K)) (n_len:mg "len"=none) (n_tuple:mg "tuple"=none):Callee P w K mg base aV 2 "_law_bent_list" ["_law_numbers","_law_state_here"] (sH K):=by
 refine cO D eK (λf cdv A outer s H vs Q E hr h=>?_)
 obtain⟨a,p,ns,l,fr,rfl,hS,n4,hb,hp,hl,q⟩:=h
 have nd:=eK.nd
 refine⟨_,(ag (cp (i:=2) nd (br c__law_take hr ay (aa (pv 1) (aa af ae)))) (ag (cp (i:=3) nd (br c__law_take hr ay (aa (pv 1) (aa (aw b8 (av aG rfl n_len PySem.boot_len (aa (pv 0) ae)) af) ae)))) (ag (bf (aQ (PW.pt (cN (ax ba (pv 2) af (aq _)) (cI (ax cU (pv 3) (av aG rfl n_len PySem.boot_len (aa (pv 0) ae)) (aq _))))) (ak (au (br c__law_put hr ay (aa (pv 0) (aa (pv 3) (aa (aw cq (aw b8 (aB aP (pv 0) (pv 3) (λ_ _=>rfl)) (br c__law_take hr ay (aa (pv 1) (aa af ae)))) af) ae)))))) aD)) (ag (bf (aQ (ax ba (pv 2) af (aq _)) (ak (au (aw cm (aw cm (aK bI (pv 0) aW (aN (pv 3))) (aX (aa (br c__law_take hr ay (aa (pv 1) (aa af ae))) ae))) (aK bI (pv 0) (aN (pv 3)) aW)))) aD)) (ag (bf (aQ (ax ba (pv 2) af (aq _)) (ak (au (aw cm (aK bI (pv 0) aW (aN (pv 3))) (aK bI (pv 0) (aN (aw b8 (pv 3) af)) aW)))) aD)) (ag (bf (aQ (ax ba (pv 2) af (aq _)) (ak (au (wx (pv 0) (aN (eZ dc af))))) aD)) (ag (bf (aQ (ax ba (pv 2) af (aq _)) (ak (au (bp bH rfl n_tuple L2.boot_tuple (aa (pv 0) ae)))) aD)) (ag (bf (aQ (PW.pt (cN (ax ba (pv 2) af (aq _)) (cI (ax cU (pv 3) (av aG rfl n_len PySem.boot_len (aa (pv 0) ae)) (aq _))))) (ak (au (br c__law_put hr ay (aa (pv 0) (aa (pv 3) (aa (aB aP (aX (aa bO (aa bO (aa fU (aa aT (aa (aR (aa af ae)) ae)))))) (br c__law_take hr ay (aa (pv 1) (aa af ae))) (λ_ _=>rfl)) ae)))))) aD)) (ag (bf (aQ (PW.pt (cN (ax ba (pv 2) af (aq _)) (cI (ax cU (pv 3) (av aG rfl n_len PySem.boot_len (aa (pv 0) ae)) (aq _))))) (ak (au (br c__law_put hr ay (aa (pv 0) (aa (pv 3) (aa (aw b8 (aB aP (pv 0) (pv 3) (λ_ _=>rfl)) af) ae)))))) aD)) (ak (au (aw cm (aK bI (pv 0) (aN (pv 3)) aW) (aK bI (pv 0) aW (aN (pv 3))))))))))))))),?_⟩
 show b9 _ _ _ [some (.ref a),some (.ref p),none,none] H
 have nl:(ns.map V.int).length=ns.length:=List.length_map ..
 have G:∀ H',bz K 0 H' (ns.map V.int):=λH'=>.ints λn hn=>by have:=hb n hn;omega
 generalize hus:ns.map V.int=us at *
 k_data
 refine⟨p,8,l,fr,rfl,hp,hl,by decide,by decide,λway H1 w0 w7 u1=>?_⟩
 obtain⟨l1,k1,e1⟩:=u1.at
 have U1:=u1.us
 refine aZ (eC U1 hp hS) ⟨_,rfl,p,_,l1,fr,rfl,e1,k1,by omega,by omega,λat_ H2 a0 a1 u2=>?_⟩
 obtain⟨l2,k2,e2⟩:=u2.at
 have U2:=U1.trans u2.us
 have hS2:=eC U2 hp hS
 obtain⟨m,rfl⟩:∃ m:Nat,at_=m:=⟨at_.toNat,by omega⟩
 have R2:Us p fr H2 H2:=Us.refl e2 k2
 have fin:∀{v:V} {H':Hp},bK K 3 H' v->Us p fr H2 H'->Q v H':=λh1 s=>q _ _ h1 (U2.trans s)
 have big:∀{a':Addr} {xs:List V} {H':Hp},H' a'=some (.lst xs)->xs.length<=1000->bz K 0 H' xs->bK K 3 H' (.ref a'):=λe l g=>bK.lst e (by decide) (by show _*(100+2)+3<=300000;omega) g
 refine⟨λσ' H'=>oh σ' H' [some (.ref a),some (.ref p),some (.int way),some (.int (m:Int))] H2,?_,?_⟩
 ·k_data
  refine aH (λc=>aZ hS2 ⟨_,rfl,aH (λc2=>?_) (λc2=>⟨rfl,rfl⟩)⟩) (λc=>⟨rfl,rfl⟩)
  refine cj hS2 (by omega) (by omega) λv hv=>?_
  obtain⟨n,hn,rfl⟩:=List.mem_map.mp (hus▸hv)
  have:=hb n hn
  refine⟨p,9,l2,fr,rfl,e2,k2,by decide,by decide,λr H3 r0 r1 u3=>⟨n,rfl,r,rfl,a,us,m,_,rfl,eC u3.us e2 hS2,by omega,by omega,λb H4 s4 f4 e4=>?_⟩⟩
  exact fin (big e4 (by simp;omega) (((bz.Ap (G H4)).app (.cons (.int (by omega) (by omega)) .nil)).app (bz.cutD (G H4)))) (bT u3.us s4)
 rintro σ' H' ⟨rfl,rfl⟩
 k_data
 refine⟨λσ' H''=>oh σ' H'' [some (.ref a),some (.ref p),some (.int way),some (.int (m:Int))] H',?_,?_⟩
 ·k_data
  refine aH (λc=>?_) (λc=>⟨rfl,rfl⟩)
  refine fk hS2 λa3 H3 s3 e3=>?_
  have e2':=s3 _ _ e2
  refine⟨p,40,l2,fr,rfl,e2',k2,by decide,by decide,λr H4 r0 r1 u4=>⟨by show 1<=sizeLine;decide,λa5 ha5=>?_⟩⟩
  have U4:=(bT R2 s3).trans u4.us
  have e4:H4 a3=some (.lst (cz us none (some (m:Int)))):=u4.us.2 _ _ (λz=>by rw [z,e2'] at e3;cases e3) e3
  have s5:=aj (o:=.lst [V.int r]) ha5
  have e5:upd H4 a5 (.lst [V.int r]) a5=some (.lst [V.int r]):=ai
  generalize upd H4 a5 _=H5 at *
  have l1:=cu us none (some (m:Int))
  have l2':=cu us (some (m:Int)) none
  refine iy (s5 _ _ e4) e5 (by simp;omega) λa6 H6 s6 e6=>?_
  have S6:=s5.trans s6
  refine fk (eC (bT U4 S6) e2 hS2) λa7 H7 s7 e7=>?_
  refine⟨a6,a7,_,_,rfl,rfl,s7 _ _ e6,e7,Nat.le_trans (show _<=2000 by simp;omega) (by decide),λa8 ha8=>?_⟩
  exact fin (big ai (by simp;omega) ((((G _).cut _ _).app (.cons (.int (by omega) (by omega)) .nil)).app ((G _).cut _ _))) (bT U4 ((S6.trans s7).trans (aj ha8)))
 rintro σ' H' ⟨rfl,rfl⟩
 k_data
 refine⟨λσ' H''=>oh σ' H'' [some (.ref a),some (.ref p),some (.int way),some (.int (m:Int))] H',?_,?_⟩
 ·k_data
  refine aH (λc=>?_) (λc=>⟨rfl,rfl⟩)
  refine fk hS2 λa3 H3 s3 e3=>fk (hS2.same s3) λa4 H4 s4 e4=>?_
  have l1:=cu us none (some (m:Int))
  have l2':=cu us (some ((m:Int)+1)) none
  refine⟨a3,a4,_,_,rfl,rfl,s4 _ _ e3,e4,Nat.le_trans (show _<=2000 by omega) (by decide),λa8 ha8=>?_⟩
  exact fin (big ai (by rw [List.length_append];omega) (((G _).cut _ _).app ((G _).cut _ _))) (bT R2 ((s3.trans s4).trans (aj ha8)))
 rintro σ' H' ⟨rfl,rfl⟩
 k_data
 refine⟨λσ' H''=>oh σ' H'' [some (.ref a),some (.ref p),some (.int way),some (.int (m:Int))] H',?_,?_⟩
 ·k_data
  refine aH (λc=>?_) (λc=>⟨rfl,rfl⟩)
  refine⟨us,hS2,λa3 ha3=>?_⟩
  exact fin (big ai (by rw [List.length_reverse];omega) λx hx=>G _ x (List.mem_reverse.mp hx)) (bT R2 (aj ha3))
 rintro σ' H' ⟨rfl,rfl⟩
 k_data
 refine⟨λσ' H''=>oh σ' H'' [some (.ref a),some (.ref p),some (.int way),some (.int (m:Int))] H',?_,?_⟩
 ·k_data
  refine aH (λc=>?_) (λc=>⟨rfl,rfl⟩)
  refine⟨us,.inl ⟨hS2,λa3 ha3=>?_⟩⟩
  exact fin (bK.tup (l:=0) (aY.of ai) (by decide) (by show _*(100+2)+3<=300000;omega) (G _)) (bT R2 (aj ha3))
 rintro σ' H' ⟨rfl,rfl⟩
 k_data
 refine⟨λσ' H''=>oh σ' H'' [some (.ref a),some (.ref p),some (.int way),some (.int (m:Int))] H',?_,?_⟩
 ·k_data
  refine aH (λc=>aZ hS2 ⟨_,rfl,aH (λc2=>?_) (λc2=>⟨rfl,rfl⟩)⟩) (λc=>⟨rfl,rfl⟩)
  refine⟨by show 1<=sizeLine;decide,λa3 ha3=>⟨by show 5<=sizeLine;decide,λa4 ha4=>?_⟩⟩
  have s3:=aj (o:=.tup [V.int 1]) ha3
  have g3:bK K 0 (upd H' a3 (.tup [V.int 1])) (.ref a3):=⟨.tuple [.int 1],⟨a3,_,rfl,aY.of ai,_,_,rfl,rfl,rfl⟩,GL.one⟩
  generalize upd H' a3 _=H3 at *
  have s4:=aj (o:=.lst [V.bl true,V.bl false,V.bY,V.str "1",V.ref a3]) ha4
  have e4:upd H3 a4 (.lst [V.bl true,V.bl false,V.bY,V.str "1",V.ref a3]) a4=some (.lst [V.bl true,V.bl false,V.bY,V.str "1",V.ref a3]):=ai
  have G4:bz K 0 (upd H3 a4 (.lst [V.bl true,V.bl false,V.bY,V.str "1",V.ref a3])) [V.bl true,V.bl false,V.bY,V.str "1",V.ref a3]:=.cons .bl (.cons .bl (.cons .bY (.cons (.str (by decide +kernel) (by decide +kernel)) (.cons (g3.same s4) .nil))))
  generalize upd H3 a4 _=H4 at *
  have S4:=s3.trans s4
  have e2':=S4 _ _ e2
  refine⟨p,5,l2,fr,rfl,e2',k2,by decide,by decide,λr H5 r0 r1 u5=>?_⟩
  have U5:=(bT R2 S4).trans u5.us
  refine cj (eC u5.us e2' (aS.of e4)) r0 r1 λv hv=>?_
  refine⟨a,us,m,v,rfl,eC U5 e2 hS2,by omega,by omega,λb H6 s6 f6 e6=>?_⟩
  have gv:bK K 0 H6 v:=((G4 v hv).map λ_ _=>fI u5.us e2').same s6
  exact fin (big e6 (by simp;omega) (((bz.Ap (G H6)).app (.cons gv .nil)).app (bz.cutD (G H6)))) (bT U5 s6)
 rintro σ' H' ⟨rfl,rfl⟩
 k_data
 refine⟨λσ' H''=>oh σ' H'' [some (.ref a),some (.ref p),some (.int way),some (.int (m:Int))] H',?_,?_⟩
 ·k_data
  refine aH (λc=>aZ hS2 ⟨_,rfl,aH (λc2=>?_) (λc2=>⟨rfl,rfl⟩)⟩) (λc=>⟨rfl,rfl⟩)
  refine cj hS2 (by omega) (by omega) λv hv=>?_
  obtain⟨n,hn,rfl⟩:=List.mem_map.mp (hus▸hv)
  have:=hb n hn
  refine⟨n,rfl,a,us,m,_,rfl,hS2,by omega,by omega,λb H4 s4 f4 e4=>?_⟩
  exact fin (big e4 (by simp;omega) (((bz.Ap (G H4)).app (.cons (.int (by omega) (by omega)) .nil)).app (bz.cutD (G H4)))) (bT R2 s4)
 rintro σ' H' ⟨rfl,rfl⟩
 k_data
 refine fk hS2 λa3 H3 s3 e3=>fk (hS2.same s3) λa4 H4 s4 e4=>?_
 have l1:=cu us (some (m:Int)) none
 have l2':=cu us none (some (m:Int))
 refine⟨a3,a4,_,_,rfl,rfl,s4 _ _ e3,e4,Nat.le_trans (show _<=2000 by omega) (by decide),λa8 ha8=>?_⟩
 exact fin (big ai (by rw [List.length_append];omega) (((G _).cut _ _).app ((G _).cut _ _))) (bT R2 ((s3.trans s4).trans (aj ha8)))
theorem zV {s t:Str} (h:s≠t):PyData.str s≠PyData.str t:=λz=>by injection z with z;exact h z
inductive Bu:PyData->Prop
 | no (n e r:Nat):n<=2->e<=100->r<=100->Bu (.tuple [.str "none",.int n,.int e,.int r])
 | j5 (rows:List PyData):1<=rows.length->rows.length<=3->(∀ row∈rows,lS row)->Bu (.tuple [.str "by",.tuple rows])
theorem oa {s:Str} (h:PyData.canLay0 (.str s)=true) (l:(reprText s).length<=100):GL 0 (.str s):=.of0 ⟨by simp only [gd];exact h,rfl,rfl,by simp only [PyData.depth];omega,l⟩ (by decide:1<=100)
theorem GL.int {i:Int} (h0:-(10^90)<=i) (h1:i<=10^90):GL 0 (.int i):=.of0 (rg h0 h1) (by decide:1<=100)
theorem iP {row:PyData} (h:lS row):GL 1 row:=by
 rcases h with rfl | ⟨h,t,rfl,h0,h1,t0,t1⟩
 ·exact (GL.seq (l:=0) (by decide) (by decide) λd hd=>by rw [List.mem_singleton.mp hd];exact oa (by decide +kernel) (by decide +kernel)).2
 ·refine (GL.seq (l:=0) (by decide) (by show 3*102+3<=1000;decide) λd hd=>?_).2
  simp only [List.mem_cons,List.not_mem_nil,or_false] at hd
  rcases hd with rfl | rfl | rfl
  ·exact oa (by decide +kernel) (by decide +kernel)
  ·exact .int (by omega) (by omega)
  ·exact .int (by omega) (by omega)
theorem jw {H:Hp} {l:Nat}:∀{ds:List PyData} {xs:List V},cw K H ds xs->(∀ d∈ds,GL l d)->bz K l H xs
 | [],_,h,_=>by cases h;exact .nil
 | d::ds,_,⟨x,r,e,h1,h2⟩,g=>by subst e;exact .cons ⟨d,h1,g d (by simp)⟩ (jw h2 λe he=>g e (List.mem_cons_of_mem _ he))
theorem bz.up {H:Hp} {l m:Nat} {xs:List V} (h:bz K l H xs) (lm:l<=m):bz K m H xs:=λx hx=>(h x hx).up lm
theorem yc {rows:List PyData} (l:rows.length<=3) (h:∀ row∈rows,lS row):GL 2 (.tuple rows):=(GL.seq (l:=1) (by decide) (by show _*1002+3<=10000;omega) λd hd=>iP (h d hd)).2
theorem Bu.DF {sh:PyData} (h:Bu sh):∃ ds,sh=.tuple ds/\2<=ds.length/\ds.length<=4/\∀ d∈ds,GL 2 d:=by
 cases h with
 | no n e r h1 h2 h3 =>
  refine⟨_,rfl,by simp,by simp,λd hd=>?_⟩
  simp only [List.mem_cons,List.not_mem_nil,or_false] at hd
  rcases hd with rfl | rfl | rfl | rfl
  ·exact (oa (by decide +kernel) (by decide +kernel)).up (by decide)
  ·exact (GL.int (by omega) (by omega)).up (by decide)
  ·exact (GL.int (by omega) (by omega)).up (by decide)
  ·exact (GL.int (by omega) (by omega)).up (by decide)
 | j5 rows h1 h2 h3 =>
  refine⟨_,rfl,by simp,by simp,λd hd=>?_⟩
  simp only [List.mem_cons,List.not_mem_nil,or_false] at hd
  rcases hd with rfl | rfl
  ·exact (oa (by decide +kernel) (by decide +kernel)).up (by decide)
  ·exact yc h2 h3
theorem j8 {H:Hp} {a:Addr} {xs:List V} (h:aY K H a xs) (l:xs.length<=9) (g:bz K 2 H xs):bK K 3 H (.ref a):=.tup h (by decide) (by show _*10002+3<=300000;omega) g
theorem DO {H:Hp} {a:Addr} {xs:List V} (h:H a=some (.lst xs)) (l:xs.length<=9) (g:bz K 2 H xs):bK K 3 H (.ref a):=.lst h (by decide) (by show _*10002+3<=300000;omega) g
theorem iI {H:Hp} {d:PyData} {x:V} {s:Str} {Q:VK} (hd:dv K H d x) (lay:d.canLay0=true) (hs:PyData.canLay0 (.str s)=true) (q:∀ c,(c=true↔d≠.str s)->Q (.bl c) H):uu K true x (.str s) H Q :=
 ⟨d,.str s,hd,rfl,lay,hs,Nat.le_trans (Nat.min_le_right _ _) (by show 0<=60;decide),q _ (by rw [if_pos rfl,Bool.not_eq_true',<- Bool.not_eq_true,iD hs])⟩
theorem zj {H:Hp} {ps:Addr} {xs:List V} {lo hi:Option Int} {v:V} {l:Nat} {Q:VK} (tS:aY K H ps xs) (xl:xs.length<=4) (g:bz K l H xs) (gv:bK K l H v) (q:∀ a H' ys,aE H H'->aY K H' a ys->ys.length<=9->bz K l H' ys->Q (.ref a) H'):yM K (.ref ps) none lo H λx H1=>[v].length<=sizeLine/\∀ p,H1 p=none->wI K x (.ref p) (upd H1 p (.tup [v])) λy H2=>yM K (.ref ps) hi none H2 λz H3=>wI K y z H3 Q:=by
 have c1:=cu xs none lo
 have c2:=cu xs hi none
 refine fM tS λa1 H1 s1 t1=>⟨by show 1<=sizeLine;decide,λa2 ha2=>?_⟩
 have s2:=aj (o:=.tup [v]) ha2
 have t2:aY K (upd H1 a2 (.tup [v])) a2 [v]:=aY.of ai
 generalize upd H1 a2 _=H2 at *
 refine⟨a1,a2,_,_,rfl,rfl,t1.same s2,t2,Nat.le_trans (show _<=5 by simp;omega) (by decide),λa3 H3 s3 t3=>?_⟩
 have S3:=(s1.trans s2).trans s3
 refine fM (tS.same S3) λa4 H4 s4 t4=>?_
 refine⟨a3,a4,_,_,rfl,rfl,t3.same s4,t4,Nat.le_trans (show _<=9 by simp;omega) (by decide),λa5 H5 s5 t5=>?_⟩
 have S5:=(S3.trans s4).trans s5
 exact q a5 H5 _ S5 t5 (by simp;omega) ((((g.same S5).cut _ _).app (.cons (gv.same S5) .nil)).app ((g.same S5).cut _ _))
theorem mO {H:Hp} {row:PyData} {v:V} (h:lS row) (hd:fH K H row v):∃ pt ws,v=.ref pt/\aY K H pt ws/\1<=ws.length/\ws.length<=3/\∀ H',bz K 0 H' ws:=by
 rcases h with rfl | ⟨h,t,rfl,h0,h1,t0,t1⟩
 ·obtain⟨pt,ws,rfl,tS,x0,r,rfl,f0,z⟩:=hd
  cases z
  cases f0
  exact⟨pt,_,rfl,tS,by simp,by simp,λH'=>.cons (.str (by decide +kernel) (by decide +kernel)) .nil⟩
 ·obtain⟨pt,ws,rfl,tS,x0,r,rfl,f0,x1,r,rfl,f1,x2,r,rfl,f2,z⟩:=hd
  cases z
  cases f0
  cases f1
  cases f2
  exact⟨pt,_,rfl,tS,by simp,by simp,λH'=>.cons (.str (by decide +kernel) (by decide +kernel)) (.cons (.int (by omega) (by omega)) (.cons (.int (by omega) (by omega)) .nil))⟩
theorem uv {H H':Hp} {row:PyData} {v:V} (k:∀ a xs,aY K H a xs->aY K H' a xs) (h:lS row) (hd:fH K H row v):fH K H' row v:=by
 rcases h with rfl | ⟨h,t,rfl,_⟩
 ·obtain⟨pt,ws,rfl,tS,g⟩:=hd
  exact⟨pt,ws,rfl,k _ _ tS,g⟩
 ·obtain⟨pt,ws,rfl,tS,g⟩:=hd
  exact⟨pt,ws,rfl,k _ _ tS,g⟩
theorem jC {H H':Hp} (k:∀ a xs,aY K H a xs->aY K H' a xs):∀{rows:List PyData} {xs:List V},(∀ row∈rows,lS row)->cw K H rows xs->cw K H' rows xs
 | [],_,_,h=>h
 | row::rows,_,h,⟨x,r,e,h1,h2⟩=>⟨x,r,e,uv k (h row (by simp)) h1,jC k (λy hy=>h y (List.mem_cons_of_mem _ hy)) h2⟩
theorem kO {H:Hp} {l n:Nat} {zs:List V} {v:V} (h:bz K l H zs) (g:bK K l H v):bz K l H (zs.set n v):=λx hx=>by
 rcases List.mem_or_eq_of_mem_set hx with z | z
 ·exact h x z
 ·rw [z];exact g
def sJ (K:PySem.W.Frag):Sp:=λvs H Q _=>∃(u:V) (p:Addr) (sh:PyData) (l:Int) (fr:Bool),vs=[u,.ref p]/\fH K H sh u/\Bu sh/\H p=some (jH l fr)/\rZ l fr/\∀ v H',bK K 3 H' v->Us p fr H H'->Q v H'
theorem d7:aC ["_law_shown","_law_state_here","_law_way","_law_at","_law_here","_law_rows","_law_spot"] ["_law_shown","_law_state_here"] (ao (top 59)):=c7
theorem vV (D:aA K mg "_law_bent_shown" (top 59)) (c__law_take:Callee P w K mg base aV 1 "_law_take" ["_law_state_here","_law_many"] fD) (n_list:mg "list"=none) (n_len:mg "len"=none) (n_tuple:mg "tuple"=none):Callee P w K mg base aV 2 "_law_bent_shown" ["_law_shown","_law_state_here"] (sJ K):=by
 refine cO D d7 (λf cdv A outer s H vs Q E hr h=>?_)
 obtain⟨u,p,sh,l,fr,rfl,hu,hM,hp,hl,q⟩:=h
 have nd:=d7.nd
 refine⟨_,(ag (cp (i:=2) nd (br c__law_take hr ay (aa (pv 1) (aa af ae)))) (ag (cp (i:=3) nd (br c__law_take hr ay (aa (pv 1) (aa (av aG rfl n_len PySem.boot_len (aa (pv 0) ae)) ae)))) (ag (bf (aQ (ax cU (pv 2) af (aq _)) (ag (cp (i:=4) nd (aB aP (aX (aa fU (aa af (aa (eZ dc af) (aa af (aa bO (aa aT (aa aT (aa (aR ae) (aa (aX ae) (aa af ae))))))))))) (br c__law_take hr ay (aa (pv 1) (aa af ae))) (λ_ _=>rfl))) (ak (au (aw dt (aw dt (aK cJ (pv 0) aW (aN (pv 3))) (aR (aa (pv 4) ae))) (aK cJ (pv 0) (aN (aw b8 (pv 3) af)) aW))))) aD)) (ag (bf (aQ (ax ba (pv 2) af (aq _)) (ak (au (aw dt (pv 0) (aR (aa af ae))))) aD)) (ag (bf (aQ (ax ba (pv 2) af (aq _)) (ak (au (aK cJ (pv 0) aW (aN (eZ dc af))))) aD)) (ag (bf (aQ (ax ba (pv 2) af (aq _)) (ak (au (bp cf rfl n_list L2.boot_list (aa (pv 0) ae)))) aD)) (ag (bf (aQ (ax (jy hr.units) (aB aI (pv 0) af (λ_ _=>rfl)) aT (aq _)) (ag (cp (i:=3) nd (aw b8 af (aw aU (pv 3) af))) (ag (cp (i:=4) nd (aw b8 (aB aI (pv 0) (pv 3) (λ_ _=>rfl)) (aB aP (aX (aa af (aa (eZ dc af) (aa (aw nK af af) ae)))) (br c__law_take hr ay (aa (pv 1) (aa af ae))) (λ_ _=>rfl)))) (ak (au (aw dt (aw dt (aK cJ (pv 0) aW (aN (pv 3))) (aR (aa (pv 4) ae))) (aK cJ (pv 0) (aN (aw b8 (pv 3) af)) aW)))))) aD)) (ag (cp (i:=5) nd (bp cf rfl n_list L2.boot_list (aa (aB aI (pv 0) af (λ_ _=>rfl)) ae))) (ag (cp (i:=3) nd (br c__law_take hr ay (aa (pv 1) (aa (av aG rfl n_len PySem.boot_len (aa (pv 5) ae)) ae)))) (ag (bf (aQ (ax ba (pv 2) af (aq _)) (ag (fz (bp cf rfl n_list L2.boot_list (aa (aB aP (pv 5) (pv 3) (λ_ _=>rfl)) ae)) (qQ (pv 5) (pv 3) set_list)) (ak (au (aB aP (aX (aa (aR (aa aT (aa (sy (aB aI (pv 0) af (λ_ _=>rfl)) (aN (eZ dc af))) ae))) (aa (aR (aa aT (aa (bp cf rfl n_list L2.boot_list (aa (aB aI (pv 0) af (λ_ _=>rfl)) ae)) ae))) (aa (aR (aa aT (aa (bp bH rfl n_tuple L2.boot_tuple (aa (pv 5) ae)) ae))) ae)))) (br c__law_take hr ay (aa (pv 1) (aa af ae))) (λ_ _=>rfl))))) aD)) (ag (cp (i:=6) nd (br c__law_take hr ay (aa (pv 1) (aa (aw b8 (av aG rfl n_len PySem.boot_len (aa (aB aP (pv 5) (pv 3) (λ_ _=>rfl)) ae)) af) ae)))) (ag (cp (i:=4) nd (aB aP (aX (aa (br c__law_take hr ay (aa (pv 1) (aa af ae))) (aa bO (aa aT (aa aT (aa fU (aa (eZ dc af) ae))))))) (br c__law_take hr ay (aa (pv 1) (aa af ae))) (λ_ _=>rfl))) (ag (fz (aw dt (aw dt (aK cJ (aB aP (pv 5) (pv 3) (λ_ _=>rfl)) aW (aN (pv 6))) (aR (aa (pv 4) ae))) (aK cJ (aB aP (pv 5) (pv 3) (λ_ _=>rfl)) (aN (aw b8 (pv 6) af)) aW)) (qQ (pv 5) (pv 3) set_list)) (ak (au (aR (aa aT (aa (bp bH rfl n_tuple L2.boot_tuple (aa (pv 5) ae)) ae)))))))))))))))))),?_⟩
 show b9 _ _ _ [some u,some (.ref p),none,none,none,none,none] H
 obtain⟨ds,rfl,d2,d4,dg⟩:=hM.DF
 obtain⟨ps,xs,rfl,tS,hxs⟩:=hu
 have xl:=hxs.bo.length
 k_data
 refine⟨p,8,l,fr,rfl,hp,hl,by decide,by decide,λway H1 w0 w7 u1=>?_⟩
 obtain⟨l1,k1,e1⟩:=u1.at
 have U1:=u1.us
 refine dj (j9 U1 hp tS) ⟨p,_,l1,fr,rfl,e1,k1,by omega,by omega,λat_ H2 a0 a1 u2=>?_⟩
 obtain⟨l2,k2,e2⟩:=u2.at
 have U2:=U1.trans u2.us
 have tS2:=j9 U2 hp tS
 have hx2:=sV U2 hp hxs
 have R2:Us p fr H2 H2:=Us.refl e2 k2
 have fin:∀{v:V} {H':Hp},bK K 3 H' v->Us p fr H2 H'->Q v H':=λh1 s=>q _ _ h1 (U2.trans s)
 obtain⟨m,rfl⟩:∃ m:Nat,at_=m:=⟨at_.toNat,by omega⟩
 have G2:bz K 2 H2 xs:=jw hx2 dg
 have l1':=λlo hi=>cu xs lo hi
 refine⟨λσ' H'=>oh σ' H' [some (.ref ps),some (.ref p),some (.int way),some (.int (m:Int)),none,none,none] H2/\3<=way,?_,?_⟩
 ·k_data
  refine aH (λc=>?_) (λc=>⟨⟨rfl,rfl⟩,by omega⟩)
  refine⟨by show 0<=sizeLine;decide,λa3 ha3=>⟨by show 0<=sizeLine;decide,λa4 ha4=>⟨by show 10<=sizeLine;decide,λa5 ha5=>?_⟩⟩⟩
  have s3:=aj (o:=.tup []) ha3
  have g3:bK K 2 (upd H2 a3 (.tup [])) (.ref a3):=bK.tup (l:=0) (aY.of ai) (by decide) (by decide) .nil
  generalize upd H2 a3 _=H3 at *
  have s4:=aj (o:=.lst []) ha4
  have g4:bK K 2 (upd H3 a4 (.lst [])) (.ref a4):=bK.lst (l:=0) ai (by decide) (by decide) .nil
  generalize upd H3 a4 _=H4 at *
  have s5:=aj (o:=.lst [V.bY,V.int 0,V.int (-1),V.int 1,V.bl true,V.str "by",V.str "none",V.ref a3,V.ref a4,V.int 2]) ha5
  have e5:upd H4 a5 (.lst [V.bY,V.int 0,V.int (-1),V.int 1,V.bl true,V.str "by",V.str "none",V.ref a3,V.ref a4,V.int 2]) a5=_:=ai
  have i0:∀{H:Hp} {i:Int},-(10^90)<=i->i<=10^90->bK K 2 H (.int i):=λh1 h2=>(bK.int h1 h2).up (by decide)
  have st:∀{H:Hp} {s:Str},PyData.canLay0 (.str s)=true->(reprText s).length<=100->bK K 2 H (.str s):=λh1 h2=>(bK.str h1 h2).up (by decide)
  have G5:bz K 2 (upd H4 a5 (.lst [V.bY,V.int 0,V.int (-1),V.int 1,V.bl true,V.str "by",V.str "none",V.ref a3,V.ref a4,V.int 2])) [V.bY,V.int 0,V.int (-1),V.int 1,V.bl true,V.str "by",V.str "none",V.ref a3,V.ref a4,V.int 2] :=
   .cons (bK.bY.up (by decide)) (.cons (i0 (by omega) (by omega)) (.cons (i0 (by omega) (by omega)) (.cons (i0 (by omega) (by omega)) (.cons (bK.bl.up (by decide)) (.cons (st (by decide +kernel) (by decide +kernel)) (.cons (st (by decide +kernel) (by decide +kernel)) (.cons (g3.same (s4.trans s5)) (.cons (g4.same s5) (.cons (i0 (by omega) (by omega)) .nil)))))))))
  generalize upd H4 a5 _=H5 at *
  have S5:=(s3.trans s4).trans s5
  have e2':=S5 _ _ e2
  refine⟨p,10,l2,fr,rfl,e2',k2,by decide,by decide,λr H6 r0 r1 u6=>?_⟩
  have U6:=(bT R2 S5).trans u6.us
  refine cj (eC u6.us e2' (aS.of e5)) r0 r1 λv hv=>?_
  exact zj (j9 U6 e2 tS2) (by omega) (G2.map λ_ _=>fI U6 e2) ((G5 v hv).map λ_ _=>fI u6.us e2') λa7 H7 ys s7 t7 l7 g7=>fin (j8 t7 l7 g7) (bT U6 s7)
 rintro σ' H' ⟨⟨rfl,rfl⟩,w3⟩
 k_data
 refine⟨λσ' H''=>oh σ' H'' [some (.ref ps),some (.ref p),some (.int way),some (.int (m:Int)),none,none,none] H'/\4<=way,?_,?_⟩
 ·k_data
  refine aH (λc=>?_) (λc=>⟨⟨rfl,rfl⟩,by omega⟩)
  refine⟨by show 1<=sizeLine;decide,λa3 ha3=>?_⟩
  have s3:=aj (o:=.tup [V.int 0]) ha3
  refine⟨ps,a3,_,_,rfl,rfl,tS2.same s3,aY.of ai,Nat.le_trans (show _<=5 by simp;omega) (by decide),λa4 H4 s4 t4=>?_⟩
  exact fin (j8 t4 (by simp;omega) (((G2.same s3).same s4).app (.cons ((bK.int (by omega) (by omega)).up (by decide)) .nil))) (bT R2 (s3.trans s4))
 rintro σ' H' ⟨⟨rfl,rfl⟩,w4⟩
 k_data
 refine⟨λσ' H''=>oh σ' H'' [some (.ref ps),some (.ref p),some (.int way),some (.int (m:Int)),none,none,none] H'/\5<=way,?_,?_⟩
 ·k_data
  refine aH (λc=>?_) (λc=>⟨⟨rfl,rfl⟩,by omega⟩)
  have c1:=l1' none (some (-1))
  exact fM tS2 λa3 H3 s3 t3=>fin (j8 t3 (by omega) ((G2.same s3).cut _ _)) (bT R2 s3)
 rintro σ' H' ⟨⟨rfl,rfl⟩,w5⟩
 k_data
 refine⟨λσ' H''=>oh σ' H'' [some (.ref ps),some (.ref p),some (.int way),some (.int (m:Int)),none,none,none] H'/\6<=way,?_,?_⟩
 ·k_data
  refine aH (λc=>?_) (λc=>⟨⟨rfl,rfl⟩,by omega⟩)
  exact⟨xs,.inr tS2,λa3 ha3=>fin (DO ai (by omega) (G2.same (aj ha3))) (bT R2 (aj ha3))⟩
 rintro σ' H' ⟨⟨rfl,rfl⟩,w6⟩
 k_data
 cases hM with
 | no n e r h1 h2 h3 =>
  obtain⟨x0,r',rfl,f0,x1,r',rfl,f1,x2,r',rfl,f2,x3,r',rfl,f3,z⟩:=hx2
  cases z
  cases f0
  cases f1
  cases f2
  cases f3
  refine⟨λ_ _=>False,?_,λ_ _ z=>z.elim⟩
  k_data
  refine bj tS2 fL (iI (d:=.str "none") rfl (by decide +kernel) (by decide +kernel) λc hc=>⟨_,rfl,?_⟩)
  rw [if_pos (hc.mpr (zV (by decide)))]
  have get:∀{Q:VK},(∀ i:Int,0<=i->i<=100->Q (.int i) H')->wL K (.ref ps) (.int (1+(m:Int)%3)) H' Q:=λ{Q} h=>by
   rcases (by omega:(m:Int)%3=0∨(m:Int)%3=1∨(m:Int)%3=2) with e | e | e<;>rw [e]
   ·exact bj tS2 rfl (h _ (by omega) (by omega))
   ·exact bj tS2 rfl (h _ (by omega) (by omega))
   ·exact bj tS2 rfl (h _ (by omega) (by omega))
  refine get λi i0 i1=>⟨by show 3<=sizeLine;decide,λa3 ha3=>?_⟩
  have s3:=aj (o:=.lst [V.int 1,V.int (-1),V.int 1000000000000000000000000000000]) ha3
  have e3:upd H' a3 (.lst [V.int 1,V.int (-1),V.int 1000000000000000000000000000000]) a3=some (.lst (([1,-1,1000000000000000000000000000000]:List Int).map V.int)):=ai
  generalize upd H' a3 _=H3 at *
  have e2':=s3 _ _ e2
  refine⟨p,3,l2,fr,rfl,e2',k2,by decide,by decide,λr4 H4 r40 r41 u4=>?_⟩
  have U4:=(bT R2 s3).trans u4.us
  refine cj (eC u4.us e2' (aS.of e3)) r40 r41 λv hv=>?_
  obtain⟨j,hj,rfl⟩:=List.mem_map.mp hv
  have jb:-1<=j/\j<=1000000000000000000000000000000:=by
   simp only [List.mem_cons,List.not_mem_nil,or_false] at hj
   omega
  refine⟨i,rfl,j,rfl,?_⟩
  exact zj (j9 U4 e2 tS2) (by simp) (G2.map λ_ _=>fI U4 e2) ((bK.int (by omega) (by omega)).up (by decide)) λa7 H7 ys s7 t7 l7 g7=>fin (j8 t7 l7 g7) (bT U4 s7)
 | j5 rows h1 h2 h3 =>
  obtain⟨x0,r',rfl,f0,x1,r',rfl,f1,z⟩:=hx2
  cases z
  cases f0
  obtain⟨pe,zs,rfl,tE,hes⟩:=f1
  refine⟨λσ' H''=>oh σ' H'' [some (.ref ps),some (.ref p),some (.int way),some (.int (m:Int)),none,none,none] H',?_,?_⟩
  ·k_data
   refine bj tS2 fL (iI (d:=.str "by") rfl (by decide +kernel) (by decide +kernel) λc hc=>⟨_,rfl,?_⟩)
   rw [if_neg λz=>absurd rfl (hc.mp z)]
   exact⟨rfl,rfl⟩
  rintro σ' H' ⟨rfl,rfl⟩
  k_data
  refine bj tS2 jc ⟨pe,rfl,zs,.inr tE,λa3 ha3=>?_⟩
  have s3:=aj (o:=.lst zs) ha3
  have q3:upd H' a3 (.lst zs) a3=some (.lst zs):=ai
  generalize upd H' a3 _=J3 at *
  have zl:zs.length=rows.length:=(i9.len hes.bo).symm
  have hp3:=s3 _ _ e2
  refine aZ (aS.of q3) ⟨p,_,l2,fr,rfl,hp3,k2,by omega,by omega,λr4 J4 r40 r41 u4=>?_⟩
  obtain⟨l4,k4,e4⟩:=u4.at
  have U4:=(bT R2 s3).trans u4.us
  have q4:J4 a3=some (.lst zs):=u4.us.2 _ _ (λz=>by rw [z,hp3] at q3;cases q3) q3
  have hes4:=sV u4.us hp3 (hes.same s3)
  have tE4:=j9 u4.us hp3 (tE.same s3)
  obtain⟨n,rfl⟩:∃ n:Nat,r4=n:=⟨r4.toNat,by omega⟩
  have hzn:=List.getElem?_eq_getElem (show n<zs.length by omega)
  generalize zs[n]'(by omega)=zn at hzn
  obtain⟨row,hrow,hrv⟩:=hes4.get hzn
  have hF:=h3 row (List.mem_of_getElem? hrow)
  obtain⟨pt,ws,rfl,tW,w1',w3',gW⟩:=mO hF hrv
  have n3:a3≠p:=λz=>by rw [z,e2] at ha3;cases ha3
  have nl:n<zs.length:=by omega
  have zx:∀{Q:VK} {J:Hp},J a3=some (.lst zs)->Q (.ref pt) J->qT K (.ref a3) (.int (n:Int)) J Q:=λ{Q J} e h=>⟨a3,zs,_,_,rfl,rfl,aS.of e,bF hzn,h⟩
  refine⟨λσ' H''=>oh σ' H'' [some (.ref ps),some (.ref p),some (.int way),some (.int (n:Int)),none,some (.ref a3),none] J4,?_,?_⟩
  ·k_data
   refine aH (λc=>?_) (λc=>⟨rfl,rfl⟩)
   refine zx q4 ⟨pt,rfl,ws,.inr tW,λa5 ha5=>?_⟩
   have s5:=aj (o:=.lst ws) ha5
   have e5:upd J4 a5 (.lst ws) a5=some (.lst ws):=ai
   generalize upd J4 a5 _=J5 at *
   have q5:=s5 _ _ q4
   have n5:a5≠a3:=λz=>by rw [z,q4] at ha5;cases ha5
   refine⟨a3,zs,_,n,rfl,rfl,q5,by unfold qC;rw [if_pos (by omega),if_pos (by omega),Int.toNat_natCast],?_⟩
   have kT:=eX (vs:=zs.set n (.ref a5)) q5
   have kS:∀ a xs,aY K J5 a xs->aY K (upd J5 a3 (.lst (zs.set n (.ref a5)))) a xs:=λa xs h=>h.dB kT
   have hr6:=jC kS h3 (hes4.same s5)
   have q6:upd J5 a3 (.lst (zs.set n (.ref a5))) a3=some (.lst (zs.set n (.ref a5))):=ai
   have e6:upd J5 a3 (.lst (zs.set n (.ref a5))) a5=some (.lst ws):=by rw [aJ n5];exact e5
   have U6:Us p fr H' (upd J5 a3 (.lst (zs.set n (.ref a5)))):=(bT U4 s5).set ha3 n3
   have tS6:=kS _ _ ((j9 U4 e2 tS2).same s5)
   have tE6:=kS _ _ (tE4.same s5)
   generalize upd J5 a3 _=J6 at *
   have g6:bz K 1 J6 zs:=jw hr6 λd hd=>iP (h3 d hd)
   have g6':bz K 1 J6 (zs.set n (.ref a5)):=kO g6 (bK.lst e6 (by decide) (by show _*102+3<=1000;omega) (gW _))
   have j5:∀{J:Hp} {a:Addr},bK K 2 J (.ref a)->bz K 2 J [V.str "by",V.ref a]:=λg=>.cons ((bK.str (by decide +kernel) (by decide +kernel)).up (by decide)) (.cons g .nil)
   unfold xk
   k_data
   refine bj tS6 jc ⟨pe,rfl,zs,tE6,λa7 ha7=>⟨by show 2<=sizeLine;decide,λa8 ha8=>?_⟩⟩
   have s7:=aj (o:=.tup zs.reverse) ha7
   have g7:bK K 2 (upd J6 a7 (.tup zs.reverse)) (.ref a7):=bK.tup (l:=1) (aY.of ai) (by decide) (by rw [List.length_reverse];show _*1002+3<=10000;omega) λx hx=>(g6 x (List.mem_reverse.mp hx)).same s7
   generalize upd J6 a7 _=J7 at *
   have s8:=aj (o:=.tup [V.str "by",V.ref a7]) ha8
   have g8:bK K 3 (upd J7 a8 (.tup [V.str "by",V.ref a7])) (.ref a8):=j8 (aY.of ai) (by simp) (j5 (g7.same s8))
   generalize upd J7 a8 _=J8 at *
   have S8:=s7.trans s8
   refine bj (tS6.same S8) jc ⟨pe,rfl,zs,.inr (tE6.same S8),λa9 ha9=>⟨by show 2<=sizeLine;decide,λa10 ha10=>?_⟩⟩
   have s9:=aj (o:=.lst zs) ha9
   have g9:bK K 2 (upd J8 a9 (.lst zs)) (.ref a9):=bK.lst (l:=1) ai (by decide) (by show _*1002+3<=10000;omega) (g6.same (S8.trans s9))
   generalize upd J8 a9 _=J9 at *
   have s10:=aj (o:=.tup [V.str "by",V.ref a9]) ha10
   have g10:bK K 3 (upd J9 a10 (.tup [V.str "by",V.ref a9])) (.ref a10):=j8 (aY.of ai) (by simp) (j5 (g9.same s10))
   generalize upd J9 a10 _=J10 at *
   have S10:=S8.trans (s9.trans s10)
   refine⟨_,.inl ⟨aS.of (S10 _ _ q6),λa11 ha11=>⟨by show 2<=sizeLine;decide,λa12 ha12=>⟨by show 3<=sizeLine;decide,λa13 ha13=>?_⟩⟩⟩⟩
   have s11:=aj (o:=.tup (zs.set n (.ref a5))) ha11
   have g11:bK K 2 (upd J10 a11 (.tup (zs.set n (.ref a5)))) (.ref a11):=bK.tup (l:=1) (aY.of ai) (by decide) (by rw [List.length_set];show _*1002+3<=10000;omega) (g6'.same (S10.trans s11))
   generalize upd J10 a11 _=J11 at *
   have s12:=aj (o:=.tup [V.str "by",V.ref a11]) ha12
   have g12:bK K 3 (upd J11 a12 (.tup [V.str "by",V.ref a11])) (.ref a12):=j8 (aY.of ai) (by simp) (j5 (g11.same s12))
   generalize upd J11 a12 _=J12 at *
   have s13:=aj (o:=.lst [V.ref a8,V.ref a10,V.ref a12]) ha13
   have e13:upd J12 a13 (.lst [V.ref a8,V.ref a10,V.ref a12]) a13=_:=ai
   have S12:=s11.trans s12
   have G13:bz K 3 (upd J12 a13 (.lst [V.ref a8,V.ref a10,V.ref a12])) [V.ref a8,V.ref a10,V.ref a12]:=.cons (g8.same ((s9.trans s10).trans (S12.trans s13))) (.cons (g10.same (S12.trans s13)) (.cons (g12.same s13) .nil))
   generalize upd J12 a13 _=J13 at *
   have U13:=bT U6 (S10.trans (S12.trans s13))
   obtain⟨l13,k13,e13'⟩:=U13.1
   refine⟨p,3,l13,fr,rfl,e13',k13,by decide,by decide,λr H14 r0 r1 u14=>?_⟩
   refine cj (eC u14.us e13' (aS.of e13)) r0 r1 λv hv=>?_
   exact fin ((G13 v hv).map λ_ _=>fI u14.us e13') (U13.trans u14.us)
  rintro σ' H'' ⟨rfl,rfl⟩
  k_data
  have a3k:∀{J J':Hp} {lj:Int},Us p fr J J'->J p=some (jH lj fr)->J a3=some (.lst zs)->J' a3=some (.lst zs):=λu e h=>u.2 _ _ n3 h
  refine zx q4 (dj tW ⟨_,rfl,p,_,l4,fr,rfl,e4,k4,by omega,by omega,λr5 J5 r50 r51 u5=>?_⟩)
  obtain⟨l5,k5,e5⟩:=u5.at
  refine⟨p,31,l5,fr,rfl,e5,k5,by decide,by decide,λr6 J6 r60 r61 u6=>⟨by show 6<=sizeLine;decide,λa7 ha7=>?_⟩⟩
  obtain⟨l6,k6,e6⟩:=u6.at
  have u56:=(u5.trans u6).us
  have s7:=aj (o:=.lst [V.int r6,V.bl true,V.str "turned",V.str "nought",V.bY,V.int (-1)]) ha7
  have e7:upd J6 a7 (.lst [V.int r6,V.bl true,V.str "turned",V.str "nought",V.bY,V.int (-1)]) a7=some (.lst [V.int r6,V.bl true,V.str "turned",V.str "nought",V.bY,V.int (-1)]):=ai
  have G7:∀ J,bz K 0 J [V.int r6,V.bl true,V.str "turned",V.str "nought",V.bY,V.int (-1)]:=λJ=>.cons (.int (by omega) (by omega)) (.cons .bl (.cons (.str (by decide +kernel) (by decide +kernel)) (.cons (.str (by decide +kernel) (by decide +kernel)) (.cons .bY (.cons (.int (by omega) (by omega)) .nil)))))
  generalize upd J6 a7 _=J7 at *
  have U47:=bT u56 s7
  have e6':=s7 _ _ e6
  refine⟨p,6,l6,fr,rfl,e6',k6,by decide,by decide,λr8 J8 r80 r81 u8=>?_⟩
  have U48:=U47.trans u8.us
  have q8:=a3k U48 e4 q4
  have tW8:=j9 U48 e4 tW
  refine cj (eC u8.us e6' (aS.of e7)) r80 r81 λv hv=>zx q8 ⟨r5,rfl,?_⟩
  have gv:=λJ=>G7 J v hv
  have c1:=cu ws none (some r5)
  have c2:=cu ws (some (r5+1)) none
  refine fM tW8 λa9 J9 s9 t9=>⟨by show 1<=sizeLine;decide,λa10 ha10=>?_⟩
  have s10:=aj (o:=.tup [v]) ha10
  have t10:aY K (upd J9 a10 (.tup [v])) a10 [v]:=aY.of ai
  generalize upd J9 a10 _=J10 at *
  refine⟨a9,a10,_,_,rfl,rfl,t9.same s10,t10,Nat.le_trans (show _<=5 by simp;omega) (by decide),λa11 J11 s11 t11=>?_⟩
  have S11:=(s9.trans s10).trans s11
  refine zx (S11 _ _ q8) ⟨r5,rfl,fM (tW8.same S11) λa12 J12 s12 t12=>?_⟩
  refine⟨a11,a12,_,_,rfl,rfl,t11.same s12,t12,Nat.le_trans (show _<=9 by simp;omega) (by decide),λa13 J13 s13 t13=>?_⟩
  have S13:=(S11.trans s12).trans s13
  have q13:=S13 _ _ q8
  have U13:=bT ((U4.trans U48)) S13
  refine⟨a3,zs,_,n,rfl,rfl,q13,by unfold qC;rw [if_pos (by omega),if_pos (by omega),Int.toNat_natCast],?_⟩
  have kT:=eX (vs:=zs.set n (.ref a13)) q13
  have kS:∀ a xs,aY K J13 a xs->aY K (upd J13 a3 (.lst (zs.set n (.ref a13)))) a xs:=λa xs h=>h.dB kT
  have hr14:=jC kS h3 ((sV U48 e4 hes4).same S13)
  have t14:=kS _ _ t13
  have q14:upd J13 a3 (.lst (zs.set n (.ref a13))) a3=some (.lst (zs.set n (.ref a13))):=ai
  have U14:Us p fr H' (upd J13 a3 (.lst (zs.set n (.ref a13)))):=U13.set ha3 n3
  generalize upd J13 a3 _=J14 at *
  have g14:bz K 1 J14 (zs.set n (.ref a13)):=kO (jw hr14 λd hd=>iP (h3 d hd)) (bK.tup t14 (by decide) (by show _*102+3<=1000;simp;omega) (((gW _).cut _ _ |>.app (.cons (gv _) .nil)).app ((gW _).cut _ _)))
  refine⟨_,.inl ⟨aS.of q14,λa15 ha15=>⟨by show 2<=sizeLine;decide,λa16 ha16=>?_⟩⟩⟩
  have s15:=aj (o:=.tup (zs.set n (.ref a13))) ha15
  have g15:bK K 2 (upd J14 a15 (.tup (zs.set n (.ref a13)))) (.ref a15):=bK.tup (l:=1) (aY.of ai) (by decide) (by rw [List.length_set];show _*1002+3<=10000;omega) (g14.same s15)
  generalize upd J14 a15 _=J15 at *
  have s16:=aj (o:=.tup [V.str "by",V.ref a15]) ha16
  exact fin (j8 (aY.of ai) (by simp) (.cons ((bK.str (by decide +kernel) (by decide +kernel)).up (by decide)) (.cons (g15.same s16) .nil))) (bT U14 (s15.trans s16))
def Bq (K:PySem.W.Frag) (H:Hp) (y:V):Prop:=∃ t ws,y=.ref t/\aY K H t ws/\ws.length<=3/\∀ J,bz K 0 J ws
theorem Bq.k {H H':Hp} {y:V} (h:Bq K H y) (k:∀ a xs,aY K H a xs->aY K H' a xs):Bq K H' y:=by
 obtain⟨t,ws,e,h1,h2⟩:=h
 exact⟨t,ws,e,k _ _ h1,h2⟩
theorem Bq.g {H:Hp} {y:V} (h:Bq K H y):bK K 1 H y:=by
 obtain⟨t,ws,rfl,h1,h2,h3⟩:=h
 exact bK.tup h1 (by decide) (by show _*102+3<=1000;omega) (h3 _)
theorem nZ {H:Hp} {a:Addr} {xs:List V} (h:aY K H a xs) (l:xs.length<=4) (g:bz K 3 H xs):bK K 4 H (.ref a):=.tup h (by decide) (by show _*300002+3<=1600000;omega) g
def Dp (K:PySem.W.Frag) (pl pr:Addr) (k a:Int) (H:Hp) (i:Nat) (σ':L2.St) (H':Hp):Prop:=aE H H'/\∃(ys:List V) (o4:Option V),σ'=[some (.ref pl),some (.int k),some (.int a),some (.ref pr),o4]/\H' pr=some (.lst ys)/\ys.length<=i/\∀ y∈ys,Bq K H' y
def wV (K:PySem.W.Frag):Sp:=λvs H Q _=>∃(pl:Addr) (ls:List Int) (k a:Int),vs=[.ref pl,.int k,.int a]/\aS K H pl (ls.map V.int)/\(∀ p∈ls,2<=p/\p<=13)/\ls.length<=3/\0<k/\∀ v H',aE H H'->bK K 4 H' v->Q v H'
theorem iQ:aC ["_law_primes_here","_law_k","_law_a","_law_rows","_law_p"] ["_law_primes_here","_law_k","_law_a"] (ao (top 60)):=c7
theorem yq (D:aA K mg "_law_bare" (top 60)) (c__law_none:Callee P w K mg base aV 2 "_law_none" ["_law_p","_law_n","_law_k","_law_a"] (ku K)) (n_tuple:mg "tuple"=none):Callee P w K mg base aV 3 "_law_bare" ["_law_primes_here","_law_k","_law_a"] (wV K):=by
 refine cO D iQ (λf cdv A outer s H vs Q E hr h=>?_)
 obtain⟨pl,ls,k,a,rfl,hS,hb,l3,k0,q⟩:=h
 have nd:=iQ.nd
 refine⟨_,(ag (cp (i:=3) nd (aX ae)) (ag (dZ PassesOwn.never rfl (bP (pv 0)) (aF (i:=4) nd rfl (Or.inl rfl) (.inr rfl)) (ak (gO (mJ PySem.F.plainAttrs_list PySem.F.slot_list_append PySem.F.type_list_append eY (pv 3) (aa (aw dt (aR (aa aT ae)) (aK cJ (br c__law_none hr ay (aa (pv 4) (aa af (aa (pv 1) (aa (pv 2) ae))))) (aN af) aW)) ae))))) (ak (au (aR (aa (aX ae) (aa (aR (aa aT (aa (bp bH rfl n_tuple L2.boot_tuple (aa (pv 3) ae)) ae))) ae))))))),?_⟩
 show b9 _ _ _ [some (.ref pl),some (.int k),some (.int a),none,none] H
 k_data
 refine⟨by show 0<=sizeLine;decide,λpr hpr=>?_⟩
 have s0:=aj (o:=.lst []) hpr
 have e0:upd H pr (.lst []) pr=some (.lst []):=ai
 generalize upd H pr _=H0 at *
 refine⟨⟨_,hS.same s0⟩,dS (xs:=ls.map V.int) (λi σ' H'=>Dp K pl pr k a H i σ' H') ⟨s0,[],none,rfl,e0,Nat.le_refl _,by simp⟩ (λi σ' H' _ h=>hS.same h.1) ?_ ?_⟩
 ·rintro i x σ' H1 hx ⟨s1,ys,o4,rfl,e1,yl,hy⟩
  rw [List.getElem?_map] at hx
  obtain⟨p,hp,rfl⟩:=Option.map_eq_some_iff.mp hx
  obtain⟨p2,p13⟩:=hb p (List.mem_of_getElem? hp)
  have i3:=(List.getElem?_eq_some_iff.mp hp).1
  k_data
  refine⟨.inl ⟨rfl,_,aS.of e1⟩,?_⟩
  refine⟨by show 1<=sizeLine;decide,λa2 ha2=>?_⟩
  have s2:=aj (o:=.tup [V.str "none"]) ha2
  have t2:aY K (upd H1 a2 (.tup [V.str "none"])) a2 [V.str "none"]:=aY.of ai
  generalize upd H1 a2 _=H2 at *
  refine⟨p,0,k,a,rfl,p2,by omega,k0,λt H3 s3 t3=>fM t3 λa4 H4 s4 t4=>?_⟩
  obtain⟨_,ne0,ne1⟩:=vP (p:=p) p2 k0
  have r0:=Int.emod_nonneg (a^(gJ k p).toNat) (show p≠0 by omega)
  have r1:=Int.emod_lt_of_pos (a^(gJ k p).toNat) (show 0<p by omega)
  rw [show cz [V.str "none",V.int 0,V.int (gJ k p),V.int (a^(gJ k p).toNat%p)] (some 2) none=[V.int (gJ k p),V.int (a^(gJ k p).toNat%p)] from cE (m:=2) (by show 2<=4;decide)] at t4
  generalize gJ k p=e at *
  generalize a^e.toNat%p=r at *
  refine⟨a2,a4,_,_,rfl,rfl,(t2.same s3).same s4,t4,by show 3<=sizeLine;decide,λa5 H5 s5 t5=>?_⟩
  have S5:=((s2.trans s3).trans s4).trans s5
  have e5:=S5 _ _ e1
  refine⟨pr,ys,_,rfl,rfl,e5,Nat.lt_of_le_of_lt (show ys.length<=3 by omega) (by decide),?_⟩
  have kT:=eX (vs:=ys++[.ref a5]) e5
  have kS:∀ a xs,aY K H5 a xs->aY K (upd H5 pr (.lst (ys++[.ref a5]))) a xs:=λa xs h=>h.dB kT
  refine⟨λb o e=>?_,ys++[.ref a5],_,rfl,ai,by simp;omega,λy hy'=>?_⟩
  ·rw [aJ (λz=>by rw [z,hpr] at e;cases e)]
   exact S5 _ _ (s1 _ _ e)
  ·rcases List.mem_append.mp hy' with z | z
   ·exact ((hy y z).k λ_ _ h=>h.same S5).k kS
   ·rw [List.mem_singleton.mp z]
    exact⟨a5,_,rfl,kS _ _ t5,by simp,λJ=>.cons (.str (by decide +kernel) (by decide +kernel)) (.cons (.int (by omega) (by omega)) (.cons (.int (by omega) (by omega)) .nil))⟩
 ·rintro σ' H1 ⟨s1,ys,o4,rfl,e1,yl,hy⟩
  k_data
  refine⟨by show 0<=sizeLine;decide,λa2 ha2=>?_⟩
  have s2:=aj (o:=.lst []) ha2
  have g2:bK K 3 (upd H1 a2 (.lst [])) (.ref a2):=bK.lst (l:=0) ai (by decide) (by decide) .nil
  generalize upd H1 a2 _=H2 at *
  refine⟨ys,.inl ⟨aS.of (s2 _ _ e1),λa3 ha3=>⟨by show 2<=sizeLine;decide,λa4 ha4=>⟨by show 2<=sizeLine;decide,λa5 ha5=>?_⟩⟩⟩⟩
  have s3:=aj (o:=.tup ys) ha3
  rw [List.length_map] at yl
  have g3:bK K 2 (upd H2 a3 (.tup ys)) (.ref a3):=bK.tup (l:=1) (aY.of ai) (by decide) (by show _*1002+3<=10000;omega) λy h=>((hy y h).k λ_ _ h=>(h.same s2).same s3).g
  generalize upd H2 a3 _=H3 at *
  have s4:=aj (o:=.tup [V.str "by",V.ref a3]) ha4
  have g4:bK K 3 (upd H3 a4 (.tup [V.str "by",V.ref a3])) (.ref a4):=j8 (aY.of ai) (by simp) (.cons ((bK.str (by decide +kernel) (by decide +kernel)).up (by decide)) (.cons (g3.same s4) .nil))
  generalize upd H3 a4 _=H4 at *
  have s5:=aj (o:=.tup [V.ref a2,V.ref a4]) ha5
  exact q _ _ (s1.trans (s2.trans (s3.trans (s4.trans s5)))) (nZ (aY.of ai) (by simp) (.cons (g2.same (s3.trans (s4.trans s5))) (.cons (g4.same s5) .nil)))
def BJ (d:PyData):Prop:=∃(ns:List Int) (sh:PyData),d=.tuple [.list (ns.map PyData.int),sh]/\ns.length<=400/\(∀ n∈ns,0<=n/\n<=10^6)/\Bu sh
def wW (K:PySem.W.Frag):Sp:=λvs H Q _=>∃(u:V) (p:Addr) (d:PyData) (l:Int) (fr:Bool),vs=[u,.ref p]/\fH K H d u/\BJ d/\H p=some (jH l fr)/\rZ l fr/\∀ v H',bK K 4 H' v->Us p fr H H'->Q v H'
theorem iR:aC ["_law_thing","_law_state_here","_law_way"] ["_law_thing","_law_state_here"] (ao (top 61)):=c7
theorem yr (D:aA K mg "_law_bent" (top 61)) (c__law_take:Callee P w K mg base aV 1 "_law_take" ["_law_state_here","_law_many"] fD) (c__law_bent_list:Callee P w K mg base aV 2 "_law_bent_list" ["_law_numbers","_law_state_here"] (sH K)) (c__law_bent_shown:Callee P w K mg base aV 2 "_law_bent_shown" ["_law_shown","_law_state_here"] (sJ K)) (n_list:mg "list"=none):Callee P w K mg base aV 3 "_law_bent" ["_law_thing","_law_state_here"] (wW K):=by
 refine cO D iR (λf cdv A outer s H vs Q E hr h=>?_)
 obtain⟨u,p,d,l,fr,rfl,hu,⟨ns,sh,rfl,n4,nb,hM⟩,hp,hl,q⟩:=h
 have nd:=iR.nd
 refine⟨_,(ag (cp (i:=2) nd (br c__law_take hr ay (aa (pv 1) (aa af ae)))) (ag (bf (aQ (ax ba (pv 2) af (aq _)) (ak (au (aR (aa (br c__law_bent_list hr ay (aa (aB aI (pv 0) af (λ_ _=>rfl)) (aa (pv 1) ae))) (aa (aB aI (pv 0) af (λ_ _=>rfl)) ae))))) aD)) (ag (bf (aQ (ax ba (pv 2) af (aq _)) (ak (au (aR (aa (aB aI (pv 0) af (λ_ _=>rfl)) (aa (br c__law_bent_shown hr ay (aa (aB aI (pv 0) af (λ_ _=>rfl)) (aa (pv 1) ae))) ae))))) aD)) (ag (bf (aQ (ax ba (pv 2) af (aq _)) (ak (au (aB aP (aX (aa (bp cf rfl n_list L2.boot_list (aa (pv 0) ae)) (aa (aw dt (pv 0) (aR (aa af ae))) (aa (aK cJ (pv 0) aW (aN af)) (aa fU (aa af (aa aT (aa (aR (aa (aB aI (pv 0) af (λ_ _=>rfl)) (aa (aB aI (pv 0) af (λ_ _=>rfl)) ae))) ae)))))))) (br c__law_take hr ay (aa (pv 1) (aa af ae))) (λ_ _=>rfl)))) aD)) (ak (au (pv 0))))))),?_⟩
 show b9 _ _ _ [some u,some (.ref p),none] H
 obtain⟨ps,us,rfl,tS,x1,r,rfl,f1,x2,r,rfl,f2,z⟩:=hu
 cases z
 k_data
 refine⟨p,5,l,fr,rfl,hp,hl,by decide,by decide,λway H1 w0 w5 u1=>?_⟩
 obtain⟨l1,k1,e1⟩:=u1.at
 have U1:=u1.us
 have tS1:=j9 U1 hp tS
 have g1:=fI U1 hp f1
 have g2:=fI U1 hp f2
 have R1:Us p fr H1 H1:=Us.refl e1 k1
 have fin:∀{v:V} {H':Hp},bK K 4 H' v->Us p fr H1 H'->Q v H':=λh1 s=>q _ _ h1 (U1.trans s)
 obtain⟨ds,rfl,d2,d4,dg⟩:=hM.DF
 have Gsh:GL 3 (.tuple ds):=(GL.seq (l:=2) (by decide) (by show _*10002+3<=300000;omega) dg).2
 have Gls:GL 3 (.list (ns.map PyData.int)):=(GL.seq (l:=0) (by decide) (by rw [List.length_map];show _*102+3<=300000;omega) λd hd=>by
  obtain⟨n,hn,rfl⟩:=List.mem_map.mp hd
  have:=nb n hn
  exact .int (by omega) (by omega)).1
 have v1:bK K 3 H1 x1:=⟨_,g1,Gls⟩
 have v2:bK K 3 H1 x2:=⟨_,g2,Gsh⟩
 refine⟨λσ' H'=>oh σ' H' [some (.ref ps),some (.ref p),some (.int way)] H1,?_,?_⟩
 ·k_data
  refine aH (λc=>?_) (λc=>⟨rfl,rfl⟩)
  obtain⟨la,lx,rfl,hla,hlx⟩:=g1
  obtain rfl:=dy hlx.bo
  refine bj tS1 fL ⟨la,p,ns,l1,fr,rfl,aS.of hla,n4,nb,e1,k1,λv H2 gv u2=>bj (j9 u2 e1 tS1) jc ⟨by show 2<=sizeLine;decide,λa3 ha3=>?_⟩⟩
  have s3:=aj (o:=.tup [v,x2]) ha3
  exact fin (nZ (aY.of ai) (by simp) (.cons (gv.same s3) (.cons ((v2.map λ_ _=>fI u2 e1).same s3) .nil))) (bT u2 s3)
 rintro σ' H' ⟨rfl,rfl⟩
 k_data
 refine⟨λσ' H''=>oh σ' H'' [some (.ref ps),some (.ref p),some (.int way)] H',?_,?_⟩
 ·k_data
  refine aH (λc=>?_) (λc=>⟨rfl,rfl⟩)
  refine bj tS1 fL (bj tS1 jc ⟨x2,p,_,l1,fr,rfl,g2,hM,e1,k1,λv H2 gv u2=>⟨by show 2<=sizeLine;decide,λa3 ha3=>?_⟩⟩)
  have s3:=aj (o:=.tup [x1,v]) ha3
  exact fin (nZ (aY.of ai) (by simp) (.cons ((v1.map λ_ _=>fI u2 e1).same s3) (.cons (gv.same s3) .nil))) (bT u2 s3)
 rintro σ' H' ⟨rfl,rfl⟩
 k_data
 refine⟨λσ' H''=>oh σ' H'' [some (.ref ps),some (.ref p),some (.int way)] H',?_,?_⟩
 ·k_data
  refine aH (λc=>?_) (λc=>⟨rfl,rfl⟩)
  refine⟨[x1,x2],.inr tS1,λa1 ha1=>⟨by show 1<=sizeLine;decide,λa2 ha2=>?_⟩⟩
  have s1:=aj (o:=.lst [x1,x2]) ha1
  have g1':bK K 4 (upd H' a1 (.lst [x1,x2])) (.ref a1):=bK.lst (l:=3) ai (by decide) (by show 2*300002+3<=1600000;decide) (.cons (v1.same s1) (.cons (v2.same s1) .nil))
  generalize upd H' a1 _=J1 at *
  have s2:=aj (o:=.tup [V.int 0]) ha2
  have t2:aY K (upd J1 a2 (.tup [V.int 0])) a2 [V.int 0]:=aY.of ai
  generalize upd J1 a2 _=J2 at *
  have S2:=s1.trans s2
  refine⟨ps,a2,_,_,rfl,rfl,tS1.same S2,t2,by show 3<=sizeLine;decide,λa3 J3 s3 t3=>?_⟩
  have S3:=S2.trans s3
  have g3:bK K 4 J3 (.ref a3):=nZ t3 (by simp) (.cons (v1.same S3) (.cons (v2.same S3) (.cons ((bK.int (by omega) (by omega)).up (by decide)) .nil)))
  refine fM (tS1.same S3) λa4 J4 s4 t4=>?_
  have S4:=S3.trans s4
  have c1:=cu [x1,x2] none (some 1)
  have g4:bK K 4 J4 (.ref a4):=nZ t4 (by simp at c1;omega) (bz.cut none (some 1) (.cons (v1.same S4) (.cons (v2.same S4) .nil)))
  refine bj (tS1.same S4) jc (bj (tS1.same S4) fL ⟨by show 2<=sizeLine;decide,λa5 ha5=>⟨by show 7<=sizeLine;decide,λa6 ha6=>?_⟩⟩)
  have s5:=aj (o:=.tup [x2,x1]) ha5
  have S5:=S4.trans s5
  have g5:bK K 4 (upd J4 a5 (.tup [x2,x1])) (.ref a5):=nZ (aY.of ai) (by simp) (.cons (v2.same S5) (.cons (v1.same S5) .nil))
  generalize upd J4 a5 _=J5 at *
  have s6:=aj (o:=.lst [V.ref a1,V.ref a3,V.ref a4,V.bY,V.int 7,V.str "by",V.ref a5]) ha6
  have q6:upd J5 a6 (.lst [V.ref a1,V.ref a3,V.ref a4,V.bY,V.int 7,V.str "by",V.ref a5]) a6=_:=ai
  have G6:bz K 4 (upd J5 a6 (.lst [V.ref a1,V.ref a3,V.ref a4,V.bY,V.int 7,V.str "by",V.ref a5])) [V.ref a1,V.ref a3,V.ref a4,V.bY,V.int 7,V.str "by",V.ref a5] :=
   .cons (g1'.same ((((s2.trans s3).trans s4).trans s5).trans s6)) (.cons (g3.same ((s4.trans s5).trans s6)) (.cons (g4.same (s5.trans s6)) (.cons (bK.bY.up (by decide)) (.cons ((bK.int (by omega) (by omega)).up (by decide)) (.cons ((bK.str (by decide +kernel) (by decide +kernel)).up (by decide)) (.cons (g5.same s6) .nil))))))
  have S6:=S5.trans s6
  generalize upd J5 a6 _=J6 at *
  have e6:=S6 _ _ e1
  refine⟨p,7,l1,fr,rfl,e6,k1,by decide,by decide,λr J7 r0 r1 u7=>?_⟩
  refine cj (eC u7.us e6 (aS.of q6)) r0 r1 λv hv=>?_
  exact fin ((G6 v hv).map λ_ _=>fI u7.us e6) ((bT R1 S6).trans u7.us)
 rintro σ' H' ⟨rfl,rfl⟩
 k_data
 exact fin (nZ tS1 (by simp) (.cons v1 (.cons v2 .nil))) R1
def lK (K:PySem.W.Frag):Sp:=λvs H Q _=>∃(k:Sd) (a:Addr) (xs:List V) (ds:List PyData),vs=[.ref a]/\ja k K H a xs/\bo K H ds xs/\xs.length<=2000000/\∀ bb H',(bb=true↔ds.all gH=true)->aE H H'->Q (.bl bb) H'
theorem gk:aC ["_law_things"] ["_law_things"] (ao (top 62)):=c7
theorem uo (D:aA K mg "_law_wholes" (top 62)) (n_isinstance:mg "isinstance"=none) (n_int:mg "int"=none) (n_bool:mg "bool"=none) (n_len:mg "len"=none):Callee P w K mg base aV 1 "_law_wholes" ["_law_things"] (lK K):=by
 refine cO D gk (λf cdv A outer s H vs Q E hr h=>?_)
 obtain⟨k,a,xs,ds,rfl,hS,hds,n3,q⟩:=h
 have nd:=gk.nd
 refine⟨_,(ak (au (bh ba (av aG rfl n_len PySem.boot_len (aa (c8 rfl (jO (N':=["_law_one"]) (js:=[none]) rfl rfl) (A4 (pv 0)) (λ_ _ _ _=>(aF (i:=0) (show List.Nodup [("_law_one":Str)] from by decide +kernel) rfl (Or.inl rfl) (.inr rfl))) (λ_ _ _ _=>(dE (PW.pt (cF (bX (jA K rfl (av (kD K rfl) rfl n_isinstance PyProof.Rows.boot_isinstance (aa (pv 0) (aa (bZ (v:=.ty "int") rfl n_int L2.boot_int rfl) ae))) (λ_=>rfl))) (d5 (jA K rfl (av (kD K rfl) rfl n_isinstance PyProof.Rows.boot_isinstance (aa (pv 0) (aa (bZ (v:=.ty "bool") rfl n_bool L2.boot_bool rfl) ae))) (λ_=>rfl))))))) (λ_ _ _ _=>(pv 0))) ae)) af (aq _)))),?_⟩
 show gT _ _ [some (.ref a)] H
 k_data
 refine vD rfl hS ?_
 have dl:=hds.length
 refine tw (k:=k) (xs:=xs) (λi ys H'=>H'=H/\ys.length<=i/\(ys.length=0↔(ds.take i).all gH=true)) ⟨rfl,Nat.le_refl _,by simp⟩ (Nat.le_trans n3 (by decide)) (λi ys H' hi h=>⟨h.1▸hS,h.2.1⟩) ?_ ?_
 ·rintro i x ys H' hx ⟨eH,y1,y2⟩
  rw [eH]
  obtain⟨d,hd,hv⟩:=hds.get hx
  have step:(ds.take (i+1)).all gH=true↔(ds.take i).all gH=true/\gH d=true:=by
   rw [List.take_add_one,hd,List.all_append,Bool.and_eq_true]
   simp
  have yes:gH d=true->H=H/\ys.length<=i+1/\(ys.length=0↔(ds.take (i+1)).all gH=true):=λz=>⟨rfl,by omega,by rw [step,y2];exact⟨λh=>⟨h,z⟩,λh=>h.1⟩⟩
  have no:gH d=false->H=H/\(ys++[x]).length<=i+1/\((ys++[x]).length=0↔(ds.take (i+1)).all gH=true):=λz=>⟨rfl,by simp;omega,by rw [step,z];simp⟩
  simp only [cn,List.map_nil,List.map_cons,Option.join]
  k_data
  refine⟨True.intro,rO hv ⟨_,aO.mpr rfl,?_⟩⟩
  refine aH (λc=>?_) (λc=>kQ hv ⟨_,aO.mpr rfl,?_⟩)
  ·cases d<;>first | (cases c;done) | exact no rfl
  ·refine aH (λc2=>no ?_) (λc2=>yes ?_)
   ·cases d<;>first | rfl | cases c2
   ·cases w':gH d
    ·rw [w'] at c
     exact absurd (by simpa using c2) c
    ·rfl
 ·rintro ys H' p ⟨eH,y1,y2⟩ hp
  rw [eH] at hp ⊢
  refine aZ (aS.of ai) ⟨rfl,q _ _ ?_ (aj hp)⟩
  rw [show xs.length=ds.length from dl,List.take_length] at y2
  rw [<- y2,decide_eq_true_eq]
  exact⟨λz=>by have:=V.int.inj z;omega,λz=>congrArg V.int (by omega)⟩
theorem vh {d:PyData} {s:Str} (lay:d.canLay0=true) (hs:PyData.canLay0 (.str s)=true):PyData.eqv d (.tuple [.str s])=true↔d=.tuple [.str s]:=by
 constructor
 ·intro h
  cases d with
  | tuple ds =>
   match ds with
   | []=>cases h
   | [x] =>
    have h':(PyData.eqv x (.str s) && true)=true:=h
    rw [Bool.and_true] at h'
    rw [rH h']
   | x::y::r =>
    have h':(PyData.eqv x (.str s) && false)=true:=h
    rw [Bool.and_false] at h'
    cases h'
  | _=>cases h
 ·rintro rfl
  exact eqv_refl _ lay
def sL (K:PySem.W.Frag):Sp:=λvs H Q _=>∃(p k a:Int) (q':Addr) (u:V) (row:PyData),vs=[.int p,.int a,.ref q',u]/\Num.Pm p/\p∈([2,3,5,7,11,13]:List Int)/\aS K H q' ((b6 p k a p.toNat).map V.int)/\b6 p k a p.toNat≠[]/\dv K H row u/\gd row/\c6 row<=2000000/\∀ bb H',(bb=true↔lT p k a row)->aE H H'->Q (.bl bb) H'
theorem gf:aC ["_law_p","_law_a","_law_alike","_law_row_here"] ["_law_p","_law_a","_law_alike","_law_row_here"] (ao (top 63)):=c7
theorem vW (D:aA K mg "_law_is_row" (top 63)) (c__law_wholes:Callee P w K mg base aV 1 "_law_wholes" ["_law_things"] (lK K)) (c__law_steps:Callee P w K mg base aV 1 "_law_steps" ["_law_p","_law_a"] iZ) (n_isinstance:mg "isinstance"=none) (n_tuple:mg "tuple"=none) (n_len:mg "len"=none):Callee P w K mg base aV 2 "_law_is_row" ["_law_p","_law_a","_law_alike","_law_row_here"] (sL K):=by
 refine cO D gf (λf cdv A outer s H vs Q E hr h=>?_)
 obtain⟨p,k,a,q',u,row,rfl,pm,p6,hS,ne,hu,hg,hz,q⟩:=h
 have nd:=gf.nd
 refine⟨_,(ag (bf (aQ (ax ba (aw aU (pv 1) (pv 0)) af (aq _)) (ak (au (bh (eT hr.units) (pv 3) (aR (aa aT ae)) (aq _)))) aD)) (ag (bf (aQ (PW.pt (cF (bX (aM (av bA rfl n_isinstance PyProof.Rows.boot_isinstance (aa (pv 3) (aa (bZ (v:=.ty "tuple") rfl n_tuple L2.boot_tuple rfl) ae))) (λ_=>rfl))) (cF (ax fF (av aG rfl n_len PySem.boot_len (aa (pv 3) ae)) af (aq _)) (cF (ax (jy hr.units) (aB aI (pv 3) af (λ_ _=>rfl)) aT (aq _)) (d5 (bX (aM (br c__law_wholes hr ay (aa (aK cJ (pv 3) (aN af) aW) ae)) (λ_=>rfl)))))))) (ak (au bO)) aD)) (ak (au (bG (bh (eT hr.units) (aB aI (pv 3) af (λ_ _=>rfl)) (aB aP (pv 2) af (λ_ _=>rfl)) (aq _)) (bG (bh cU af (aB aI (pv 3) af (λ_ _=>rfl)) (aq _)) (bG (bh cU (aB aI (pv 3) af (λ_ _=>rfl)) (pv 0) (aq _)) (cA (bh ba (br c__law_steps hr ay (aa (pv 0) (aa (aB aI (pv 3) af (λ_ _=>rfl)) ae))) (av aG rfl n_len PySem.boot_len (aa (pv 2) ae)) (aq _)))))))))),?_⟩
 show b9 _ _ _ [some (.int p),some (.int a),some (.ref q'),some u] H
 have p2:=pm.two
 have p13:p<=13:=by simp only [List.mem_cons,List.not_mem_nil,or_false] at p6;omega
 have lay:=gd.lay _ hg
 k_data
 have S0:=aE.refl H
 refine⟨λσ' H'=>oh σ' H' [some (.int p),some (.int a),some (.ref q'),some u] H/\¬p∣a,?_,?_⟩
 ·k_data
  refine⟨by omega,aH (λc=>⟨by show 1<=sizeLine;decide,λa1 ha1=>?_⟩) (λc=>⟨⟨rfl,rfl⟩,λz=>c (Int.emod_eq_zero_of_dvd z)⟩)⟩
  have pa:=Int.dvd_of_emod_eq_zero c
  have s1:=aj (o:=.tup [V.str "nought"]) ha1
  refine⟨row,.tuple [.str "nought"],dv.same s1 _ hu,dv.tup ai (.one rfl),lay,by decide +kernel,Nat.le_trans (Nat.min_le_right _ _) (by decide),q _ _ ?_ s1⟩
  rw [if_neg (by decide),vh lay (by decide +kernel)]
  exact⟨λz=>.inl ⟨pa,z⟩,λz=>z.elim (λy=>y.2) λy=>absurd pa y.1⟩
 rintro σ' H' ⟨⟨rfl,rfl⟩,na⟩
 k_data
 have form:lT p k a row->∃ h t:Int,row=fh h t:=λz=>z.elim (λy=>absurd y.1 na) fun⟨_,h,t,_,_,_,_,e⟩=>⟨h,t,e⟩
 refine⟨λσ' H''=>zh σ' H'' [some (.int p),some (.int a),some (.ref q'),some u] H'/\∃ h t:Int,row=fh h t,?_,?_⟩
 ·k_data
  refine cT hu ⟨_,aO.mpr rfl,aH (λz=>q false H' ⟨nofun,λy=>?_⟩ S0) (λz=>?_)⟩
  ·obtain⟨h,t,rfl⟩:=form y
   cases z
  obtain⟨ds,rfl⟩:=iG (by simpa using z)
  obtain⟨pu,xs,rfl,tU,hxs⟩:=hu
  have xl:=hxs.length
  refine dj tU ⟨rfl,aH (λz=>q false H' ⟨nofun,λy=>?_⟩ S0) (λz=>?_)⟩
  ·obtain⟨h,t,e⟩:=form y
   injection e with e
   rw [e] at xl
   exact absurd (congrArg V.int (by rw [xl];rfl)) z
  have l3:ds.length=3:=by
   have:=V.int.inj (Classical.not_not.mp z)
   omega
  obtain⟨d0,d1,d2,rfl⟩:∃ d0 d1 d2,ds=[d0,d1,d2]:=by
   match ds,l3 with
   | [a,b,c],_=>exact⟨a,b,c,rfl⟩
  obtain⟨x0,r,rfl,f0,x1,r,rfl,f1,x2,r,rfl,f2,z⟩:=hxs
  cases z
  have g3:=hg
  simp only [gd,fP,and_true] at g3
  refine bj tU fL (iI f0 (gd.lay _ g3.1) (by decide +kernel) λc hc=>⟨_,rfl,aH (λz=>q false H' ⟨nofun,λy=>?_⟩ S0) (λz=>?_)⟩)
  ·obtain⟨h,t,e⟩:=form y
   injection e with e
   injection e with e
   exact absurd e (hc.mp z)
  obtain rfl:d0=.str "turned":=Classical.not_not.mp λy=>z (hc.mpr y)
  refine fM tU λp3 H3 s3 t3=>?_
  rw [show cz [x0,x1,x2] (some 1) none=[x1,x2] from cE (m:=1) (by show 1<=3;decide)] at t3
  refine⟨.t,p3,_,[d1,d2],rfl,t3,⟨_,_,rfl,dv.same s3 _ f1,.one (dv.same s3 _ f2)⟩,(by show 2<=2000000;decide),λbb H4 hb s4=>⟨bb,aO.mpr rfl,aH (λz=>q false H4 ⟨nofun,λy=>?_⟩ (s3.trans s4)) (λz=>?_)⟩⟩
  ·obtain⟨h,t,e⟩:=form y
   injection e with e
   injection e with _ e
   rw [hb.mpr (by rw [e];rfl)] at z
   cases z
  ·have w:=hb.mp (by simpa using z)
   simp only [List.all_cons,List.all_nil,Bool.and_true,Bool.and_eq_true] at w
   obtain⟨h,rfl⟩:=dR w.1
   obtain⟨t,rfl⟩:=dR w.2
   exact⟨⟨rfl,s3.trans s4⟩,h,t,rfl⟩
 rintro σ' H2 ⟨⟨rfl,s2⟩,h,t,rfl⟩
 k_data
 obtain⟨pu,y0,y1,y2,rfl,tU,f0,f1,f2⟩:=qw (dv.same s2 _ hu)
 cases f0
 cases f1
 cases f2
 have hS2:=hS.same s2
 have rr:lT p k a (fh h t)↔(b6 p k a p.toNat)[0]?=some h/\0<t/\t<p/\Num.Ord p t (b6 p k a p.toNat).length:=by
  constructor
  ·rintro (⟨y,_⟩|⟨_,h',t',e1,e2,e3,e4,e⟩)
   ·exact absurd y na
   ·injection e with e
    injection e with _ e
    injection e with eh e
    injection e with et
    injection eh with eh
    injection et with et
    subst eh
    subst et
    exact⟨e1,e2,e3,e4⟩
  ·exact fun⟨e1,e2,e3,e4⟩=>.inr ⟨na,h,t,e1,e2,e3,e4,rfl⟩
 generalize b6 p k a p.toNat=L at *
 obtain⟨h0,L',rfl⟩:∃ h0 L',L=h0::L':=by
  cases L with
  | nil=>exact absurd rfl ne
  | cons x r=>exact⟨x,r,rfl⟩
 refine bj tU jc ⟨q',_,0,.int h0,rfl,rfl,hS2,bF (j:=0) rfl,.int h,.int h0,rfl,rfl,rfl,rfl,Nat.le_trans (Nat.min_le_right _ _) (by show 0<=60;decide),_,rfl,?_⟩
 rw [if_neg (show ¬false=true by decide)]
 refine aH (λc=>?_) (λc=>q false H2 ⟨nofun,λz=>?_⟩ s2)
 rotate_left
 ·have:=(rr.mp z).1
  cases this
  exact absurd (show PyData.eqv (.int h) (.int h)=true from beq_self_eq_true (α:=Int) h) c
 obtain rfl:h=h0:=beq_iff_eq.mp (show (h==h0)=true from c)
 refine bj tU rfl ⟨t,rfl,aH (λt0=>bj tU rfl ⟨t,rfl,aH (λt1=>?_) (λt1=>q false H2 ⟨nofun,λz=>absurd (rr.mp z).2.2.1 t1⟩ s2)⟩) (λt0=>q false H2 ⟨nofun,λz=>absurd (rr.mp z).2.1 t0⟩ s2)⟩
 refine bj tU rfl ⟨p,t,rfl,pm,by omega,by omega,by omega,λz=>by have:=Int.le_of_dvd t0 z;omega,λr r1 rn o=>aZ hS2 ⟨rfl,q _ H2 ?_ s2⟩⟩
 rw [rr,decide_eq_true_eq,List.length_map]
 constructor
 ·intro z
  have:=V.int.inj z
  exact⟨rfl,t0,t1,by rw [show (h::L').length=r.toNat by omega];exact o⟩
 ·rintro⟨_,_,_,z⟩
  have:=o.qN z
  exact congrArg V.int (by omega)
theorem vQ {p k a e r:Int} (pm:Num.Pm p) (p6:p∈([2,3,5,7,11,13]:List Int)) (k0:0<k):jh p k a (.list []) (.int e) (.int r)↔b6 p k a p.toNat=[]/\e=gJ k p/\r=a^(gJ k p).toNat%p:=by
 obtain⟨t1,t2⟩:=ny (a:=a) p6 pm k0
 have g0:=(vP (k:=k) pm.two k0).1
 constructor
 ·rintro⟨na,nal,_,h2,h3⟩
  injection h2 with h2
  injection h3 with h3
  rcases t2 na with⟨z,_⟩|⟨_,z⟩
  ·exact⟨z,h2,h3⟩
  ·exact absurd z nal
 ·rintro⟨z,rfl,rfl⟩
  have na:¬p∣a:=λy=>by rw [t1 y] at z;cases z
  rcases t2 na with⟨_,y⟩|⟨y,_⟩
  ·exact⟨na,y,rfl,rfl,rfl⟩
  ·rw [z] at y
   simp only [List.length_nil] at y
   omega
theorem DH {s:Str} {a b c a' b' c':Int}:PyData.eqv (.tuple [.str s,.int a,.int b,.int c]) (.tuple [.str s,.int a',.int b',.int c'])=true↔a=a'/\b=b'/\c=c':=by
 show ((s==s) && ((a==a') && ((b==b') && ((c==c') && true))))=true↔_
 simp
theorem nI {A:List Int}:PyData.eqv (.list (A.map PyData.int)) (.list [])=true↔A=[]:=by
 cases A with
 | nil=>exact⟨λ_=>rfl,λ_=>rfl⟩
 | cons x A=>exact⟨λz=>(by cases z),λz=>(by cases z)⟩
theorem kR (A:List Int):PyData.canLay0 (.list (A.map PyData.int))=true:=ft λe he=>by obtain⟨x,_,rfl⟩:=List.mem_map.mp he;rfl
theorem Aq (A:List Int):PyData.depth (.list (A.map PyData.int))<=60:=by
 simp only [PyData.depth]
 have:=ni (m:=0) (ds:=A.map PyData.int) λd hd=>by obtain⟨x,_,rfl⟩:=List.mem_map.mp hd;exact Nat.le_refl _
 omega
theorem oV {A B:List Int}:PyData.eqv (.list (A.map PyData.int)) (.list (B.map PyData.int))=true↔A=B:=by
 show PyData.eqvAll _ _=true↔_
 rw [oN,decide_eq_true_eq]
def C2 (ls:List Int) (k a:Int):Prop:=aL ((dO ls k a).map λA=>(A.length:Int))<=400
def zR (K:PySem.W.Frag):Sp:=λvs H Q _=>∃(pl lp:Addr) (us:List V) (ls:List Int) (k a:Int) (u:V) (d:PyData),vs=[.ref pl,.ref lp,.int k,.int a,u]/\qf K H pl lp us ls (dO ls k a)/\P6 ls/\0<k/\C2 ls k a/\dv K H d u/\GL 4 d/\∀ bb H',(bb=true↔RO ls k a d)->aE H H'->Q (.bl bb) H'
theorem jT:aC ["_law_primes_here","_law_lists","_law_k","_law_a","_law_thing","_law_shown"] ["_law_primes_here","_law_lists","_law_k","_law_a","_law_thing"] (ao (top 64)):=c7
theorem AO (D:aA K mg "_law_due" (top 64)) (c__law_wholes:Callee P w K mg base aV 1 "_law_wholes" ["_law_things"] (lK K)) (c__law_none:Callee P w K mg base aV 2 "_law_none" ["_law_p","_law_n","_law_k","_law_a"] (ku K)) (c__law_all:Callee P w K mg base aV 1 "_law_all" ["_law_primes_here","_law_lists"] (nW K)) (c__law_is_row:Callee P w K mg base aV 2 "_law_is_row" ["_law_p","_law_a","_law_alike","_law_row_here"] (sL K)) (n_isinstance:mg "isinstance"=none) (n_tuple:mg "tuple"=none) (n_list:mg "list"=none) (n_len:mg "len"=none) (n_range:mg "range"=none):Callee P w K mg base aV 3 "_law_due" ["_law_primes_here","_law_lists","_law_k","_law_a","_law_thing"] (zR K):=by
 refine cO D jT (λf cdv A outer s H vs Q E hr h=>?_)
 obtain⟨pl,lp,us,ls,k,a,u,d,rfl,D,hP6,k0,km,hu,hg,q⟩:=h
 have nd:=jT.nd
 refine⟨_,(ag (bf (aQ (PW.pt (cF (bX (aM (av bA rfl n_isinstance PyProof.Rows.boot_isinstance (aa (pv 4) (aa (bZ (v:=.ty "tuple") rfl n_tuple L2.boot_tuple rfl) ae))) (λ_=>rfl))) (cF (ax fF (av aG rfl n_len PySem.boot_len (aa (pv 4) ae)) af (aq _)) (cF (bX (aM (av bA rfl n_isinstance PyProof.Rows.boot_isinstance (aa (aB aI (pv 4) af (λ_ _=>rfl)) (aa (bZ (v:=.ty "list") rfl n_list L2.boot_list rfl) ae))) (λ_=>rfl))) (d5 (bX (aM (br c__law_wholes hr ay (aa (aB aI (pv 4) af (λ_ _=>rfl)) ae)) (λ_=>rfl)))))))) (ak (au bO)) aD)) (ag (fW (i:=5) nd rfl (Or.inr rfl) (aB aI (pv 4) af (λ_ _=>rfl))) (ag (bf (aQ (bX (aM (av bA rfl n_isinstance PyProof.Rows.boot_isinstance (aa (pv 5) (aa (bZ (v:=.ty "tuple") rfl n_tuple L2.boot_tuple rfl) ae))) (λ_=>rfl))) (ak (au bO)) aD)) (ag (bf (aQ (PW.pt (cN (ax ba (av aG rfl n_len PySem.boot_len (aa (pv 5) ae)) af (aq _)) (cI (ax (eT hr.units) (aB aI (pv 5) af (λ_ _=>rfl)) aT (aq _))))) (ag (bf (aQ (PW.pt (cF (ax (jy hr.units) (aB aI (pv 4) af (λ_ _=>rfl)) (aX ae) (aq _)) (cF (bX (aM (br c__law_wholes hr ay (aa (aK cJ (pv 5) (aN af) aW) ae)) (λ_=>rfl))) (cF (ax cU (aB aI (pv 5) af (λ_ _=>rfl)) af (aq _)) (d5 (ax we (aB aI (pv 5) af (λ_ _=>rfl)) (av aG rfl n_len PySem.boot_len (aa (pv 0) ae)) (aq _))))))) (ak (au bO)) aD)) (ak (au (bG (bh (eT hr.units) (aB aP (pv 1) (aB aI (pv 5) af (λ_ _=>rfl)) (λ_ _=>rfl)) (aX ae) (aq _)) (cA (bh (eT hr.units) (pv 5) (br c__law_none hr ay (aa (aB aP (pv 0) (aB aI (pv 5) af (λ_ _=>rfl)) (λ_ _=>rfl)) (aa (aB aI (pv 5) af (λ_ _=>rfl)) (aa (pv 2) (aa (pv 3) ae))))) (aq _))))))) aD)) (ag (bf (aQ (PW.pt (cF (ax fF (av aG rfl n_len PySem.boot_len (aa (pv 5) ae)) af (aq _)) (cF (ax (jy hr.units) (aB aI (pv 5) af (λ_ _=>rfl)) aT (aq _)) (cF (bX (aM (av bA rfl n_isinstance PyProof.Rows.boot_isinstance (aa (aB aI (pv 5) af (λ_ _=>rfl)) (aa (bZ (v:=.ty "tuple") rfl n_tuple L2.boot_tuple rfl) ae))) (λ_=>rfl))) (d5 (ax fF (av aG rfl n_len PySem.boot_len (aa (aB aI (pv 5) af (λ_ _=>rfl)) ae)) (av aG rfl n_len PySem.boot_len (aa (pv 0) ae)) (aq _))))))) (ak (au bO)) aD)) (ag (bf (aQ (PW.pt (cF (ax (wg hr.units) (aX ae) (pv 1) (by with_unfolding_all rfl)) (d5 (ax (jy hr.units) (aB aI (pv 4) af (λ_ _=>rfl)) (br c__law_all hr ay (aa (pv 0) (aa (pv 1) ae))) (aq _))))) (ak (au bO)) aD)) (ak (au (bh ba (av aG rfl n_len PySem.boot_len (aa (c8 rfl (jO (N':=["_law_n","_law_a","_law_primes_here","_law_lists","_law_shown"]) (js:=[none,some 3,some 0,some 1,some 5]) rfl rfl) (cG rfl n_range (aa (av aG rfl n_len PySem.boot_len (aa (pv 0) ae)) ae)) (λ_ _ _ _=>(aF (i:=0) (show List.Nodup [("_law_n":Str),("_law_a":Str),("_law_primes_here":Str),("_law_lists":Str),("_law_shown":Str)] from by decide +kernel) rfl (Or.inl rfl) (.inr rfl))) (λ_ _ _ _=>(dE (bX (jA K rfl (br c__law_is_row hr ay (aa (aB (dX K rfl) (pv 2) (pv 0) (λ_ _=>rfl)) (aa (pv 1) (aa (aB (dX K rfl) (pv 3) (pv 0) (λ_ _=>rfl)) (aa (aB (fq K rfl) (aB (fq K rfl) (pv 4) af (λ_ _=>rfl)) (pv 0) (λ_ _=>rfl)) ae))))) (λ_=>rfl))))) (λ_ _ _ _=>(pv 0))) ae)) af (aq _)))))))))),?_⟩
 show b9 _ _ _ [some (.ref pl),some (.ref lp),some (.int k),some (.int a),some u,none] H
 k_data
 have S0:=aE.refl H
 have lsz:∀{n:Nat} {es:List PyData},GL n (.list es)->n<=4->es.length<=2000000:=λ{n es} h hn=>by
  have:=h.z
  have:=fg es
  have:=uO hn
  simp only [c6,bL] at *
  omega
 have tsz:∀{ds:List PyData},bJ ds<=1600000->∀ x∈ds,c6 x<=1600000:=λ{ds} h x hx=>by
  obtain⟨l,r,rfl⟩:=List.append_of_mem hx
  rw [gD] at h
  simp only [bJ] at h
  omega
 have hz:c6 d<=1600000:=hg.z
 refine⟨λσ' H'=>zh σ' H' [some (.ref pl),some (.ref lp),some (.int k),some (.int a),some u,none] H/\∃(ns:List Int) (sh:PyData),d=.tuple [.list (ns.map PyData.int),sh],?_,?_⟩
 ·k_data
  have form:RO ls k a d->∃(ns:List Int) (sh:PyData),d=.tuple [.list (ns.map PyData.int),sh]:=λz=>by
   cases z with
   | no j p df de dr h1 h2=>exact⟨[],_,by rw [h2.2.2.1];rfl⟩
   | j5 rs rows=>exact⟨rs,_,rfl⟩
  refine cT hu ⟨_,aO.mpr rfl,aH (λz=>q false H ⟨nofun,λy=>?_⟩ S0) (λz=>?_)⟩
  ·obtain⟨ns,sh,rfl⟩:=form y
   cases z
  obtain⟨ds,rfl⟩:=iG (by simpa using z)
  obtain⟨pu,xs,rfl,tU,hxs⟩:=hu
  have xl:=hxs.length
  refine dj tU ⟨rfl,aH (λz=>q false H ⟨nofun,λy=>?_⟩ S0) (λz=>?_)⟩
  ·obtain⟨ns,sh,e⟩:=form y
   injection e with e
   rw [e] at xl
   exact absurd (congrArg V.int (by rw [xl];rfl)) z
  have l2:ds.length=2:=by
   have:=V.int.inj (Classical.not_not.mp z)
   omega
  obtain⟨df,sh,rfl⟩:∃ df sh,ds=[df,sh]:=by
   match ds,l2 with
   | [df,sh],_=>exact⟨df,sh,rfl⟩
  obtain⟨x1,r,rfl,f1,x2,r,rfl,f2,z⟩:=hxs
  cases z
  refine bj tU fL (fo f1 ⟨_,aO.mpr rfl,aH (λz=>q false H ⟨nofun,λy=>?_⟩ S0) (λz=>?_)⟩)
  ·obtain⟨ns,sh',e⟩:=form y
   injection e with e
   injection e with e
   rw [e] at z
   cases z
  obtain⟨es,rfl⟩:∃ es,df=.list es:=by
   cases df with
   | list es=>exact⟨es,rfl⟩
   | _=>exact absurd rfl z
  have el:es.length<=2000000:=by
   have:=fg es
   simp only [c6,bJ] at hz
   omega
  obtain⟨pe,ys,rfl,tE,hes⟩:=f1
  refine bj tU fL ⟨.l,pe,ys,es,rfl,tE,hes,by rw [hes.length];exact el,λbb H4 hb s4=>⟨bb,aO.mpr rfl,aH (λz=>q false H4 ⟨nofun,λy=>?_⟩ s4) (λz=>?_)⟩⟩
  ·obtain⟨ns,sh',e⟩:=form y
   injection e with e
   injection e with e
   injection e with e
   rw [hb.mpr (by rw [e];exact rN ns)] at z
   cases z
  ·obtain⟨ns,rfl⟩:=nG (hb.mp (by simpa using z))
   exact⟨⟨rfl,s4⟩,ns,sh,rfl⟩
 rintro σ' H1 ⟨⟨rfl,s1⟩,ns,sh,rfl⟩
 k_data
 obtain⟨pu,xs,rfl,tU,x1,r,rfl,f1,sv,r,rfl,f2,z⟩:=dv.same s1 _ hu
 cases z
 obtain⟨pe,ys,rfl,tE,hes⟩:=f1
 obtain rfl:=dy hes
 have gsh:gd sh/\c6 sh<=1600000:=by
  have:=hg.g
  simp only [gd,fP,and_true] at this
  refine⟨this.2,?_⟩
  simp only [c6,bJ] at hz
  omega
 have lays:=gd.lay _ gsh.1
 have D1:=D.same s1
 replace q:∀ bb H',(bb=true↔RO ls k a (.tuple [.list (ns.map PyData.int),sh]))->aE H1 H'->Q (.bl bb) H':=λbb H' h s=>q bb H' h (s1.trans s)
 have S1:=aE.refl H1
 refine bj tU jc ⟨λσ' H'=>zh σ' H' [some (.ref pl),some (.ref lp),some (.int k),some (.int a),some (.ref pu),some sv] H1/\∃ ss,sh=.tuple ss,?_,?_⟩
 ·k_data
  refine cT f2 ⟨_,aO.mpr rfl,aH (λz=>q false H1 ⟨nofun,λy=>?_⟩ S1) (λz=>⟨⟨rfl,S1⟩,iG (by simpa using z)⟩)⟩
  generalize hD:PyData.tuple [.list (ns.map PyData.int),sh]=D at y
  cases y with
  | no=>injection hD with e;injection e with _ e;injection e with e;rw [e] at z;cases z
  | j5=>injection hD with e;injection e with _ e;injection e with e;rw [e] at z;cases z
 rintro σ' H2 ⟨⟨rfl,s2⟩,ss,rfl⟩
 k_data
 obtain⟨ps,zs,rfl,tS,hss⟩:=dv.same s2 _ f2
 have zl:=hss.length
 have tU2:=tU.same s2
 have D2:=D1.same s2
 have tE2:=tE.same s2
 replace q:∀ bb H',(bb=true↔RO ls k a (.tuple [.list (ns.map PyData.int),.tuple ss]))->aE H2 H'->Q (.bl bb) H':=λbb H' h s=>q bb H' h (s2.trans s)
 have S2:=aE.refl H2
 have layS:∀ x∈ss,x.canLay0=true:=λx hx=>gd.lay _ (by
  have:=gsh.1
  simp only [gd] at this
  exact dQ.mp this x hx)
 have hss0:dv K H2 (.tuple ss) (.ref ps):=⟨ps,zs,rfl,tS,hss⟩
 have l3:=D.l3
 refine⟨λσ' H'=>zh σ' H' [some (.ref pl),some (.ref lp),some (.int k),some (.int a),some (.ref pu),some (.ref ps)] H2/\∀ d1 d2 d3,ss≠[.str "none",d1,d2,d3],?_,?_⟩
 ·k_data
  refine dj tS ⟨rfl,aH (λc=>?_) (λc=>⟨⟨rfl,S2⟩,λd1 d2 d3 e=>c (congrArg V.int (by rw [zl,e];rfl))⟩)⟩
  have l4:ss.length=4:=by
   have:=V.int.inj c
   omega
  obtain⟨d0,d1,d2,d3,rfl⟩:∃ d0 d1 d2 d3,ss=[d0,d1,d2,d3]:=by
   match ss,l4 with
   | [a,b,c,d],_=>exact⟨a,b,c,d,rfl⟩
  obtain⟨_,y0,y1,y2,y3,ep,tS',g0,g1,g2,g3⟩:=BV hss0
  cases ep
  refine bj tS' fL (iC g0 (layS d0 (by simp)) (by decide +kernel) λc hc=>⟨_,rfl,aH (λz=>?_) (λz=>⟨⟨rfl,S2⟩,λe1 e2 e3 e=>?_⟩)⟩)
  rotate_left
  ·injection e with e
   exact z (hc.mpr e)
  obtain rfl:=hc.mp z
  have noF:RO ls k a (.tuple [.list (ns.map PyData.int),.tuple [.str "none",d1,d2,d3]])->∃(j:Nat) (p:Int),d1=.int j/\ls[j]?=some p/\jh p k a (.list (ns.map PyData.int)) d2 d3:=λy=>by
   generalize hD:PyData.tuple [.list (ns.map PyData.int),.tuple [.str "none",d1,d2,d3]]=D' at y
   cases y with
   | no j p df de dr h1 h2 =>
    simp only [PyData.tuple.injEq,List.cons.injEq,and_true,true_and] at hD
    obtain⟨rfl,rfl,rfl,rfl⟩:=hD
    exact⟨j,p,rfl,h1,h2⟩
   | j5=>simp at hD
  refine⟨λσ' H'=>zh σ' H' [some (.ref pl),some (.ref lp),some (.int k),some (.int a),some (.ref pu),some (.ref ps)] H2/\ns=[]/\∃(j:Nat) (e r:Int),d1=.int j/\d2=.int e/\d3=.int r/\j<ls.length,?_,?_⟩
  ·k_data
   refine bj tU2 fL ⟨by show 0<=sizeLine;decide,λa3 ha3=>?_⟩
   have s3:=aj (o:=.lst []) ha3
   refine⟨.list (ns.map PyData.int),.list [],⟨pe,_,rfl,tE2.same s3,dw ns⟩,dv.lst (ds:=[]) ai rfl,kR ns,rfl,Nat.le_trans (Nat.min_le_right _ _) (by decide),_,rfl,?_⟩
   rw [if_pos rfl]
   have nq:(!PyData.eqv (.list (ns.map PyData.int)) (.list []))=true↔ns≠[]:=by rw [Bool.not_eq_true',<- Bool.not_eq_true,nI]
   generalize upd H2 a3 _=H3 at *
   refine aH (λz=>q false H3 ⟨nofun,λy=>?_⟩ s3) (λz=>?_)
   ·obtain⟨j,p,_,_,N⟩:=noF y
    have:=N.2.2.1
    injection this with this
    exact absurd (List.map_eq_nil_iff.mp this) (nq.mp z)
   obtain rfl:ns=[]:=Classical.not_not.mp λy=>z (nq.mpr y)
   refine fM (tS'.same s3) λa4 H4 s4 t4=>?_
   rw [show cz [y0,y1,y2,y3] (some 1) none=[y1,y2,y3] from cE (m:=1) (by show 1<=4;decide)] at t4
   have S4:=s3.trans s4
   refine⟨.t,a4,_,[d1,d2,d3],rfl,t4,⟨_,_,rfl,dv.same S4 _ g1,_,_,rfl,dv.same S4 _ g2,.one (dv.same S4 _ g3)⟩,(by show 3<=2000000;decide),λbb H5 hb s5=>⟨bb,aO.mpr rfl,aH (λz=>q false H5 ⟨nofun,λy=>?_⟩ (S4.trans s5)) (λz=>?_)⟩⟩
   ·obtain⟨j,p,rfl,_,N⟩:=noF y
    obtain⟨_,_,_,rfl,rfl⟩:=N
    rw [hb.mpr rfl] at z
    cases z
   have S5:=S4.trans s5
   have w:=hb.mp (by simpa using z)
   simp only [List.all_cons,List.all_nil,Bool.and_true,Bool.and_eq_true] at w
   obtain⟨i,rfl⟩:=dR w.1
   obtain⟨e,rfl⟩:=dR w.2.1
   obtain⟨r,rfl⟩:=dR w.2.2
   cases g1
   refine bj (tS'.same S5) jc ⟨i,rfl,aH (λz=>q false H5 ⟨nofun,λy=>?_⟩ S5) (λi0=>bj (tS'.same S5) jc (aZ (D2.hp.same S5) ⟨i,rfl,_,rfl,aH (λz=>q false H5 ⟨nofun,λy=>?_⟩ S5) (λi1=>⟨⟨rfl,S5⟩,rfl,i.toNat,by rw [Int.toNat_of_nonneg (by omega)],e,rfl,r,rfl,by rw [List.length_map] at i1;omega⟩)⟩))⟩
   ·obtain⟨j,p,ej,_,_⟩:=noF y
    injection ej with ej
    omega
   ·obtain⟨j,p,ej,hj,_⟩:=noF y
    injection ej with ej
    have:=(List.getElem?_eq_some_iff.mp hj).1
    rw [List.length_map] at z
    omega
  rintro σ' H3 ⟨⟨rfl,s3⟩,rfl,j,e,r,rfl,rfl,rfl,jl⟩
  k_data
  cases g1
  cases g2
  cases g3
  have D3:=D2.same s3
  obtain⟨p',A,ar,h1,h2,h3,h4⟩:=D3.get jl
  have hpm:=List.mem_of_getElem? h1
  have eA:A=b6 p' k a p'.toNat:=by
   unfold dO at h2
   rw [List.getElem?_map,h1] at h2
   cases h2
   rfl
  subst eA
  obtain⟨b1,b2⟩:=D.b p' hpm
  have noI:RO ls k a (.tuple [.list [],.tuple [.str "none",.int j,.int e,.int r]])↔b6 p' k a p'.toNat=[]/\e=gJ k p'/\r=a^(gJ k p').toNat%p':=by
   rw [<- vQ (hP6.prs.1 p' hpm) (hP6.six p' hpm) k0]
   constructor
   ·intro y
    obtain⟨j',p2,ej,hj,N⟩:=noF y
    injection ej with ej
    obtain rfl:j=j':=by omega
    rw [h1] at hj
    cases hj
    exact N
   ·exact λN=>.no j p' _ _ _ h1 N
  refine bj (tS'.same s3) jc ⟨lp,us,_,_,rfl,rfl,D3.hl,bF h3,by show 0<=sizeLine;decide,λa4 ha4=>?_⟩
  have s4:=aj (o:=.lst []) ha4
  refine⟨.list ((b6 p' k a p'.toNat).map PyData.int),.list [],⟨ar,_,rfl,h4.same s4,dw _⟩,dv.lst (ds:=[]) ai rfl,kR _,rfl,Nat.le_trans (Nat.min_le_right _ _) (by decide),_,rfl,?_⟩
  rw [if_neg (show ¬false=true by decide)]
  generalize upd H3 a4 _=H4 at *
  have S4:=s3.trans s4
  refine aH (λz=>?_) (λz=>q false H4 ⟨nofun,λy=>absurd (nI.mpr (noI.mp y).1) z⟩ S4)
  have z:=nI.mp z
  refine bj (tS'.same S4) jc ⟨pl,_,_,_,rfl,rfl,D2.hp.same S4,bF (by rw [List.getElem?_map,h1];rfl),bj (tS'.same S4) jc ⟨p',j,k,a,rfl,b1,by omega,k0,λt H5 s5 t5=>?_⟩⟩
  refine⟨.tuple [.str "none",.int j,.int e,.int r],.tuple [.str "none",.int j,.int (gJ k p'),.int (a^(gJ k p').toNat%p')],dv.same (S4.trans s5) _ hss0,⟨t,_,rfl,t5,_,_,rfl,rfl,_,_,rfl,rfl,_,_,rfl,rfl,.one rfl⟩,lays,ft λd hd=>by simp only [List.mem_cons,List.not_mem_nil,or_false] at hd;rcases hd with rfl | rfl | rfl | rfl<;>first | rfl | decide +kernel,Nat.le_trans (Nat.min_le_right _ _) (by simp only [PyData.depth,PyData.depthAll];omega),q _ H5 ?_ (S4.trans s5)⟩
  rw [if_neg (show ¬false=true by decide),DH]
  exact Iff.trans ⟨λy=>⟨z,y.2⟩,λy=>⟨rfl,y.2⟩⟩ noI.symm
 rintro σ' H3 ⟨⟨rfl,s3⟩,nn⟩
 k_data
 have D3:=D2.same s3
 have S23:=s2
 obtain⟨tS3,hss3⟩:aY K H3 ps zs/\bo K H3 ss zs:=⟨tS.same s3,bo.same s3 _ hss⟩
 have tU3:=tU2.same s3
 have tE3:=tE2.same s3
 replace q:∀ bb H',(bb=true↔RO ls k a (.tuple [.list (ns.map PyData.int),.tuple ss]))->aE H3 H'->Q (.bl bb) H':=λbb H' h s=>q bb H' h (s3.trans s)
 have S3:=aE.refl H3
 have byF:RO ls k a (.tuple [.list (ns.map PyData.int),.tuple ss])->∃ rows:List PyData,ss=[.str "by",.tuple rows]/\rows.length=ls.length/\AR ls k a ns/\∀(i:Nat) p row,ls[i]?=some p->rows[i]?=some row->fK p k a ns row:=λy=>by
  obtain⟨rs,rows,e1,e2,h1,h2,h3⟩:=y.Az λi e r z=>by
   injection z with z
   exact nn _ _ _ z
  injection e1 with e1
  obtain rfl:=dD e1
  injection e2 with e2
  exact⟨rows,e2,h1,h2,h3⟩
 refine⟨λσ' H'=>zh σ' H' [some (.ref pl),some (.ref lp),some (.int k),some (.int a),some (.ref pu),some (.ref ps)] H3/\∃ rows:List PyData,ss=[.str "by",.tuple rows]/\rows.length=ls.length,?_,?_⟩
 ·k_data
  refine dj tS3 ⟨rfl,aH (λz=>q false H3 ⟨nofun,λy=>?_⟩ S3) (λz=>?_)⟩
  ·obtain⟨rows,e,_⟩:=byF y
   rw [e] at zl
   exact absurd (congrArg V.int (by rw [zl];rfl)) z
  have l2:ss.length=2:=by
   have:=V.int.inj (Classical.not_not.mp z)
   omega
  obtain⟨s0,s1',rfl⟩:∃ a b,ss=[a,b]:=by
   match ss,l2 with
   | [a,b],_=>exact⟨a,b,rfl⟩
  obtain⟨y0,r,rfl,g0,y1,r,rfl,g1,z⟩:=hss3
  cases z
  refine bj tS3 fL (iI g0 (layS s0 (by simp)) (by decide +kernel) λc hc=>⟨_,rfl,aH (λz=>q false H3 ⟨nofun,λy=>?_⟩ S3) (λz=>?_)⟩)
  ·obtain⟨rows,e,_⟩:=byF y
   injection e with e
   exact absurd e (hc.mp z)
  obtain rfl:s0=.str "by":=Classical.not_not.mp λy=>z (hc.mpr y)
  refine bj tS3 jc (cT g1 ⟨_,aO.mpr rfl,aH (λz=>q false H3 ⟨nofun,λy=>?_⟩ S3) (λz=>?_)⟩)
  ·obtain⟨rows,e,_⟩:=byF y
   injection e with _ e
   injection e with e
   rw [e] at z
   cases z
  obtain⟨rows,rfl⟩:=iG (by simpa using z)
  obtain⟨pr,rv,rfl,tR,hrv⟩:=g1
  have rl:=hrv.length
  refine bj tS3 jc (dj tR (aZ D3.hp ⟨rfl,aH (λz=>q false H3 ⟨nofun,λy=>?_⟩ S3) (λz=>⟨⟨rfl,S3⟩,rows,rfl,?_⟩)⟩))
  ·obtain⟨rows',e,e2,_⟩:=byF y
   injection e with _ e
   injection e with e
   injection e with e
   subst e
   rw [List.length_map] at z
   exact absurd (congrArg V.int (by omega)) z
  ·have:=V.int.inj (Classical.not_not.mp z)
   rw [List.length_map] at this
   omega
 rintro σ' H4 ⟨⟨rfl,s4⟩,rows,rfl,rl⟩
 k_data
 have D4:=D3.same s4
 have tS4:=tS3.same s4
 have tU4:=tU3.same s4
 have tE4:=tE3.same s4
 replace q:∀ bb H',(bb=true↔RO ls k a (.tuple [.list (ns.map PyData.int),.tuple [.str "by",.tuple rows]]))->aE H4 H'->Q (.bl bb) H':=λbb H' h s=>q bb H' h (s4.trans s)
 replace byF:RO ls k a (.tuple [.list (ns.map PyData.int),.tuple [.str "by",.tuple rows]])->AR ls k a ns/\∀(i:Nat) p row,ls[i]?=some p->rows[i]?=some row->fK p k a ns row:=λy=>by
  obtain⟨rows',e,_,h2,h3⟩:=byF y
  injection e with _ e
  injection e with e
  injection e with e
  subst e
  exact⟨h2,h3⟩
 have hss4:=bo.same s4 _ hss3
 refine⟨λσ' H'=>zh σ' H' [some (.ref pl),some (.ref lp),some (.int k),some (.int a),some (.ref pu),some (.ref ps)] H4/\[]∉dO ls k a/\ns=dU ls (dO ls k a),?_,?_⟩
 ·k_data
  refine⟨by show 0<=sizeLine;decide,λa1 ha1=>?_⟩
  have s5:=aj (o:=.lst []) ha1
  have e5:upd H4 a1 (.lst []) a1=some (.lst []):=ai
  generalize upd H4 a1 _=H5 at *
  have D5:=D4.same s5
  refine⟨.list [],rT (dO ls k a),dv.lst (ds:=[]) e5 rfl,⟨lp,us,rfl,D5.hl,D5.ds⟩,rfl,ft λd hd=>by obtain⟨A,_,rfl⟩:=List.mem_map.mp hd;exact kR A,by decide,_,rfl,?_⟩
  rw [if_neg (show ¬false=true by decide)]
  refine aH (λc=>?_) (λc=>?_)
  ·exact q false H5 ⟨nofun,λy=>absurd rfl (BM hP6 k0 (byF y).1 _ (any_nil.mp c))⟩ s5
  have nA:[]∉dO ls k a:=λz=>c (any_nil.mpr z)
  refine bj (tU4.same s5) fL ⟨pl,lp,us,ls,_,rfl,D5,λpa H6 s6 _ e6=>?_⟩
  refine⟨.list (ns.map PyData.int),.list ((dU ls (dO ls k a)).map PyData.int),⟨pe,_,rfl,tE4.same (s5.trans s6),dw ns⟩,⟨pa,_,rfl,aS.of e6,dw _⟩,kR ns,kR _,Nat.le_trans (Nat.min_le_left _ _) (Aq ns),_,rfl,?_⟩
  rw [if_pos rfl]
  refine aH (λz=>q false H6 ⟨nofun,λy=>?_⟩ (s5.trans s6)) (λz=>⟨⟨rfl,s5.trans s6⟩,nA,?_⟩)
  ·rw [oV.mpr ((uM hP6 k0 (λA hA e=>nA (e▸hA)) km).mp (byF y).1)] at z
   cases z
  ·exact oV.mp (by simpa using z)
 rintro σ' H5 ⟨⟨rfl,s5⟩,nA,rfl⟩
 k_data
 have nAs:∀ A∈dO ls k a,A≠[]:=λA hA e=>nA (e▸hA)
 have tS5:=tS4.same s5
 obtain⟨y0,r,rfl,_,y1,r,rfl,⟨pr,rv,rfl,tR,hrv⟩,z⟩:=bo.same s5 _ hss4
 cases z
 have D5:=D4.same s5
 have grows:∀ row∈rows,gd row/\c6 row<=2000000:=λrow hr=>by
  have g:=gsh.1
  have z:=gsh.2
  simp only [gd,fP,and_true] at g
  simp only [c6,bJ] at z
  have:=tsz (ds:=rows) (by omega) row hr
  exact⟨dQ.mp g.2 row hr,by omega⟩
 refine aZ D5.hp ⟨_,rfl,by rw [List.length_map];omega,by rw [List.length_map];omega,?_⟩
 rw [Int.toNat_natCast,List.length_map]
 refine cD (λi ys H'=>aE H5 H'/\ys.length<=i/\(ys.length=0↔∀ j,j<i->∀ p row,ls[j]?=some p->rows[j]?=some row->lT p k a row)) ⟨aE.refl _,Nat.le_refl _,by simp⟩ (Nat.le_trans (show ls.length<=3 from l3) (by decide)) (λi ys H' hi h=>h.2.1) ?_ ?_
 ·rintro i ys H2 hi ⟨s6,yl,f1⟩
  have D6:=D5.same s6
  obtain⟨p',A,r,g1,g2,g3,g4⟩:=D6.get hi
  have hpm:=List.mem_of_getElem? g1
  have eA:A=b6 p' k a p'.toNat:=by
   unfold dO at g2
   rw [List.getElem?_map,g1] at g2
   cases g2
   rfl
  subst eA
  obtain⟨x,hx1⟩:∃ x,rv[i]?=some x:=⟨_,List.getElem?_eq_getElem (show i<rv.length by rw [hrv.length];omega)⟩
  obtain⟨row,hrow,hx2⟩:=(bo.same s6 _ hrv).get hx1
  obtain⟨gr,zr⟩:=grows row (List.mem_of_getElem? hrow)
  show cK 0 _ [none,some (.int a),some (.ref pl),some (.ref lp),some (.ref ps)] _ _
  k_data
  refine⟨⟨rfl,rfl,rfl,rfl,trivial⟩,pl,_,_,_,rfl,rfl,D6.hp,bF (by rw [List.getElem?_map,g1];rfl),lp,us,_,_,rfl,rfl,D6.hl,bF g3,bj (tS5.same s6) jc (bj (tR.same s6) (bF hx1) ⟨p',k,a,r,x,row,rfl,hP6.prs.1 p' hpm,hP6.six p' hpm,g4,nAs _ (List.mem_of_getElem? g2),hx2,gr,zr,λbb H7 hb s7=>⟨bb,aO.mpr rfl,?_⟩⟩)⟩
  have nxt:(∀ j,j<i+1->∀ p row,ls[j]?=some p->rows[j]?=some row->lT p k a row)↔(∀ j,j<i->∀ p row,ls[j]?=some p->rows[j]?=some row->lT p k a row)/\lT p' k a row:=by
   constructor
   ·exact λh=>⟨λj jl=>h j (by omega),h i (by omega) _ _ g1 hrow⟩
   ·rintro⟨h1,h2⟩ j jl p2 row2 e1 e2
    rcases (by omega:j<i∨j=i) with c | rfl
    ·exact h1 j c _ _ e1 e2
    ·rw [g1] at e1
     rw [hrow] at e2
     cases e1
     cases e2
     exact h2
  cases bb
  ·refine⟨s6.trans s7,by simp;omega,by rw [nxt];simp;exact λ_ y=>absurd (hb.mpr y) (by decide)⟩
  ·exact⟨s6.trans s7,by omega,by rw [nxt,f1];exact⟨λy=>⟨y,hb.mp rfl⟩,λy=>y.1⟩⟩
 rintro ys H6 p6 ⟨s6,yl,f1⟩ hp6
 refine aZ (aS.of ai) ⟨rfl,q _ _ ?_ (s5.trans (s6.trans (aj hp6)))⟩
 rw [decide_eq_true_eq]
 have f2:(∀ j,j<ls.length->∀ p row,ls[j]?=some p->rows[j]?=some row->lT p k a row)↔RO ls k a (.tuple [.list ((dU ls (dO ls k a)).map PyData.int),.tuple [.str "by",.tuple rows]]):=by
  constructor
  ·exact λh=>.j5 _ rows rl ((uM hP6 k0 nAs km).mpr rfl) λi p row e1 e2=>(qb hP6 k0 nAs (List.mem_of_getElem? e1)).mpr (h i (List.getElem?_eq_some_iff.mp e1).1 p row e1 e2)
  ·exact λy j _ p row e1 e2=>(qb hP6 k0 nAs (List.mem_of_getElem? e1)).mp ((byF y).2 j p row e1 e2)
 rw [<- f2,<- f1]
 exact⟨λz=>by have:=V.int.inj z;omega,λz=>congrArg V.int (by omega)⟩
def pY (K:PySem.W.Frag):Sp:=λvs H Q _=>∃(u:V) (d:PyData) (m:Nat),vs=[u,.int m]/\fH K H d u/\BJ d/\m<=3/\∀ v H',bK K 4 H' v->aE H H'->Q v H'
theorem gj:aC ["_law_thing","_law_many","_law_found","_law_shown"] ["_law_thing","_law_many"] (ao (top 65)):=c7
theorem um (D:aA K mg "_law_turned" (top 65)):Callee P w K mg base aV 1 "_law_turned" ["_law_thing","_law_many"] (pY K):=by
 refine cO D gj (λf cdv A outer s H vs Q E hr h=>?_)
 obtain⟨u,d,m,rfl,hu,⟨ns,sh,rfl,n4,nb,hM⟩,m3,q⟩:=h
 have nd:=gj.nd
 refine⟨_,(ag (fz (pv 0) (ie (n:=2) rfl (bc (aF (i:=2) nd rfl (Or.inl rfl) (.inr rfl)) (bc (aF (i:=3) nd rfl (Or.inl rfl) (.inr rfl)) cW)))) (ag (bf (aQ (ax (eT hr.units) (aB aI (pv 3) af (λ_ _=>rfl)) aT (aq _)) (ak (au (aR (aa (pv 2) (aa (aw dt (aR (aa aT (aa (aw cq (aw cq (pv 1) af) (aB aI (pv 3) af (λ_ _=>rfl))) ae))) (aK cJ (pv 3) (aN af) aW)) ae))))) aD)) (ak (au (aR (aa (pv 2) (aa (aR (aa aT (aa (sy (aB aI (pv 3) af (λ_ _=>rfl)) (aN (eZ dc af))) ae))) ae))))))),?_⟩
 show b9 _ _ _ [some u,some (.int m),none,none] H
 obtain⟨pu,us,rfl,tU,xv,r,rfl,f1,sv,r,rfl,f2,z⟩:=hu
 cases z
 have Gls:GL 3 (.list (ns.map PyData.int)):=(GL.seq (l:=0) (by decide) (by rw [List.length_map];show _*102+3<=300000;omega) λd hd=>by
  obtain⟨n,hn,rfl⟩:=List.mem_map.mp hd
  have:=nb n hn
  exact .int (by omega) (by omega)).1
 have v1:bK K 3 H xv:=⟨_,f1,Gls⟩
 have fin:∀{H2:Hp} {p2:Addr} {y:V},aE H H2->H2 p2=none->bK K 3 H2 y->Q (.ref p2) (upd H2 p2 (.tup [xv,y])):=λ{H2 p2 y} s h g=>by
  have s1:=aj (o:=.tup [xv,y]) h
  exact q _ _ (nZ (aY.of ai) (by simp) (.cons (v1.same (s.trans s1)) (.cons (g.same s1) .nil))) (s.trans s1)
 cases hM with
 | no i e r' hi he hr' =>
  obtain⟨ps,ys,rfl,tS,y0,r,rfl,g0,y1,r,rfl,g1,y2,r,rfl,g2,y3,r,rfl,g3,z⟩:=f2
  cases z
  cases g0
  cases g1
  cases g2
  cases g3
  k_data
  refine⟨pu,_,rfl,tU,rfl,?_⟩
  k_data
  refine⟨_,?_,λ_ _ z=>z⟩
  k_data
  refine bj tS fL (iC (d:=.str "none") rfl (by decide +kernel) (by decide +kernel) λc hc=>⟨_,rfl,?_⟩)
  rw [if_pos (hc.mpr rfl)]
  refine bj tS jc ⟨i,rfl,?_⟩
  refine⟨by show 2<=sizeLine;decide,λp1 hp1=>?_⟩
  have s1:=aj (o:=.tup [V.str "none",V.int ((m:Int)-1-i)]) hp1
  have e1:upd H p1 (.tup [V.str "none",V.int ((m:Int)-1-i)]) p1=some (.tup [V.str "none",V.int ((m:Int)-1-i)]):=ai
  generalize upd H p1 _=H1 at *
  refine fM (tS.same s1) λp2 H2 s2 t2=>?_
  rw [show cz [V.str "none",V.int (i:Int),V.int (e:Int),V.int (r':Int)] (some 2) none=[V.int (e:Int),V.int (r':Int)] from cE (m:=2) (by show 2<=4;decide)] at t2
  refine⟨p1,p2,_,_,rfl,rfl,aY.of (s2 _ _ e1),t2,by show 4<=sizeLine;decide,λp3 H3 s3 t3=>⟨by show 2<=sizeLine;decide,λp4 hp4=>?_⟩⟩
  exact fin ((s1.trans s2).trans s3) hp4 (j8 t3 (by show 4<=9;decide) (.cons ((bK.str (by decide +kernel) (by decide +kernel)).up (by decide)) (.cons ((bK.int (by omega) (by omega)).up (by decide)) (.cons ((bK.int (by omega) (by omega)).up (by decide)) (.cons ((bK.int (by omega) (by omega)).up (by decide)) .nil)))))
 | j5 rows h1 h2 h3 =>
  obtain⟨ps,ys,rfl,tS,y0,r,rfl,g0,y1,r,rfl,⟨pr,rv,rfl,tR,hrv⟩,z⟩:=f2
  cases z
  cases g0
  have grv:bz K 1 H rv:=jw hrv λd hd=>iP (h3 d hd)
  have rl:=hrv.bo.length
  k_data
  refine⟨pu,_,rfl,tU,rfl,?_⟩
  k_data
  refine⟨_,?_,λ_ _ z=>z⟩
  k_data
  refine bj tS fL (iC (d:=.str "by") rfl (by decide +kernel) (by decide +kernel) λc hc=>⟨_,rfl,?_⟩)
  rw [if_neg λz=>absurd (hc.mp z) (zV (by decide))]
  unfold xk
  k_data
  refine bj tS jc ⟨pr,rfl,rv,tR,λp1 hp1=>⟨by show 2<=sizeLine;decide,λp2 hp2=>⟨by show 2<=sizeLine;decide,λp3 hp3=>?_⟩⟩⟩
  have s1:=aj (o:=.tup rv.reverse) hp1
  have g1:bK K 2 (upd H p1 (.tup rv.reverse)) (.ref p1):=bK.tup (l:=1) (aY.of ai) (by decide) (by rw [List.length_reverse];show _*1002+3<=10000;omega) λy hy=>grv.same s1 y (List.mem_reverse.mp hy)
  generalize upd H p1 _=H1 at *
  have s2:=aj (o:=.tup [V.str "by",V.ref p1]) hp2
  have g2:bK K 3 (upd H1 p2 (.tup [V.str "by",V.ref p1])) (.ref p2):=j8 (aY.of ai) (by simp) (.cons ((bK.str (by decide +kernel) (by decide +kernel)).up (by decide)) (.cons (g1.same s2) .nil))
  generalize upd H1 p2 _=H2 at *
  exact fin (s1.trans s2) hp3 g2
def C5 (K:PySem.W.Frag) (H:Hp) (ls:List Int) (i:Nat) (ys:List V) (H':Hp):Prop:=aE H H'/\∃ ds:List PyData,bo K H' ds ys/\ds.length=i/\∀(j:Nat) p d,ls[j]?=some p->ds[j]?=some d->Num.cR p d
theorem C5.snoc {H H' H2:Hp} {ls:List Int} {i:Nat} {ys:List V} {p:Int} {d:PyData} {v:V} (h:C5 K H ls i ys H') (s:aE H' H2) (hp:ls[i]?=some p) (hF:Num.cR p d) (hv:dv K H2 d v):C5 K H ls (i+1) (ys++[v]) H2:=by
 obtain⟨s1,ds,h1,rfl,h3⟩:=h
 refine⟨s1.trans s,ds++[d],(bo.same s _ h1).append (.one hv),by simp,λj p' d' e1 e2=>?_⟩
 rcases (by
  have:=(List.getElem?_eq_some_iff.mp e2).1
  rw [List.length_append,List.length_singleton] at this
  omega:j<ds.length∨j=ds.length) with c | rfl
 ·rw [List.getElem?_append_left c] at e2
  exact h3 j _ _ e1 e2
 ·rw [List.getElem?_concat_length] at e2
  rw [hp] at e1
  cases e1
  cases e2
  exact hF
def qU (p a:Int):PyData:=if a%p=0 then .tuple [.str "nought"] else fh (a%p) 1
theorem DI (p:Int):gc 1 p=1:=Nat.gcd_one_left _
theorem Ek (a p:Int):hm 1 a p=1:=by
 unfold hm
 rw [DI]
 split<;>rfl
theorem Bf {ls:List Int} {a:Int} (h:∀ p∈ls,2<=p) (dv:∀ p∈ls,p∣aL ls):RO ls 1 a (.tuple [.list ([a%aL ls].map PyData.int),.tuple [.str "by",.tuple (ls.map λp=>qU p a)]]):=by
 have w0:0<aL ls:=by
  have key:∀ l:List Int,(∀ p∈l,2<=p)->0<aL l:=λl=>by
   induction l with
   | nil=>exact λ_=>Int.one_pos
   | cons x l ih=>exact λh=>Int.mul_pos (by have:=h x (by simp);omega) (ih λp hp=>h p (List.mem_cons_of_mem _ hp))
  exact key ls h
 have em:∀ p∈ls,a%aL ls%p=a%p:=λp hp=>Int.emod_emod_of_dvd a (dv p hp)
 refine .j5 _ _ (List.length_map _) ⟨?_,by simp,by simp,λr hr=>?_,λp hp r hr=>?_⟩ λi p row e1 e2=>?_
 ·have key:∀ l:List Int,aL (l.map (hm 1 a))=1:=λl=>by
   induction l with
   | nil=>rfl
   | cons x l ih=>show hm 1 a x*aL (l.map (hm 1 a))=1;rw [Ek,ih];rfl
  rw [key]
  rfl
 ·rw [List.mem_singleton.mp hr]
  exact⟨Int.emod_nonneg _ (by omega),Int.emod_lt_of_pos _ w0⟩
 ·rw [List.mem_singleton.mp hr,Num.Al.iff,<- em p hp]
  rw [Int.toNat_one,Int.pow_succ,Int.pow_zero,Int.one_mul]
 ·rw [List.getElem?_map,e1] at e2
  obtain rfl:=Option.some.inj e2
  have hp:=List.mem_of_getElem? e1
  by_cases c:a%p=0
  ·exact .inl ⟨Int.dvd_of_emod_eq_zero c,if_pos c⟩
  ·refine .inr ⟨λz=>c (Int.emod_eq_zero_of_dvd z),a%p,1,by simp [em p hp],λx hx=>?_,by omega,by have:=h p hp;omega,⟨by rw [DI];omega,Num.Al.iff.mpr (by rw [Int.one_pow]),λj _=>by rw [DI];exact Nat.one_dvd j⟩,if_neg c⟩
   obtain⟨r,hr,rfl⟩:=List.mem_map.mp hx
   rw [List.mem_singleton.mp hr,em p hp]
   exact Int.le_refl _
def uw (p a:Int):List V:=if a%p=0 then [.str "nought"] else [.str "turned",.int (a%p),.int 1]
def sZ (K:PySem.W.Frag) (H:Hp) (a:Int):List Int->List V->Prop
 | [],ys=>ys=[]
 | p::ps,ys=>∃ t r,ys=.ref t::r/\aY K H t (uw p a)/\sZ K H a ps r
theorem sZ.keep {H H':Hp} {a:Int} (k:∀ a xs,aY K H a xs->aY K H' a xs):∀{ps:List Int} {ys:List V},sZ K H a ps ys->sZ K H' a ps ys
 | [],_,h=>h
 | _::_,_,⟨t,r,e,h1,h2⟩=>⟨t,r,e,k _ _ h1,h2.keep k⟩
theorem sZ.snoc {H:Hp} {a p:Int} {t:Addr} (ht:aY K H t (uw p a)):∀{ps:List Int} {ys:List V},sZ K H a ps ys->sZ K H a (ps++[p]) (ys++[.ref t])
 | [],_,h=>by subst h;exact⟨t,[],rfl,ht,rfl⟩
 | _::_,_,⟨t',r,e,h1,h2⟩=>by subst e;exact⟨t',_,rfl,h1,h2.snoc ht⟩
theorem sZ.len {H:Hp} {a:Int}:∀{ps:List Int} {ys:List V},sZ K H a ps ys->ys.length=ps.length
 | [],_,h=>by subst h;rfl
 | _::_,_,⟨t,r,e,_,h2⟩=>by subst e;rw [List.length_cons,List.length_cons,h2.len]
theorem sZ.cw {H:Hp} {a:Int}:∀{ps:List Int} {ys:List V},sZ K H a ps ys->cw K H (ps.map λp=>qU p a) ys
 | [],_,h=>h
 | p::ps,_,⟨t,r,e,h1,h2⟩=>by
  refine⟨_,r,e,?_,h2.cw⟩
  show fH K H (qU p a) _
  unfold qU uw at *
  by_cases c:a%p=0
  ·rw [if_pos c] at h1 ⊢
   exact⟨t,_,rfl,h1,_,_,rfl,rfl,rfl⟩
  ·rw [if_neg c] at h1 ⊢
   exact⟨t,_,rfl,h1,_,_,rfl,rfl,_,_,rfl,rfl,_,_,rfl,rfl,rfl⟩
def BB (K:PySem.W.Frag) (ls:List Int) (a:Int) (m:Nat) (pl pr:Addr) (H:Hp) (i:Nat) (σ':L2.St) (H':Hp):Prop:=aE H H'/\∃(ys:List V) (o:Option V),σ'=[some (.int a),some (.int m),some (.ref pl),some (.int (aL (ls.take i))),some (.ref pr),o,none]/\H' pr=some (.lst ys)/\sZ K H' a (ls.take i) ys
def zT (K:PySem.W.Frag):Sp:=λvs H Q _=>∃(a:Int) (m:Nat),vs=[.int a,.int m] /\ -(10^90)<=a/\a<=10^90/\(m=5∨m=6)/\∀ H',aE H H'->Q (.bl (decide (m=5))) H'
theorem fY:aC ["_law_a","_law_many","_law_primes_here","_law_whole","_law_rows","_law_p","_law_papers"] ["_law_a","_law_many"] (ao (top 66)):=c7
theorem AV (D:aA K mg "_law_by_six" (top 66)) (c__law_paper:Callee P w K mg base aV 32 "_law_paper" ["_law_p","_law_at"] (jF K)) (c_shows_roots_of:Callee P w K mg base aV 18 "shows_roots_of" ["papers","k","a","thing"] (Bh K)) (n_int:mg "int"=none) (n_tuple:mg "tuple"=none):Callee P w K mg base aV 33 "_law_by_six" ["_law_a","_law_many"] (zT K):=by
 refine cO D fY (λf cdv A outer s H vs Q E hr h=>?_)
 obtain⟨a,m,rfl,a0,a1,hm,q⟩:=h
 have nd:=fY.nd
 refine⟨_,(ag (cp (i:=2) nd (aK bI (aX (sj (.c (.c (.c (.c (.c (.c .n)))))))) aW (aN (pv 1)))) (ag (cp (i:=3) nd af) (ag (cp (i:=4) nd (aX ae)) (ag (dZ PassesOwn.never rfl (bP (pv 2)) (aF (i:=5) nd rfl (Or.inl rfl) (.inr rfl)) (ag (cp (i:=3) nd (aw bU (pv 3) (pv 5))) (ak (gO (mJ PySem.F.plainAttrs_list PySem.F.slot_list_append PySem.F.type_list_append eY (pv 4) (aa (aB aP (aX (aa (aR (aa aT (aa (aw aU (pv 0) (pv 5)) (aa af ae)))) (aa (aR (aa aT ae)) ae))) (bp mv rfl n_int L2.boot_int (aa (bh ba (aw aU (pv 0) (pv 5)) af (aq _)) ae)) (λ_ _=>rfl)) ae)))))) (ag (fA (i0:=6) nd rfl (Or.inl rfl) rfl (jO (N':=["_law_p"]) (js:=[none]) rfl rfl) (bP (pv 2)) (λ_ _ _ _=>(aF (i:=0) (show List.Nodup [("_law_p":Str)] from by decide +kernel) rfl (Or.inl rfl) (.inr rfl))) (λ_ _ _ _=>bD) (λ_ _ _ _=>(br c__law_paper hr ay (aa (pv 0) (aa af ae)))) (by rfl) (by first | exact .inl rfl | exact .inr rfl)) (ak (au (br c_shows_roots_of hr ay (aa (pv 6) (aa af (aa (pv 0) (aa (aR (aa (aX (aa (aw aU (pv 0) (pv 3)) ae)) (aa (aR (aa aT (aa (bp bH rfl n_tuple L2.boot_tuple (aa (pv 4) ae)) ae))) ae))) ae)))))))))))),?_⟩
 show b9 _ _ _ [some (.int a),some (.int m),none,none,none,none,none] H
 k_data
 refine⟨by show 6<=sizeLine;decide,λa1 ha1=>?_⟩
 have s1:=aj (o:=.lst [V.int 2,V.int 3,V.int 5,V.int 7,V.int 11,V.int 13]) ha1
 have e1:upd H a1 (.lst [V.int 2,V.int 3,V.int 5,V.int 7,V.int 11,V.int 13]) a1=some (.lst (([2,3,5,7,11,13]:List Int).map V.int)):=ai
 generalize upd H a1 _=J1 at *
 refine fk (aS.of e1) λa2 J2 s2 e2=>⟨by show 0<=sizeLine;decide,λa3 ha3=>?_⟩
 have m6:m<=6:=by omega
 rw [du (by show m<=6;omega),<- List.map_take] at e2
 generalize hls:([2,3,5,7,11,13]:List Int).take m=ls at *
 have ll:ls.length=m:=by rw [<- hls,List.length_take];show min m 6=m;omega
 have hmem:∀ p∈ls,Num.Pm p/\2<=p/\p<=13:=λp hp=>by
  rw [<- hls] at hp
  have hp:=List.mem_of_mem_take hp
  have:=(zK (v:=.int p) (by simpa using hp))
  obtain⟨q,e,pm,_⟩:=this
  cases e
  simp only [List.mem_cons,List.not_mem_nil,or_false] at hp
  exact⟨pm,by omega⟩
 have pb:∀ i,0<aL (ls.take i)/\aL (ls.take i)<=13^6:=λi=>by
  obtain⟨h1,h2⟩:=dF (B:=13) (by decide) (l:=ls.take i) λx hx=>by
   have:=hmem x (List.mem_of_mem_take hx)
   omega
  exact⟨h1,Int.le_trans h2 ((by decide:∀ n:Nat,n<=6->(13:Int)^n<=13^6) _ (by rw [List.length_take];omega))⟩
 have hS2:=aS.of (K:=K) e2
 have s3:=aj (o:=.lst []) ha3
 refine⟨a2,rfl,⟨_,hS2.same s3⟩,dS (xs:=ls.map V.int) (λi σ' H'=>BB K ls a m a2 a3 J2 i σ' H') ⟨s3,[],none,rfl,ai,rfl⟩ (λi σ' H' _ h=>hS2.same h.1) ?_ ?_⟩
 ·rintro i x σ' H1 hx ⟨t1,ys,o,rfl,f1,hy⟩
  rw [List.getElem?_map] at hx
  obtain⟨p,hp,rfl⟩:=Option.map_eq_some_iff.mp hx
  obtain⟨pm,p2,p13⟩:=hmem p (List.mem_of_getElem? hp)
  have pi:=pb i
  have yl:ys.length<=6:=by rw [hy.len,List.length_take];omega
  k_data
  refine⟨.of (by omega) (by omega),.of (by omega) (by omega),.inl ⟨rfl,_,aS.of f1⟩,by omega,by show 3<=sizeLine;decide,λb1 hb1=>⟨by show 1<=sizeLine;decide,λb2 hb2=>⟨by show 2<=sizeLine;decide,λb3 hb3=>⟨by omega,.inr ?_⟩⟩⟩⟩
  have u1:=aj (o:=.tup [V.str "turned",V.int (a%p),V.int 1]) hb1
  have g1:upd H1 b1 (.tup [V.str "turned",V.int (a%p),V.int 1]) b1=some (.tup [V.str "turned",V.int (a%p),V.int 1]):=ai
  generalize upd H1 b1 _=G1 at *
  have u2:=aj (o:=.tup [V.str "nought"]) hb2
  have g2:upd G1 b2 (.tup [V.str "nought"]) b2=some (.tup [V.str "nought"]):=ai
  generalize upd G1 b2 _=G2 at *
  have u3:=aj (o:=.lst [V.ref b1,V.ref b2]) hb3
  have g3:upd G2 b3 (.lst [V.ref b1,V.ref b2]) b3=some (.lst [V.ref b1,V.ref b2]):=ai
  generalize upd G2 b3 _=G3 at *
  have U:=(u1.trans u2).trans u3
  have f3:=U _ _ f1
  have fin:∀ t,aY K G3 t (uw p a)->nR (V.ref a3) [V.ref t] G3 λx H1=>BB K ls a m a2 a3 J2 (i+1) [some (V.int a),some (V.int ↑m),some (V.ref a2),some (V.int (aL (ls.take i)*p)),some (V.ref a3),some (V.int p),none] H1:=λt ht=>by
   have kS:∀ a xs,aY K G3 a xs->aY K (upd G3 a3 (.lst (ys++[.ref t]))) a xs:=λa xs h=>h.dB (eX f3)
   refine⟨a3,ys,_,rfl,rfl,f3,Nat.lt_of_le_of_lt yl (by decide),λb o e=>?_,ys++[.ref t],some (V.int p),?_,ai,?_⟩
   ·rw [aJ (λz=>by rw [z,ha3] at e;cases e)]
    exact U _ _ (t1 _ _ e)
   ·rw [List.take_add_one,hp]
    show _=[_,_,_,some (V.int (aL (ls.take i++[p]))),_,_,_]
    rw [fw]
   ·rw [List.take_add_one,hp]
    exact sZ.snoc (kS _ _ ht) ((hy.keep λ_ _ h=>h.same U).keep kS)
  by_cases c:a%p=0
  ·rw [if_pos c]
   exact⟨b3,_,1,_,rfl,rfl,aS.of g3,jc,fin b2 (by unfold uw;rw [if_pos c];exact aY.of (u3 _ _ g2))⟩
  ·rw [if_neg c]
   exact⟨b3,_,0,_,rfl,rfl,aS.of g3,fL,fin b1 (by unfold uw;rw [if_neg c];exact aY.of (u3 _ _ (u2 _ _ g1)))⟩
 ·rintro σ' H1 ⟨t1,ys,o,rfl,f1,hy⟩
  rw [List.length_map,List.take_length] at hy ⊢
  have pl:=pb ls.length
  rw [List.take_length] at pl
  k_data
  refine⟨⟨_,hS2.same t1⟩,bQ (xs:=ls.map V.int) (λi ys H'=>C5 K H1 ls i ys H') ⟨aE.refl _,[],rfl,rfl,λj p d _ h=>by cases h⟩ (by rw [List.length_map,ll];exact Nat.le_trans m6 (by decide)) (λi ys H' _ h=>⟨(hS2.same t1).same h.1,by obtain⟨_,ds,h1,h2,_⟩:=h;rw [h1.length,h2];exact Nat.le_refl _⟩) ?_ ?_⟩
  ·rintro i x ys H3 hx hZ
   rw [List.getElem?_map] at hx
   obtain⟨n,hn,rfl⟩:=Option.map_eq_some_iff.mp hx
   obtain⟨pm,n2,n13⟩:=hmem n (List.mem_of_getElem? hn)
   show cK 0 _ [none] _ _
   k_data
   exact⟨trivial,n,0,rfl,pm,by omega,by decide,by decide,λd v H4 hF s4 hv=>hZ.snoc s4 hn hF hv⟩
  rintro vs H3 a4 ⟨t3,ds,hds,dl,hF⟩ ha4
  rw [List.length_map] at dl
  have F:mU ls ds:=⟨dl,hF⟩
  have s4:=aj (o:=.lst vs) ha4
  have e4:upd H3 a4 (.lst vs) a4=some (.lst vs):=ai
  generalize upd H3 a4 _=H4 at *
  refine⟨by omega,by show 1<=sizeLine;decide,λa5 ha5=>?_⟩
  have s5:=aj (o:=.lst [V.int (a%aL ls)]) ha5
  have e5:upd H4 a5 (.lst [V.int (a%aL ls)]) a5=some (.lst [V.int (a%aL ls)]):=ai
  generalize upd H4 a5 _=H5 at *
  have S5:=(t3.trans s4).trans s5
  refine⟨ys,.inl ⟨aS.of (S5 _ _ f1),λa6 ha6=>⟨by show 2<=sizeLine;decide,λa7 ha7=>⟨by show 2<=sizeLine;decide,λa8 ha8=>?_⟩⟩⟩⟩
  have s6:=aj (o:=.tup ys) ha6
  have e6:upd H5 a6 (.tup ys) a6=some (.tup ys):=ai
  generalize upd H5 a6 _=H6 at *
  have s7:=aj (o:=.tup [V.str "by",V.ref a6]) ha7
  have e7:upd H6 a7 (.tup [V.str "by",V.ref a6]) a7=some (.tup [V.str "by",V.ref a6]):=ai
  generalize upd H6 a7 _=H7 at *
  have s8:=aj (o:=.tup [V.ref a5,V.ref a7]) ha8
  have e8:upd H7 a8 (.tup [V.ref a5,V.ref a7]) a8=some (.tup [V.ref a5,V.ref a7]):=ai
  generalize upd H7 a8 _=H8 at *
  have S68:=(s6.trans s7).trans s8
  have S:=(((s1.trans s2).trans t1).trans S5).trans S68
  have sz:=F.sz
  have gth:gd (.tuple [.list ([a%aL ls].map PyData.int),.tuple [.str "by",.tuple (ls.map λp=>qU p a)]]):=by
   have hb:=Int.emod_nonneg a (show aL ls≠0 by omega)
   have hb2:=Int.emod_lt_of_pos a pl.1
   simp only [List.map_cons,List.map_nil,gd,L2.fP,and_true]
   refine⟨by omega,by decide +kernel,dQ.mpr λd hd=>?_⟩
   obtain⟨p,hp,rfl⟩:=List.mem_map.mp hd
   obtain⟨_,p2,p13⟩:=hmem p hp
   have:=Int.emod_nonneg a (show p≠0 by omega)
   have:=Int.emod_lt_of_pos a (show 0<p by omega)
   unfold qU
   split
   ·simp only [gd,L2.fP,and_true]
    decide +kernel
   ·simp only [fh,gd,L2.fP,and_true]
    exact⟨by decide +kernel,by omega,by omega⟩
  have hth:fH K H8 (.tuple [.list ([a%aL ls].map PyData.int),.tuple [.str "by",.tuple (ls.map λp=>qU p a)]]) (.ref a8):=⟨a8,_,rfl,aY.of e8,_,_,rfl,⟨a5,_,rfl,S68 _ _ e5,kH _⟩,_,_,rfl,⟨a7,_,rfl,aY.of (s8 _ _ e7),_,_,rfl,rfl,_,_,rfl,⟨a6,_,rfl,aY.of (s8 _ _ (s7 _ _ e6)),hy.cw.same (S5.trans S68)⟩,rfl⟩,rfl⟩
  refine⟨.ref a4,.ref a8,.list ds,_,1,a,rfl,⟨a4,_,rfl,aS.of (S68 _ _ (s5 _ _ e4)),bo.same ((s4.trans s5).trans S68) _ hds⟩,F.sm,by show 1+bJ ds<=10^6;omega,hth,gth,by decide,by decide,?_⟩
  rcases hm with rfl | rfl
  ·refine .inr ⟨ls,ds,rfl,F,F.zN (by rw [<- hls];decide) (by omega) (by omega),λp hp=>by have:=hmem p hp;omega,λbb H' hbb s'=>?_⟩
   have:bb=true:=hbb.mpr (Bf (λp hp=>(hmem p hp).2.1) (by rw [<- hls];decide))
   rw [this]
   exact q H' (S.trans s')
  ·exact .inl ⟨fun⟨es,e,_,z,_⟩=>by cases e;omega,λH' s'=>q H' (S.trans s')⟩
theorem xx {H H':Hp} {p a:Addr} {fr:Bool} {l:Int} {o:HO} (h:Us p fr H H') (hp:H p=some (jH l fr)) (ha:H a=none):Us p fr H (upd H' a o):=by
 have ne:p≠a:=λz=>by rw [z,ha] at hp;cases hp
 obtain⟨⟨k,h1,h2⟩,h3⟩:=h
 exact⟨⟨k,h1,by rw [aJ ne];exact h2⟩,λq o' n e=>by rw [aJ (λz=>by rw [z,ha] at e;cases e)];exact h3 q o' n e⟩
theorem wo {p a:Int} (hp:Num.Pm p) (na:¬p∣a):∃ m,Num.Ord p a m/\m<=(p-1).toNat:=Num.lg (by have:=hp.two;omega) (Num.kK hp na)
def twI (x t p:Int) (j:Nat):List Int:=(List.range j).map λi:Nat=>x*t^i%p
theorem twI_succ {x t p:Int} {j:Nat}:twI x t p (j+1)=twI x t p j++[x*t^j%p]:=by
 unfold twI
 rw [List.range_succ,List.map_append]
 rfl
theorem twI_len {x t p:Int} {j:Nat}:(twI x t p j).length=j:=by
 unfold twI
 rw [List.length_map,List.length_range]
theorem twI_zero {x t p:Int} {j:Nat}:(twI x t p (j+1))[0]?=some (x%p):=by
 unfold twI
 rw [List.getElem?_map,List.getElem?_range (by omega),Option.map_some,Int.pow_zero,Int.mul_one]
theorem twI_in {x t p y:Int} {j:Nat} (p0:0<p) (h:y∈twI x t p j):0<=y/\y<p:=by
 unfold twI at h
 obtain⟨i,_,rfl⟩:=List.mem_map.mp h
 exact⟨Int.emod_nonneg _ (by omega),Int.emod_lt_of_pos _ p0⟩
theorem xQ {ls:List Int} {As:List (List Int)}:(dU ls As).length<=(aL ls).toNat:=by
 unfold dU
 refine Nat.le_trans (List.length_filter_le _ _) ?_
 rw [List.length_map,List.length_range]
 exact Nat.le_refl _
def sN (K:PySem.W.Frag):Sp:=λvs H Q _=>∃(pl lp p:Addr) (us:List V) (ls:List Int) (As:List (List Int)) (u:V) (df:PyData) (rows:List PyData) (l:Int) (fr:Bool),vs=[.ref pl,.ref lp,u,.ref p]/\qf K H pl lp us ls As/\(∀ q∈ls,Num.Pm q)/\(∀ A∈As,A≠[])/\(∀ q∈ls.zip As,∀ x∈q.2,x<q.1)/\fH K H (.tuple [df,.tuple [.str "by",.tuple rows]]) u/\rows.length=ls.length/\(∀ row∈rows,lS row)/\GL 4 (.tuple [df,.tuple [.str "by",.tuple rows]])/\H p=some (jH l fr)/\rZ l fr/\∀ v H',bK K 4 H' v->Us p fr H H'->Q v H'
theorem d8:aC ["_law_primes_here","_law_lists","_law_made_here","_law_state_here","_law_at","_law_p","_law_rows","_law_some","_law_turn"] ["_law_primes_here","_law_lists","_law_made_here","_law_state_here"] (ao (top 67)):=c7
theorem v7 (D:aA K mg "_law_other_turn" (top 67)) (c__law_take:Callee P w K mg base aV 1 "_law_take" ["_law_state_here","_law_many"] fD) (c__law_put:Callee P w K mg base aV 1 "_law_put" ["_law_things","_law_at","_law_thing"] (qW K)) (c__law_all:Callee P w K mg base aV 1 "_law_all" ["_law_primes_here","_law_lists"] (nW K)) (n_len:mg "len"=none) (n_list:mg "list"=none) (n_sorted:mg "sorted"=none) (n_tuple:mg "tuple"=none):Callee P w K mg base aV 2 "_law_other_turn" ["_law_primes_here","_law_lists","_law_made_here","_law_state_here"] (sN K):=by
 refine cO D d8 (λf cdv A outer s H vs Q E hr h=>?_)
 obtain⟨pl,lp,p,us,ls,As,u,df,rows,l,fr,rfl,D,hpm,nAs,xb,hu,rl,hrow,hgl,hp,hl,q⟩:=h
 have nd:=d8.nd
 refine⟨_,(ag (cp (i:=4) nd (br c__law_take hr ay (aa (pv 3) (aa (av aG rfl n_len PySem.boot_len (aa (pv 0) ae)) ae)))) (ag (jz (i:=5) (j:=6) rfl nd rfl rfl (by decide) rfl rfl (aa (aB aP (pv 0) (pv 4) (λ_ _=>rfl)) (aa (bp cf rfl n_list L2.boot_list (aa (aB aI (aB aI (pv 2) af (λ_ _=>rfl)) af (λ_ _=>rfl)) ae)) ae)) rfl) (ag (bf (aQ (ax cU (av aG rfl n_len PySem.boot_len (aa (aB aP (pv 6) (pv 4) (λ_ _=>rfl)) ae)) af (aq _)) (ak (au (pv 2))) aD)) (ag (jz (i:=7) (j:=8) rfl nd rfl rfl (by decide) rfl rfl (aa (aX (aa (aB aP (aB aP (pv 1) (pv 4) (λ_ _=>rfl)) (br c__law_take hr ay (aa (pv 3) (aa (av aG rfl n_len PySem.boot_len (aa (aB aP (pv 1) (pv 4) (λ_ _=>rfl)) ae)) ae))) (λ_ _=>rfl)) ae)) (aa (aw b8 af (br c__law_take hr ay (aa (pv 3) (aa (aw cq (pv 5) af) ae)))) ae)) rfl) (ag (cL PassesOwn.never (ax fF (aw aU (aw bU (aB aP (pv 7) (eZ dc af) (λ_ _=>rfl)) (pv 8)) (pv 5)) (aB aP (pv 7) af (λ_ _=>rfl)) (aq _)) (ak (gO (mJ PySem.F.plainAttrs_list PySem.F.slot_list_append PySem.F.type_list_append eY (pv 7) (aa (aw aU (aw bU (aB aP (pv 7) (eZ dc af) (λ_ _=>rfl)) (pv 8)) (pv 5)) ae))))) (ag (cp (i:=7) nd (av oD rfl n_sorted PyProof.Rows.boot_sorted (aa (pv 7) ae))) (ag (fz (aR (aa aT (aa (aB aP (pv 7) af (λ_ _=>rfl)) (aa (pv 8) ae)))) (qQ (pv 6) (pv 4) set_list)) (ak (au (aR (aa (br c__law_all hr ay (aa (pv 0) (aa (br c__law_put hr ay (aa (pv 1) (aa (pv 4) (aa (pv 7) ae)))) ae))) (aa (aR (aa aT (aa (bp bH rfl n_tuple L2.boot_tuple (aa (pv 6) ae)) ae))) ae)))))))))))),?_⟩
 show b9 _ _ _ [some (.ref pl),some (.ref lp),some u,some (.ref p),none,none,none,none,none] H
 k_data
 have l1:=D.l1
 have l3:=D.l3
 have hd4:bK K 4 H u:=⟨_,hu,hgl⟩
 refine aZ D.hp ⟨p,_,l,fr,rfl,hp,hl,by rw [List.length_map];omega,by rw [List.length_map];omega,λr H1 r0 r1 u1=>?_⟩
 rw [List.length_map] at r1
 obtain⟨i,rfl⟩:∃ i:Nat,r=i:=⟨r.toNat,by omega⟩
 have il:i<ls.length:=by omega
 obtain⟨k1,m1,e1⟩:=u1.at
 have U1:=u1.us
 have D1:=ib U1 hp D
 obtain⟨q1,A,qa,g1,g2,g3,g4⟩:=D1.get il
 have pm:=hpm q1 (List.mem_of_getElem? g1)
 obtain⟨p2,p13⟩:=D.b q1 (List.mem_of_getElem? g1)
 have gA:=D.km A (List.mem_of_getElem? g2)
 have neA:=nAs A (List.mem_of_getElem? g2)
 have hu1:=fI U1 hp hu
 obtain⟨pu,xs,eu,tU,fv,r',rfl,hf,sv,r'',rfl,hs,z⟩:=hu1
 cases z
 cases eu
 obtain⟨ps,zs,rfl,tS,y0,r',rfl,f0,y1,r'',rfl,⟨pr,rv,rfl,tR,hrv⟩,z⟩:=hs
 cases z
 have rvl:=hrv.bo.length
 refine⟨pl,_,_,_,rfl,rfl,D1.hp,bF (by rw [List.getElem?_map,g1];rfl),bj tU jc (bj tS jc ⟨pr,rfl,rv,.inr tR,λa2 ha2=>?_⟩)⟩
 have s2:=aj (o:=.lst rv) ha2
 have e2:upd H1 a2 (.lst rv) a2=some (.lst rv):=ai
 generalize upd H1 a2 _=H2 at *
 obtain⟨xr,hxr⟩:∃ x,rv[i]?=some x:=⟨_,List.getElem?_eq_getElem (by omega)⟩
 obtain⟨row,hr1,hr2⟩:=hrv.get hxr
 obtain⟨pt,ws,rfl,tW,_,_,_⟩:=mO (hrow row (List.mem_of_getElem? hr1)) hr2
 refine⟨λσ' H'=>oh σ' H' [some (.ref pl),some (.ref lp),some (.ref pu),some (.ref p),some (.int i),some (.int q1),some (.ref a2),none,none] H2,?_,?_⟩
 ·k_data
  refine⟨a2,_,_,_,rfl,rfl,aS.of e2,bF hxr,dj (tW.same s2) ⟨_,rfl,aH (λc=>?_) (λc=>⟨rfl,rfl⟩)⟩⟩
  exact q _ _ ((hd4.map λ_ _=>fI U1 hp).same s2) (bT U1 s2)
 rintro σ' H' ⟨rfl,rfl⟩
 k_data
 have grv:bz K 1 H1 rv:=jw hrv λd hd=>iP (hrow d hd)
 have D2:=D1.same s2
 have e12:=s2 _ _ e1
 refine⟨lp,_,_,_,rfl,rfl,D2.hl,bF g3,lp,_,_,_,rfl,rfl,D2.hl,bF g3,aZ (g4.same s2) ⟨p,_,k1,fr,rfl,e12,m1,by rw [List.length_map];have:=List.length_pos_iff.mpr neA;omega,by rw [List.length_map];omega,λr H3 r0 r1 u3=>?_⟩⟩
 obtain⟨k3,m3,e3⟩:=u3.at
 have U3:=u3.us
 have D3:=ib U3 e12 D2
 refine cj (eC U3 e12 (g4.same s2)) r0 r1 λvx hvx=>?_
 obtain⟨x,hx,rfl⟩:=List.mem_map.mp hvx
 have x0:=(gA.2 x hx).1
 have xl:x<q1:=xb (q1,A) (List.mem_of_getElem? (i:=i) (List.getElem?_zip_eq_some.mpr ⟨g1,g2⟩)) x hx
 refine⟨by show 1<=sizeLine;decide,λls' hls=>?_⟩
 have hp3:=e3
 have e3':=(aj (o:=.lst [V.int x]) hls) _ _ e3
 have U4:Us p fr H3 (upd H3 ls' (.lst [V.int x])):=bT (Us.refl e3 m3) (aj hls)
 have e4:upd H3 ls' (.lst [V.int x]) ls'=some (.lst [V.int x]):=ai
 generalize upd H3 ls' _=H4 at *
 refine⟨p,q1-1,k3,fr,rfl,e3',m3,by omega,by omega,λr9 H5 r90 r91 u5=>⟨r9,rfl,?_⟩⟩
 have lsp:ls'≠p:=λz=>by rw [z,e3] at hls;cases hls
 have U5:=U4.trans u5.us
 have e5:=u5.us.2 _ _ lsp e4
 have nt:¬q1∣1+r9:=λz=>by have:=Int.le_of_dvd (by omega) z;omega
 obtain⟨e,oe,ele⟩:=wo pm nt
 have e0:=oe.pos
 generalize ht:1+r9=tt at *
 have m0:=λx:Int=>Int.emod_nonneg x (show q1≠0 by omega)
 have m1':=λx:Int=>Int.emod_lt_of_pos x (show 0<q1 by omega)
 refine cM (α:=Nat) (λ_=>[some (.ref pl),some (.ref lp),some (.ref pu),some (.ref p),some (.int i),some (.int q1),some (.ref a2),some (.ref ls'),some (.int tt)]) (λi H1=>Us p fr H3 H1/\i<e/\H1 ls'=some (.lst ((twI x tt q1 (i+1)).map V.int))) (λi=>e-i) 0 rfl ⟨U5,e0,?_⟩ ?_
 ·rw [e5]
  show _=some (HO.lst [V.int (x*tt^0%q1)])
  rw [Int.pow_zero,Int.mul_one,Int.emod_eq_of_lt (by omega) (by omega)]
 rintro j J1 ⟨UJ,je,hl1'⟩
 replace je:j<e:=je
 have ix:∀{Q:VK},Q (V.int (x*tt^j%q1)) J1->qT K (.ref ls') (.int (-1)) J1 Q:=λ{Q} h=>⟨ls',_,-1,_,rfl,rfl,aS.of hl1',by rw [twI_succ,List.map_append];exact L2.uN _ _,h⟩
 have nx:x*tt^j%q1*tt%q1=x*tt^(j+1)%q1:=by rw [Pw.vO,Int.pow_succ,Int.mul_assoc]
 have h0:=m0 (x*tt^j)
 have h1:=m1' (x*tt^j)
 have bx:Bd (x*tt^j%q1):=Bd.of (by omega) (by omega)
 have bt:Bd tt:=Bd.of (by omega) (by omega)
 k_data
 refine ix ⟨_,rfl,bx,bt,by omega,?_⟩
 rw [nx]
 refine AB (v:=V.int (x%q1)) (aS.of hl1') (by decide) (by rw [List.getElem?_map];show Option.map V.int (twI x tt q1 (j+1))[0]?=_;rw [twI_zero];rfl) ⟨rfl,?_⟩
 rw [Int.emod_eq_of_lt (show 0<=x by omega) xl]
 refine aH (λc=>?_) (λc=>?_)
 ·have ie':j+1<e:=by
   rcases (by omega:j+1<e∨j+1=e) with z | z
   ·exact z
   ·refine absurd ?_ c
    rw [z]
    have h3:Num.Al q1 (x*tt^e) x:=by
     have h4:q1∣tt^e-1:=oe.one
     show q1∣x*tt^e-x
     rw [show x*tt^e-x=x*(tt^e-1) by rw [Int.mul_sub,Int.mul_one]]
     exact Int.dvd_mul_of_dvd_right h4
    rw [Num.Al.iff.mp h3,Int.emod_eq_of_lt (by omega) xl]
  refine⟨_,λ_ _ z=>z,.inl ⟨rfl,_,aS.of hl1'⟩,ix ⟨_,rfl,bx,bt,by omega,?_⟩⟩
  rw [nx]
  refine⟨ls',_,_,rfl,rfl,hl1',by rw [List.length_map,twI_len];exact Nat.lt_of_le_of_lt (show j+1<=1000 by omega) (by decide),rfl,xx UJ e3 hls,j+1,ie',?_,by show e-(j+1)<e-j;omega⟩
  rw [ai,twI_succ (j:=j+1),List.map_append]
  rfl
 have l5:(twI x tt q1 (j+1)).length<64:=by rw [twI_len];omega
 refine⟨ls',_,rfl,aS.of hl1',l5,λlq ns' pe sr hlq=>?_⟩
 have sp:=aj (o:=.lst (ns'.map V.int)) hlq
 have ep:upd J1 lq (.lst (ns'.map V.int)) lq=some (.lst (ns'.map V.int)):=ai
 generalize upd J1 lq _=Jp at *
 have lns:ns'.length=j+1:=by rw [pe.length_eq,twI_len]
 have nb:∀ y∈ns',0<=y/\y<q1:=λy hy=>twI_in (by omega) (pe.mem_iff.mp hy)
 refine cj (aS.of ep) (by decide) (by rw [List.length_map,lns];omega) λvy hvy=>?_
 obtain⟨y,hy,rfl⟩:=List.mem_map.mp hvy
 have yb:=nb y hy
 refine⟨by show 3<=sizeLine;decide,λb1 hb1=>?_⟩
 have sq:=aj (o:=.tup [V.str "turned",V.int y,V.int tt]) hb1
 have eq1:upd Jp b1 (.tup [V.str "turned",V.int y,V.int tt]) b1=some (.tup [V.str "turned",V.int y,V.int tt]):=ai
 generalize upd Jp b1 _=Jq at *
 have a2p:a2≠p:=λz=>by rw [z,e1] at ha2;cases ha2
 have V0:=bT (Us.refl e1 m1) s2
 have V3:=V0.trans U3
 have V4:Us p fr H3 Jq:=bT (bT UJ sp) sq
 have V5:=V3.trans V4
 have f2:=V4.2 _ _ a2p (U3.2 _ _ a2p e2)
 have iN:qC rv.length (i:Int)=some i:=by
  unfold qC
  simp
  omega
 refine⟨a2,rv,i,i,rfl,rfl,f2,iN,?_⟩
 have V6:=xx (o:=.lst (rv.set i (.ref b1))) V5 e1 ha2
 have f6:upd Jq a2 (.lst (rv.set i (.ref b1))) a2=some (.lst (rv.set i (.ref b1))):=ai
 have gq:aY K (upd Jq a2 (.lst (rv.set i (.ref b1)))) b1 [V.str "turned",V.int y,V.int tt]:=(aY.of eq1).dB (eX f2)
 have lq6:upd Jq a2 (.lst (rv.set i (.ref b1))) lq=some (.lst (ns'.map V.int)):=by
  rw [aJ λz=>?_]
  ·exact sq _ _ ep
  ·rw [z] at hlq
   have:=UJ.2 _ _ a2p (U3.2 _ _ a2p e2)
   rw [hlq] at this
   cases this
 generalize upd Jq a2 _=K6 at *
 have g6:bz K 1 K6 (rv.set i (.ref b1)):=kO (grv.map λ_ _=>fI V6 e1) (bK.tup (l:=0) gq (by decide) (by show 3*102+3<=1000;decide) (.cons (.str (by decide +kernel) (by decide +kernel)) (.cons (.int (by omega) (by omega)) (.cons (.int (by omega) (by omega)) .nil))))
 have D6:=ib V6 e1 D1
 have usl:us.length=ls.length:=by
  rw [D6.ds.length]
  unfold rT
  rw [List.length_map,D6.len]
 refine⟨lp,us,i,.ref lq,rfl,D6.hl,by omega,by omega,λpq H7 s7 hpq e7=>?_⟩
 have D7:=D6.same s7
 have dn:dv K H7 (.list (ns'.map PyData.int)) (.ref lq):=⟨lq,_,rfl,aS.of (s7 _ _ lq6),dw _⟩
 have D8:qf K H7 pl pq (us.set i (.ref lq)) ls (As.set i ns'):=⟨D7.hp,aS.of (by rw [List.set_eq_take_append_cons_drop,if_pos (by omega)];simpa using e7),by
  unfold rT
  rw [List.map_set]
  exact bo.set i D7.ds dn,by rw [List.length_set];exact D7.len,l3,l1,D7.b,λA hA=>by
   rcases List.mem_or_eq_of_mem_set hA with z | rfl
   ·exact D7.km A z
   ·exact⟨by omega,λy hy=>by have:=nb y hy;omega⟩⟩
 refine⟨pl,pq,_,ls,_,rfl,D8,λpr H8 s8 _ e8=>?_⟩
 have S8:=s7.trans s8
 refine⟨_,.inl ⟨aS.of (S8 _ _ f6),λb2 hb2=>⟨by show 2<=sizeLine;decide,λb3 hb3=>⟨by show 2<=sizeLine;decide,λb4 hb4=>?_⟩⟩⟩⟩
 have t2:=aj (o:=.tup (rv.set i (.ref b1))) hb2
 have h2:bK K 2 (upd H8 b2 (.tup (rv.set i (.ref b1)))) (.ref b2):=bK.tup (l:=1) (aY.of ai) (by decide) (by rw [List.length_set];show _*1002+3<=10000;omega) (g6.same (S8.trans t2))
 generalize upd H8 b2 _=G2 at *
 have t3:=aj (o:=.tup [V.str "by",V.ref b2]) hb3
 have h3:bK K 3 (upd G2 b3 (.tup [V.str "by",V.ref b2])) (.ref b3):=j8 (aY.of ai) (by simp) (.cons ((bK.str (by decide +kernel) (by decide +kernel)).up (by decide)) (.cons (h2.same t3) .nil))
 generalize upd G2 b3 _=G3 at *
 have t4:=aj (o:=.tup [V.ref pr,V.ref b3]) hb4
 have T:=t2.trans (t3.trans t4)
 obtain⟨w0,w1⟩:=dF (B:=13) (by decide) (l:=ls) λx hx=>by
  have:=D7.b x hx
  omega
 have w2:=Int.le_trans w1 ((by decide:∀ n:Nat,n<=3->(13:Int)^n<=13^3) _ l3)
 have hr:bK K 3 (upd G3 b4 (.tup [V.ref pr,V.ref b3])) (.ref pr):=bK.lst (l:=0) (T _ _ e8) (by decide) (by
  have:=xQ (ls:=ls) (As:=As.set i ns')
  rw [List.length_map]
  show _*102+3<=300000
  omega) (.ints λn hn=>by
   have:=eF.mp hn
   omega)
 exact q _ _ (nZ (aY.of ai) (by simp) (.cons hr (.cons (h3.same t4) .nil))) (bT (U1.trans V6) (S8.trans T))
end
end K
namespace K
open PySem PySem.Spec PyProof.Rows L2
section
variable {P:Program} {w:World} {K:PySem.W.Frag} {mg:Str->Option Value} {base:Heap}
theorem uT {ns:List Int} {lo hi:Option Int} {x:V} (h:x∈cz (ns.map V.int) lo hi):∃ c,x=.int c:=by
 unfold cz at h
 have:=List.mem_of_mem_drop (List.mem_of_mem_take h)
 obtain⟨c,_,e⟩:=List.mem_map.mp this
 exact⟨c,e.symm⟩
theorem yK {a d L:Int} (hd:0<d) (h0:-L<=a) (h1:a<=L):-L<=a/d/\a/d<=L:=by
 have L0:0<=L:=by omega
 have h2:L*1<=L*d:=Int.mul_le_mul_of_nonneg_left (show 1<=d by omega) L0
 refine⟨Int.le_ediv_of_mul_le hd (by rw [Int.neg_mul];omega),Int.ediv_le_of_le_mul hd (by omega)⟩
def zS (K:PySem.W.Frag):Sp:=λvs H Q _=>∃(a:Addr) (ns:List Int),vs=[.ref a]/\aS K H a (ns.map V.int)/\ns.length<=63/\∀ H',Q (.bl true) H'
end
end K
namespace K
open PySem PySem.Spec PyProof.Rows L2
section
variable {P:Program} {w:World} {K:PySem.W.Frag} {mg:Str->Option Value} {base:Heap} {C:Addr}
theorem oX:∀{ds:List PyData},(∀ d∈ds,d.canLay0=true/\d.depth<=40)->PyData.canLayAll0 ds=true/\PyData.depthAll ds<=40
 | [],_=>⟨rfl,by simp [PyData.depthAll]⟩
 | d::r,h=>by
  obtain⟨h1,h2⟩:=oX λx hx=>h x (List.mem_cons_of_mem _ hx)
  obtain⟨g1,g2⟩:=h d (List.mem_cons_self ..)
  refine⟨by simp [PyData.canLayAll0,g1,h1],?_⟩
  simp only [PyData.depthAll]
  omega
theorem mU.lay {ps:List Int} {ds:List PyData} (h:mU ps ds) (hp:∀ p∈ps,p<=199):PyData.canLayAll0 ds=true/\PyData.depthAll ds<=40:=oX λd hd=>by
 obtain⟨p,hm,hF⟩:=h.mem hd
 obtain⟨h1,k,h2,h3⟩:=hF.deep
 have:=hp _ hm
 have:k<10:=by
  rcases (by omega:k<10∨10<=k) with z | z
  ·exact z
  ·have h4:(2:Int)^10<=2^k:=by
    have:=Nat.pow_le_pow_right (show 0<2 by decide) z
    have h5:((2^k:Nat):Int)=2^k:=by rw [Int.natCast_pow];rfl
    omega
   omega
 exact⟨h1,by omega⟩
def Dq (sc:Addr) (L:List V) (H:Hp) (pc:Addr) (σ':L2.St) (H':Hp):Prop:=∃ o1 o2 o3 o4 o5 o6 o7 o8 o9 o10 o11 o12 o13 o14 o15 o16 o17 o18,σ'=[some (.ref sc),o1,o2,o3,o4,o5,o6,o7,o8,o9,o10,o11,o12,o13,o14,o15,o16,o17,o18]/\aE H H'/\H' pc=some (.lst L)
theorem Dq.el {sc:Addr} {L:List V} {H:Hp} {pc:Addr} {σ':L2.St} {H':Hp} {G:L2.St->Prop} (h:Dq sc L H pc σ' H') (g:∀ o1 o2 o3 o4 o5 o6 o7 o8 o9 o10 o11 o12 o13 o14 o15 o16 o17 o18,aE H H'->H' pc=some (.lst L)->G [some (.ref sc),o1,o2,o3,o4,o5,o6,o7,o8,o9,o10,o11,o12,o13,o14,o15,o16,o17,o18]):G σ':=by
 obtain⟨_,_,_,_,_,_,_,_,_,_,_,_,_,_,_,_,_,_,rfl,h1,h2⟩:=h
 exact g _ _ _ _ _ _ _ _ _ _ _ _ _ _ _ _ _ _ h1 h2
def EE (K:PySem.W.Frag) (p1:Addr) (fr:Bool) (H9:Hp) (ls:List Int) (i:Nat) (ys:List V) (H':Hp):Prop:=Us p1 fr H9 H'/\∃ ds:List PyData,bo K H' ds ys/\ds.length=i/\∀(j:Nat) p d,ls[j]?=some p->ds[j]?=some d->Num.cR p d
theorem yV {α β:Type} {R:α->β->Prop} {xs:List α} {ys:List β} {x:α} {y:β} (h:∀(j:Nat) u v,xs[j]?=some u->ys[j]?=some v->R u v) (hx:xs[ys.length]?=some x) (hr:R x y):∀(j:Nat) u v,xs[j]?=some u->(ys++[y])[j]?=some v->R u v:=by
 intro j u v e1 e2
 rcases (by
  have:=(List.getElem?_eq_some_iff.mp e2).1
  rw [List.length_append,List.length_singleton] at this
  omega:j<ys.length∨j=ys.length) with c | rfl
 ·rw [List.getElem?_append_left c] at e2
  exact h j _ _ e1 e2
 ·rw [List.getElem?_concat_length] at e2
  rw [hx] at e1
  cases e1
  cases e2
  exact hr
theorem yn {ls:List Int} {ds:List PyData} (F:mU ls ds) (so:ls.Pairwise (·<·)) (h:2<=ls.length):¬qi (.list ds.reverse):=fun⟨es,e,_,_,_,z⟩=>by
 injection e with e
 rw [<- e,List.map_reverse,F.fst,List.pairwise_reverse] at z
 match ls,h with
 | x::y::r,_ =>
  have h1:=(List.pairwise_cons.mp so).1 y (by simp)
  have h2:=(List.pairwise_cons.mp z).1 y (by simp)
  omega
theorem vd {p k a:Int} {j:Nat}:b6 p k a (j+1)=b6 p k a j++(if ((j:Nat):Int)^k.toNat%p=a%p then [((j:Nat):Int)] else []):=by
 unfold b6
 rw [List.range_succ,List.map_append,List.filter_append]
 congr 1
 simp only [List.map_cons,List.map_nil]
 split
 ·rename_i h;rw [List.filter_cons_of_pos (by simpa using h)];rfl
 ·rename_i h;rw [List.filter_cons_of_neg (by simpa using h)];rfl
theorem nk {p k a:Int} {n:Nat}:(b6 p k a n).length<=n:=by
 unfold b6
 refine Nat.le_trans (List.length_filter_le _ _) ?_
 rw [List.length_map,List.length_range]
 exact Nat.le_refl _
theorem BE.EM {ls:List Int} {k a:Int} {d:PyData} (h:BE ls (dO ls k a) d) (hP:P6 ls) (km:C2 ls k a) (l1:1<=ls.length) (l3:ls.length<=3):BJ d:=by
 cases h with
 | no n e r h1 h2 h3 h4=>exact⟨[],_,rfl,by simp,by simp,.no n e r h1 h2 h3⟩
 | j5 rows h1 h2 h3 =>
  have hl:=mW hP.prs (nj (k:=k) (a:=a) hP)
  unfold C2 at km
  obtain⟨w0,w1⟩:=dF (B:=13) (by decide) (l:=ls) λx hx=>by
   have:=hP.b hx
   omega
  have w2:=Int.le_trans w1 ((by decide:∀ n:Nat,n<=3->(13:Int)^n<=13^3) _ l3)
  exact⟨_,_,rfl,by omega,λn hn=>by have:=eF.mp hn;omega,.j5 rows (by omega) (by omega) h3⟩
theorem rF {H:Hp}:∀{ds:List PyData} {xs:List V},bo K H ds xs->bo K H ds.reverse xs.reverse
 | [],_,h=>by cases h;exact rfl
 | d::ds,_,⟨x,r,e,h,t⟩=>by
  subst e
  rw [List.reverse_cons,List.reverse_cons]
  exact (rF t).append (.one h)
def Dk (p1:Addr) (fr:Bool) (H11:Hp) (σ0:List (Option V)) (σ1:List (Option V)) (σ':L2.St) (H':Hp):Prop:=Us p1 fr H11 H'/\∃ a:Int,-(10^60)<=a/\a<=10^60/\σ'=σ0++some (.int a)::σ1
theorem Dk.el {p1:Addr} {fr:Bool} {H11:Hp} {σ0 σ1:List (Option V)} {σ':L2.St} {H':Hp} {G:L2.St->Prop} (h:Dk p1 fr H11 σ0 σ1 σ' H') (g:∀ a:Int,Us p1 fr H11 H' -> -(10^60)<=a->a<=10^60->G (σ0++some (.int a)::σ1)):G σ':=by
 obtain⟨u,_,h1,h2,rfl⟩:=h
 exact g _ u h1 h2
def EC (K:PySem.W.Frag) (k a:Int) (H:Hp) (ls:List Int) (i:Nat) (ys:List V) (H':Hp):Prop:=aE H H'/\bo K H' (rT (dO (ls.take i) k a)) ys/\ys.length<=i
theorem BJ.gl {d:PyData} (h:BJ d):GL 4 d:=by
 obtain⟨ns,sh,rfl,n4,nb,hM⟩:=h
 obtain⟨ds,rfl,d2,d4,dg⟩:=hM.DF
 have Gsh:GL 3 (.tuple ds):=(GL.seq (l:=2) (by decide) (by show _*10002+3<=300000;omega) dg).2
 have Gls:GL 3 (.list (ns.map PyData.int)):=(GL.seq (l:=0) (by decide) (by rw [List.length_map];show _*102+3<=300000;omega) λd hd=>by
  obtain⟨n,hn,rfl⟩:=List.mem_map.mp hd
  have:=nb n hn
  exact .int (by omega) (by omega)).1
 exact (GL.seq (l:=3) (by decide) (by show 2*300002+3<=1600000;decide) λx hx=>by
  simp only [List.mem_cons,List.not_mem_nil,or_false] at hx
  rcases hx with rfl | rfl
  ·exact Gls
  ·exact Gsh).2
theorem mL:∀{As:List (List Int)},0<aL (As.map λA=>(A.length:Int))->[]∉As
 | A::As,h,z=>by
  replace h:0<(A.length:Int)*aL (As.map λA=>(A.length:Int)):=h
  rcases List.mem_cons.mp z with rfl | z
  ·rw [List.length_nil,Int.natCast_zero,Int.zero_mul] at h
   exact absurd h (by decide)
  ·refine absurd z (mL ?_)
   rcases Int.lt_or_le 0 (aL (As.map λA=>(A.length:Int))) with y | y
   ·exact y
   ·have:=Int.mul_le_mul_of_nonneg_left y (show 0<=(A.length:Int) by omega)
    omega
def EF (p1:Addr) (fr:Bool) (H:Hp) (σ0 σ':L2.St) (H':Hp):Prop:=σ'=σ0/\Us p1 fr H H'
def Ab (H:Hp) (σ0 σ1:List (Option V)) (σ':L2.St) (H':Hp):Prop:=aE H H'/\∃ o o',σ'=σ0++o::o'::σ1
theorem Ab.el {H:Hp} {σ0 σ1:List (Option V)} {σ':L2.St} {H':Hp} {G:L2.St->Prop} (h:Ab H σ0 σ1 σ' H') (g:∀ o o',aE H H'->G (σ0++o::o'::σ1)):G σ':=by
 obtain⟨s,o,o',rfl⟩:=h
 exact g o o' s
def C4 (K:PySem.W.Frag) (p1:Addr) (fr:Bool) (H:Hp) (σ0 σ1:List (Option V)) (σ':L2.St) (H':Hp):Prop:=Us p1 fr H H'/\∃ v,bK K 4 H' v/\σ'=σ0++some v::σ1
theorem C4.el {K:PySem.W.Frag} {p1:Addr} {fr:Bool} {H:Hp} {σ0 σ1:List (Option V)} {σ':L2.St} {H':Hp} {G:L2.St->Prop} (h:C4 K p1 fr H σ0 σ1 σ' H') (g:∀ v d,Us p1 fr H H'->fH K H' d v->GL 4 d->G (σ0++some v::σ1)):G σ':=by
 obtain⟨u,v,⟨d,h1,h2⟩,rfl⟩:=h
 exact g v d u h1 h2
def uI (ls:List Int) (k a:Int) (H:Hp) (σ0 σ1:List (Option V)) (i:Nat) (σ':L2.St) (H':Hp):Prop:=H'=H/\∃ o:Option V,σ'=σ0++some (.int (aL (((dO ls k a).take i).map λA=>(A.length:Int))))::o::σ1
theorem uI.el {ls:List Int} {k a:Int} {H:Hp} {σ0 σ1:List (Option V)} {i:Nat} {σ':L2.St} {H':Hp} {G:L2.St->Hp->Prop} (h:uI ls k a H σ0 σ1 i σ' H') (g:∀ o:Option V,G (σ0++some (.int (aL (((dO ls k a).take i).map λA=>(A.length:Int))))::o::σ1) H):G σ' H':=by
 obtain⟨rfl,o,rfl⟩:=h
 exact g o
theorem A5 {ls:List Int} {k a:Int} (hP:P6 ls) (l3:ls.length<=3) (i:Nat):0<=aL (((dO ls k a).take i).map λA=>(A.length:Int))/\aL (((dO ls k a).take i).map λA=>(A.length:Int))<=13^3:=by
 have key:∀{l:List Int},(∀ x∈l,0<=x/\x<=13)->0<=aL l/\aL l<=13^l.length:=λ{l} h=>by
  induction l with
  | nil=>exact⟨by decide,by decide⟩
  | cons x l ih =>
   obtain⟨h1,h2⟩:=ih λy hy=>h y (List.mem_cons_of_mem _ hy)
   obtain⟨h3,h4⟩:=h x (by simp)
   refine⟨Int.mul_nonneg h3 h1,?_⟩
   show x*aL l<=13^(l.length+1)
   rw [Int.pow_succ,Int.mul_comm]
   exact Int.mul_le_mul h2 h4 h3 (by have:=Int.le_trans h1 h2;exact this)
 obtain⟨h1,h2⟩:=key (l:=((dO ls k a).take i).map λA=>(A.length:Int)) λx hx=>by
  obtain⟨A,hA,rfl⟩:=List.mem_map.mp hx
  obtain⟨p,hp,rfl⟩:=List.mem_map.mp (List.mem_of_mem_take hA)
  have:=hP.b hp
  have:=nk (p:=p) (k:=k) (a:=a) (n:=p.toNat)
  omega
 refine⟨h1,Int.le_trans h2 ((by decide:∀ n:Nat,n<=3->(13:Int)^n<=13^3) _ ?_)⟩
 rw [List.length_map,List.length_take]
 unfold dO
 rw [List.length_map]
 omega
theorem wR:aC ["_law_script","_law_cell","_law_state_here","_law_primes_here","_law_papers","_law_k","_law_a","_law_lists","_law_many","_law_alike","_law_made_here","_law_back","_law_thing","_law_due_here","_law_handed","_law_kept","_law_again","_law_told","_law_others"] ["_law_script"] (ao (top 69)):=c7
theorem AS {fl:Addr} {fdl:FuncData} (F:xG K "law" "law" (top 69) fl fdl) (c__law_state:Callee P w K mg base aV 1 "_law_state" ["_law_cell","_law_free"] sR) (c__law_cell_at:Callee P w K mg base aV 1 "_law_cell_at" ["_law_script","_law_k"] (pN K)) (c__law_take:Callee P w K mg base aV 1 "_law_take" ["_law_state_here","_law_many"] fD) (c__law_primes:Callee P w K mg base aV 2 "_law_primes" ["_law_state_here"] pU) (c__law_number:Callee P w K mg base aV 2 "_law_number" ["_law_state_here"] pS) (c__law_power:Callee P w K mg base aV 1 "_law_power" ["_law_n","_law_a","_law_e"] lJ) (c__law_paper:Callee P w K mg base aV 32 "_law_paper" ["_law_p","_law_at"] (jF K)) (c__law_made:Callee P w K mg base aV 3 "_law_made" ["_law_primes_here","_law_lists","_law_k","_law_a","_law_state_here"] (wY K)) (c__law_turned:Callee P w K mg base aV 1 "_law_turned" ["_law_thing","_law_many"] (pY K)) (c_shows_roots_of:Callee P w K mg base aV 18 "shows_roots_of" ["papers","k","a","thing"] (Bh K)) (c__law_bent:Callee P w K mg base aV 3 "_law_bent" ["_law_thing","_law_state_here"] (wW K)) (c__law_other_turn:Callee P w K mg base aV 2 "_law_other_turn" ["_law_primes_here","_law_lists","_law_made_here","_law_state_here"] (sN K)) (c__law_bare:Callee P w K mg base aV 3 "_law_bare" ["_law_primes_here","_law_k","_law_a"] (wV K)) (c__law_due:Callee P w K mg base aV 3 "_law_due" ["_law_primes_here","_law_lists","_law_k","_law_a","_law_thing"] (zR K)) (c__law_bent_papers:Callee P w K mg base aV 1 "_law_bent_papers" ["_law_papers","_law_way","_law_at"] (sI K)) (c__law_by_six:Callee P w K mg base aV 33 "_law_by_six" ["_law_a","_law_many"] (zT K)) (n_list:mg "list"=none) (n_len:mg "len"=none) (n_range:mg "range"=none) (n_repr:mg "repr"=none) (n_isinstance:mg "isinstance"=none) (n_bool:mg "bool"=none):eE P w K mg base aV 34 fl fdl ["_law_script"] (zS K):=by
 refine x8 F wR (λvs H Q E h=>by obtain⟨a,b,rfl,_⟩:=h;rfl) (λcdv A outer s H vs Q E hr h=>?_)
 obtain⟨sc,ns,rfl,hS,h63,q⟩:=h
 have nd:=wR.nd
 refine⟨_,(ag (dZ PassesOwn.never rfl (bP (aw cm (aK bI (pv 0) (aN af) (aN af)) (aX (aa af ae)))) (aF (i:=1) nd rfl (Or.inl rfl) (.inr rfl)) (ag (fW (i:=2) nd rfl (Or.inr rfl) (br c__law_state hr ay (aa (pv 1) (aa (bh ba (aw aU (br c__law_cell_at hr ay (aa (pv 0) (aa af ae))) af) af (aq _)) ae)))) (ag (cp (i:=3) nd (br c__law_primes hr ay (aa (pv 2) ae))) (ag (fA (i0:=4) nd rfl (Or.inl rfl) rfl (jO (N':=["_law_p","_law_state_here"]) (js:=[none,some 2]) rfl rfl) (bP (pv 3)) (λ_ _ _ _=>(aF (i:=0) (show List.Nodup [("_law_p":Str),("_law_state_here":Str)] from by decide +kernel) rfl (Or.inl rfl) (.inr rfl))) (λ_ _ _ _=>bD) (λ_ _ _ _=>(br c__law_paper hr ay (aa (pv 0) (aa (aw bU (br c__law_take hr ay (aa (pv 1) (aa af ae))) (br c__law_take hr ay (aa (pv 1) (aa af ae)))) ae)))) (by rfl) (by first | exact .inl rfl | exact .inr rfl)) (ag (fW (i:=5) nd rfl (Or.inr rfl) (aw b8 af (br c__law_take hr ay (aa (pv 2) (aa (aB aP (aX (aa af (aa af (aa (aw nK af af) ae)))) (br c__law_take hr ay (aa (pv 2) (aa af ae))) (λ_ _=>rfl)) ae))))) (ag (fW (i:=6) nd rfl (Or.inr rfl) (br c__law_number hr ay (aa (pv 2) ae))) (ag (bf (aQ (ax ba (br c__law_take hr ay (aa (pv 2) (aa af ae))) af (aq _)) (ak (fW (i:=6) nd rfl (Or.inr rfl) (br c__law_power hr ay (aa af (aa (pv 6) (aa (pv 5) ae)))))) aD)) (ag (fA (i0:=7) nd rfl (Or.inl rfl) rfl (jO (N':=["_law_p","_law_k","_law_a"]) (js:=[none,some 5,some 6]) rfl rfl) (bP (pv 3)) (λ_ _ _ _=>(aF (i:=0) (show List.Nodup [("_law_p":Str),("_law_k":Str),("_law_a":Str)] from by decide +kernel) rfl (Or.inr rfl) (.inl rfl))) (λ_ _ _ _=>bD) (λ_ _ _ _=>(c8 rfl (jO (N':=["_law_x","_law_p","_law_k","_law_a"]) (js:=[none,some 0,some 1,some 2]) rfl rfl) (cG rfl n_range (aa (pv 0) ae)) (λ_ _ _ _=>(aF (i:=0) (show List.Nodup [("_law_x":Str),("_law_p":Str),("_law_k":Str),("_law_a":Str)] from by decide +kernel) rfl (Or.inl rfl) (.inr rfl))) (λ_ _ _ _=>(dE (ax ba (br c__law_power hr ay (aa (pv 1) (aa (pv 0) (aa (pv 2) ae)))) (aw aU (pv 3) (pv 1)) (aq _)))) (λ_ _ _ _=>(pv 0)))) (by rfl) (by first | exact .inl rfl | exact .inr rfl)) (ag (cp (i:=8) nd af) (ag (dZ PassesOwn.never rfl (bP (pv 7)) (aF (i:=9) nd rfl (Or.inl rfl) (.inr rfl)) (ak (cp (i:=8) nd (aw bU (pv 8) (av aG rfl n_len PySem.boot_len (aa (pv 9) ae)))))) (ak (aQ (ax lb (pv 8) af (aq _)) (ag (cp (i:=10) nd (br c__law_made hr ay (aa (pv 3) (aa (pv 7) (aa (pv 5) (aa (pv 6) (aa (pv 2) ae))))))) (ag (cp (i:=11) nd (br c__law_turned hr ay (aa (pv 10) (aa (av aG rfl n_len PySem.boot_len (aa (pv 4) ae)) ae)))) (ag (bf (aQ (PW.pt (cN (ax gY (av aG rfl n_len PySem.boot_len (aa (pv 4) ae)) af (aq _)) (cI (ax si (br c_shows_roots_of hr ay (aa (wx (pv 4) (aN (eZ dc af))) (aa (pv 5) (aa (pv 6) (aa (pv 11) ae))))) bO (aq _))))) (ak (au bO)) aD)) (ag (cp (i:=12) nd (br c__law_bent hr ay (aa (pv 10) (aa (pv 2) ae)))) (ag (bf (aQ (PW.pt (cN (ax gY (pv 8) af (aq _)) (cI (ax ba (br c__law_take hr ay (aa (pv 2) (aa af ae))) af (aq _))))) (ak (cp (i:=12) nd (br c__law_other_turn hr ay (aa (pv 3) (aa (pv 7) (aa (pv 10) (aa (pv 2) ae))))))) aD)) (ag (bf (aQ (PW.pt (cN (ax ba (pv 8) af (aq _)) (cI (ax ba (br c__law_take hr ay (aa (pv 2) (aa af ae))) af (aq _))))) (ak (cp (i:=12) nd (br c__law_bare hr ay (aa (pv 3) (aa (pv 5) (aa (pv 6) ae)))))) aD)) (ag (cp (i:=13) nd (br c__law_due hr ay (aa (pv 3) (aa (pv 7) (aa (pv 5) (aa (pv 6) (aa (pv 12) ae))))))) (ag (cp (i:=14) nd (bp cf rfl n_list L2.boot_list (aa (pv 4) ae))) (ag (cp (i:=15) nd (av (mw hr.gs hr.units) rfl n_repr L2.boot_repr (aa (pv 12) ae))) (ag (dZ PassesOwn.never rfl (cG rfl n_range (aa af ae)) (aF (i:=16) nd rfl (Or.inl rfl) (.inr rfl)) (ag (cp (i:=17) nd (br c_shows_roots_of hr ay (aa (pv 14) (aa (pv 5) (aa (pv 6) (aa (pv 12) ae)))))) (ak (aQ (PW.pt (cF (bX (aM (av bA rfl n_isinstance PyProof.Rows.boot_isinstance (aa (pv 17) (aa (bZ (v:=.ty "bool") rfl n_bool L2.boot_bool rfl) ae))) (λ_=>rfl))) (cF (ax fF (pv 17) (pv 13) (aq _)) (cF (ax (jy hr.units) (pv 14) (pv 4) (aq _)) (d5 (ax fF (av (mw hr.gs hr.units) rfl n_repr L2.boot_repr (aa (pv 12) ae)) (pv 15) (aq _))))))) (ak (au bO)) aD)))) (ag (cp (i:=18) nd (br c__law_bent_papers hr ay (aa (pv 4) (aa (br c__law_take hr ay (aa (pv 2) (aa af ae))) (aa (br c__law_take hr ay (aa (pv 2) (aa (av aG rfl n_len PySem.boot_len (aa (pv 4) ae)) ae))) ae))))) (ak (aQ (ax si (br c_shows_roots_of hr ay (aa (pv 18) (aa (pv 5) (aa (pv 6) (aa (pv 12) ae))))) bO (aq _)) (ak (au bO)) aD))))))))))))) aD)))))))))))) (ag (fW (i:=6) nd rfl (Or.inr rfl) (br c__law_number hr ay (aa (br c__law_state hr ay (aa (br c__law_cell_at hr ay (aa (pv 0) (aa af ae))) (aa (bh ba (aw aU (br c__law_cell_at hr ay (aa (pv 0) (aa af ae))) af) af (aq _)) ae))) ae))) (ak (au (bG (bh wj (br c__law_by_six hr ay (aa (pv 6) (aa af ae))) bO (aq _)) (cA (bh wj (br c__law_by_six hr ay (aa (pv 6) (aa af ae))) bO (aq _)))))))),?_⟩
 show b9 _ _ _ [some (.ref sc),none,none,none,none,none,none,none,none,none,none,none,none,none,none,none,none,none,none] H
 k_data
 refine⟨sc,_,rfl,hS,λpc hpc=>⟨by show 1<=sizeLine;decide,λpz hpz=>?_⟩⟩
 have s4:=aj (o:=.lst (cz (ns.map V.int) (some 1) (some 9))) hpc
 have s5:=aj (o:=.lst [V.int 0]) hpz
 have e4:upd (upd H pc (.lst (cz (ns.map V.int) (some 1) (some 9)))) pz (.lst [V.int 0]) pc=some (.lst (cz (ns.map V.int) (some 1) (some 9))):=s5 _ _ ai
 have e5:upd (upd H pc (.lst (cz (ns.map V.int) (some 1) (some 9)))) pz (.lst [V.int 0]) pz=some (.lst [V.int 0]):=ai
 have S5:=s4.trans s5
 generalize upd (upd H pc _) pz _=H5 at *
 have cl:(cz (ns.map V.int) (some 1) (some 9)).length<=63:=Nat.le_trans (eG _ _ _) (by rw [List.length_map];exact h63)
 have hin:∀ x∈cz (ns.map V.int) (some 1) (some 9)++[V.int 0],∃ c,x=.int c:=by
  intro x hx
  rcases List.mem_append.mp hx with y | y
  ·exact uT y
  ·exact⟨0,List.mem_singleton.mp y⟩
 refine⟨pc,pz,_,_,rfl,rfl,e4,e5,Nat.le_trans (show _+1<=64 by omega) (by decide),λpl hpl=>⟨pl,rfl,⟨_,aS.of ai⟩,?_⟩⟩
 generalize cz (ns.map V.int) (some 1) (some 9)++[V.int 0]=L at *
 have S6:=S5.trans (aj (o:=.lst L) hpl)
 have e6:upd H5 pl (.lst L) pl=some (.lst L):=ai
 generalize upd H5 pl _=H6 at *
 refine dS (xs:=L) (λi σ' H'=>Dq sc L H pl σ' H') ⟨_,_,_,_,_,_,_,_,_,_,_,_,_,_,_,_,_,_,rfl,S6,e6⟩ (λi σ' H' _ h=>by obtain⟨_,_,_,_,_,_,_,_,_,_,_,_,_,_,_,_,_,_,_,_,z⟩:=h;exact aS.of z) ?_ ?_
 ·intro i x σ' H7 hx iv
  apply iv.el
  intro o1 o2 o3 o4 o5 o6 o7 o8 o9 o10 o11 o12 o13 o14 o15 o16 o17 o18 S7 e7
  obtain⟨c,rfl⟩:=hin x (List.mem_of_getElem? hx)
  k_data
  refine⟨sc,ns,0,rfl,hS.same S7,λc0=>⟨c0,rfl,c,_,rfl,λp1 l1 H8 s8 f8 e8 k8=>?_⟩⟩
  refine⟨p1,l1,_,rfl,e8,k8,λpp ls H9 hls so nn ll u9 f9 e9=>?_⟩
  obtain⟨l9,k9,et9⟩:=u9.1
  have npp:pp≠p1:=λz=>by rw [z,et9] at e9;cases e9
  refine⟨pp,rfl,⟨_,aS.of e9⟩,?_⟩
  generalize hfr:decide (c0%2=0)=fr at *
  have hb13:∀ p∈ls,2<=p/\p<=13:=λp hp=>by
   have:=(hls p hp).2
   simp only [List.mem_cons,List.not_mem_nil,or_false] at this
   omega
  refine bQ (xs:=ls.map V.int) (λi zs H'=>EE K p1 fr H9 ls i zs H') ⟨Us.refl et9 k9,[],rfl,rfl,λj p d _ z=>by cases z⟩ (by rw [List.length_map];exact Nat.le_trans ll (by decide)) (λi zs H' hi ⟨z1,ds,z2,z3,_⟩=>⟨eC z1 et9 (aS.of e9),by rw [z2.length,z3];exact Nat.le_refl _⟩) ?_ ?_
  ·rintro i x zs H3 hx ⟨u3,ds,hz,hl3,hP⟩
   rw [List.getElem?_map] at hx
   obtain⟨p,hy,rfl⟩:=Option.map_eq_some_iff.mp hx
   obtain⟨pm,p9⟩:=hls p (List.mem_of_getElem? hy)
   have p13:=(hb13 p (List.mem_of_getElem? hy)).2
   show cK 0 _ [none,some (.ref p1)] _ _
   k_data
   subst hl3
   obtain⟨l3,k3,e3⟩:=u3.1
   refine⟨⟨rfl,trivial⟩,p1,2,l3,fr,rfl,e3,k3,by decide,by decide,λr1 H4 r10 r11 u4=>?_⟩
   obtain⟨l4,k4,e4'⟩:=u4.at
   refine⟨p1,12,l4,fr,rfl,e4',k4,by decide,by decide,λr2 H5' r20 r21 u5=>⟨r1,rfl,r2,rfl,Bd.of (by omega) (by omega),Bd.of (by omega) (by omega),?_⟩⟩
   have b1:r1*r2<=2*12:=Int.mul_le_mul (by omega) (by omega) (by omega) (by decide)
   refine⟨p,r1*r2,rfl,pm,by omega,Int.mul_nonneg r10 r20,by omega,λd v H6' hF s6 hv=>?_⟩
   have u45:=(u4.trans u5).us
   exact⟨bT (u3.trans u45) s6,ds++[d],(bo.same s6 _ (mS u45 e3 hz)).append (.one hv),by simp,yV hP hy hF⟩
  rintro us H3 pa ⟨u3,ds,hz,hl3,hP⟩ hpa
  rw [List.length_map] at hl3
  have F:mU ls ds:=⟨hl3,hP⟩
  have s11:=aj (o:=.lst us) hpa
  have epa:upd H3 pa (.lst us) pa=some (.lst us):=ai
  generalize upd H3 pa _=H11 at *
  have hz11:=bo.same s11 _ hz
  have u11:=bT u3 s11
  obtain⟨l11,k11,e11⟩:=u11.1
  have npa:pa≠p1:=λz=>by rw [z,e11] at epa;cases epa
  have T7:aE H7 H11:=(u9.trans u11).same s8 f8
  have f7:H7 p1=none:=f8
  have epp:=u11.2 _ _ npp e9
  clear hz u3 s11 hpa e8 f9 s8 u9
  refine⟨by show 3<=sizeLine;decide,λa12 ha12=>?_⟩
  have s12:=aj (o:=.lst [V.int 12,V.int 1000,V.int 1000000000]) ha12
  have e12:upd H11 a12 (.lst [V.int 12,V.int 1000,V.int 1000000000]) a12=some (.lst [V.int 12,V.int 1000,V.int 1000000000]):=ai
  generalize upd H11 a12 _=H12 at *
  have n12:a12≠p1:=λz=>by rw [z,s12 _ _ e11] at e12;cases e12
  refine⟨p1,3,l11,fr,rfl,s12 _ _ e11,k11,by decide,by decide,λr13 H13 r130 r131 u13=>?_⟩
  obtain⟨l13,k13,e13⟩:=u13.at
  refine cj (aS.of (u13.us.2 _ _ n12 e12)) r130 r131 λv13 hv13=>?_
  obtain⟨m,rfl,m0,m9⟩:∃ m:Int,v13=.int m/\1<=m/\m<=10^9:=by
   simp only [List.mem_cons,List.not_mem_nil,or_false] at hv13
   rcases hv13 with rfl | rfl | rfl<;>exact⟨_,rfl,by decide,by decide⟩
  refine⟨p1,m,l13,fr,rfl,e13,k13,by omega,by omega,λk' H14 k0 k1 u14=>⟨k',rfl,?_⟩⟩
  obtain⟨l14,k14,e14⟩:=u14.at
  have U14:Us p1 fr H11 H14:=(bT (Us.refl e11 k11) s12).trans (u13.trans u14).us
  obtain⟨k,hk,k0',k9⟩:∃ k:Int,1+k'=k/\0<k/\k<=10^9:=⟨_,rfl,by omega,by omega⟩
  rw [hk]
  refine⟨p1,l14,fr,rfl,e14,k14,λa0 H15 a00 a01 u15=>?_⟩
  have U15:=U14.trans u15.us
  obtain⟨l15,k15,e15⟩:=u15.at
  clear u13 u14 u15 s12 e12 ha12 hk
  refine⟨λσ' H'=>Dk p1 fr H11 [some (.ref sc),some (.int c),some (.ref p1),some (.ref pp),some (.ref pa),some (.int k)] [o7,o8,o9,o10,o11,o12,o13,o14,o15,o16,o17,o18] σ' H',?_,?_⟩
  ·k_data
   refine⟨p1,2,l15,fr,rfl,e15,k15,by decide,by decide,λr H16 r0 r1 u16=>⟨rfl,?_⟩⟩
   have U16:=U15.trans u16.us
   refine aH (λ_=>?_) (λ_=>⟨U16,a0,by omega,by omega,rfl⟩)
   refine⟨30030,a0,k,rfl,by decide,by decide,by omega,?_⟩
   have h0:=Int.emod_nonneg (a0^k.toNat) (show (30030:Int)≠0 by decide)
   have h1:=Int.emod_lt_of_pos (a0^k.toNat) (show (0:Int)<30030 by decide)
   exact⟨U16,_,by omega,by omega,rfl⟩
  intro σ' H16 iv
  apply iv.el
  intro a U16 a0' a1'
  k_data
  have epp16:=U16.2 _ _ npp epp
  have hP6:P6 ls:=⟨⟨λp hp=>(hls p hp).1,so⟩,λp hp=>(hls p hp).2⟩
  refine⟨⟨_,aS.of epp16⟩,bQ (xs:=ls.map V.int) (λi ys H'=>EC K k a H16 ls i ys H') ⟨aE.refl _,rfl,Nat.le_refl _⟩ (by rw [List.length_map];exact Nat.le_trans ll (by decide)) (λi ys H' _ h=>⟨(aS.of epp16).same h.1,h.2.2⟩) ?_ ?_⟩
  ·rintro i x ys H17 hx ⟨s17,hys,yl⟩
   rw [List.getElem?_map] at hx
   obtain⟨p,hp,rfl⟩:=Option.map_eq_some_iff.mp hx
   obtain⟨p2,p13⟩:=hb13 p (List.mem_of_getElem? hp)
   show cK 0 _ [none,some (.int k),some (.int a)] _ _
   k_data
   have ep:((p.toNat:Nat):Int)=p:=Int.toNat_of_nonneg (by omega)
   refine⟨⟨rfl,rfl,trivial⟩,by omega,by omega,cD (λj zs H'=>H'=H17/\zs=(b6 p k a j).map V.int) ⟨rfl,rfl⟩ (Nat.le_trans (show p.toNat<=71 by omega) (by decide)) (λj zs H' _ h=>by rw [h.2,List.length_map];exact nk) ?_ ?_⟩
   ·rintro j zs H18 hj ⟨rfl,rfl⟩
    rw [Int.zero_add]
    simp only [cn,List.map_cons,List.map_nil,Option.join]
    k_data
    refine⟨⟨rfl,rfl,rfl,True.intro⟩,_,rfl,_,rfl,p,j,k,rfl,by omega,by omega,by omega,_,rfl,_,rfl,a,rfl,p,rfl,by omega,rfl,?_⟩
    rw [vd]
    refine aH (λc=>⟨rfl,?_⟩) (λc=>⟨rfl,?_⟩)
    ·rw [if_pos (V.int.inj c),List.map_append];rfl
    ·rw [if_neg (λz=>c (by rw [z])),List.append_nil]
   rintro zs H18 dl ⟨rfl,rfl⟩ hdl
   have s19:=aj (o:=.lst ((b6 p k a p.toNat).map V.int)) hdl
   refine⟨s17.trans s19,?_,by rw [List.length_append,List.length_singleton];omega⟩
   rw [List.take_add_one,hp]
   unfold dO rT at *
   rw [Option.toList_some,List.map_append,List.map_append]
   exact (bo.same s19 _ hys).append (.one ⟨dl,_,rfl,aS.of ai,dw _⟩)
  rintro uls H17 lpa ⟨s17,hys,yl⟩ hlpa
  rw [List.length_map,List.take_length] at hys
  have s18:=aj (o:=.lst uls) hlpa
  have elp:upd H17 lpa (.lst uls) lpa=some (.lst uls):=ai
  generalize upd H17 lpa _=HB at *
  have UB:=bT U16 (s17.trans s18)
  have DB:qf K HB pp lpa uls ls (dO ls k a):=⟨eC UB e11 (aS.of epp),aS.of elp,bo.same s18 _ hys,by unfold dO;rw [List.length_map],ll,nn,hb13,λA hA=>by
   obtain⟨p,hp,rfl⟩:=List.mem_map.mp hA
   have:=hb13 p hp
   have:=nk (p:=p) (k:=k) (a:=a) (n:=p.toNat)
   exact⟨by omega,λx hx=>by have:=kj.mp hx;omega⟩⟩
  refine⟨lpa,rfl,⟨_,aS.of elp⟩,dS (xs:=uls) (λi σ' H'=>uI ls k a HB [some (.ref sc),some (.int c),some (.ref p1),some (.ref pp),some (.ref pa),some (.int k),some (.int a),some (.ref lpa)] [o10,o11,o12,o13,o14,o15,o16,o17,o18] i σ' H') ⟨rfl,o9,rfl⟩ (λi σ' H' _ h=>h.1▸aS.of elp) ?_ ?_⟩
  ·intro i x σ' H18 hx iv
   apply iv.el
   intro o9'
   have il:=(List.getElem?_eq_some_iff.mp hx).1
   have ul:uls.length=ls.length:=by rw [DB.ds.length];unfold rT;rw [List.length_map,DB.len]
   obtain⟨p,A,qa,h1,h2,h3,h4⟩:=DB.get (i:=i) (by omega)
   rw [hx] at h3
   cases h3
   have pb:=A5 (a:=a) (k:=k) hP6 ll i
   have gA:=(DB.km A (List.mem_of_getElem? h2)).1
   k_data
   refine aZ h4 ⟨_,rfl,Bd.of (by omega) (by omega),Bd.of (by rw [List.length_map];omega) (by rw [List.length_map];omega),rfl,some (.ref qa),?_⟩
   rw [List.take_add_one,h2,Option.toList_some,List.map_append,List.map_singleton,fw,List.length_map]
   rfl
  intro σ' H18 iv
  apply iv.el
  intro o9'
  k_data
  rw [show uls.length=(dO ls k a).length by rw [DB.ds.length];unfold rT;rw [List.length_map],List.take_length]
  have TB:=UB.same T7 f7
  refine aH (λkm=>?_) (λ_=>⟨_,_,_,_,_,_,_,_,_,_,_,_,_,_,_,_,_,_,rfl,S7.trans TB,TB _ _ e7⟩)
  replace km:C2 ls k a:=km
  obtain⟨lB,kB,eB⟩:=UB.1
  have epa:=UB.2 _ _ npa epa
  have hzB:=mS UB e11 hz11
  have usl:us.length=ls.length:=by rw [hzB.length,hl3]
  have hm0:=mL (As:=dO ls k a)
  generalize aL ((dO ls k a).map λA=>(A.length:Int))=many at *
  clear hys s17 s18 hlpa elp yl epp16 U16 UB T7 e11 k11 epp e15 k15 U15 U14 e14 k14
  refine⟨pp,lpa,p1,uls,ls,k,a,lB,fr,rfl,DB,hP6,k0',eB,kB,λv d H19 md u19 hv=>?_⟩
  have th:=md.EM hP6 km nn ll
  refine aZ (eC u19 eB (aS.of epa)) ⟨v,d,us.length,rfl,hv,th,by omega,λvb H20 gb s20=>?_⟩
  have U20:=bT u19 s20
  obtain⟨l19,k19,e19⟩:=u19.1
  refine⟨λσ' H'=>EF p1 fr H19 [some (.ref sc),some (.int c),some (.ref p1),some (.ref pp),some (.ref pa),some (.int k),some (.int a),some (.ref lpa),some (.int many),o9',some v,some vb,o12,o13,o14,o15,o16,o17,o18] σ' H',?_,?_⟩
  ·k_data
   have epa20:=eC (K:=K) U20 eB (aS.of epa)
   refine aZ epa20 ⟨_,rfl,aH (λc4=>?_) (λc4=>⟨rfl,bT (Us.refl e19 k19) s20⟩)⟩
   refine⟨us,epa20,λa26 ha26=>?_⟩
   have s26:=aj (o:=.lst us.reverse) ha26
   have hr26:dv K (upd H20 a26 (.lst us.reverse)) (.list ds.reverse) (.ref a26):=dv.lst ai (rF (bo.same s26 _ (mS U20 eB hzB)))
   generalize upd H20 a26 _=H26 at *
   obtain⟨db,hdb,hgb⟩:=gb
   refine⟨.ref a26,vb,.list ds.reverse,db,k,a,rfl,hr26,gP λd hd=>en F.sm (List.mem_reverse.mp hd),?_,hdb.same s26,hgb.g,k0',by omega,.inl ⟨yn F so (by omega),λH27 s27=>⟨false,rfl,?_⟩⟩⟩
   ·have:=i4 (N:=358) (ds:=ds.reverse) λd hd=>by
     obtain⟨p,_,h⟩:=F.mem (List.mem_reverse.mp hd)
     exact gK h
    rw [List.length_reverse] at this
    show 1+bJ ds.reverse<=10^6
    omega
   ·rw [if_neg (by decide)]
    exact⟨rfl,bT (Us.refl e19 k19) (s20.trans (s26.trans s27))⟩
  rintro σ' H21 ⟨rfl,u21⟩
  k_data
  have hv21:=fI u21 e19 hv
  obtain⟨l21,k21,e21⟩:=u21.1
  have D21:=ib (u19.trans u21) eB DB
  refine⟨v,p1,d,l21,fr,rfl,hv21,th,e21,k21,λv2 H22 gv2 u22=>?_⟩
  obtain⟨l22,k22,e22⟩:=u22.1
  refine⟨λσ' H'=>C4 K p1 fr H21 [some (.ref sc),some (.int c),some (.ref p1),some (.ref pp),some (.ref pa),some (.int k),some (.int a),some (.ref lpa),some (.int many),o9',some v,some vb] [o13,o14,o15,o16,o17,o18] σ' H',?_,?_⟩
  ·k_data
   refine aH (λmp=>?_) (λ_=>⟨u22,v2,gv2,rfl⟩)
   refine⟨p1,4,l22,fr,rfl,e22,k22,by decide,by decide,λr H23 r0 r1 u23=>⟨rfl,aH (λ_=>?_) (λ_=>⟨u22.trans u23.us,v2,gv2.map λ_ _=>fI u23.us e22,rfl⟩)⟩⟩
   obtain⟨l23,k23,e23⟩:=u23.at
   have nA:=hm0 mp
   have U23:=u22.trans u23.us
   have hv23:=fI U23 e21 hv21
   have D23:=ib U23 e21 D21
   have gl:=th.gl
   cases md with
   | no _ _ _ _ _ _ z=>exact absurd z nA
   | j5 rows _ rl rf =>
    exact⟨pp,lpa,p1,uls,ls,dO ls k a,v,_,rows,l23,fr,rfl,D23,λq hq=>(hls q hq).1,λA hA z=>nA (z▸hA),λq hq x hx=>(((nj (k:=k) (a:=a) hP6).2 q hq).2 x hx).2,hv23,rl,rf,gl,e23,k23,λv' H' g u=>⟨U23.trans u,v',g,rfl⟩⟩
  intro σ' H23 iv
  apply iv.el
  intro v3 d3 u23 hv3 gl3
  k_data
  obtain⟨l23,k23,e23⟩:=u23.1
  refine⟨λσ' H'=>C4 K p1 fr H21 [some (.ref sc),some (.int c),some (.ref p1),some (.ref pp),some (.ref pa),some (.int k),some (.int a),some (.ref lpa),some (.int many),o9',some v,some vb] [o13,o14,o15,o16,o17,o18] σ' H',?_,?_⟩
  ·k_data
   refine aH (λ_=>?_) (λ_=>⟨u23,v3,⟨d3,hv3,gl3⟩,rfl⟩)
   refine⟨p1,2,l23,fr,rfl,e23,k23,by decide,by decide,λr H24 r0 r1 u24=>⟨rfl,aH (λ_=>?_) (λ_=>⟨u23.trans u24.us,v3,⟨d3,fI u24.us e23 hv3,gl3⟩,rfl⟩)⟩⟩
   have U24:=u23.trans u24.us
   exact⟨pp,ls,k,a,rfl,(ib U24 e21 D21).hp,hb13,ll,k0',λv' H' s' g=>⟨bT U24 s',v',g,rfl⟩⟩
  clear hv3 gl3 u23 e23 k23
  intro σ' H23 iv
  apply iv.el
  intro v3 d3 u23 hv3 gl3
  k_data
  obtain⟨l23,k23,e23⟩:=u23.1
  have V23:=u19.trans (u21.trans u23)
  refine⟨pp,lpa,uls,ls,k,a,v3,d3,rfl,ib V23 eB DB,hP6,k0',km,hv3.dv,gl3,λbb H24 hbb s24=>?_⟩
  have V24:=bT V23 s24
  have epa24:=V24.2 _ _ npa epa
  refine⟨us,.inl (aS.of epa24),λah hah=>?_⟩
  have s25:=aj (o:=.lst us) hah
  have e25:upd H24 ah (.lst us) ah=some (.lst us):=ai
  generalize upd H24 ah _=H25 at *
  have V25:=bT V24 s25
  have hv25:=hv3.same (s24.trans s25)
  refine GL.repr hv25.dv gl3 (by decide) ?_
  refine fu (n:=2) (λj σ' H'=>Ab H25 [some (.ref sc),some (.int c),some (.ref p1),some (.ref pp),some (.ref pa),some (.int k),some (.int a),some (.ref lpa),some (.int many),o9',some v,some vb,some v3,some (.bl bb),some (.ref ah),some (.str d3.shown)] [o18] σ' H') ⟨aE.refl _,_,_,rfl⟩ ?_ ?_
  ·intro j σ' H26 hj iv
   apply iv.el
   intro o16' o17' s26
   k_data
   have hz25:=mS V25 eB hzB
   have sz:=F.sz
   refine⟨.ref ah,v3,.list ds,d3,k,a,rfl,⟨ah,us,rfl,aS.of (s26 _ _ e25),bo.same s26 _ hz25⟩,F.sm,by show 1+bJ ds<=10^6;omega,hv25.same s26,gl3.g,k0',by omega,.inr ⟨ls,ds,rfl,F,F.zN so nn (by omega),λp hp=>by have:=hb13 p hp;omega,λb2 H27 hb2 s27=>kQ (d:=.bool b2) rfl ⟨true,aO.mpr rfl,?_⟩⟩⟩
   rw [if_neg (by decide)]
   have eb:b2=bb:=by rw [Bool.eq_iff_iff,hb2,hbb]
   refine⟨rfl,?_⟩
   rw [eb,if_neg λz=>z rfl]
   obtain⟨lay1,lay2⟩:=F.lay λp hp=>by have:=hb13 p hp;omega
   have S27:=s26.trans s27
   have hz27:=bo.same S27 _ hz25
   refine uS (d:=.list ds) ⟨ah,us,rfl,aS.of (S27 _ _ e25),hz27⟩ ⟨pa,us,rfl,aS.of ((s25.trans S27) _ _ epa24),hz27⟩ lay1 (by simp only [PyData.depth];omega) ⟨_,rfl,?_⟩
   rw [if_neg (by decide)]
   refine GL.repr (hv25.same S27).dv gl3 (by decide) ⟨rfl,?_⟩
   rw [if_neg λz=>z rfl]
   exact⟨S27,_,_,rfl⟩
  intro σ' H26 iv
  apply iv.el
  intro o16' o17' s26
  k_data
  have V26:=bT V25 s26
  obtain⟨l26,k26,e26⟩:=V26.1
  refine⟨p1,7,l26,fr,rfl,e26,k26,by decide,by decide,λw' H27 w0 w7 u27=>?_⟩
  obtain⟨l27,k27,e27⟩:=u27.at
  have V27:=V26.trans u27.us
  refine aZ (eC V27 eB (aS.of epa)) ⟨p1,_,l27,fr,rfl,e27,k27,by omega,by omega,λm' H28 m0 m1 u28=>?_⟩
  have V28:=V27.trans u28.us
  obtain⟨w',rfl⟩:∃ n:Nat,w'=n:=⟨w'.toNat,by omega⟩
  obtain⟨m',rfl⟩:∃ n:Nat,m'=n:=⟨m'.toNat,by omega⟩
  refine⟨pa,us,ls,ds,w',m',rfl,⟨eC V28 eB (aS.of epa),mS V28 eB hzB,F,so,nn,by omega⟩,V28.2 _ _ npa epa,by omega,by omega,λv6 d6 H29 hv6 n6 sm6 sz6 s29=>?_⟩
  have hv28:=fI (u27.trans u28).us e26 (hv25.same s26)
  refine⟨v6,v3,d6,d3,k,a,rfl,hv6,sm6,sz6,hv28.same s29,gl3.g,k0',by omega,.inl ⟨n6,λH30 s30=>⟨false,rfl,?_⟩⟩⟩
  rw [if_neg (by decide)]
  have T:=(bT V28 (s29.trans s30)).same TB f7
  exact⟨_,_,_,_,_,_,_,_,_,_,_,_,_,_,_,_,_,_,rfl,S7.trans T,T _ _ e7⟩
 ·intro σ' H7 iv
  apply iv.el
  intro o1 o2 o3 o4 o5 o6 o7 o8 o9 o10 o11 o12 o13 o14 o15 o16 o17 o18 S7 e7
  k_data
  refine⟨sc,ns,1,rfl,hS.same S7,λc1=>⟨sc,ns,0,rfl,hS.same S7,λc0=>⟨c0,rfl,c1,_,rfl,λp l H8 s8 f8 e8 k8=>⟨p,l,_,rfl,e8,k8,λa H9 a0 a1 u9=>?_⟩⟩⟩⟩
  refine⟨a,5,rfl,by omega,by omega,.inl rfl,λH10 s10=>⟨_,rfl,?_⟩⟩
  rw [if_pos (by decide)]
  exact⟨a,6,rfl,by omega,by omega,.inr rfl,λH11 s11=>⟨_,rfl,q H11⟩⟩
end
end K
namespace PySem.W.Fast
def tw880598134146810724:=0
def tw10190999537149422720:=0
def tw8065427004976906496:=0
def tw6958142065766954240:=0
def tw9183432077074041184:=0
def tw12108953204617861792:=0
def tw6238074692557338272:=0
def tw3389326614662763200:=0
def tw6753759501428712192:=0
def tw10188030655011808096:=0
def tw16910601062256172033:=0
def tw3121888354353177825:=0
def tw7778772588826798465:=0
def tw935497033578727873:=0
def tw11482806097822477889:=0
def tw18130125575560925793:=0
def tw2216100068210840257:=0
def tw9171037049311803073:=0
def tw14123593199286651649:=0
def tw11182482503902238529:=0
def tw10994401114059201377:=0
def tw12025632851960901505:=0
def tw40101240579292129:=0
def tw5976942022531637538:=0
def tw3350182682269458914:=0
def tw8247757465702748642:=0
def tw11946318115882333666:=0
def tw16423605449697633986:=0
def tw7961783156416762626:=0
def tw3181803482509520770:=0
def tw15341499117948649378:=0
def tw18269212285712102723:=0
def tw6984996732019577475:=0
def tw5931881853938285187:=0
def tw9274993178878005187:=0
def tw15282086474948372516:=0
def tw7530851545193024580:=0
def tw8542509012983325828:=0
def tw14248431381275202980:=0
def tw2759672098379585092:=0
def tw4296315861253821284:=0
def tw16098272330892910564:=0
def tw3322024214639188229:=0
def tw12612303980123661669:=0
def tw3856487445635963365:=0
def tw12220154764037841829:=0
def tw8405133350632384421:=0
def tw16741373916805809158:=0
def tw12710179567327982630:=0
def tw7854560527363284198:=0
def tw14227839982183610630:=0
def tw13514146815677257094:=0
def tw13838006074620616326:=0
def tw10634312604757421734:=0
def tw7461728977924810662:=0
def tw7623479748707267558:=0
def tw7013812946501433383:=0
def tw2418452061889174599:=0
def tw12243442808808384583:=0
def tw12669103683160790087:=0
def tw4545923464096984167:=0
def tw2905694261164626023:=0
def tw8427054572453175463:=0
def tw13687122281291905223:=0
def tw14312391018910541031:=0
def tw6967882079041426759:=0
def tw14128941066897632583:=0
def tw7906164013464866215:=0
def tw1285749121985992199:=0
def tw12650795309621999143:=0
def tw11618163925413008999:=0
def tw3377655743308049031:=0
def tw14505479020682425991:=0
def tw873389341764059847:=0
def tw7413572645542914023:=0
def tw5636983161178673192:=0
def tw2246089227929289832:=0
def tw12559618532051479912:=0
def tw844719218220567112:=0
def tw17306068881799001928:=0
def tw16505477796293026921:=0
def tw9951687552144477321:=0
def tw5518253076183391945:=0
def tw16100059176083356617:=0
def tw7869743118143104074:=0
def tw13090885169527073002:=0
def tw7317075941805585674:=0
def tw2376800304889497962:=0
def tw5734636644248839594:=0
def tw7848936458325855339:=0
def tw12870123683839385707:=0
def tw13324418996497288587:=0
def tw5494619590695134699:=0
def tw16138297078726408364:=0
def tw16382162687466762444:=0
def tw16620865403948265708:=0
def tw8033590860699062636:=0
def tw10920703915892150700:=0
def tw10807978973132241772:=0
def tw6343324235760681997:=0
def tw7525801182493621325:=0
def tw13272870079559739565:=0
def tw492581912377076685:=0
def tw14253015403508098062:=0
def tw2573657610883127438:=0
def tw11582214535249377678:=0
def tw2929444305220727182:=0
def tw13029399343662096142:=0
def tw3529433888145833806:=0
def tw15454707827106120590:=0
def tw15339711816308211598:=0
def tw8999526966733238254:=0
def tw16984246256645472303:=0
def tw10318494436990679119:=0
def tw6375348501133569167:=0
def tw15183490089404882287:=0
def tw6085063439067102799:=0
def tw9402724578956098159:=0
def tw12447539499783943823:=0
def tw2968096610978868975:=0
def tw7197973527138473903:=0
def tw5520729366047005840:=0
def tw6680135912856436880:=0
def tw11895470399206871248:=0
def tw3689044223030339856:=0
def tw15434712331983381776:=0
def tw7192334286398451120:=0
def tw10514668475523960528:=0
def tw81457579240095472:=0
def tw963102567505865488:=0
def tw11281808883384208497:=0
def tw13941281320104879281:=0
def tw10505200338138680529:=0
def tw12145474894507970801:=0
def tw16888562731395607857:=0
def tw1665950654157286737:=0
def tw5257714627917057393:=0
def tw1622717041676901169:=0
def tw6171757802283419601:=0
def tw16645144587579909073:=0
def tw5268647131118235633:=0
def tw3558395367978806290:=0
def tw2671686934075096114:=0
def tw15143560105971214418:=0
def tw9456768754410275954:=0
def tw3750386643446418578:=0
def tw7472102641289833650:=0
def tw4824549577161063634:=0
def tw15756154488763183410:=0
def tw5662377137764209138:=0
def tw4883685055658122770:=0
def tw1399664226734224050:=0
def tw234655402561964850:=0
def tw14530446939786403059:=0
def tw3885129523846286803:=0
def tw11722901137158607603:=0
def tw5824293754249846707:=0
def tw4324710519468250164:=0
def tw16504315016352687188:=0
def tw10839204059563274484:=0
def tw6060440767566781204:=0
def tw8697703127438953845:=0
def tw12942962268861005173:=0
def tw3707704832811175541:=0
def tw5050346955798632213:=0
def tw9950987768534254389:=0
def tw10374234143721196533:=0
def tw3054129477034864886:=0
def tw7927577863177430358:=0
def tw13492246138107819382:=0
def tw1336872163175957974:=0
def tw15965701693566221846:=0
def tw9493293267174968886:=0
def tw6945714197909651030:=0
def tw8610796060642681622:=0
def tw8665202319630200758:=0
def tw8294921837168011415:=0
def tw10200767036196296919:=0
def tw1486176738099243223:=0
def tw16459583335034288439:=0
def tw10226527310554958295:=0
def tw11058726588283470327:=0
def tw13099277864779564535:=0
def tw9253987149900921399:=0
def tw16620407518678438647:=0
def tw14114031722264723351:=0
def tw2225676188555585495:=0
def tw10232609213700928503:=0
def tw7572116852515562616:=0
def tw1138704098415961944:=0
def tw6990653103325635512:=0
def tw4194122374455044185:=0
def tw12988408540040212633:=0
def tw18429313372012655129:=0
def tw4043261916210979353:=0
def tw4031976226245374617:=0
def tw5504474356081576665:=0
def tw3150963867281527801:=0
def tw11475031256466031674:=0
def tw2707217938312756282:=0
def tw10132617436314176890:=0
def tw14882572374033717658:=0
def tw1038847971739857370:=0
def tw3962407633076058650:=0
def tw1402556615183687386:=0
def tw10601399152150033370:=0
def tw17331053502921609307:=0
def tw5698630348912642139:=0
def tw13042868710704501851:=0
def tw9972471834571253947:=0
def tw16649602589876892251:=0
def tw17520982805820712667:=0
def tw7734427066792736475:=0
def tw9215013170512514811:=0
def tw15019276738893376251:=0
def tw5178148956009609051:=0
def tw8294646764540945307:=0
def tw13320073280384887964:=0
def tw17221214097569349884:=0
def tw4982060828288971164:=0
def tw3599786088425910748:=0
def tw11013250581715560028:=0
def tw12454608604324185724:=0
def tw11878963447730603676:=0
def tw17408574527913547420:=0
def tw11002428907930956540:=0
def tw10794187650168312604:=0
def tw17370398771610085244:=0
def tw16717980300856628188:=0
def tw1165143719486875741:=0
def tw10110077804114722173:=0
def tw10103128285223590365:=0
def tw17087051224090616381:=0
def tw5075852844448282173:=0
def tw11458223289175546653:=0
def tw15551211843476982878:=0
def tw15991264485759402142:=0
def tw16941512169847766430:=0
def tw5327696551988664766:=0
def tw4324095845719831198:=0
def tw15170537192380542686:=0
def tw15083721179604925278:=0
def tw17442280885099143070:=0
def tw501387959777652734:=0
def tw7573270035614497951:=0
def tw14126414528782735551:=0
def tw8380022187990815039:=0
def tw13419077335919218111:=0
def tw2558538958578017023:=0
def tw13736496846968852255:=0
def tw12697530602309712735:=0
def tw1178212465002323935:=0
end PySem.W.Fast
namespace K
open PySem PySem.Spec PyProof.Rows L2
end K
open PySem PySem.W PyProof.Rows L2
set_option maxHeartbeats 0 in
theorem PySem.Challenge.cw_rootprime_k70_roots_let_by_holds : PySem.Challenge.rw_rootprime_k70_roots_let_by.Holds := by
 w_on;o_law;k_head;(case hw=>w_witness2)
 k_fill
 refine L2.xy (l:=PySem.Challenge.rw_rootprime_k70_roots_let_by) (n:=63) (k:=34) (x := "_law_script") (CX:=L2.aV) (sp:=K.zS) rfl (by decide) rfl ⟨rfl,by decide,by decide,rfl⟩ (λw h Y=>PySem.W.kIn_of Y) ?F ?S ?C
 case F =>
  intro w mg fa h KX G hmg
  have d_divisor:L2.aA (L2.cQ KX) mg "divisor" (K.top 4):=K.cZ KX G
  have d_inverse:L2.aA (L2.cQ KX) mg "inverse" (K.top 5):=K.cZ KX G
  have d_is_whole:L2.aA (L2.cQ KX) mg "is_whole" (K.top 9):=K.cZ KX G
  have d_is_tuple_of:L2.aA (L2.cQ KX) mg "is_tuple_of" (K.top 10):=K.cZ KX G
  have d_is_just:L2.aA (L2.cQ KX) mg "is_just" (K.top 11):=K.cZ KX G
  have d_are_just:L2.aA (L2.cQ KX) mg "are_just" (K.top 12):=K.cZ KX G
  have d_product_of:L2.aA (L2.cQ KX) mg "product_of" (K.top 13):=K.cZ KX G
  have d_primes_in:L2.aA (L2.cQ KX) mg "primes_in" (K.top 14):=K.cZ KX G
  have d_power:L2.aA (L2.cQ KX) mg "power" (K.top 16):=K.cZ KX G
  have d_is_least:L2.aA (L2.cQ KX) mg "is_least" (K.top 17):=K.cZ KX G
  have d_is_prime_paper:L2.aA (L2.cQ KX) mg "is_prime_paper" (K.top 19):=K.cZ KX G
  have d_is_order:L2.aA (L2.cQ KX) mg "is_order" (K.top 20):=K.cZ KX G
  have d_are_prime_papers:L2.aA (L2.cQ KX) mg "are_prime_papers" (K.top 21):=K.cZ KX G
  have d_is_right_above:L2.aA (L2.cQ KX) mg "is_right_above" (K.top 22):=K.cZ KX G
  have d_is_paper_form:L2.aA (L2.cQ KX) mg "is_paper_form" (K.top 23):=K.cZ KX G
  have d_come_to:L2.aA (L2.cQ KX) mg "come_to" (K.top 24):=K.cZ KX G
  have d_is_row_form:L2.aA (L2.cQ KX) mg "is_row_form" (K.top 25):=K.cZ KX G
  have d_without:L2.aA (L2.cQ KX) mg "without" (K.top 26):=K.cZ KX G
  have d_shows_roots:L2.aA (L2.cQ KX) mg "shows_roots" (K.top 28):=K.cZ KX G
  have d_how_many_roots:L2.aA (L2.cQ KX) mg "how_many_roots" (K.top 29):=K.cZ KX G
  have d_shown_none:L2.aA (L2.cQ KX) mg "shown_none" (K.top 30):=K.cZ KX G
  have d_are_all_roots:L2.aA (L2.cQ KX) mg "are_all_roots" (K.top 31):=K.cZ KX G
  have d_are_rising_below:L2.aA (L2.cQ KX) mg "are_rising_below" (K.top 32):=K.cZ KX G
  have d_is_root:L2.aA (L2.cQ KX) mg "is_root" (K.top 33):=K.cZ KX G
  have d_is_shown_by:L2.aA (L2.cQ KX) mg "is_shown_by" (K.top 34):=K.cZ KX G
  have d_shows_roots_of:L2.aA (L2.cQ KX) mg "shows_roots_of" (K.top 36):=K.cZ KX G
  have d_are_papers:L2.aA (L2.cQ KX) mg "are_papers" (K.top 37):=K.cZ KX G
  have d_are_rising:L2.aA (L2.cQ KX) mg "are_rising" (K.top 38):=K.cZ KX G
  have d_is_none_at:L2.aA (L2.cQ KX) mg "is_none_at" (K.top 39):=K.cZ KX G
  have d_is_place:L2.aA (L2.cQ KX) mg "is_place" (K.top 40):=K.cZ KX G
  have d_is_by:L2.aA (L2.cQ KX) mg "is_by" (K.top 41):=K.cZ KX G
  have d__law_cell_at:L2.aA (L2.cQ KX) mg "_law_cell_at" (K.top 43):=K.cZ KX G
  have d__law_state:L2.aA (L2.cQ KX) mg "_law_state" (K.top 44):=K.cZ KX G
  have d__law_take:L2.aA (L2.cQ KX) mg "_law_take" (K.top 45):=K.cZ KX G
  have d__law_number:L2.aA (L2.cQ KX) mg "_law_number" (K.top 46):=K.cZ KX G
  have d__law_power:L2.aA (L2.cQ KX) mg "_law_power" (K.top 47):=K.cZ KX G
  have d__law_steps:L2.aA (L2.cQ KX) mg "_law_steps" (K.top 48):=K.cZ KX G
  have d__law_parted:L2.aA (L2.cQ KX) mg "_law_parted" (K.top 49):=K.cZ KX G
  have d__law_paper:L2.aA (L2.cQ KX) mg "_law_paper" (K.top 50):=K.cZ KX G
  have d__law_primes:L2.aA (L2.cQ KX) mg "_law_primes" (K.top 51):=K.cZ KX G
  have d__law_common:L2.aA (L2.cQ KX) mg "_law_common" (K.top 52):=K.cZ KX G
  have d__law_row:L2.aA (L2.cQ KX) mg "_law_row" (K.top 53):=K.cZ KX G
  have d__law_all:L2.aA (L2.cQ KX) mg "_law_all" (K.top 54):=K.cZ KX G
  have d__law_none:L2.aA (L2.cQ KX) mg "_law_none" (K.top 55):=K.cZ KX G
  have d__law_made:L2.aA (L2.cQ KX) mg "_law_made" (K.top 56):=K.cZ KX G
  have d__law_put:L2.aA (L2.cQ KX) mg "_law_put" (K.top 57):=K.cZ KX G
  have d__law_bent_list:L2.aA (L2.cQ KX) mg "_law_bent_list" (K.top 58):=K.cZ KX G
  have d__law_bent_shown:L2.aA (L2.cQ KX) mg "_law_bent_shown" (K.top 59):=K.cZ KX G
  have d__law_bare:L2.aA (L2.cQ KX) mg "_law_bare" (K.top 60):=K.cZ KX G
  have d__law_bent:L2.aA (L2.cQ KX) mg "_law_bent" (K.top 61):=K.cZ KX G
  have d__law_wholes:L2.aA (L2.cQ KX) mg "_law_wholes" (K.top 62):=K.cZ KX G
  have d__law_is_row:L2.aA (L2.cQ KX) mg "_law_is_row" (K.top 63):=K.cZ KX G
  have d__law_due:L2.aA (L2.cQ KX) mg "_law_due" (K.top 64):=K.cZ KX G
  have d__law_turned:L2.aA (L2.cQ KX) mg "_law_turned" (K.top 65):=K.cZ KX G
  have d__law_by_six:L2.aA (L2.cQ KX) mg "_law_by_six" (K.top 66):=K.cZ KX G
  have d__law_other_turn:L2.aA (L2.cQ KX) mg "_law_other_turn" (K.top 67):=K.cZ KX G
  have d__law_bent_papers:L2.aA (L2.cQ KX) mg "_law_bent_papers" (K.top 68):=K.cZ KX G
  have d_law:L2.aA (L2.cQ KX) mg "law" (K.top 69):=K.cZ KX G
  have n_abs:mg "abs"=none:=PySem.W.mg_none_of KX G (by k_is)
  have n_int:mg "int"=none:=PySem.W.mg_none_of KX G (by k_is)
  have n_bool:mg "bool"=none:=PySem.W.mg_none_of KX G (by k_is)
  have n_isinstance:mg "isinstance"=none:=PySem.W.mg_none_of KX G (by k_is)
  have n_range:mg "range"=none:=PySem.W.mg_none_of KX G (by k_is)
  have n_tuple:mg "tuple"=none:=PySem.W.mg_none_of KX G (by k_is)
  have n_all:mg "all"=none:=PySem.W.mg_none_of KX G (by k_is)
  have n_list:mg "list"=none:=PySem.W.mg_none_of KX G (by k_is)
  have n_len:mg "len"=none:=PySem.W.mg_none_of KX G (by k_is)
  have n_zip:mg "zip"=none:=PySem.W.mg_none_of KX G (by k_is)
  have n_sorted:mg "sorted"=none:=PySem.W.mg_none_of KX G (by k_is)
  have n_repr:mg "repr"=none:=PySem.W.mg_none_of KX G (by k_is)
  have n_min:mg "min"=none:=PySem.W.mg_none_of KX G (by k_is)
  refine' L2.BQ (PySem.W.mg_of (n := "MOST_PRIMES") KX G ?xa) (λg_MOST_PRIMES=>?g1)
  (case xa=>k_is)
  refine' L2.BQ (PySem.W.mg_of (n := "MOST_TOLD") KX G ?xa) (λg_MOST_TOLD=>?g2)
  (case xa=>k_is)
  refine L2.yg hmg d_law (λ_ _ _ _ _ _ _=>rfl) λbase f fd kb F=>?_
  have dvr:=λP w=>K.qG (P:=P) (w:=w) (base:=base) d_divisor n_abs
  have pw:=λP w=>K.v9 (P:=P) (w:=w) (base:=base) d_power n_abs
  have lt:=λP w=>K.qH (P:=P) (w:=w) (base:=base) d_is_least (pw P w) n_all
  have pi:=λP w=>K.pE (P:=P) (w:=w) (base:=base) d_primes_in
  have wl:=λP w=>K.DQ (P:=P) (w:=w) (base:=base) d_is_whole n_isinstance n_int n_bool
  have tf:=λP w=>K.AW (P:=P) (w:=w) (base:=base) d_is_tuple_of n_isinstance n_tuple n_len
  have pf:=λP w=>K.Ci (P:=P) (w:=w) (base:=base) d_is_paper_form (wl P w) (tf P w) n_isinstance n_tuple
  have rf:=λP w=>K.Cm (P:=P) (w:=w) (base:=base) d_is_row_form (wl P w) (tf P w) (pf P w)
  have ct:=λP w=>K.Cg (P:=P) (w:=w) (base:=base) d_come_to (rf P w) (K.Cn d_without)
  have rab:=λP w=>K.Ck (P:=P) (w:=w) (base:=base) d_is_right_above (pf P w) (ct P w) (lt P w) (pi P w)
  have zN:=λP w=>K.AU (P:=P) (w:=w) (base:=base) d_are_prime_papers (rab P w) n_list
  have ppr:=λP w=>K.Cj (P:=P) (w:=w) (base:=base) d_is_prime_paper (zN P w)
  have iord:=λP w=>K.qI (P:=P) (w:=w) (base:=base) d_is_order (lt P w) (pi P w)
  have jst:=λP w=>K.sg (P:=P) (w:=w) (base:=base) (fi:=0) d_is_just d_are_just (wl P w) n_isinstance n_list n_tuple n_len n_zip n_all 7
  have how:=λP w=>K.AQ (P:=P) (w:=w) (base:=base) d_how_many_roots (dvr P w)
  have aro:=λP w=>K.yp (P:=P) (w:=w) (base:=base) d_are_all_roots (K.wa d_product_of) (how P w) (K.wb d_are_rising_below (wl P w) n_all n_zip) (K.ud d_is_root (pw P w)) ⟨_,g_MOST_TOLD⟩ n_isinstance n_list n_len n_all
  have shb:=λP w=>K.uj (P:=P) (w:=w) (base:=base) d_is_shown_by (jst P w) (tf P w) (wl P w) (iord P w) (how P w) n_min
  have shr:=λP w=>K.uk (P:=P) (w:=w) (base:=base) d_shows_roots (ppr P w) (tf P w) (K.yx d_shown_none (how P w) (pw P w)) (jst P w) (aro P w) (shb P w)
  have plc:=λP w=>K.v8 (P:=P) (w:=w) (base:=base) d_is_place (wl P w)
  have ro:=λP w=>K.Ce (P:=P) (w:=w) (base:=base) d_shows_roots_of (K.uh d_are_papers (zN P w) (K.ui d_are_rising n_all n_zip) ⟨_,g_MOST_PRIMES⟩ n_isinstance n_list n_len) (tf P w) (K.uf d_is_none_at (tf P w) (plc P w)) (K.Cf d_is_by (tf P w)) (shr P w) (aro P w) (shb P w) n_all n_len n_zip
  have tk:=λP w=>K.yy (P:=P) (w:=w) (base:=base) d__law_take
  have lp:=λP w=>K.ue (P:=P) (w:=w) (base:=base) d__law_power
  have st:=λP w=>K.wd (P:=P) (w:=w) (base:=base) d__law_steps
  have ln:=λP w=>K.v5 (P:=P) (w:=w) (base:=base) d__law_none (K.uc d__law_common) (lp P w)
  have la:=λP w=>K.yt (P:=P) (w:=w) (base:=base) d__law_all n_range n_len
  have pt:=λP w=>K.yu (P:=P) (w:=w) (base:=base) d__law_put
  have lw:=λP w=>K.uo (P:=P) (w:=w) (base:=base) d__law_wholes n_isinstance n_int n_bool n_len
  have lpa:=λP w=>K.yi (K.kZ (P:=P) (w:=w) (base:=base) d__law_paper (K.qL d__law_parted) (st P w) n_len n_range n_tuple 30)
  exact K.AS F (K.wc d__law_state) (K.ub d__law_cell_at n_len) (tk _ _) (K.qM d__law_primes (tk _ _) n_range n_sorted) (K.ug d__law_number (tk _ _) n_range) (lp _ _) (lpa _ _) (K.yw d__law_made (tk _ _) (ln _ _) (K.yv d__law_row (st _ _) n_range n_len) (la _ _) n_range n_len n_tuple) (K.um d__law_turned) (ro _ _) (K.yr d__law_bent (tk _ _) (K.vT d__law_bent_list (tk _ _) (pt _ _) n_len n_tuple) (K.vV d__law_bent_shown (tk _ _) n_list n_len n_tuple) n_list) (K.v7 d__law_other_turn (tk _ _) (pt _ _) (la _ _) n_len n_list n_sorted n_tuple) (K.yq d__law_bare (ln _ _) n_tuple) (K.AO d__law_due (lw _ _) (ln _ _) (la _ _) (K.vW d__law_is_row (lw _ _) (st _ _) n_isinstance n_tuple n_len) n_isinstance n_tuple n_list n_len n_range) (K.vU d__law_bent_papers n_int n_tuple) (K.AV d__law_by_six (lpa _ _) (ro _ _) n_int n_tuple) n_list n_len n_range n_repr n_isinstance n_bool
 case S=>exact λK H a ns hl hO hS=>⟨a,ns,rfl,hS,hl,λ_=>rfl⟩
 case C=>exact λ_ _ _ _ z=>z
