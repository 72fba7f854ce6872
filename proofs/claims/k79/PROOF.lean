import PyProof.Rows.All
import Wide.All
import OpenK.AllK
import Wide.FinOn
import Lean
import PyProof.EqAt
import PyProof.EqKinds
import PyProof.TupleCall
import KE.KRevSl
import PyProof.NeData
import PyProof.P3Eq
import PyProof.Rows.Range3
import PyProof.EnumMake
import PyProof.Draws
import PyProof.ZipIter
import KE.KDictList
import KE.KDictSum
import PyProof.WalkInts
import PyProof.Rows.SeqCalls
import PyProof.ReprRoads
import PyProof.CallFns
import PyProof.ReprLen
import PyProof.FitsInt
import PyProof.CallStr
import PyProof.StrCalls2
import PyProof.StrCalls3
import PyProof.StrBlockI
import PyProof.StrBlock2
import PyProof.StrBlockL
import PyProof.SliceStr2
import KE.KIntText
import KE.IntTextLaws
import PyProof.StrLawsIn
import PyProof.Rows.StrMul
import PyProof.Rows.StrJoinRep
import PyProof.StrCalls6
import PySem.Challenge.RW_rootprime_k79_texts_of_no_thing
set_option Elab.async false
local macro_rules | `(tactic| omega) => `(tactic| lia)
set_option linter.all false
set_option maxRecDepth 100000
namespace L2
open PySem PySem.Spec PyProof.Rows
abbrev Key:=Sum Int Str
def jf:Key->Value->Bool
 | .inl k,v=>Value.isInt k v
 | .inr x,v=>Value.isStrOf x v
def zu (w:World):Key->Int
 | .inl k=>hashInt k
 | .inr x=>hashStr w x
theorem a8:∀{k:Key} {v:Value},jf k v=true->(∃ i t,k=Sum.inl i/\v=Value.int i t)∨(∃ x t,k=Sum.inr x/\v=Value.str x t)
 | .inl i,v,h=>by
  obtain⟨t,e⟩:=Value.isInt_shape (k:=i) (v:=v) h
  exact .inl ⟨i,t,rfl,e⟩
 | .inr x,v,h=>by
  obtain⟨t,e⟩:=Value.isStrOf_shape (x:=x) (v:=v) h
  exact .inr ⟨x,t,rfl,e⟩
theorem ou (i:Int) (t:Tok):jf (.inl i) (.int i t)=true:=by simp [jf,Value.isInt]
theorem ow (x:Str) (t:Tok):jf (.inr x) (.str x t)=true:=by simp [jf,Value.isStrOf]
theorem v9 (a b:Int):decide ((Sum.inl a:Key)=Sum.inl b)=(a==b):=by
 by_cases e:a=b
 ·subst e;simp
 ·have h:¬(Sum.inl a:Key)=Sum.inl b:=λq=>e (Sum.inl.inj q)
  rw [decide_eq_false h]
  exact (beq_eq_false_iff_ne.mpr e).symm
theorem wc (a b:Str):decide ((Sum.inr a:Key)=Sum.inr b)=decide (a=b):=by
 by_cases e:a=b
 ·subst e;simp
 ·have h:¬(Sum.inr a:Key)=Sum.inr b:=λq=>e (Sum.inr.inj q)
  rw [decide_eq_false h,decide_eq_false e]
theorem wa (a:Int) (b:Str):decide ((Sum.inl a:Key)=Sum.inr b)=false:=decide_eq_false (λq=>nomatch q)
theorem wb (a:Str) (b:Int):decide ((Sum.inr a:Key)=Sum.inl b)=false:=decide_eq_false (λq=>nomatch q)
def bc (prog:Program) (w:World):PySem.KeyKind prog w Key where
 is:=jf
 hash:=zu w
 inj:=λv a b ha hb=>by
  rcases a8 ha with⟨i,t,rfl,rfl⟩|⟨x,t,rfl,rfl⟩
  ·rcases a8 hb with⟨j,u,rfl,e⟩|⟨y,u,rfl,e⟩
   ·injection e with e1 _;rw [e1]
   ·exact nomatch e
  ·rcases a8 hb with⟨j,u,rfl,e⟩|⟨y,u,rfl,e⟩
   ·exact nomatch e
   ·injection e with e1 _;rw [e1]
 byValue:=λk v h=>by
  rcases a8 h with⟨i,t,rfl,rfl⟩|⟨x,t,rfl,rfl⟩<;>rfl
 pyHash:=λhv h=>by
  rcases a8 hv with⟨i,t,rfl,rfl⟩|⟨x,t,rfl,rfl⟩
  ·exact wpAny_pyHash_int h
  ·exact wpAny_pyHash_str h
 eqBool:=λhu hv h=>by
  rcases a8 hu with⟨i,t,rfl,rfl⟩|⟨x,t,rfl,rfl⟩
  ·rcases a8 hv with⟨j,u,rfl,rfl⟩|⟨y,u,rfl,rfl⟩
   ·rw [v9] at h;exact wpAny_eqBool_int h
   ·rw [wa] at h;exact SeqAt.EqAt.int_str i t y u _ _ _ _ h
  ·rcases a8 hv with⟨j,u,rfl,rfl⟩|⟨y,u,rfl,rfl⟩
   ·rw [wb] at h;exact SeqAt.EqAt.str_int x t j u _ _ _ _ h
   ·rw [wc] at h;exact wpAny_eqBool_str h
 «strs»:=λk x t v h=>by
  rcases a8 h with⟨i,u,rfl,e⟩|⟨y,u,rfl,e⟩
  ·exact nomatch e
  ·injection e with e1 _
   subst e1
   cases v<;>rfl
theorem kA (prog:Program) (w:World) (i:Int) (t:Tok):(bc prog w).is (.inl i) (.int i t)=true:=ou i t
theorem kB (prog:Program) (w:World) (x:Str) (t:Tok):(bc prog w).is (.inr x) (.str x t)=true:=ow x t
inductive V where
 | aQ | bl (b:Bool) | int (i:Int) | str (x:Str) | byt (b:Array UInt8) | flt (b:UInt64) | ref (a:Addr) | ty (n:String)
 deriving DecidableEq
def RelV:V->Value->Prop
 | .aQ,u=>u=Value.none
 | .bl b,u=>u=Value.bool b
 | .int i,u=>∃ t,u=Value.int i t
 | .str x,u=>∃ t,u=Value.str x t
 | .byt b,u=>∃ t,u=Value.bytes b t
 | .flt b,u=>∃ t,u=Value.float b t
 | .ref a,u=>u=Value.ref a
 | .ty n,u=>u=Value.type n
abbrev Vals:List V->List Value->Prop:=Paired RelV
theorem Vals.length {xs:List V} {us:List Value} (r:Vals xs us):xs.length=us.length:=Paired.length r
theorem Vals.get:∀{xs:List V} {us:List Value} {i:Nat} {x:V},Vals xs us->xs[i]?=some x->∃ u,us[i]?=some u/\RelV x u
 | _,_,_,_,.nil,e=>by simp at e
 | _,_,0,_,.cons r _,e=>by simp at e;subst e;exact⟨_,rfl,r⟩
 | _,_,i+1,x,.cons _ t,e=>by
  obtain⟨u,h1,h2⟩:=Vals.get (i:=i) (x:=x) t (by simpa using e)
  exact⟨u,by simpa using h1,h2⟩
theorem Vals.set {x:V} {u:Value} (r:RelV x u):∀{xs:List V} {us:List Value} (i:Nat),Vals xs us->Vals (xs.set i x) (us.set i u)
 | _,_,_,.nil=>.nil
 | _,_,0,.cons _ t=>.cons r t
 | _,_,i+1,.cons q t=>.cons q (Vals.set r i t)
theorem Vals.append:∀{xs ys:List V} {us ws:List Value},Vals xs us->Vals ys ws->Vals (xs++ys) (us++ws)
 | _,_,_,_,.nil,s=>s
 | _,_,_,_,.cons r t,s=>.cons r (Vals.append t s)
theorem Vals.take:∀{xs:List V} {us:List Value} (n:Nat),Vals xs us->Vals (xs.take n) (us.take n)
 | _,_,0,_=>.nil
 | _,_,_+1,.nil=>.nil
 | _,_,n+1,.cons r t=>.cons r (Vals.take n t)
theorem Vals.drop:∀{xs:List V} {us:List Value} (n:Nat),Vals xs us->Vals (xs.drop n) (us.drop n)
 | _,_,0,r=>r
 | _,_,_+1,.nil=>.nil
 | _,_,n+1,.cons _ t=>Vals.drop n t
def dO:Option V->Option Value->Prop
 | some v,some u=>RelV v u
 | none,none=>True
 | _,_=>False
def KV {κ:Type}:List (κ × V)->List (κ × Value)->Prop:=Paired fun(p:κ × V) (q:κ × Value)=>p.1=q.1/\RelV p.2 q.2
def kV:Key->V
 | .inl i=>.int i
 | .inr x=>.str x
inductive HO where
  | lst (xs:List V)
  | tup (xs:List V)
  | dK (kvs:List (Key × V)) | dT (kvs:List (List Key × V))
  | set (S:Int->Bool) (n:Nat)
  | ins (C dx:Addr) (fs:List (Str × V))
  | own (x:Addr)
  | xd (fs:List (Str × V))
  | met (f x:Addr)
  | rng (lo hi:Int)
  | frz (o:Obj) (u:HO)
  | tbl (ps:Array Value)
  | ext (φ:Heap->Prop)
abbrev Hp:=Addr->Option HO
def upd (H:Hp) (a:Addr) (o:HO):Hp:=λb=>if b=a then some o else H b
theorem aj {H:Hp} {a:Addr} {o:HO}:upd H a o a=some o:=by unfold upd;rw [if_pos rfl]
theorem ao {H:Hp} {a b:Addr} {o:HO} (h:b≠a):upd H a o b=H b:=by unfold upd;rw [if_neg h]
theorem ji {H:Hp} {a b:Addr} {o u:HO} (h:H a=some o) (h':H b=some u) (d:o≠u):a≠b:=by
 intro e;subst e;rw [h] at h';exact d (Option.some.inj h')
theorem aO {H:Hp} {a b:Addr} {o:HO} (h:H a=some o) (h':H b=none):a≠b:=by
 intro e;subst e;rw [h] at h';cases h'
section
variable (P:Program) (w:World)
def aS (H:Hp) (h:Heap) (a:Addr):HO->Prop
 | .lst xs=>xs.length<=sizeLine/\∃(its:List Value) (n:Nat),Vals xs its/\h.get? a=some { cls:=.type "list",data:=.seq its.toArray n }
 | .tup xs=>xs.length<=sizeLine/\∃ its:List Value,Vals xs its/\IsTup h a its.toArray
 | .dK kvs=>kvs.length<=sizeLine/\(a==sysModules)=false/\∃ vs,KV kvs vs/\h.DictOf (bc P w) a vs
 | .dT kvs=>kvs.length<=sizeLine/\(a==sysModules)=false/\∃ xs:List (List Key × Addr × Value),
   Paired (fun(p:List Key × V) (q:List Key × Addr × Value)=>p.1=q.1/\H q.2.1=some (.tup (p.1.map kV))/\RelV p.2 q.2.2) kvs xs /\
   ∃ o es ep,h.get? a=some o/\o.ExactDict/\o.data=.dict es ep/\es.toList=xs.map (entryOfKey (tupleKind (bc P w)))/\(xs.map (·.1)).Nodup
 | .set S n=>h.SetOf (intKind P w) a S n
 | .ins C dx fs=>H dx=some (.own a)/\fs.length<=1000/\dx≠a/\h.get? a=some (PySem.W.instObj C dx) /\
   ∃ mA,h.Ns1 dx mA/\(∀ f,dO (fs.lookup f) (mA f))/\PySem.Within mA (fs.map (·.1))
 | .own _=>∃ o,h.get? a=some o
 | .xd fs=>∃ mA,h.Ns1 a mA/\∀ f,dO (fs.lookup f) (mA f)
 | .rng lo hi=>∃ t u v,h.get? a=some { cls:=.type "range",data:=.fields #[.int lo t,.int hi u,.int 1 v] }
 | .frz o u=>h.get? a=some o/\aS H h a u
 | .tbl ps=>h.get? a=some { cls:=.none,data:=.fields ps }
 | .met f x=>h.get? a=some (PySem.W.methodObj (.ref f) (.ref x))
 | .ext φ=>φ h/\(∃ o,h.get? a=some o)/\∀ h1 h2:Heap,φ h1->(∀ o,h1.get? a=some o->h2.get? a=some o)->φ h2
def dB (H:Hp) (h:Heap):Prop:=∀ a o,H a=some o->aS P w H h a o
end
section
variable {P:Program} {w:World} {H H':Hp} {h h':Heap} {a:Addr} {o:HO}
theorem aS.lt (x:aS P w H h a o):a<h.objs.size:=by
 cases o with
 | lst xs=>obtain⟨_,_,_,_,e⟩:=x;exact Heap.lt_size e
 | tup xs=>obtain⟨_,_,_,p⟩:=x;exact p.lt
 | dK kvs=>obtain⟨_,_,_,_,o,_,_,e,_⟩:=x;exact Heap.lt_size e
 | dT kvs=>obtain⟨_,_,_,_,o,_,_,e,_⟩:=x;exact Heap.lt_size e
 | set S n=>obtain⟨o,_,_,_,e,_⟩:=x;exact Heap.lt_size e
 | ins C dx fs=>obtain⟨_,_,_,e,_⟩:=x;exact Heap.lt_size e
 | own y=>obtain⟨_,e⟩:=x;exact Heap.lt_size e
 | xd fs=>obtain⟨_,⟨_,_,_,e,_⟩,_⟩:=x;exact Heap.lt_size e
 | rng lo hi=>obtain⟨_,_,_,e⟩:=x;exact Heap.lt_size e
 | frz ob u=>obtain⟨e,_⟩:=x;exact Heap.lt_size e
 | tbl ps=>exact Heap.lt_size (show h.get? a=some _ from x)
 | met f y=>exact Heap.lt_size (show h.get? a=some _ from x)
 | ext φ=>obtain⟨_,⟨_,e⟩,_⟩:=x;exact Heap.lt_size e
theorem Paired.wj {α β:Type} {F G:α->β->Prop}:∀{l₁:List α} {l₂:List β},Paired F l₁ l₂->(∀ a b,F a b->G a b)->Paired G l₁ l₂
 | _,_,.nil,_=>.nil
 | _,_,.cons r t,f=>.cons (f _ _ r) (Paired.wj t f)
theorem aS.gy (x:aS P w H h a o) (k:∀ b u,(b=a∨H b=some (.own a))->h.get? b=some u->h'.get? b=some u)
  (ho:∀ b,H b=some (.own a)->H' b=some (.own a)) (ht:∀ b xs,H b=some (.tup xs)->H' b=some (.tup xs)):aS P w H' h' a o:=by
 induction o with
 | lst xs=>obtain⟨z,its,n,r,e⟩:=x;exact⟨z,its,n,r,k _ _ (.inl rfl) e⟩
 | tup xs=>obtain⟨z,its,r,ob,e,c⟩:=x;exact⟨z,its,r,ob,k _ _ (.inl rfl) e,c⟩
 | dK kvs=>obtain⟨z,y,vs,r,ob,es,ep,e,c⟩:=x;exact⟨z,y,vs,r,ob,es,ep,k _ _ (.inl rfl) e,c⟩
 | dT kvs =>
  obtain⟨z,y,xs,r,ob,es,ep,e,c⟩:=x
  exact⟨z,y,xs,Paired.wj r λp q z=>⟨z.1,ht _ _ z.2.1,z.2.2⟩,ob,es,ep,k _ _ (.inl rfl) e,c⟩
 | set S n=>obtain⟨ob,es,ep,t,e,c⟩:=x;exact⟨ob,es,ep,t,k _ _ (.inl rfl) e,c⟩
 | ins C dx fs =>
  obtain⟨d,z,ne,e,mA,⟨od,es,ep,e2,c⟩,r⟩:=x
  exact⟨ho _ d,z,ne,k _ _ (.inl rfl) e,mA,⟨od,es,ep,k _ _ (.inr d) e2,c⟩,r⟩
 | own y=>obtain⟨ob,e⟩:=x;exact⟨ob,k _ _ (.inl rfl) e⟩
 | xd fs=>obtain⟨mA,⟨od,es,ep,e,c⟩,r⟩:=x;exact⟨mA,⟨od,es,ep,k _ _ (.inl rfl) e,c⟩,r⟩
 | rng lo hi=>obtain⟨t,u,v,e⟩:=x;exact⟨t,u,v,k _ _ (.inl rfl) e⟩
 | frz ob u ih=>obtain⟨e,q⟩:=x;exact⟨k _ _ (.inl rfl) e,ih q⟩
 | tbl ps =>
  have e:h.get? a=some { cls:=.none,data:=.fields ps }:=x
  show h'.get? a=some { cls:=.none,data:=.fields ps }
  exact k a _ (.inl rfl) e
 | met f y =>
  have e:h.get? a=some (PySem.W.methodObj (.ref f) (.ref y)):=x
  show h'.get? a=some (PySem.W.methodObj (.ref f) (.ref y))
  exact k a _ (.inl rfl) e
 | ext φ=>obtain⟨p,⟨o,e⟩,st⟩:=x;exact⟨st _ _ p λo q=>k _ _ (.inl rfl) q,⟨o,k _ _ (.inl rfl) e⟩,st⟩
theorem dB.lt (x:dB P w H h) (e:H a=some o):a<h.objs.size:=(x a o e).lt
theorem dB.fresh (x:dB P w H h) (e:h.objs.size<=a):H a=none:=by
 cases q:H a with
 | none=>rfl
 | some u=>exact absurd (Nat.lt_of_lt_of_le (x.lt q) e) (Nat.lt_irrefl _)
theorem dB.kept (x:dB P w H h) (k:∀ b u,h.get? b=some u->h'.get? b=some u):dB P w H h':=λa o e =>
 (x a o e).gy (λb u _ q=>k b u q) (λ_ q=>q) λ_ _ q=>q
theorem dB.laid (x:dB P w H h) (k:∀ b u,h.get? b=some u->h'.get? b=some u) (hp:h.objs.size<=a) (new:aS P w (upd H a o) h' a o):dB P w (upd H a o) h':=λb u e=>by
 have hn:=x.fresh hp
 by_cases hb:b=a
 ·subst hb;rw [aj] at e;cases e;exact new
 ·rw [ao hb] at e
  exact (x b u e).gy (λc v _ q=>k c v q) (λc q=>by rw [ao (aO q hn)];exact q) λc xs q=>by rw [ao (aO q hn)];exact q
end
def Rd (H:Hp) (a:Addr) (u:HO):Prop:=H a=some u∨∃ o,H a=some (.frz o u)
theorem Rd.of {H:Hp} {a:Addr} {u:HO} (h:H a=some u):Rd H a u:=.inl h
theorem Rd.ok {P:Program} {w:World} {H:Hp} {h:Heap} {a:Addr} {u:HO} (r:Rd H a u) (x:dB P w H h):aS P w H h a u:=by
 rcases r with r | ⟨o,r⟩
 ·exact x a u r
 ·obtain⟨_,q⟩:=x a _ r
  exact q
def xJ:Option HO->Prop
 | some (.lst _)=>True
 | some (.dK _)=>True
 | some (.dT _)=>True
 | some (.set _ _)=>True
 | some (.ins _ _ _)=>True
 | some (.ext _)=>True
 | _=>False
section
variable {P:Program} {w:World} {H:Hp} {h h':Heap} {x e:Addr} {o':HO}
theorem dB.write (ok:dB P w H h) (mu:xJ (H x)) (he:e=x∨H e=some (.own x)) (k:∀ b u,b≠e->h.get? b=some u->h'.get? b=some u) (heo:∃ u,h'.get? e=some u)
  (new:aS P w (upd H x o') h' x o'):dB P w (upd H x o') h':=λb u q=>by
 have nown:∀ c y,H c=some (.own y)->c≠x:=λc y r z=>by subst z;rw [r] at mu;exact mu
 have ntup:∀ c xs,H c=some (.tup xs)->c≠x:=λc xs r z=>by subst z;rw [r] at mu;exact mu
 by_cases hb:b=x
 ·subst hb;rw [aj] at q;cases q;exact new
 ·rw [ao hb] at q
  by_cases hbe:b=e
  ·have q':H b=some (.own x):=by
    rcases he with z | z
    ·exact absurd (hbe.trans z) hb
    ·rw [hbe];exact z
   rw [q] at q';cases q'
   obtain⟨v,hv⟩:=heo
   exact⟨v,by rw [hbe];exact hv⟩
  ·refine (ok b u q).gy (λc v hc r=>k c v ?_ r) (λc r=>by rw [ao (nown c b r)];exact r) λc xs r=>by rw [ao (ntup c xs r)];exact r
   rcases hc with rfl | hc
   ·exact hbe
   ·rintro rfl
    rcases he with z | z
    ·exact nown c b hc z
    ·rw [hc] at z;cases z;exact hb rfl
end
structure Un (fs ex:List Addr) (H H':Hp) (h h':Heap):Prop where
 keep:∀ b o,h.get? b=some o->H b=none->b∉fs->b∉ex->h'.get? b=some o
 slot:∀ b o,h.get? b=some o->H b=none->b∈fs->b∉ex->∃ sl,h'.get? b=some { o with slots:=sl }
 free:∀ b o,h.get? b=some o->H b=none->b∉ex->H' b=none
 there:∀ b o,h.get? b=some o->b∉ex->∃ o',h'.get? b=some o'
 tups:∀ b xs,H b=some (.tup xs)->H' b=some (.tup xs)
 frzs:∀ b o u,H b=some (.frz o u)->H' b=some (.frz o u)
 tbls:∀ b ps,H b=some (.tbl ps)->∃ more,H' b=some (.tbl (ps++more))
section
variable {fs fs' ex ex':List Addr} {H H1 H2:Hp} {h h1 h2 h':Heap} {a x e:Addr} {o:HO}
theorem Un.any (u:Un fs ex H H1 h h1) {b:Addr} {ob:Obj} (q:h.get? b=some ob) (n:H b=none) (hx:b∉ex):∃ sl,h1.get? b=some { ob with slots:=sl }:=by
 by_cases hb:b∈fs
 ·exact u.slot b ob q n hb hx
 ·exact⟨ob.slots,u.keep b ob q n hb hx⟩
theorem Un.trans (a:Un fs ex H H1 h h1) (b:Un fs ex H1 H2 h1 h2):Un fs ex H H2 h h2 where
 keep:=λc ob q n hc hx=>b.keep c ob (a.keep c ob q n hc hx) (a.free c ob q n hx) hc hx
 slot:=λc ob q n hc hx=>by
  obtain⟨sl,e1⟩:=a.slot c ob q n hc hx
  obtain⟨sl',e2⟩:=b.slot c _ e1 (a.free c ob q n hx) hc hx
  exact⟨sl',e2⟩
 free:=λc ob q n hx=>by
  obtain⟨o',e1⟩:=a.there c ob q hx
  exact b.free c o' e1 (a.free c ob q n hx) hx
 there:=λc ob q hx=>by
  obtain⟨o',e1⟩:=a.there c ob q hx
  exact b.there c o' e1 hx
 tups:=λc xs q=>b.tups c xs (a.tups c xs q)
 frzs:=λc ob xs q=>b.frzs c ob xs (a.frzs c ob xs q)
 tbls:=λc ps q=>by
  obtain⟨m1,e1⟩:=a.tbls c ps q
  obtain⟨m2,e2⟩:=b.tbls c _ e1
  exact⟨m1++m2,by rw [e2,Array.append_assoc]⟩
theorem Un.kept (k:∀ b u,h.get? b=some u->h'.get? b=some u):Un fs ex H H h h' :=
 ⟨λb ob q _ _ _=>k b ob q,λb ob q _ _ _=>⟨ob.slots,k b ob q⟩,λ_ _ _ n _=>n,λb ob q _=>⟨ob,k b ob q⟩,λ_ _ q=>q,λ_ _ _ q=>q,λ_ ps q=>⟨#[],by rw [q];simp⟩⟩
theorem Un.refl:Un fs ex H H h h:=Un.kept λ_ _ q=>q
theorem Un.laid (k:∀ b u,h.get? b=some u->h'.get? b=some u) (hp:h.objs.size<=a) (hn:H a=none):Un fs ex H (upd H a o) h h' where
 keep:=λb u q _ _ _=>k b u q
 slot:=λb u q _ _ _=>⟨u.slots,k b u q⟩
 free:=λb u q n _=>by rw [ao (Nat.ne_of_lt (Nat.lt_of_lt_of_le (Heap.lt_size q) hp))];exact n
 there:=λb u q _=>⟨u,k b u q⟩
 tups:=λb xs q=>by rw [ao (aO q hn)];exact q
 frzs:=λb u xs q=>by rw [ao (aO q hn)];exact q
 tbls:=λb ps q=>⟨#[],by rw [ao (aO q hn),q];simp⟩
theorem Un.write (mu:xJ (H x)) (he:e=x∨H e=some (.own x)) (k:∀ b u,b≠e->h.get? b=some u->h'.get? b=some u) (heo:∃ u,h'.get? e=some u):Un fs ex H (upd H x o) h h':=by
 have hx:∀ b,H b=none->b≠x:=λb n z=>by subst z;rw [n] at mu;exact mu
 have hb:∀ b,H b=none->b≠e:=λb n z=>by
  subst z
  rcases he with r | r
  ·exact hx b n r
  ·rw [n] at r;cases r
 have hm:∀ b u,H b=some u->¬xJ (some u)->b≠x:=λb u q nm z=>by subst z;rw [q] at mu;exact nm mu
 refine⟨λb u q n _ _=>k b u (hb b n) q,λb u q n _ _=>⟨u.slots,k b u (hb b n) q⟩,λb u q n _=>by rw [ao (hx b n)];exact n,λb u q _=>?_,
  λb xs q=>by rw [ao (hm b _ q λz=>z)];exact q,λb u xs q=>by rw [ao (hm b _ q λz=>z)];exact q,λb ps q=>⟨#[],by rw [ao (hm b _ q λz=>z),q];simp⟩⟩
 by_cases hbe:b=e
 ·subst hbe;exact heo
 ·exact⟨u,k b u hbe q⟩
theorem Un.mono (u:Un fs ex H H1 h h1) (hs:∀ b∈fs,b∈fs') (hx:∀ b∈ex,b∈ex'):Un fs' ex' H H1 h h1 :=
 ⟨λb ob q n hb he=>u.keep b ob q n (λz=>hb (hs b z)) λz=>he (hx b z),λ_ _ q n _ he=>u.any q n λz=>he (hx _ z),λb ob q n he=>u.free b ob q n λz=>he (hx b z),λb ob q he=>u.there b ob q λz=>he (hx b z),u.tups,u.frzs,u.tbls⟩
end
def y0 (h:Heap) (H:Hp):List Addr:=(List.range h.objs.size).filter λa=>(H a).isSome
def jH (h:Heap) (H:Hp):Heap:=PySem.W.hideAll h (y0 h H)
theorem oj (h:Heap) (H:Hp):(jH h H).objs.size=h.objs.size:=PySem.W.hideAll_size _ _
theorem pV {h:Heap} {H:Hp} {b:Addr} {o:Obj} (e:h.get? b=some o) (n:H b=none):(jH h H).get? b=some o :=
 PySem.W.hideAll_get _ e λhm=>by
  have q:(H b).isSome=true:=(List.mem_filter.mp hm).2
  rw [n] at q;simp at q
theorem tI {h:Heap} {H:Hp} {b:Addr} {o:Obj} (e:(jH h H).get? b=some o):h.get? b=some o/\H b=none:=by
 have e':h.get? b=some o:=PySem.W.of_hideAll (y0 h H) e
 refine⟨e',?_⟩
 cases q:H b with
 | none=>rfl
 | some x =>
  have hm:b∈y0 h H:=List.mem_filter.mpr ⟨List.mem_range.mpr (Heap.lt_size e'),by simp [q]⟩
  have z:(jH h H).get? b=none:=PySem.W.hideAll_none (y0 h H) hm
  rw [z] at e;cases e
def sL (g h:Heap) (L:Addr):List (Addr × Obj):=(List.range h.objs.size).filterMap λa=>if a=L∨(g.get? a).isSome=true then none else (h.get? a).map λo=>(a,o)
def rest (g h:Heap) (L d:Addr):List (Addr × Obj):=(sL g h L).filter λp=>decide (p.1≠d)
structure Mod (K:PySem.W.Frag) (mg:Str->Option Value) (base:Heap):Prop where
 kin:K.In base
 glob:base.Ns mainGlobals mg
 blt:∃ mb,base.Ns builtinsNs mb/\∀ x:Str,x ≠ "__name__"->mb x=bootBuiltins x
 nolimit:base.NoLimit
structure Cx where
 prog:Program
 w:World
 K:PySem.W.Frag
 mg:Str->Option Value
 base:Heap
 A:Around
 N:List Str
 s₀:Shared
 H₀:Hp
 env:Env
 outer:List Env
 stack:List Env
 ex:List Addr
 fn:Str->Bool
 calm:Bool
 pn:List (Addr × Obj)
 xe:Value->Shared->Prop
def eS (l:List Env):List Addr:=l.filterMap (·.frame)
abbrev Cx.fs (X:Cx):List Addr:=eS X.outer
def vF (sc:Scope) (x:Str):Prop:=sc.names.lookup x=some .local∨sc.names.lookup x=some .cell∨sc.names.lookup x=some .free
def Loc (sc:Scope) (x:Str):Prop:=sc.names.lookup x=some .local∨sc.names.lookup x=some .cell
def Look (env:Env) (h:Heap) (m:Str->Option Value) (x:Str) (u:Value):Prop :=
 (env.kindOf x=some .local/\m x=some u)∨((env.kindOf x=some .cell∨env.kindOf x=some .free)/\∃ c,env.cells.lookup x=some c/\h.IsCell c (some u))
structure Cx.Ok (X:Cx):Prop where
 mod:Mod X.K X.mg X.base
 kind:X.env.scope.kind=.function
 glob:X.env.globals=mainGlobals
 blt:X.env.builtins=builtinsNs
 above:X.s₀.heap.objs.size<=X.env.locals
 inj:∀ x y c,X.env.cells.lookup x=some c->X.env.cells.lookup y=some c->x=y
 has:∀ x,(X.env.kindOf x=some .cell∨X.env.kindOf x=some .free)->∃ c,X.env.cells.lookup x=some c
 cab:∀ x c,X.fn x=true->X.env.cells.lookup x=some c->X.s₀.heap.objs.size<=c
 hd:X.calm=true->X.A.handled=none
 frames:X.A.frames=some X.stack
 stk:X.stack=X.outer∨(X.stack=X.env::X.outer/\X.env.frame=some X.env.locals)
 exf:∀ b∈X.ex,b≠X.env.locals/\∀ x c,X.env.cells.lookup x=some c->c≠b
 bs:∀ b o,X.base.get? b=some o->X.s₀.heap.get? b=some o/\X.H₀ b=none
 bsz:X.base.objs.size<=X.s₀.heap.objs.size
 noex:∀ b o,X.base.get? b=some o->b∉X.ex
 exfs:∀ b∈X.ex,b∉X.fs
 eT:X.s₀.heap.FunFrames X.base X.outer
 frf:∀ b∈X.fs,X.H₀ b=none
structure Inv (X:Cx) (pins:List (Addr × Obj)) (σ:List (Option V)) (H:Hp) (s:Shared):Prop where
 ok:X.Ok
 os:s.os=X.s₀.os
 bare:AllBare s.gens
 base:Un X.fs X.ex X.H₀ H X.s₀.heap s.heap
 loc:∃ m,s.heap.Ns X.env.locals m/\∀(i:Nat) (x:Str) (v:V),X.N[i]?=some x->σ[i]?=some (some v)->vF X.env.scope x->∃ u,RelV v u/\Look X.env s.heap m x u
 cell:∀ x c,X.env.cells.lookup x=some c->∃ v,s.heap.IsCell c v
 free:H X.env.locals=none
 freeC:∀ x c,X.env.cells.lookup x=some c->H c=none
 pin:∀ p∈X.pn++pins,s.heap.get? p.1=some p.2/\H p.1=none/\p.1≠X.env.locals/\p.1∉X.fs/\∀ v,p.2.data≠.cell v
 hok:dB X.prog X.w H s.heap
 len:σ.length=X.N.length
section
variable {X:Cx} {pins:List (Addr × Obj)} {σ:List (Option V)} {H H':Hp} {s:Shared} {h':Heap}
theorem Cx.Ok.zy (ok:X.Ok) {b:Addr} {o:Obj} (e:X.base.get? b=some o):b∉X.fs:=λhb=>by
 have:=(ok.eT.mem hb).1
 rw [e] at this;cases this
theorem Inv.bs (I:Inv X pins σ H s):∀ b o,X.base.get? b=some o->s.heap.get? b=some o/\H b=none:=λb o e =>
 ⟨I.base.keep b o (I.ok.bs b o e).1 (I.ok.bs b o e).2 (I.ok.zy e) (I.ok.noex b o e),I.base.free b o (I.ok.bs b o e).1 (I.ok.bs b o e).2 (I.ok.noex b o e)⟩
theorem Inv.bk (I:Inv X pins σ H s):∀ b o,X.base.get? b=some o->s.heap.get? b=some o:=λb o e=>(I.bs b o e).1
theorem Inv.mod (I:Inv X pins σ H s):Mod X.K X.mg X.base:=I.ok.mod
theorem Inv.dC (I:Inv X pins σ H s):X.K.In s.heap:=I.ok.mod.kin.keeps I.bk
theorem Inv.fr (I:Inv X pins σ H s):∃ m,Fr X.base X.env.locals s.heap m :=
 let ⟨m,hn,_⟩:=I.loc
 ⟨m,hn,I.bk,Nat.le_trans I.ok.bsz I.ok.above⟩
theorem Inv.lt (I:Inv X pins σ H s):X.env.locals<s.heap.objs.size:=let ⟨_,hn,_⟩:=I.loc;hn.lt
theorem Inv.sz (I:Inv X pins σ H s):X.s₀.heap.objs.size<=s.heap.objs.size:=Nat.le_trans I.ok.above (Nat.le_of_lt I.lt)
theorem Inv.wo (I:Inv X pins σ H s) {a:Addr} (h:s.heap.objs.size<=a):a∉X.fs:=λhb=>by
 obtain⟨_,o,ho,_⟩:=I.ok.eT.mem hb
 exact absurd (Nat.lt_of_lt_of_le (Heap.lt_size ho) (Nat.le_trans I.sz h)) (Nat.lt_irrefl _)
theorem Inv.pz (I:Inv X pins σ H s):∀ x c,X.env.cells.lookup x=some c->c≠X.env.locals:=λx c e z=>by
 obtain⟨v,o,ho,hd⟩:=I.cell x c e
 obtain⟨m,⟨o',es,ep,ho',hd',_⟩,_⟩:=I.loc
 rw [z,ho'] at ho;cases ho;rw [hd'] at hd;cases hd
theorem Inv.eT (I:Inv X pins σ H s):s.heap.FunFrames X.base X.outer:=by
 have all:∀(l:List Env),(∀ b∈eS l,b∈X.fs)->X.s₀.heap.FunFrames X.base l->s.heap.FunFrames X.base l:=by
  intro l
  induction l with
  | nil=>intro _ _;trivial
  | cons env r ih =>
   intro hs hl
   obtain⟨hk,⟨L,o,hf,hn,ho,hd⟩,hr⟩:=hl
   have hL:L∈X.fs:=hs L (by unfold eS;rw [List.filterMap_cons,hf];exact List.mem_cons_self)
   obtain⟨sl,e⟩:=I.base.slot L o ho (I.ok.frf L hL) hL λz=>I.ok.exfs L z hL
   exact⟨hk,⟨L,_,hf,hn,e,hd⟩,ih (λb hb=>hs b (by unfold eS;rw [List.filterMap_cons,hf];exact List.mem_cons_of_mem _ hb)) hr⟩
 exact all X.outer (λ_ hb=>hb) I.ok.eT
theorem Inv.stack (I:Inv X pins σ H s):s.heap.FunFrames X.base X.stack:=by
 rcases I.ok.stk with e | ⟨e,hf⟩
 ·rw [e];exact I.eT
 ·rw [e]
  obtain⟨m,hn,_⟩:=I.loc
  refine .cons (by rw [I.ok.kind];decide) hf hn ?_ I.eT
  exact Heap.get?_none_of_le (Nat.le_trans I.ok.bsz I.ok.above)
theorem Inv.e9 (I:Inv X pins σ H s):∀ b∈eS X.stack,b∈X.env.locals::X.fs:=λb hb=>by
 rcases I.ok.stk with e | ⟨e,hf⟩
 ·rw [e] at hb;exact List.mem_cons_of_mem _ hb
 ·rw [e] at hb
  unfold eS at hb
  rw [List.filterMap_cons,hf] at hb
  exact hb
theorem Inv.fN (I:Inv X pins σ H s):∀ b∈eS X.stack,H b=none:=λb hb=>by
 rcases List.mem_cons.mp (I.e9 b hb) with e | hb
 ·rw [e];exact I.free
 ·obtain⟨_,o,ho,_⟩:=I.ok.eT.mem hb
  exact I.base.free b o ho (I.ok.frf b hb) λz=>I.ok.exfs b z hb
theorem Inv.step {g':Array GenState} {t':Nat} {d':Drawn} {ch:List Addr} (I:Inv X pins σ H s)
  (hch:∀ b∈ch,(b∈X.ex∨X.s₀.heap.objs.size<=b)/\b≠X.env.locals/\(∀ x c,X.env.cells.lookup x=some c->c≠b)/\∀ p∈X.pn++pins,p.1≠b)
  (keep:∀ b o,b≠X.env.locals->b∉X.fs->b∉ch->s.heap.get? b=some o->H b=none->h'.get? b=some o)
  (slot:∀ b o,b≠X.env.locals->b∈X.fs->b∉ch->s.heap.get? b=some o->H b=none->∃ sl,h'.get? b=some { o with slots:=sl }) (free:∀ b o,b∉ch->s.heap.get? b=some o->H b=none->H' b=none)
  (there:∀ b o,b∉ch->s.heap.get? b=some o->∃ o',h'.get? b=some o')
  (tups:∀ b xs,H b=some (.tup xs)->H' b=some (.tup xs)) (frzs:∀ b o u,H b=some (.frz o u)->H' b=some (.frz o u)) (tbls:∀ b ps,H b=some (.tbl ps)->∃ more,H' b=some (.tbl (ps++more)))
  (ns:∀ m,s.heap.Ns X.env.locals m->h'.Ns X.env.locals m) (hok:dB X.prog X.w H' h') (hg:AllBare g') :
  Inv X pins σ H' { s with heap:=h',gens:=g',drawn:=d',toks:=t' }:=by
 have neL:∀ b o,X.s₀.heap.get? b=some o->b≠X.env.locals:=λb o e=>Nat.ne_of_lt (Nat.lt_of_lt_of_le (Heap.lt_size e) I.ok.above)
 have neC:∀ b o,X.s₀.heap.get? b=some o->b∉X.ex->b∉ch:=λb o e hx hb=>by
  rcases (hch b hb).1 with z | z
  ·exact hx z
  ·exact absurd (Nat.lt_of_lt_of_le (Heap.lt_size e) z) (Nat.lt_irrefl _)
 have cellK:∀ x c,X.env.cells.lookup x=some c->∀ v,s.heap.IsCell c v->h'.IsCell c v:=λx c e v ⟨o,ho,hd⟩=>by
  have nch:c∉ch:=λz=>(hch c z).2.2.1 x c e rfl
  by_cases hc:c∈X.fs
  ·obtain⟨sl,q⟩:=slot c o (I.pz x c e) hc nch ho (I.freeC x c e)
   exact⟨_,q,hd⟩
  ·exact⟨o,keep c o (I.pz x c e) hc nch ho (I.freeC x c e),hd⟩
 refine⟨I.ok,I.os,hg,⟨λb o e n hb hx=>?_,λb o e n hb hx=>?_,λb o e n hx=>?_,λb o e hx=>?_,λb xs e=>tups b xs (I.base.tups b xs e),λb o xs e=>frzs b o xs (I.base.frzs b o xs e),λb ps e=>?_⟩,?_,λx c e=>?_,?_,λx c e=>?_,λp hp=>?_,hok,I.len⟩
 ·exact keep b o (neL b o e) hb (neC b o e hx) (I.base.keep b o e n hb hx) (I.base.free b o e n hx)
 ·obtain⟨sl,e1⟩:=I.base.slot b o e n hb hx
  obtain⟨sl',e2⟩:=slot b _ (neL b o e) hb (neC b o e hx) e1 (I.base.free b o e n hx)
  exact⟨sl',e2⟩
 ·obtain⟨o',e1⟩:=I.base.there b o e hx
  exact free b o' (neC b o e hx) e1 (I.base.free b o e n hx)
 ·obtain⟨o',e1⟩:=I.base.there b o e hx
  exact there b o' (neC b o e hx) e1
 ·obtain⟨m1,e1⟩:=I.base.tbls b ps e
  obtain⟨m2,e2⟩:=tbls b _ e1
  exact⟨m1++m2,by rw [e2,Array.append_assoc]⟩
 ·obtain⟨m,hn,hl⟩:=I.loc
  refine⟨m,ns m hn,λi x v e1 e2 e3=>?_⟩
  obtain⟨u,r,l⟩:=hl i x v e1 e2 e3
  refine⟨u,r,?_⟩
  rcases l with l | ⟨k,c,e,z⟩
  ·exact .inl l
  ·exact .inr ⟨k,c,e,cellK x c e _ z⟩
 ·obtain⟨v,z⟩:=I.cell x c e
  exact⟨v,cellK x c e v z⟩
 ·obtain⟨m,⟨o,_,_,ho,_⟩,_⟩:=I.loc
  exact free _ o (λz=>(hch _ z).2.1 rfl) ho I.free
 ·obtain⟨v,o,ho,hd⟩:=I.cell x c e
  exact free c o (λz=>(hch c z).2.2.1 x c e rfl) ho (I.freeC x c e)
 ·obtain⟨e,n,ne,nf,d⟩:=I.pin p hp
  have nch:p.1∉ch:=λz=>(hch p.1 z).2.2.2 p hp rfl
  exact⟨keep p.1 p.2 ne nf nch e n,free p.1 p.2 nch e n,ne,nf,d⟩
theorem Inv.un {t':Nat} (I:Inv X pins σ H s) (u:Un X.fs [] H H' s.heap h') (hok:dB X.prog X.w H' h'):Inv X pins σ H' { s with heap:=h',toks:=t' }:=by
 obtain⟨m,⟨o,es,ep,ho,r⟩,_⟩:=id I.loc
 obtain⟨sl,hL⟩:=u.any ho I.free (by simp)
 exact I.step (g':=s.gens) (d':=s.drawn) (ch:=[]) (λ_ z=>nomatch z) (λb o _ hb _ e n=>u.keep b o e n hb (by simp)) (λb o _ hb _ e n=>u.slot b o e n hb (by simp)) (λb o _ e n=>u.free b o e n (by simp)) (λb o _ e=>u.there b o e (by simp)) u.tups u.frzs u.tbls (λm' hm=>by
  obtain⟨o',es',ep',ho',r'⟩:=hm
  rw [ho] at ho';cases ho'
  exact⟨_,es',ep',hL,r'⟩) hok I.bare
theorem Inv.call {g':Array GenState} {t':Nat} {d':Drawn} {ch:List Addr} (I:Inv X pins σ H s) (u:Un (eS X.stack) ch H H' s.heap h') (hok:dB X.prog X.w H' h') (hg:AllBare g')
  (hch:∀ b∈ch,(b∈X.ex∨X.s₀.heap.objs.size<=b)/\b≠X.env.locals/\(∀ x c,X.env.cells.lookup x=some c->c≠b)/\∀ p∈X.pn++pins,p.1≠b) :
  Inv X pins σ H' { s with heap:=h',gens:=g',drawn:=d',toks:=t' }:=by
 obtain⟨m,⟨o,es,ep,ho,r⟩,_⟩:=id I.loc
 obtain⟨sl,hL⟩:=u.any ho I.free λz=>(hch _ z).2.1 rfl
 exact I.step (ch:=ch) hch (λb o hL hb hc e n=>u.keep b o e n (λz=>(List.mem_cons.mp (I.e9 b z)).elim hL hb) hc) (λb o _ _ hc e n=>u.any e n hc) (λb o hc e n=>u.free b o e n hc) (λb o hc e=>u.there b o e hc) u.tups u.frzs u.tbls (λm' hm=>by
  obtain⟨o',es',ep',ho',r'⟩:=hm
  rw [ho] at ho';cases ho'
  exact⟨_,es',ep',hL,r'⟩) hok hg
theorem Inv.turned {t':Nat} {it:Addr} (I:Inv X pins σ H s) (k:∀ b o,b≠it->s.heap.get? b=some o->h'.get? b=some o) (hn:H it=none) (hL:it≠X.env.locals)
  (h1:it∈X.ex∨X.s₀.heap.objs.size<=it) (h2:∀ x c,X.env.cells.lookup x=some c->c≠it) (h3:∀ p∈X.pn++pins,p.1≠it):Inv X pins σ H { s with heap:=h',toks:=t' }:=by
 have nit:∀ b u,H b=some u->b≠it:=λb u e z=>by rw [z,hn] at e;cases e
 refine I.step (g':=s.gens) (d':=s.drawn) (ch:=[it]) (λb hb=>?_) (λb o _ _ hc e _=>k b o (λz=>hc (by simp [z])) e) (λb o _ _ hc e _=>⟨o.slots,k b o (λz=>hc (by simp [z])) e⟩) (λ_ _ _ _ n=>n)
  (λb o hc e=>⟨o,k b o (λz=>hc (by simp [z])) e⟩) (λ_ _ e=>e) (λ_ _ _ e=>e) (λb ps e=>⟨#[],by rw [e];simp⟩) (λm hm=>?_) (λb u e=>?_) I.bare
 ·have e:b=it:=by simpa using hb
  subst e
  exact⟨h1,hL,h2,h3⟩
 ·obtain⟨o,es,ep,ho,r⟩:=hm
  exact⟨o,es,ep,k _ o (Ne.symm hL) ho,r⟩
 ·refine (I.hok b u e).gy (λc v hc q=>k c v ?_ q) (λ_ q=>q) λ_ _ q=>q
  rcases hc with z | z
  ·rw [z];exact nit b u e
  ·exact nit c _ z
theorem Inv.tok (I:Inv X pins σ H s) (t:Nat):Inv X pins σ H { s with toks:=t }:=I.un (h':=s.heap) (t':=t) Un.refl I.hok
theorem Inv.kept {t':Nat} (I:Inv X pins σ H s) (k:∀ b u,s.heap.get? b=some u->h'.get? b=some u):Inv X pins σ H { s with heap:=h',toks:=t' }:=I.un (Un.kept k) (I.hok.kept k)
theorem Inv.laid {a:Addr} {o:HO} {t':Nat} (I:Inv X pins σ H s) (k:∀ b u,s.heap.get? b=some u->h'.get? b=some u) (hp:s.heap.objs.size<=a) (new:aS X.prog X.w (upd H a o) h' a o) :
  Inv X pins σ (upd H a o) { s with heap:=h',toks:=t' }:=I.un (Un.laid k hp (I.hok.fresh hp)) (I.hok.laid k hp new)
theorem Inv.write {x e:Addr} {o:HO} {t':Nat} (I:Inv X pins σ H s) (mu:xJ (H x)) (he:e=x∨H e=some (.own x)) (k:∀ b u,b≠e->s.heap.get? b=some u->h'.get? b=some u) (heo:∃ u,h'.get? e=some u)
  (new:aS X.prog X.w (upd H x o) h' x o):Inv X pins σ (upd H x o) { s with heap:=h',toks:=t' }:=I.un (Un.write mu he k heo) (I.hok.write mu he k heo new)
theorem Inv.weak {σ':List (Option V)} (I:Inv X pins σ H s) (hl:σ'.length=σ.length) (w:∀(i:Nat) v,σ'[i]?=some (some v)->σ[i]?=some (some v)):Inv X pins σ' H s :=
 ⟨I.ok,I.os,I.bare,I.base,let ⟨m,hn,hl'⟩:=I.loc;⟨m,hn,λi x v e1 e2 e3=>hl' i x v e1 (w i v e2) e3⟩,I.cell,I.free,I.freeC,I.pin,I.hok,hl.trans I.len⟩
theorem Inv.gR {pins':List (Addr × Obj)} (I:Inv X pins σ H s) (h:∀ p∈pins',s.heap.get? p.1=some p.2/\H p.1=none/\p.1≠X.env.locals/\p.1∉X.fs/\∀ v,p.2.data≠.cell v):Inv X pins' σ H s :=
 ⟨I.ok,I.os,I.bare,I.base,I.loc,I.cell,I.free,I.freeC,λp hp=>(List.mem_append.mp hp).elim (λz=>I.pin p (List.mem_append_left _ z)) (h p),I.hok,I.len⟩
theorem iw {N:List Str} (hN:N.Nodup) {i j:Nat} {x:Str} (a:N[i]?=some x) (b:N[j]?=some x):i=j:=by
 obtain⟨h1,e1⟩:=List.getElem?_eq_some_iff.mp a
 obtain⟨h2,e2⟩:=List.getElem?_eq_some_iff.mp b
 exact (List.getElem_inj hN).mp (e1.trans e2.symm)
theorem oX {M:Model} {A:Around} {E:Value->Shared->Prop} {i:Nat} {x:Str} {v:V} {u:Value} {Q:Unit->Shared->Prop} (I:Inv X pins σ H s) (hN:X.N.Nodup) (hi:X.N[i]?=some x) (hx:Loc X.env.scope x) (r:RelV v u)
  (h:∀ s',Inv X pins (σ.set i (some v)) H s'->(∃ a,Heap.SameBut a s.heap s'.heap/\(a=X.env.locals∨X.env.cells.lookup x=some a))->Q () s') (hf:X.fn x=true∨X.env.scope.names.lookup x=some .local:=by first | exact .inl rfl | exact .inr rfl | assumption):wpAny M A (storeName X.env x u) Q E s:=by
 obtain⟨m,hn,hl⟩:=id I.loc
 have hcls:(X.env.scope.kind==.class || (X.env.scope.kind==.module && X.env.locals != X.env.globals))=false:=by rw [I.ok.kind];rfl
 have hiσ:i<σ.length:=by rw [I.len];exact (List.getElem?_eq_some_iff.mp hi).1
 have pz:=I.pz
 have tracked:∀{a:Addr} {h':Heap},(∃ o,s.heap.get? a=some o/\H a=none)->Heap.SameBut a s.heap h'->dB X.prog X.w H h':=λ{a h'} ha hs b ob e=>by
  obtain⟨_,_,hfree⟩:=ha
  refine (I.hok b ob e).gy (λc w' hc q=>(hs.2 c ?_).trans q) (λ_ q=>q) λ_ _ q=>q
  rintro rfl
  rcases hc with rfl | hc
  ·rw [hfree] at e;cases e
  ·rw [hfree] at hc;cases hc
 rcases hx with hk | hk
 ·refine wpAny_storeName_local hk hn (λh' hn' hs=>?_) hcls
  obtain⟨oL,_,_,hoL,_⟩:=id hn
  refine h _ ⟨I.ok,I.os,I.bare,⟨λb o e n hb hx=>?_,λb o e n hb hx=>?_,I.base.free,λb o e hx=>?_,I.base.tups,I.base.frzs,I.base.tbls⟩,⟨_,hn',λj y v' e1 e2 e3=>?_⟩,λy c e=>?_,I.free,I.freeC,λp hp=>?_,tracked ⟨oL,hoL,I.free⟩ hs,by simpa using I.len⟩ ⟨_,hs,.inl rfl⟩
  ·exact (hs.2 b (Nat.ne_of_lt (Nat.lt_of_lt_of_le (Heap.lt_size e) I.ok.above))).trans (I.base.keep b o e n hb hx)
  ·obtain⟨sl,e1⟩:=I.base.slot b o e n hb hx
   exact⟨sl,(hs.2 b (Nat.ne_of_lt (Nat.lt_of_lt_of_le (Heap.lt_size e) I.ok.above))).trans e1⟩
  ·obtain⟨o',e1⟩:=I.base.there b o e hx
   exact⟨o',(hs.2 b (Nat.ne_of_lt (Nat.lt_of_lt_of_le (Heap.lt_size e) I.ok.above))).trans e1⟩
  ·by_cases hj:j=i
   ·subst hj
    rw [hi] at e1;cases e1
    rw [List.getElem?_set_self hiσ] at e2
    cases e2
    exact⟨u,r,.inl ⟨hk,by simp⟩⟩
   ·rw [List.getElem?_set_ne (Ne.symm hj)] at e2
    obtain⟨u',r',q⟩:=hl j y v' e1 e2 e3
    refine⟨u',r',?_⟩
    rcases q with⟨k,e⟩|⟨k,c,e,z⟩
    ·refine .inl ⟨k,?_⟩
     have:y≠x:=λe=>hj (iw hN e1 (e▸hi))
     simp [this,e]
    ·exact .inr ⟨k,c,e,z.sameBut hs (pz y c e)⟩
  ·obtain⟨w',z⟩:=I.cell y c e
   exact⟨w',z.sameBut hs (pz y c e)⟩
  ·obtain⟨e,n,ne,nf,d⟩:=I.pin p hp
   exact⟨(hs.2 p.1 ne).trans e,n,ne,nf,d⟩
 ·have hfn:X.fn x=true:=by
   rcases hf with z | z
   ·exact z
   ·rw [z] at hk;cases hk
  obtain⟨c,hc⟩:=I.ok.has x (.inl hk)
  obtain⟨w',z⟩:=I.cell x c hc
  refine wpAny_storeName_cell I.ok.kind hk hc z (λh' hc' hs=>?_)
  obtain⟨oc,hoc,hocd⟩:=id z
  refine h { s with heap:=h' } ⟨I.ok,I.os,I.bare,⟨λb o e n hb hx=>?_,λb o e n hb hx=>?_,I.base.free,λb o e hx=>?_,I.base.tups,I.base.frzs,I.base.tbls⟩,⟨m,hn.sameBut hs (Ne.symm (pz x c hc)),λj y v' e1 e2 e3=>?_⟩,λy c' e=>?_,I.free,I.freeC,λp hp=>?_,tracked ⟨oc,hoc,I.freeC x c hc⟩ hs,by simpa using I.len⟩ ⟨c,hs,.inr hc⟩
  ·exact (hs.2 b (Nat.ne_of_lt (Nat.lt_of_lt_of_le (Heap.lt_size e) (I.ok.cab x c hfn hc)))).trans (I.base.keep b o e n hb hx)
  ·obtain⟨sl,e1⟩:=I.base.slot b o e n hb hx
   exact⟨sl,(hs.2 b (Nat.ne_of_lt (Nat.lt_of_lt_of_le (Heap.lt_size e) (I.ok.cab x c hfn hc)))).trans e1⟩
  ·obtain⟨o',e1⟩:=I.base.there b o e hx
   exact⟨o',(hs.2 b (Nat.ne_of_lt (Nat.lt_of_lt_of_le (Heap.lt_size e) (I.ok.cab x c hfn hc)))).trans e1⟩
  ·by_cases hj:j=i
   ·subst hj
    rw [hi] at e1;cases e1
    rw [List.getElem?_set_self hiσ] at e2
    cases e2
    exact⟨u,r,.inr ⟨.inl hk,c,hc,hc'⟩⟩
   ·rw [List.getElem?_set_ne (Ne.symm hj)] at e2
    obtain⟨u',r',q⟩:=hl j y v' e1 e2 e3
    refine⟨u',r',?_⟩
    rcases q with q | ⟨k,c',e,z'⟩
    ·exact .inl q
    ·refine .inr ⟨k,c',e,z'.sameBut hs ?_⟩
     rintro rfl
     exact hj (iw hN e1 (I.ok.inj _ _ _ e hc▸hi))
  ·by_cases hcc:c'=c
   ·subst hcc;exact⟨_,hc'⟩
   ·obtain⟨w2,z2⟩:=I.cell y c' e
    exact⟨w2,z2.sameBut hs hcc⟩
  ·obtain⟨e,n,ne,nf,d⟩:=I.pin p hp
   refine⟨(hs.2 p.1 ?_).trans e,n,ne,nf,d⟩
   intro q
   rw [q,hoc] at e
   have q':oc=p.2:=Option.some.inj e
   exact d w' (by rw [<- q'];exact hocd)
theorem cK {M:Model} {A:Around} {E:Value->Shared->Prop} {i:Nat} {x:Str} {v:V} {u:Value} {Q:Unit->Shared->Prop} (I:Inv X pins σ H s) (hN:X.N.Nodup) (hi:X.N[i]?=some x) (hx:Loc X.env.scope x) (r:RelV v u)
  (h:∀ s',Inv X pins (σ.set i (some v)) H s'->Q () s') (hf:X.fn x=true∨X.env.scope.names.lookup x=some .local:=by first | exact .inl rfl | exact .inr rfl | assumption):wpAny M A (storeName X.env x u) Q E s :=
 oX I hN hi hx r (λs' I' _=>h s' I') hf
theorem Inv.uS {s':Shared} {ch:List Addr} (I:Inv X pins σ H s) (ho:s'.os=s.os) (u:Un (eS X.stack) ch H H' s.heap s'.heap) (hok:dB X.prog X.w H' s'.heap) (hg:AllBare s'.gens)
  (hch:∀ b∈ch,(b∈X.ex∨X.s₀.heap.objs.size<=b)/\b≠X.env.locals/\(∀ x c,X.env.cells.lookup x=some c->c≠b)/\∀ p∈X.pn++pins,p.1≠b):Inv X pins σ H' s':=by
 obtain⟨h',g',d',t',o'⟩:=s'
 have e:o'=s.os:=ho
 subst e
 exact I.call (g':=g') (t':=t') (d':=d') u hok hg hch
end
abbrev XK:=Value->Option Addr->Hp->Prop
abbrev St:=List (Option V)
abbrev VK:=V->Hp->Prop
abbrev TE:=St->Hp->VK->Prop
abbrev TT:=St->Hp->(Bool->Hp->Prop)->Prop
abbrev TA:=St->Hp->(List V->Hp->Prop)->Prop
structure Ends where
 nx:St->Hp->Prop
 rt:VK
 bk:St->Hp->Prop:=λ_ _=>False
 ct:St->Hp->Prop:=λ_ _=>False
abbrev TS:=Ends->St->Hp->Prop
def EP (X:Cx) (pins:List (Addr × Obj)) (σ:St) (Q:VK) (u:Value) (s':Shared):Prop:=∃ v H',Inv X pins σ H' s'/\RelV v u/\Q v H'
def TP (X:Cx) (pins:List (Addr × Obj)) (σ:St) (Q:Bool->Hp->Prop) (b:Bool) (s':Shared):Prop:=∃ H',Inv X pins σ H' s'/\Q b H'
def AP (X:Cx) (pins:List (Addr × Obj)) (σ:St) (Q:List V->Hp->Prop) (us:List Value) (s':Shared):Prop:=∃ vs H',Inv X pins σ H' s'/\Vals vs us/\Q vs H'
def SP (X:Cx) (pins:List (Addr × Obj)) (D:Ends) (f:Flow) (s':Shared):Prop :=
 match f with
 | .next=>∃ σ' H',Inv X pins σ' H' s'/\D.nx σ' H'
 | .brk=>∃ σ' H',Inv X pins σ' H' s'/\D.bk σ' H'
 | .cont=>∃ σ' H',Inv X pins σ' H' s'/\D.ct σ' H'
 | .ret u=>∃ v σ' H',Inv X pins σ' H' s'/\RelV v u/\D.rt v H'
def PE (X:Cx) (e:Expr) (t:TE):Prop :=
 ∀(pins:List (Addr × Obj)) (s:Shared) (σ:St) (H:Hp) (Q:VK),Inv X pins σ H s->t σ H Q->wpAny (model X.prog X.w) X.A (eval e X.env) (EP X pins σ Q) X.xe s
def PT (X:Cx) (e:Expr) (t:TT):Prop :=
 ∀(pins:List (Addr × Obj)) (s:Shared) (σ:St) (H:Hp) (Q:Bool->Hp->Prop),Inv X pins σ H s->t σ H Q->wpAny (model X.prog X.w) X.A (isTrue e X.env (eval e X.env)) (TP X pins σ Q) X.xe s
def PW (X:Cx) (e:Expr) (t:TT):Prop :=
 ∀(whole:Sem Value) (pins:List (Addr × Obj)) (s:Shared) (σ:St) (H:Hp) (Q:Bool->Hp->Prop),Inv X pins σ H s->t σ H Q->wpAny (model X.prog X.w) X.A (isTrue e X.env whole) (TP X pins σ Q) X.xe s
theorem PW.pt {X:Cx} {e:Expr} {t:TT} (h:PW X e t):PT X e t:=h _
def PA (X:Cx) (es:List Expr) (t:TA):Prop :=
 ∀(pos:Pos) (pins:List (Addr × Obj)) (s:Shared) (σ:St) (H:Hp) (Q:List V->Hp->Prop),Inv X pins σ H s->t σ H Q->wpAny (model X.prog X.w) X.A (spliced (backTo pos (starEach es X.env))) (AP X pins σ Q) X.xe s
def PS (X:Cx) (st:Stmt) (t:TS):Prop :=
 ∀(pins:List (Addr × Obj)) (s:Shared) (σ:St) (H:Hp) (D:Ends),Inv X pins σ H s->t D σ H->wpAny (model X.prog X.w) X.A (exec st X.env) (SP X pins D) X.xe s
def fU (X:Cx) (st:List Stmt) (t:TS):Prop :=
 ∀(pins:List (Addr × Obj)) (s:Shared) (σ:St) (H:Hp) (D:Ends),Inv X pins σ H s->t D σ H->wpAny (model X.prog X.w) X.A (execs st X.env) (SP X pins D) X.xe s
theorem aR {α:Type} {t:Sem α} {Q Q':α->Shared->Prop} {M:Model} {A:Around} {E:Value->Shared->Prop} {s:Shared} (h:wpAny M A t Q E s) (hQ:∀ a s,Q a s->Q' a s):wpAny M A t Q' E s:=wpAny_mono h hQ λ_ _ x=>x
section
variable {X:Cx}
def gL (i:Nat):TE:=λσ H Q=>∃ v,σ[i]?=some (some v)/\Q v H
def tC (v:V):TE:=λ_ H Q=>Q v H
theorem eW {i:Nat} {x:Str} {pos:Pos} (hN:X.N[i]?=some x) (hv:vF X.env.scope x) (hd:(x==("__debug__":Str))=false:=by decide) (hcd:(x==("__classdict__":Str))=false:=by decide):PE X (.Name x pos) (gL i):=by
 intro pins s σ H Q I h
 obtain⟨v,e,h⟩:=h
 obtain⟨m,hn,hl⟩:=I.loc
 obtain⟨u,r,l⟩:=hl i x v hN e hv
 have fin:EP X pins σ Q u s:=⟨v,H,I,r,h⟩
 rcases l with⟨hk,hm⟩|⟨hk,c,hc,hcell⟩
 ·exact wpAny_Name (wpAny_loadName_local I.ok.kind hk hn hm fin) hd
 ·rcases hk with hk | hk
  ·exact wpAny_Name (wpAny_loadName_cell I.ok.kind hk hc hcell fin) hd
  ·exact wpAny_Name (wpAny_loadName_free I.ok.kind hk hc hcell fin hcd) hd
theorem ag {i j pos}:PE X (.Constant (.int i) j pos) (tC (.int i)):=λ_ _ _ H _ I h=>wpAny_Constant_int ⟨.int i,H,I.tok _,⟨_,rfl⟩,h⟩
theorem fB {b j pos}:PE X (.Constant (.bool b) j pos) (tC (.bl b)):=λ_ _ _ H _ I h=>Constant_bool ⟨.bl b,H,I,rfl,h⟩
theorem de {j pos}:PE X (.Constant .none j pos) (tC .aQ):=λ_ _ _ H _ I h=>Constant_none ⟨.aQ,H,I,rfl,h⟩
theorem aq {x j pos}:PE X (.Constant (.str x) j pos) (tC (.str x)):=λ_ _ _ H _ I h=>Calls.Constant_str ⟨.str x,H,I.tok _,⟨_,rfl⟩,h⟩
def Gl (X:Cx) (x:Str):Prop:=X.env.kindOf x=some .globalImplicit
theorem cS {E:Value->Shared->Prop} {pins:List (Addr × Obj)} {s:Shared} {σ:St} {H:Hp} {x:Str} {u:Value} {pos:Pos} {Q:Value->Shared->Prop} (I:Inv X pins σ H s) (hg:Gl X x) (hm:X.mg x=some u) (h:Q u s)
  (hd:(x==("__debug__":Str))=false:=by decide):wpAny (model X.prog X.w) X.A (eval (.Name x pos) X.env) Q E s :=
 Calls.Name_function_global I.ok.kind hg (Calls.loadGlobal_global (by rw [I.ok.glob];exact I.mod.glob.keeps I.bk) hm h) hd
theorem ik {E:Value->Shared->Prop} {pins:List (Addr × Obj)} {s:Shared} {σ:St} {H:Hp} {x:Str} {u:Value} {pos:Pos} {Q:Value->Shared->Prop} (I:Inv X pins σ H s) (hg:Gl X x) (hm:X.mg x=none) (hv:bootBuiltins x=some u) (h:Q u s)
  (hn:x ≠ "__name__":=by decide) (hd:(x==("__debug__":Str))=false:=by decide):wpAny (model X.prog X.w) X.A (eval (.Name x pos) X.env) Q E s:=by
 obtain⟨mb,h1,h2⟩:=I.mod.blt
 exact Calls.Name_function_global I.ok.kind hg (Calls.loadGlobal_builtin (by rw [I.ok.glob];exact I.mod.glob.keeps I.bk) hm (by rw [I.ok.blt];exact h1.keeps I.bk) ((h2 x hn).trans hv) h) hd
theorem bf {x:Str} {v:V} {u:Value} {pos:Pos} (hg:Gl X x) (hm:X.mg x=some u) (r:RelV v u) (hd:(x==("__debug__":Str))=false:=by decide):PE X (.Name x pos) (tC v) :=
 λ_ _ _ H _ I h=>cS I hg hm ⟨v,H,I,r,h⟩ hd
theorem bG {x:Str} {v:V} {u:Value} {pos:Pos} (hg:Gl X x) (hm:X.mg x=none) (hv:bootBuiltins x=some u) (r:RelV v u) (hn:x ≠ "__name__":=by decide) (hd:(x==("__debug__":Str))=false:=by decide):PE X (.Name x pos) (tC v) :=
 λ_ _ _ H _ I h=>ik I hg hm hv ⟨v,H,I,r,h⟩ hn hd
variable {a b:Expr} {ta tb:TE} {pos:Pos}
def tB (t:TE):TT:=λσ H Q=>t σ H λx H1=>∃ c,x=.bl c/\Q c H1
variable {tA tB':TT} {rest:List Expr}
def yI (t u:TT):TT:=λσ H Q=>t σ H λc H1=>if c=true then u σ H1 Q else Q false H1
def Aj (t u:TT):TT:=λσ H Q=>t σ H λc H1=>if c=true then Q true H1 else u σ H1 Q
def yN (t:TT):TT:=λσ H Q=>t σ H λc H1=>Q (!c) H1
theorem cD (ha:PT X a tA):PW X (.BoolOp .And [a] pos) tA:=by
 intro wh pins s σ H Q I h
 refine isTrue_and (aR (ha pins s σ H Q I h) λc s1 e=>?_)
 cases c with
 | true=>exact isTrue_and_nil e
 | false=>exact e
theorem dy (ha:PT X a tA):PW X (.BoolOp .Or [a] pos) tA:=by
 intro wh pins s σ H Q I h
 refine isTrue_or (aR (ha pins s σ H Q I h) λc s1 e=>?_)
 cases c with
 | false=>exact isTrue_or_nil e
 | true=>exact e
theorem bO (ha:PT X a tA) (hb:PW X (.BoolOp .And (b::rest) pos) tB'):PW X (.BoolOp .And (a::b::rest) pos) (yI tA tB'):=by
 intro wh pins s σ H Q I h
 refine isTrue_and (aR (ha pins s σ H _ I h) λc s1 ⟨H1,I1,q1⟩=>?_)
 cases c with
 | true=>exact hb wh pins s1 σ H1 Q I1 q1
 | false=>exact⟨H1,I1,q1⟩
theorem fE (ha:PT X a tA) (hb:PW X (.BoolOp .Or (b::rest) pos) tB'):PW X (.BoolOp .Or (a::b::rest) pos) (Aj tA tB'):=by
 intro wh pins s σ H Q I h
 refine isTrue_or (aR (ha pins s σ H _ I h) λc s1 ⟨H1,I1,q1⟩=>?_)
 cases c with
 | true=>exact⟨H1,I1,q1⟩
 | false=>exact hb wh pins s1 σ H1 Q I1 q1
theorem lX (ha:PT X a tA):PT X (.UnaryOp .Not a pos) (yN tA):=by
 intro pins s σ H Q I h
 exact isTrue_not (ha pins s σ H (λc H1=>Q (!c) H1) I h)
def vk (ta tb:TE):TE:=λσ H Q=>ta σ H λx H1=>∃ c,x=.bl c/\if c=true then tb σ H1 Q else Q (.bl false) H1
def yO (ta tb:TE):TE:=λσ H Q=>ta σ H λx H1=>∃ c,x=.bl c/\if c=true then Q (.bl true) H1 else tb σ H1 Q
def vq (ta:TE):TE:=λσ H Q=>ta σ H λx H1=>∃ c,x=.bl c/\Q (.bl (!c)) H1
theorem gi {op} {t:TE} (h:PE X a t):PE X (.BoolOp op [a] pos) t:=λpins s σ H Q I hw=>BoolOp_one (h pins s σ H Q I hw)
theorem ix (ha:PE X a ta) (hb:PE X (.BoolOp .And (b::rest) pos) tb):PE X (.BoolOp .And (a::b::rest) pos) (vk ta tb):=by
 intro pins s σ H Q I h
 refine BoolOp_and (aR (ha pins s σ H _ I h) λv s1 ⟨x,H1,I1,r1,q1⟩=>?_)
 obtain⟨c,rfl,q1⟩:=q1
 cases r1
 refine wpAny_truthy_bool ?_
 cases c with
 | true=>exact hb pins s1 σ H1 Q I1 q1
 | false=>exact⟨.bl false,H1,I1,rfl,q1⟩
theorem yx (ha:PE X a ta) (hb:PE X (.BoolOp .Or (b::rest) pos) tb):PE X (.BoolOp .Or (a::b::rest) pos) (yO ta tb):=by
 intro pins s σ H Q I h
 refine BoolOp_or (aR (ha pins s σ H _ I h) λv s1 ⟨x,H1,I1,r1,q1⟩=>?_)
 obtain⟨c,rfl,q1⟩:=q1
 cases r1
 refine wpAny_truthy_bool ?_
 cases c with
 | false=>exact hb pins s1 σ H1 Q I1 q1
 | true=>exact⟨.bl true,H1,I1,rfl,q1⟩
theorem wF (ha:PE X a ta):PE X (.UnaryOp .Not a pos) (vq ta):=by
 intro pins s σ H Q I h
 refine UnaryOp_ (aR (ha pins s σ H _ I h) λv s1 ⟨x,H1,I1,r1,q1⟩=>?_)
 obtain⟨c,rfl,q1⟩:=q1
 cases r1
 exact not_of (wpAny_truthy_bool ⟨.bl (!c),H1,I1,rfl,q1⟩)
def zJ (t:TT) (ta tb:TE):TE:=λσ H Q=>t σ H λc H1=>if c=true then ta σ H1 Q else tb σ H1 Q
theorem cj {c:Expr} (hc:PT X c tA) (ha:PE X a ta) (hb:PE X b tb):PE X (.IfExp c a b pos) (zJ tA ta tb):=by
 intro pins s σ H Q I h
 refine wpAny_IfExp (aR (hc pins s σ H _ I h) λd s1 ⟨H1,I1,q1⟩=>?_)
 cases d with
 | true=>exact ha pins s1 σ H1 Q I1 q1
 | false=>exact hb pins s1 σ H1 Q I1 q1
end
def aP (K:PySem.W.Frag) (H:Hp) (a:Addr) (xs:List V):Prop :=
 Rd H a (.lst xs) ∨
  ∃(o:Obj) (its:Array Value) (n:Nat),K.lookup a=some o/\o.cls=.type "list"/\o.dict=none/\o.data=.seq its n/\its.size<=sizeLine/\Vals xs its.toList
def br (K:PySem.W.Frag) (H:Hp) (a:Addr) (xs:List V):Prop :=
 Rd H a (.tup xs) ∨
  ∃(o:Obj) (its:Array Value) (n:Nat),K.lookup a=some o/\o.cls=.type "tuple"/\o.data=.seq its n/\its.size<=sizeLine/\Vals xs its.toList
def zo:Value->Option V
 | .none=>some .aQ
 | .bool b=>some (.bl b)
 | .int i _=>some (.int i)
 | .str x _=>some (.str x)
 | .bytes b _=>some (.byt b)
 | .float b _=>some (.flt b)
 | .ref a=>some (.ref a)
 | .type n=>some (.ty n)
 | _=>none
theorem RelV.abs {x:V} {u:Value} (r:RelV x u):zo u=some x:=by
 cases x with
 | aQ=>cases r;rfl
 | bl _=>cases r;rfl
 | int _=>obtain⟨t,rfl⟩:=r;rfl
 | str _=>obtain⟨t,rfl⟩:=r;rfl
 | byt _=>obtain⟨t,rfl⟩:=r;rfl
 | flt _=>obtain⟨t,rfl⟩:=r;rfl
 | ref _=>cases r;rfl
 | ty _=>cases r;rfl
theorem RelV.inj {x y:V} {u:Value} (r:RelV x u) (q:RelV y u):x=y:=Option.some.inj (r.abs.symm.trans q.abs)
theorem Vals.inj:∀{xs ys:List V} {us:List Value},Vals xs us->Vals ys us->xs=ys
 | _,_,_,.nil,.nil=>rfl
 | _,_,_,.cons r t,.cons r' t'=>by rw [r.inj r',Vals.inj t t']
section
variable {X:Cx} {pins:List (Addr × Obj)} {σ:St} {H:Hp} {s:Shared} {a:Addr} {xs ys:List V}
theorem aP.of {K:PySem.W.Frag} (h:H a=some (.lst xs)):aP K H a xs:=.inl (.inl h)
theorem br.of {K:PySem.W.Frag} (h:H a=some (.tup xs)):br K H a xs:=.inl (.inl h)
theorem Inv.list (I:Inv X pins σ H s) (h:aP X.K H a xs):∃ its:List Value,Vals xs its/\PlainL s.heap a its.toArray/\xs.length<=sizeLine:=by
 rcases h with h | ⟨o,its,n,hk,hc,hd,hs,hz,r⟩
 ·obtain⟨z,its,n,r,e⟩:=h.ok I.hok
  exact⟨its,r,⟨_,n,e,rfl,rfl,rfl⟩,z⟩
 ·refine⟨its.toList,r,⟨o,n,I.dC a o hk,hc,hd,by simpa using hs⟩,?_⟩
  have e:=r.length
  simp only [Array.length_toList] at e
  omega
theorem Inv.tuple (I:Inv X pins σ H s) (h:br X.K H a xs):∃ its:List Value,Vals xs its/\IsTup s.heap a its.toArray/\xs.length<=sizeLine:=by
 rcases h with h | ⟨o,its,n,hk,hc,hs,hz,r⟩
 ·obtain⟨z,its,r,p⟩:=h.ok I.hok
  exact⟨its,r,p,z⟩
 ·refine⟨its.toList,r,⟨o,I.dC a o hk,hc,n,by simpa using hs⟩,?_⟩
  have e:=r.length
  simp only [Array.length_toList] at e
  omega
theorem Inv.ky (I:Inv X pins σ H s) (h:aP X.K H a xs) (h':aP X.K H a ys):xs=ys:=by
 obtain⟨its,r,⟨o,n,e,_,_,d⟩,_⟩:=I.list h
 obtain⟨its',r',⟨o',n',e',_,_,d'⟩,_⟩:=I.list h'
 rw [e] at e';cases e'
 rw [d] at d'
 injection d' with d1 _
 have:its=its':=by simpa using congrArg Array.toList d1
 subst this
 exact r.inj r'
theorem Inv.jv (I:Inv X pins σ H s) (h:br X.K H a xs) (h':br X.K H a ys):xs=ys:=by
 obtain⟨its,r,⟨o,e,_,n,d⟩,_⟩:=I.tuple h
 obtain⟨its',r',⟨o',e',_,n',d'⟩,_⟩:=I.tuple h'
 rw [e] at e';cases e'
 rw [d] at d'
 injection d' with d1 _
 have:its=its':=by simpa using congrArg Array.toList d1
 subst this
 exact r.inj r'
end
abbrev Cx.fe (X:Cx) (E:Value->Shared->Prop):Cx:={ X with xe:=E }
abbrev Cx.iJ (X:Cx):Cx:=X.fe λ_ _=>False
theorem Cx.Ok.fe {X:Cx} (ok:X.Ok) (E:Value->Shared->Prop):(X.fe E).Ok :=
 ⟨ok.mod,ok.kind,ok.glob,ok.blt,ok.above,ok.inj,ok.has,ok.cab,ok.hd,ok.frames,ok.stk,ok.exf,ok.bs,ok.bsz,ok.noex,ok.exfs,ok.eT,ok.frf⟩
theorem Cx.Ok.bZ {X:Cx} {E:Value->Shared->Prop} (ok:(X.fe E).Ok):X.Ok :=
 ⟨ok.mod,ok.kind,ok.glob,ok.blt,ok.above,ok.inj,ok.has,ok.cab,ok.hd,ok.frames,ok.stk,ok.exf,ok.bs,ok.bsz,ok.noex,ok.exfs,ok.eT,ok.frf⟩
section
variable {X:Cx} {pins:List (Addr × Obj)} {σ:St} {H:Hp} {s:Shared} {E:Value->Shared->Prop}
theorem Inv.fe (I:Inv X pins σ H s) (E:Value->Shared->Prop):Inv (X.fe E) pins σ H s:=⟨I.ok.fe E,I.os,I.bare,I.base,I.loc,I.cell,I.free,I.freeC,I.pin,I.hok,I.len⟩
theorem Inv.bZ (I:Inv (X.fe E) pins σ H s):Inv X pins σ H s:=⟨I.ok.bZ,I.os,I.bare,I.base,I.loc,I.cell,I.free,I.freeC,I.pin,I.hok,I.len⟩
theorem SP.bZ {D:Ends} {f:Flow} {s':Shared} (h:SP (X.fe E) pins D f s'):SP X pins D f s':=by
 cases f with
 | next=>obtain⟨σ',H',I,q⟩:=h;exact⟨σ',H',I.bZ,q⟩
 | brk=>obtain⟨σ',H',I,q⟩:=h;exact⟨σ',H',I.bZ,q⟩
 | cont=>obtain⟨σ',H',I,q⟩:=h;exact⟨σ',H',I.bZ,q⟩
 | ret u=>obtain⟨v,σ',H',I,r,q⟩:=h;exact⟨v,σ',H',I.bZ,r,q⟩
theorem PE.iJ {e:Expr} {t:TE} (h:PE X.iJ e t):PE X e t:=λpins s σ H Q I hw =>
 wpAny_mono (h pins s σ H Q (I.fe _) hw) (λ_ _ ⟨v,H',I',r,q⟩=>⟨v,H',I'.bZ,r,q⟩) λ_ _ z=>False.elim z
theorem PT.iJ {e:Expr} {t:TT} (h:PT X.iJ e t):PT X e t:=λpins s σ H Q I hw =>
 wpAny_mono (h pins s σ H Q (I.fe _) hw) (λ_ _ ⟨H',I',q⟩=>⟨H',I'.bZ,q⟩) λ_ _ z=>False.elim z
theorem fU.iJ {st:List Stmt} {t:TS} (h:fU X.iJ st t):fU X st t:=λpins s σ H D I hw =>
 wpAny_mono (h pins s σ H D (I.fe _) hw) (λ_ _ q=>q.bZ) λ_ _ z=>False.elim z
end
section
variable {X:Cx} {st:Stmt} {rest:List Stmt} {t u:TS} {e:Expr} {te:TE} {pos:Pos}
def vp:TS:=λD σ H=>D.nx σ H
def bY (t u:TS):TS:=λD σ H=>t { D with nx:=u D } σ H
theorem aE:fU X [] vp:=λ_ _ σ H _ I h=>wpAny_execs_nil ⟨σ,H,I,h⟩
theorem af (h1:PS X st t) (h2:fU X rest u):fU X (st::rest) (bY t u):=by
 intro pins s σ H D I h
 refine wpAny_execs_cons (aR (h1 pins s σ H { D with nx:=u D } I h) λf s1 q=>?_)
 cases f with
 | next =>
  obtain⟨σ',H',I',q⟩:=q
  exact h2 pins s1 σ' H' D I' q
 | ret v=>exact q
 | brk=>exact q
 | cont=>exact q
theorem ak (h1:PS X st t):fU X [st] t:=by
 intro pins s σ H D I h
 refine wpAny_execs_cons (aR (h1 pins s σ H D I h) λf s1 q=>?_)
 cases f with
 | next=>exact wpAny_execs_nil q
 | ret v=>exact q
 | brk=>exact q
 | cont=>exact q
theorem Inv.quiet {pins:List (Addr × Obj)} {σ:St} {H:Hp} {s:Shared} (I:Inv X pins σ H s):interactive X.env=false:=by simp [interactive,I.ok.kind]
def vo (te:TE):TS:=λD σ H=>te σ H λ_ H1=>D.nx σ H1
theorem cW (he:PE X e te) (hs:swapsWith e none pos.line X.env=pure false:=by rfl):PS X (.Expr e pos) (vo te):=by
 intro pins s σ H D I h
 exact wpAny_Expr_any (aR (he pins s σ H _ I h) λv s1 ⟨x,H1,I1,r1,q1⟩=>⟨σ,H1,I1,q1⟩) I.quiet hs
def xm (te:TE):TS:=λD σ H=>te σ H D.rt
theorem aB (he:PE X e te):PS X (.Return (some e) pos) (xm te):=by
 intro pins s σ H D I h
 exact wpAny_Return_some (aR (he pins s σ H _ I h) λv s1 ⟨x,H1,I1,r1,q1⟩=>⟨x,σ,H1,I1,r1,q1⟩)
def yQ:TS:=λD _ H=>D.rt .aQ H
def uG (c:TT) (t u:TS):TS:=λD σ H=>c σ H λb H1=>if b=true then t D σ H1 else u D σ H1
theorem aH {c:Expr} {a b:List Stmt} {tc:TT} (hc:PT X c tc) (ha:fU X a t) (hb:fU X b u):PS X (.If c a b pos) (uG tc t u):=by
 intro pins s σ H D I h
 refine wpAny_If (aR (hc pins s σ H _ I h) λd s1 ⟨H1,I1,q1⟩=>?_)
 cases d with
 | true=>exact ha pins s1 σ H1 D I1 q1
 | false=>exact hb pins s1 σ H1 D I1 q1
end
abbrev TG:=V->St->Hp->(St->Hp->Prop)->Prop
abbrev uR:=List V->St->Hp->(St->Hp->Prop)->Prop
def PG (X:Cx) (target:Expr) (t:TG):Prop :=
 ∀(pins:List (Addr × Obj)) (s:Shared) (σ:St) (H:Hp) (v:V) (u:Value) (Q:St->Hp->Prop),Inv X pins σ H s->RelV v u->t v σ H Q ->
  wpAny (model X.prog X.w) X.A (assign target X.env u) (λ_ s'=>∃ σ' H',Inv X pins σ' H' s'/\Q σ' H') X.xe s
def xO (X:Cx) (ts:List Expr) (t:uR):Prop :=
 ∀(pins:List (Addr × Obj)) (s:Shared) (σ:St) (H:Hp) (vs:List V) (us:List Value) (Q:St->Hp->Prop),Inv X pins σ H s->Vals vs us->t vs σ H Q ->
  wpAny (model X.prog X.w) X.A (assignInOrder ((assignEach ts X.env).map (·.2)) us) (λ_ s'=>∃ σ' H',Inv X pins σ' H' s'/\Q σ' H') X.xe s
abbrev vE:=V->V->V->Hp->(Hp->Prop)->Prop
def xQ (X:Cx) (t:vE):Prop :=
 ∀(pins:List (Addr × Obj)) (s:Shared) (σ:St) (H:Hp) (o i v:V) (ov iv u:Value) (Q:Hp->Prop),Inv X pins σ H s->RelV o ov->RelV i iv->RelV v u->t o i v H Q ->
  wpAny (model X.prog X.w) X.A (setItem ov iv u) (λ_ s'=>∃ H',Inv X pins σ H' s'/\Q H') X.xe s
abbrev zj:=V->V->Hp->VK->Prop
def z6 (X:Cx) (op:Operator) (t:zj):Prop :=
 ∀(pins:List (Addr × Obj)) (s:Shared) (σ:St) (H:Hp) (x y:V) (v u:Value) (Q:VK),Inv X pins σ H s->RelV x v->RelV y u->t x y H Q ->
  wpAny (model X.prog X.w) X.A (inplaceOp op v u) (EP X pins σ Q) X.xe s
section
variable {X:Cx} {pos:Pos}
def dQ (i:Nat):TG:=λv σ H Q=>Q (σ.set i (some v)) H
theorem b8 {i:Nat} {x:Str} (hN:X.N.Nodup) (hi:X.N[i]?=some x) (hx:Loc X.env.scope x) (hf:X.fn x=true∨X.env.scope.names.lookup x=some .local:=by first | exact .inl rfl | exact .inr rfl | assumption):PG X (.Name x pos) (dQ i):=by
 intro pins s σ H v u Q I r h
 exact wpAny_assign_Name (cK I hN hi hx r (λs' I'=>⟨_,H,I',h⟩) hf)
def vU:uR:=λvs σ H Q=>vs=[]/\Q σ H
def mF (t:TG) (u:uR):uR:=λvs σ H Q=>∃ v r,vs=v::r/\t v σ H λσ' H'=>u r σ' H' Q
theorem ua:xO X [] vU:=by
 intro pins s σ H vs us Q I r h
 obtain⟨e,h⟩:=h
 subst e
 cases r
 exact assignInOrder_nil ⟨σ,H,I,h⟩
theorem kH {e:Expr} {es:List Expr} {t:TG} {u:uR} (h1:PG X e t) (h2:xO X es u)
  (hs:(assignEach (e::es) X.env).map (·.2)=assign e X.env::(assignEach es X.env).map (·.2):=by rfl):xO X (e::es) (mF t u):=by
 intro pins s σ H vs us Q I r h
 obtain⟨v,vr,e1,h⟩:=h
 subst e1
 cases r with
 | cons r rr =>
  rw [hs]
  refine assignInOrder_cons (aR (h1 pins s σ H _ _ _ I r h) λ_ s1 ⟨σ1,H1,I1,q1⟩=>?_)
  exact h2 pins s1 σ1 H1 _ _ Q I1 rr q1
def sV (K:PySem.W.Frag) (n:Nat) (t:uR):TG:=λv σ H Q=>∃ a xs,v=.ref a/\br K H a xs/\xs.length=n/\t xs σ H Q
theorem wG {es:List Expr} {k:Nat} {t:uR} {n:Nat} (hc:X.calm=true) (h:xO X es t)
  (hn:(assignEach es X.env).length=n:=by rfl) (hst:(assignEach es X.env).findIdx? (·.1)=none:=by rfl):PG X (.Tuple es k pos) (sV X.K n t):=by
 intro pins s σ H v u Q I r hw
 obtain⟨a,xs,e1,hq,hl,hw⟩:=hw
 subst e1
 cases r
 obtain⟨its,rv,ht,hz⟩:=I.tuple hq
 refine assign_Tuple_tuple (I.ok.hd hc) ht (by simp [hn,<- hl,rv.length]) hst λh' hx=>?_
 have I1:Inv X pins σ H { s with heap:=h' }:=I.kept (t':=s.toks) λb o e=>hx b o (Nat.ne_of_lt (Heap.lt_size e)) e
 exact h pins _ σ H xs _ Q I1 (by simpa using rv) hw
def x9 (to ti:TE) (t:vE):TG:=λv σ H Q=>to σ H λo H1=>ti σ H1 λi H2=>t o i v H2 λH3=>Q σ H3
theorem lV {o i:Expr} {to ti:TE} {t:vE} (ho:PE X o to) (hi:PE X i ti) (hs:xQ X t)
  (ha:∀ v,assign (.Subscript o i pos) X.env v=(do
   let ov <- holding [v] (eval o X.env)
   let iv <- holding [v,ov] (eval i X.env)
   standAt pos
   holding [v,ov,iv] (setItem ov iv v)
   release [v,ov,iv] []):=by intro _;rfl):PG X (.Subscript o i pos) (x9 to ti t):=by
 intro pins s σ H v u Q I r h
 rw [ha]
 refine wpAny_bind (wpAny_holding (aR (ho pins s σ H _ I h) λov s1 ⟨x,H1,I1,r1,q1⟩=>?_))
 refine wpAny_bind (wpAny_holding (aR (hi pins s1 σ H1 _ I1 q1) λiv s2 ⟨y,H2,I2,r2,q2⟩=>?_))
 refine wpAny_bind (wpAny_standAt (wpAny_bind (wpAny_holding (aR (hs pins s2 σ H2 x y v ov iv u _ I2 r1 r2 r q2) λ_ s3 ⟨H3,I3,q3⟩=>?_))))
 exact wpAny_release ⟨σ,H3,I3,q3⟩
def l7 (te:TE) (g:TG):TS:=λD σ H=>te σ H λx H1=>g x σ H1 D.nx
theorem qT {tg e:Expr} {te:TE} {g:TG} (he:PE X e te) (hg:PG X tg g) (hs:swapsWithSole [tg] e pos.line X.env=pure false:=by rfl) (hw:swappedStores [tg] e X.env=pure none:=by rfl)
  (h1:(assignEach [tg] X.env).map (·.2)=[assign tg X.env]:=by rfl):PS X (.Assign [tg] e pos) (l7 te g):=by
 intro pins s σ H D I h
 refine wpAny_Assign_stores (aR (he pins s σ H _ I h) λv s1 ⟨x,H1,I1,r1,q1⟩=>?_) hs hw
 rw [h1]
 exact aR (hg pins s1 σ H1 x v _ I1 r1 q1) λ_ s2 q=>q
theorem wL {i:Nat} {x:Str} {e:Expr} {te:TE} {pos':Pos} (hN:X.N.Nodup) (hi:X.N[i]?=some x) (hx:Loc X.env.scope x) (he:PE X e te) (hs:swapsWith e (some (.Name x pos')) pos.line X.env=pure false:=by rfl) (hf:X.fn x=true∨X.env.scope.names.lookup x=some .local:=by first | exact .inl rfl | exact .inr rfl | assumption) :
  PS X (.Assign [.Name x pos'] e pos) (l7 te (dQ i)):=by
 intro pins s σ H D I h
 refine wpAny_Assign_Name (aR (he pins s σ H _ I h) λv s1 ⟨y,H1,I1,r1,q1⟩=>?_) hs
 exact cK I1 hN hi hx r1 (λs2 I2=>⟨_,H1,I2,q1⟩) hf
def zK (i j:Nat) (ta:TA):TS:=λD σ H=>ta σ H λvs H1=>∃ v w,vs=[v,w]/\D.nx ((σ.set i (some v)).set j (some w)) H1
def yJ (i:Nat) (te:TE) (ti:zj):TS:=λD σ H=>∃ x,σ[i]?=some (some x)/\te σ H λy H1=>ti x y H1 λz H2=>D.nx (σ.set i (some z)) H2
theorem qU {i:Nat} {x:Str} {e:Expr} {te:TE} {op:Operator} {ti:zj} {pos':Pos} (hN:X.N.Nodup) (hi:X.N[i]?=some x) (hx:Loc X.env.scope x) (he:PE X e te) (ho:z6 X op ti) (hf:X.fn x=true∨X.env.scope.names.lookup x=some .local:=by first | exact .inl rfl | exact .inr rfl | assumption) :
  PS X (.AugAssign (.Name x pos') op e pos) (yJ i te ti):=by
 intro pins s σ H D I h
 obtain⟨v,e1,h⟩:=h
 obtain⟨m,hn,hl⟩:=I.loc
 have vis:vF X.env.scope x:=by rcases hx with k | k;exact .inl k;exact .inr (.inl k)
 obtain⟨u,r,l⟩:=hl i x v hi e1 vis
 refine wpAny_AugAssign_Name ?_
 have go:wpAny (model X.prog X.w) X.A (eval e X.env) (λw s₂=>wpAny (model X.prog X.w) X.A (inplaceOp op u w) (λr s₃=>wpAny (model X.prog X.w) X.A (storeName X.env x r) (λ_=>SP X pins D .next) X.xe s₃) X.xe s₂) X.xe s:=by
  refine aR (he pins s σ H _ I h) λw s1 ⟨y,H1,I1,r1,q1⟩=>?_
  refine aR (ho pins s1 σ H1 v y u w _ I1 r r1 q1) λz s2 ⟨zv,H2,I2,r2,q2⟩=>?_
  exact cK I2 hN hi hx r2 (λs3 I3=>⟨_,H2,I3,q2⟩) hf
 rcases l with⟨hk,hm⟩|⟨hk,c,hc,hcell⟩
 ·exact wpAny_loadName_local I.ok.kind hk hn hm go
 ·rcases hk with hk | hk
  ·exact wpAny_loadName_cell I.ok.kind hk hc hcell go
  ·rcases hx with k | k
   ·have:X.env.scope.names.lookup x=some .free:=hk
    rw [k] at this;cases this
   ·have:X.env.scope.names.lookup x=some .free:=hk
    rw [k] at this;cases this
end
section
variable {X:Cx} {pos:Pos}
def rM (c:TT) (tb:TS):TS:=λD σ H=>∃ W:Nat->St->Hp->Prop,(∃ m,W m σ H)/\∀ m σ H,W m σ H ->
 c σ H λb H1=>if b=true then ∃ N:St->Hp->Prop,(∀ σ' H',N σ' H'->∃ m',m'<m/\W m' σ' H')/\tb { D with nx:=N,ct:=N,bk:=D.nx } σ H1 else D.nx σ H1
theorem kL {c:Expr} {body:List Stmt} {tc:TT} {tb:TS} (hp:PassesOwn (model X.prog X.w) X.A X.env X.xe) (hc:PT X c tc) (hb:fU X body tb):PS X (.While c body [] pos) (rM tc tb):=by
 intro pins s σ H D I h
 obtain⟨W,⟨m0,w0⟩,turn⟩:=h
 refine wpAny_While (codeAny_whileLoop (λn s'=>∃ σ' H',Inv X pins σ' H' s'/\W n σ' H') ?_ m0 ⟨σ,H,I,w0⟩)
 rintro n s1 ⟨σ1,H1,I1,w1⟩
 refine wpAny_passesOwn hp (aR (hc pins s1 σ1 H1 _ I1 (turn n σ1 H1 w1)) λb s2 ⟨H2,I2,q2⟩=>?_)
 cases b with
 | true =>
  obtain⟨N,hN,q2⟩:=q2
  rw [if_pos rfl]
  refine wpAny_passesOwn hp (aR (hb pins s2 σ1 H2 _ I2 q2) λf s3 q3=>?_)
  cases f with
  | next =>
   obtain⟨σ3,H3,I3,n3⟩:=q3
   obtain⟨m',hm,w3⟩:=hN σ3 H3 n3
   exact⟨m',hm,σ3,H3,I3,w3⟩
  | cont =>
   obtain⟨σ3,H3,I3,n3⟩:=q3
   obtain⟨m',hm,w3⟩:=hN σ3 H3 n3
   exact⟨m',hm,σ3,H3,I3,w3⟩
  | brk=>exact q3
  | ret v=>exact q3
 | false =>
  rw [if_neg Bool.false_ne_true]
  exact wpAny_execs_nil ⟨σ1,H2,I2,q2⟩
end
structure It where
 go:Nat->Hp->Prop
 yld:Nat->Hp->V->Hp->Prop
 stop:Nat->Hp->Prop
def iK (X:Cx) (pins:List (Addr × Obj)) (H:Hp) (b:Addr):Prop :=
 H b=none/\b≠X.env.locals/\b∉X.fs/\(b∈X.ex∨X.s₀.heap.objs.size<=b)/\(∀ x c,X.env.cells.lookup x=some c->c≠b)/\∀ p∈X.pn++pins,p.1≠b
theorem Inv.og {X:Cx} {pins:List (Addr × Obj)} {σ:St} {H H':Hp} {s:Shared} {b:Addr} (I:Inv X pins σ H s) (hb:s.heap.objs.size<=b) (hn:H' b=none):iK X pins H' b:=by
 refine⟨hn,Nat.ne_of_gt (Nat.lt_of_lt_of_le I.lt hb),I.wo hb,.inr (Nat.le_trans I.sz hb),λx c e z=>?_,λp hp z=>?_⟩
 ·obtain⟨v,q⟩:=I.cell x c e
  exact absurd (Nat.lt_of_lt_of_le q.lt (by rw [z];exact hb)) (Nat.lt_irrefl _)
 ·exact absurd (Nat.lt_of_lt_of_le (Heap.lt_size (I.pin p hp).1) (by rw [z];exact hb)) (Nat.lt_irrefl _)
structure Turn (P:Program) (w:World) (K:PySem.W.Frag) (tg:Expr) (J:It) (fp:List Addr) (it:Addr) (tn:Nat->Heap->Prop):Prop where
 mem:it∈fp
 obj:∀ i h,tn i h->∀ b∈fp,∃ o,h.get? b=some o/\∀ v,o.data≠.cell v
 keep:∀ i h h',tn i h->(∀ b∈fp,∀ o,h.get? b=some o->h'.get? b=some o)->tn i h'
 item:∀(X:Cx),X.prog=P->X.w=w->X.K=K->X.calm=true->∀(i:Nat) (pins:List (Addr × Obj)) (s:Shared) (σ:St) (H:Hp) (E:Value->Shared->Prop),Inv X pins σ H s->(∀ b∈fp,iK X pins H b)->tn i s.heap->J.go i H ->
  wpAny (model P w) X.A (pyNext (.ref it)) (λr s1=>∃ u,r=some u /\
   wpAny (model P w) X.A (letOwnedTupleGo tg (.ref it) u) (λ_ s2=>∃ x H',Inv X pins σ H' s2/\RelV x u/\J.yld i H x H'/\tn (i+1) s2.heap/\∀ b∈fp,H' b=none) E s1) E s
 done:∀(X:Cx),X.prog=P->X.w=w->X.K=K->X.calm=true->∀(i:Nat) (pins:List (Addr × Obj)) (s:Shared) (σ:St) (H:Hp) (E:Value->Shared->Prop),Inv X pins σ H s->(∀ b∈fp,iK X pins H b)->tn i s.heap->J.stop i H ->
  wpAny (model P w) X.A (pyNext (.ref it)) (λr s1=>r=none/\Inv X pins σ H s1) E s
 self:∀(A:Around) (i:Nat) (s:Shared) (Q:Value->Shared->Prop) (E:Value->Shared->Prop),tn i s.heap->Q (.ref it) s->wpAny (model P w) A (pyIter (.ref it)) Q E s
abbrev TI:=St->Hp->(It->Hp->Prop)->Prop
def xP (X:Cx) (pins:List (Addr × Obj)) (σ:St) (tg:Expr) (R:It->Hp->Prop) (itv:Value) (s2:Shared):Prop :=
 ∃(it:Addr) (fp:List Addr) (tn:Nat->Heap->Prop) (J:It) (H':Hp),itv=.ref it/\Inv X pins σ H' s2/\Turn X.prog X.w X.K tg J fp it tn/\tn 0 s2.heap/\(∀ b∈fp,iK X pins H' b)/\R J H'
def PI (X:Cx) (tg iter:Expr) (wi:TI):Prop :=
 ∀(pins:List (Addr × Obj)) (s:Shared) (σ:St) (H:Hp) (R:It->Hp->Prop),Inv X pins σ H s->wi σ H R ->
  wpAny (model X.prog X.w) X.A (eval iter X.env) (λv s1=>wpAny (model X.prog X.w) X.A (pyIter v) (xP X pins σ tg R) X.xe s1) X.xe s
theorem pT {M:Model} {A:Around} {E:Value->Shared->Prop} {s:Shared} {tg:Expr} {it:Addr} {u:Value} {o:Obj} {n:String} {vs:Array Value} {Q:Unit->Shared->Prop} (ho:s.heap.get? it=some o) (hc:o.cls=.type n) (hd:o.data=.fields vs)
    (hn:["enumerate","zip","dict_itemiterator","dict_reverseitemiterator","odict_iterator","itertools.zip_longest","itertools.pairwise"].contains n=false) (hQ:Q () s):wpAny M A (letOwnedTupleGo tg (.ref it) u) Q E s:=by
  unfold letOwnedTupleGo
  cases tg<;>first
    | exact wpAny_pure hQ
    | (cases u<;>first
        | exact wpAny_pure hQ
        | (refine wpAny_bind (wpAny_load ho ?_)
           rw [hc,hd]
           show wpAny M A (if (["enumerate","zip","dict_itemiterator","dict_reverseitemiterator","odict_iterator","itertools.zip_longest","itertools.pairwise"].contains n && vs[0]?==some (rawInt _))=true then _ else _) Q E s
           rw [if_neg (by intro h;rw [hn,Bool.false_and] at h;cases h)]
           exact wpAny_pure hQ))
def uQ (K:PySem.W.Frag) (a:Addr):It :=
 ⟨λi H=>∃ xs x,aP K H a xs/\xs[i]?=some x,λi H x H'=>H'=H/\∀ xs,aP K H a xs->xs[i]?=some x,λi H=>∃ xs,aP K H a xs/\xs.length<=i⟩
def yU (K:PySem.W.Frag) (a:Addr):It :=
 ⟨λi H=>∃ xs x,br K H a xs/\xs[i]?=some x,λi H x H'=>H'=H/\∀ xs,br K H a xs->xs[i]?=some x,λi H=>∃ xs,br K H a xs/\xs.length<=i⟩
def sj (lo:Int) (n:Nat):It:=⟨λi _=>i<n,λi H x H'=>H'=H/\x=.int (lo+i),λi _=>n<=i⟩
theorem jw {P:Program} {w:World} {K:PySem.W.Frag} {tg:Expr} (a it:Addr):Turn P w K tg (uQ K a) [it] it (λi h=>h.IsListIter it a i) where
 mem:=by simp
 obj:=λi h st b hb=>by
  have e:b=it:=by simpa using hb
  subst e
  obtain⟨o,e,c,d⟩:=st
  exact⟨o,e,λv z=>by rw [d] at z;cases z⟩
 keep:=λi h h' st k=>st.at λo e=>k it (by simp) o e
 item:=by
  intro X hP hw hK hc i pins s σ H E I hf st hg
  subst hP hw hK
  obtain⟨xs,x,hq,hx⟩:=hg
  obtain⟨its,rv,p,hz⟩:=I.list hq
  obtain⟨u,hu,ru⟩:=rv.get hx
  obtain⟨f0,f1,f2,f3,f4,f5⟩:=hf it (by simp)
  refine wpAny_pyNext_list_item st p.isList (x:=u) (by simpa using hu) λh' st' sb=>?_
  have I1:Inv X pins σ H { s with heap:=h' }:=I.turned (t':=s.toks) (λb o hb e=>(sb.2 b hb).trans e) f0 f1 f3 f4 f5
  obtain⟨o,e,c,d⟩:=id st'
  exact⟨u,rfl,pT (s:={ s with heap:=h' }) e c d (by decide) ⟨x,H,I1,ru,⟨rfl,λys hy=>by rw [I.ky hy hq];exact hx⟩,st',λb hb=>(hf b hb).1⟩⟩
 done:=by
  intro X hP hw hK hc i pins s σ H E I hf st hg
  subst hP hw hK
  obtain⟨xs,hq,hx⟩:=hg
  obtain⟨its,rv,p,hz⟩:=I.list hq
  obtain⟨f0,f1,f2,f3,f4,f5⟩:=hf it (by simp)
  have hl:=rv.length
  exact wpAny_pyNext_list_end (I.ok.hd hc) st p.isList (by simp;omega) λh' eb=>⟨rfl,I.turned (t':=s.toks) (λb o hb e=>eb b o hb e) f0 f1 f3 f4 f5⟩
 self:=λ_ _ _ _ _ st h=>wpAny_pyIter_listiter st h
theorem ma {P:Program} {w:World} {K:PySem.W.Frag} {tg:Expr} (a it:Addr):Turn P w K tg (yU K a) [it] it (λi h=>h.IsTupleIter it a i) where
 mem:=by simp
 obj:=λi h st b hb=>by
  have e:b=it:=by simpa using hb
  subst e
  obtain⟨o,e,c,d⟩:=st
  exact⟨o,e,λv z=>by rw [d] at z;cases z⟩
 keep:=λi h h' st k=>st.at λo e=>k it (by simp) o e
 item:=by
  intro X hP hw hK hc i pins s σ H E I hf st hg
  subst hP hw hK
  obtain⟨xs,x,hq,hx⟩:=hg
  obtain⟨its,rv,p,hz⟩:=I.tuple hq
  obtain⟨u,hu,ru⟩:=rv.get hx
  obtain⟨f0,f1,f2,f3,f4,f5⟩:=hf it (by simp)
  refine wpAny_pyNext_tuple_item st (show s.heap.IsTuple a its.toArray from p) (x:=u) (by simpa using hu) λh' st' sb=>?_
  have I1:Inv X pins σ H { s with heap:=h' }:=I.turned (t':=s.toks) (λb o hb e=>(sb.2 b hb).trans e) f0 f1 f3 f4 f5
  obtain⟨o,e,c,d⟩:=id st'
  exact⟨u,rfl,pT (s:={ s with heap:=h' }) e c d (by decide) ⟨x,H,I1,ru,⟨rfl,λys hy=>by rw [I.jv hy hq];exact hx⟩,st',λb hb=>(hf b hb).1⟩⟩
 done:=by
  intro X hP hw hK hc i pins s σ H E I hf st hg
  subst hP hw hK
  obtain⟨xs,hq,hx⟩:=hg
  obtain⟨its,rv,p,hz⟩:=I.tuple hq
  obtain⟨f0,f1,f2,f3,f4,f5⟩:=hf it (by simp)
  have hl:=rv.length
  exact wpAny_pyNext_tuple_end (I.ok.hd hc) st (show s.heap.IsTuple a its.toArray from p) (by simp;omega) λh' eb=>⟨rfl,I.turned (t':=s.toks) (λb o hb e=>eb b o hb e) f0 f1 f3 f4 f5⟩
 self:=λ_ _ _ _ _ st h=>wpAny_pyIter_tupleiter st h
theorem l8 {P:Program} {w:World} {K:PySem.W.Frag} {tg:Expr} (it:Addr) (lo:Int) (n:Nat):Turn P w K tg (sj lo n) [it] it (λi h=>IsRangeIter h it (lo+(i:Nat)*1) ((n:Int)-(i:Nat)) 1) where
 mem:=by simp
 obj:=λi h st b hb=>by
  have e:b=it:=by simpa using hb
  subst e
  exact⟨_,st,λv z=>by
   have z':Data.fields _=Data.cell v:=z
   cases z'⟩
 keep:=λi h h' st k=>k it (by simp) _ st
 item:=by
  intro X hP hw hK hc i pins s σ H E I hf st hg
  subst hP hw hK
  obtain⟨f0,f1,f2,f3,f4,f5⟩:=hf it (by simp)
  have W:=Walks.range (prog:=X.prog) (w:=X.w) (I.ok.hd hc) it lo 1 n
  refine W.item i s _ _ hg st λv h' tk hv st' kk=>?_
  obtain⟨t,rfl⟩:=hv
  have I1:Inv X pins σ H { s with heap:=h',toks:=tk }:=I.turned (λb o hb e=>kk b o (by simpa using hb) e) f0 f1 f3 f4 f5
  refine⟨_,rfl,pT (s:={ s with heap:=h',toks:=tk }) (n := "range_iterator") st' rfl rfl (by decide) ⟨.int (lo+i),H,I1,⟨t,?_⟩,⟨rfl,rfl⟩,st',λb hb=>(hf b hb).1⟩⟩
  rw [Int.mul_one]
 done:=by
  intro X hP hw hK hc i pins s σ H E I hf st hg
  subst hP hw hK
  obtain⟨f0,f1,f2,f3,f4,f5⟩:=hf it (by simp)
  exact wpAny_pyNext_range_end (I.ok.hd hc) st (by have:n<=i:=hg;omega) λh' eb=>⟨rfl,I.turned (t':=s.toks) (λb o hb e=>eb b o hb e) f0 f1 f3 f4 f5⟩
 self:=λ_ _ _ _ _ st h=>wpAny_pyIter_rangeiter st h
section
variable {X:Cx} {tg:Expr}
def mG (K:PySem.W.Frag) (tl:TE):TI:=λσ H R=>tl σ H λx H1=>∃ a,x=.ref a/\(∃ xs,aP K H1 a xs)/\R (uQ K a) H1
def vZ (K:PySem.W.Frag) (tl:TE):TI:=λσ H R=>tl σ H λx H1=>∃ a,x=.ref a/\(∃ xs,br K H1 a xs)/\R (yU K a) H1
theorem ub {l:Expr} {tl:TE} (hl:PE X l tl):PI X tg l (mG X.K tl):=by
 intro pins s σ H R I h
 refine aR (hl pins s σ H _ I h) λv s1 ⟨x,H1,I1,r1,q1⟩=>?_
 obtain⟨a,e,⟨xs,hq⟩,q⟩:=q1
 subst e
 cases r1
 obtain⟨its,rv,p,hz⟩:=I1.list hq
 refine wpAny_pyIter_list p.isList ?_
 refine⟨s1.heap.objs.size,[s1.heap.objs.size],_,_,H1,rfl,I1.kept (t':=s1.toks) λb o e=>Heap.get?_push_of_some _ e,jw a _,⟨_,Heap.get?_push_size _ rfl,rfl,rfl⟩,λb hb=>?_,q⟩
 have e:b=s1.heap.objs.size:=by simpa using hb
 subst e
 exact I1.og (Nat.le_refl _) (I1.hok.fresh (Nat.le_refl _))
theorem wI {l:Expr} {tl:TE} (hl:PE X l tl):PI X tg l (vZ X.K tl):=by
 intro pins s σ H R I h
 refine aR (hl pins s σ H _ I h) λv s1 ⟨x,H1,I1,r1,q1⟩=>?_
 obtain⟨a,e,⟨xs,hq⟩,q⟩:=q1
 subst e
 cases r1
 obtain⟨its,rv,p,hz⟩:=I1.tuple hq
 refine wpAny_pyIter_tuple (show s1.heap.IsTuple a its.toArray from p) ?_
 refine⟨s1.heap.objs.size,[s1.heap.objs.size],_,_,H1,rfl,I1.kept (t':=s1.toks) λb o e=>Heap.get?_push_of_some _ e,ma a _,⟨_,Heap.get?_push_size _ rfl,rfl,rfl⟩,λb hb=>?_,q⟩
 have e:b=s1.heap.objs.size:=by simpa using hb
 subst e
 exact I1.og (Nat.le_refl _) (I1.hok.fresh (Nat.le_refl _))
theorem q5 {pins:List (Addr × Obj)} {σ:St} {H:Hp} {s:Shared} {R:It->Hp->Prop} {E:Value->Shared->Prop} {lo hi:Int} {t u v:Tok} {tk:Nat} (I:Inv X pins σ H s) (h1:-(2^62)<=lo) (h2:lo<2^62) (h3:-(2^62)<=hi) (h4:hi<2^62)
  (q:R (sj lo (hi-lo).toNat) H):wpAny (model X.prog X.w) X.A (pyIter (.ref s.heap.objs.size)) (xP X pins σ tg R) E { s with heap:=s.heap.push { cls:=.type "range",data:=.fields #[.int lo t,.int hi u,.int 1 v] },toks:=tk }:=by
 refine wpAny_pyIter_range (IsRange.new ..) (small_one h1 h2 h3 h4) ?_
 have I1:Inv X pins σ H { s with heap:=s.heap.push { cls:=.type "range",data:=.fields #[.int lo t,.int hi u,.int 1 v] },toks:=tk }:=I.kept λb o e=>Heap.get?_push_of_some _ e
 refine⟨(s.heap.push { cls:=.type "range",data:=.fields #[.int lo t,.int hi u,.int 1 v] }).objs.size,[(s.heap.push { cls:=.type "range",data:=.fields #[.int lo t,.int hi u,.int 1 v] }).objs.size],_,_,H,rfl,
  I1.kept (t':=tk) λb o e=>Heap.get?_push_of_some _ e,l8 _ lo (hi-lo).toNat,?_,λb hb=>?_,q⟩
 ·have e1:lo+((0:Nat):Int)*1=lo:=by simp
  have e2:(((hi-lo).toNat:Nat):Int)-((0:Nat):Int)=Builtin.Range.rangeSize lo hi 1:=by rw [rangeSize_one];split<;>omega
  show IsRangeIter _ _ (lo+((0:Nat):Int)*1) ((((hi-lo).toNat:Nat):Int)-((0:Nat):Int)) 1
  rw [e1,e2]
  exact Heap.get?_push_size _ rfl
 ·have e:b=(s.heap.push { cls:=.type "range",data:=.fields #[.int lo t,.int hi u,.int 1 v] }).objs.size:=by simpa using hb
  subst e
  exact I1.og (Nat.le_refl _) (I1.hok.fresh (Nat.le_refl _))
def uX (ta:TA):TI:=λσ H R=>ta σ H λvs H1=>∃ j:Int,vs=[.int j] /\ -(2^62)<=j/\j<2^62/\R (sj 0 j.toNat) H1
def yb (ta:TA):TI:=λσ H R=>ta σ H λvs H1=>∃ i j:Int,vs=[.int i,.int j]/\(-(2^62)<=i/\i<2^62 /\ -(2^62)<=j/\j<2^62)/\R (sj i (j-i).toNat) H1
theorem cF {a:Expr} {ta:TA} {p pos:Pos} (hg:Gl X "range") (hm:X.mg "range"=none) (ha:PA X [a] ta) (hs:starEach [a] X.env=[(false,eval a X.env)]:=by rfl):PI X tg (.Call (.Name "range" p) [a] [] pos) (uX ta):=by
 intro pins s σ H R I h
 refine Call_ (ik I hg hm boot_range (PyProof.Rows.callWith_type1 (aR (ha pos pins s σ H _ I h) λus s1 ⟨vs,H1,I1,r1,q1⟩=>?_) hs rfl))
 obtain⟨j,e,q1,q2,q⟩:=q1
 subst e
 cases r1 with
 | cons r rr =>
  cases rr
  obtain⟨t,rfl⟩:=r
  exact call_range_1 (q5 I1 (by omega) (by omega) q1 q2 (by simpa using q))
def xi (wi:TI) (g:TG) (tb:TS):TS:=λD σ H=>wi σ H λJ H1=>∃ W:Nat->Nat->St->Hp->Prop,(∃ m,W 0 m σ H1)/\∀ i m σ H,W i m σ H ->
 (J.stop i H/\D.nx σ H)∨(J.go i H/\∃ N:St->Hp->Prop,(∀ σ' H',N σ' H'->∃ m',m'<m/\W (i+1) m' σ' H')/\∀ x H',J.yld i H x H'->g x σ H' λσ2 H2=>tb { D with nx:=N,ct:=N,bk:=D.nx } σ2 H2)
def eY (fp:List Addr) (h:Heap):List (Addr × Obj):=fp.filterMap λb=>(h.get? b).map λo=>(b,o)
theorem bW {fp:List Addr} {h:Heap} {b:Addr} {o:Obj} (hb:b∈fp) (e:h.get? b=some o):(b,o)∈eY fp h:=List.mem_filterMap.mpr ⟨b,hb,by rw [e];rfl⟩
theorem jk {fp:List Addr} {h:Heap} {p:Addr × Obj} (hp:p∈eY fp h):p.1∈fp/\h.get? p.1=some p.2:=by
 obtain⟨b,hb,e⟩:=List.mem_filterMap.mp hp
 cases q:h.get? b with
 | none=>rw [q] at e;cases e
 | some o =>
  rw [q] at e
  have e':(b,o)=p:=Option.some.inj e
  subst e'
  exact⟨hb,q⟩
theorem Inv.pinned {pins:List (Addr × Obj)} {σ:St} {H:Hp} {s:Shared} {fp:List Addr} (I:Inv X pins σ H s) (hf:∀ b∈fp,iK X pins H b) (ho:∀ b∈fp,∃ o,s.heap.get? b=some o/\∀ v,o.data≠.cell v):Inv X (pins++eY fp s.heap) σ H s :=
 I.gR λp hp=>(List.mem_append.mp hp).elim (λz=>I.pin p (List.mem_append_right _ z)) λz=>by
  obtain⟨hb,e⟩:=jk z
  obtain⟨f0,f1,f2,_⟩:=hf p.1 hb
  obtain⟨o,e',d⟩:=ho p.1 hb
  rw [e] at e';cases e'
  exact⟨e,f0,f1,f2,d⟩
theorem Inv.cM {pins pl:List (Addr × Obj)} {σ:St} {H:Hp} {s:Shared} (I:Inv X (pins++pl) σ H s):Inv X pins σ H s:=I.gR λp hp=>I.pin p (List.mem_append_right _ (List.mem_append_left _ hp))
theorem gk {iter:Expr} {body:List Stmt} {wi:TI} {g:TG} {tb:TS} {pos:Pos} (hp:PassesOwn (model X.prog X.w) X.A X.env X.xe) (hc:X.calm=true) (hi:PI X tg iter wi) (hg:PG X tg g) (hb:fU X body tb)
  (hs:∀ x,foldedSetIterable iter X.env x=pure x:=by intro _;rfl):PS X (.For tg iter body [] pos) (xi wi g tb):=by
 intro pins s σ H D I h
 refine wpAny_For (aR (hi pins s σ H _ I h) λv s1 h1=>aR h1 λitv s2 h2=>?_) hs
 obtain⟨it,fp,tn,J,H2,e,I2,T,st2,f2,W,⟨m0,w0⟩,turn⟩:=h2
 subst e
 -- what stays true of the iterator's objects through the loop
 have stat:∀{H':Hp},(∀ b∈fp,H' b=none)->∀ b∈fp,iK X pins H' b:=λhn b hb=>⟨hn b hb,(f2 b hb).2⟩
 refine codeAny_forLoop_any (λn s'=>∃ i σ' H',Inv X pins σ' H' s'/\tn i s'.heap/\(∀ b∈fp,H' b=none)/\W i n σ' H') ?_ m0 ⟨0,σ,H2,I2,st2,λb hb=>(f2 b hb).1,w0⟩
 rintro n s3 ⟨i,σ3,H3,I3,st3,fr3,w3⟩
 rcases turn i n σ3 H3 w3 with⟨stop,qn⟩|⟨go,N,hN,step⟩
 ·refine wpAny_passesOwn hp (aR (T.done X rfl rfl rfl hc i pins s3 σ3 H3 X.xe I3 (stat fr3) st3 stop) λr s4 ⟨hr,I4⟩=>?_)
  subst hr
  exact wpAny_execs_nil ⟨σ3,H3,I4,qn⟩
 ·refine wpAny_passesOwn hp (aR (T.item X rfl rfl rfl hc i pins s3 σ3 H3 X.xe I3 (stat fr3) st3 go) λr s4 ⟨u,hr,h4⟩=>?_)
  subst hr
  refine wpAny_passesOwn hp (aR h4 λ_ s5 ⟨x,H5,I5,r5,y5,st5,fr5⟩=>?_)
  have I5':=I5.pinned (stat fr5) (T.obj _ _ st5)
  refine wpAny_passesOwn hp (aR (hg _ s5 σ3 H5 x u _ I5' r5 (step x H5 y5)) λ_ s6 ⟨σ6,H6,I6,q6⟩=>?_)
  refine wpAny_passesOwn hp (aR (hb _ s6 σ6 H6 _ I6 q6) λf s7 q7=>?_)
  have again:∀{σ7:St} {H7:Hp},Inv X (pins++eY fp s5.heap) σ7 H7 s7->N σ7 H7->∃ m,m<n/\∃ i σ' H',Inv X pins σ' H' s7/\tn i s7.heap/\(∀ b∈fp,H' b=none)/\W i m σ' H':=λ{σ7 H7} I7 n7=>by
   obtain⟨m',hm,w7⟩:=hN σ7 H7 n7
   refine⟨m',hm,i+1,σ7,H7,I7.cM,T.keep _ _ _ st5 λb hb o e=>(I7.pin (b,o) (List.mem_append_right _ (List.mem_append_right _ (bW hb e)))).1,λb hb=>?_,w7⟩
   obtain⟨o,e,d⟩:=T.obj _ _ st5 b hb
   exact (I7.pin (b,o) (List.mem_append_right _ (List.mem_append_right _ (bW hb e)))).2.1
  cases f with
  | next=>obtain⟨σ7,H7,I7,n7⟩:=q7;exact again I7 n7
  | cont=>obtain⟨σ7,H7,I7,n7⟩:=q7;exact again I7 n7
  | brk=>obtain⟨σ7,H7,I7,q7⟩:=q7;exact⟨σ7,H7,I7.cM,q7⟩
  | ret v=>obtain⟨x7,σ7,H7,I7,r7,q7⟩:=q7;exact⟨x7,σ7,H7,I7.cM,r7,q7⟩
end
theorem pS {K:PySem.W.Frag} {a:Addr} {xs:List V} {g:TG} {tb:TS} {D:Ends} {σ:St} {H:Hp} (Pv:Nat->St->Hp->Prop) (h0:Pv 0 σ H) (hl:∀ i σ H,i<=xs.length->Pv i σ H->aP K H a xs)
  (hs:∀ i x σ H,xs[i]?=some x->Pv i σ H->g x σ H λσ2 H2=>tb { D with nx:=Pv (i+1),ct:=Pv (i+1),bk:=D.nx } σ2 H2) (hd:∀ σ H,Pv xs.length σ H->D.nx σ H) :
  ∃ W:Nat->Nat->St->Hp->Prop,(∃ m,W 0 m σ H)/\∀ i m σ H,W i m σ H ->
   ((uQ K a).stop i H/\D.nx σ H)∨((uQ K a).go i H/\∃ N:St->Hp->Prop,(∀ σ' H',N σ' H'->∃ m',m'<m/\W (i+1) m' σ' H')/\∀ x H',(uQ K a).yld i H x H'->g x σ H' λσ2 H2=>tb { D with nx:=N,ct:=N,bk:=D.nx } σ2 H2):=by
 refine⟨λi m σ H=>m=xs.length-i/\i<=xs.length/\Pv i σ H,⟨xs.length,by simp,Nat.zero_le _,h0⟩,?_⟩
 rintro i m σ H ⟨rfl,hi,p⟩
 have q:=hl i σ H hi p
 by_cases hlt:i<xs.length
 ·refine .inr ⟨⟨xs,xs[i],q,by simp [hlt]⟩,Pv (i+1),λσ' H' p'=>⟨xs.length-(i+1),by omega,rfl,hlt,p'⟩,λx H' y=>?_⟩
  obtain⟨e,y⟩:=y
  subst e
  exact hs i x σ _ (y xs q) p
 ·have e:i=xs.length:=by omega
  subst e
  exact .inl ⟨⟨xs,q,Nat.le_refl _⟩,hd σ H p⟩
theorem oa {lo:Int} {n:Nat} {g:TG} {tb:TS} {D:Ends} {σ:St} {H:Hp} (Pv:Nat->St->Hp->Prop) (h0:Pv 0 σ H)
  (hs:∀ i σ H,i<n->Pv i σ H->g (.int (lo+i)) σ H λσ2 H2=>tb { D with nx:=Pv (i+1),ct:=Pv (i+1),bk:=D.nx } σ2 H2) (hd:∀ σ H,Pv n σ H->D.nx σ H) :
  ∃ W:Nat->Nat->St->Hp->Prop,(∃ m,W 0 m σ H)/\∀ i m σ H,W i m σ H ->
   ((sj lo n).stop i H/\D.nx σ H)∨((sj lo n).go i H/\∃ N:St->Hp->Prop,(∀ σ' H',N σ' H'->∃ m',m'<m/\W (i+1) m' σ' H')/\∀ x H',(sj lo n).yld i H x H'->g x σ H' λσ2 H2=>tb { D with nx:=N,ct:=N,bk:=D.nx } σ2 H2):=by
 refine⟨λi m σ H=>m=n-i/\i<=n/\Pv i σ H,⟨n,by simp,Nat.zero_le _,h0⟩,?_⟩
 rintro i m σ H ⟨rfl,hi,p⟩
 by_cases hlt:i<n
 ·refine .inr ⟨hlt,Pv (i+1),λσ' H' p'=>⟨n-(i+1),by omega,rfl,hlt,p'⟩,λx H' y=>?_⟩
  obtain⟨e,y⟩:=y
  subst e y
  exact hs i σ _ hlt p
 ·have e:i=n:=by omega
  subst e
  exact .inl ⟨Nat.le_refl _,hd σ H p⟩
abbrev R2:=V->V->Hp->VK->Prop
def ff (X:Cx) (f:Value->Value->Sem Value) (r:R2):Prop :=
 ∀(pins:List (Addr × Obj)) (s:Shared) (σ:St) (H:Hp) (x y:V) (v u:Value) (Q:VK),Inv X pins σ H s->RelV x v->RelV y u->r x y H Q ->
  wpAny (model X.prog X.w) X.A (f v u) (EP X pins σ Q) X.xe s
def zm (X:Cx) (f:Value->Sem Value) (r:V->Hp->VK->Prop):Prop :=
 ∀(pins:List (Addr × Obj)) (s:Shared) (σ:St) (H:Hp) (x:V) (v:Value) (Q:VK),Inv X pins σ H s->RelV x v->r x H Q ->
  wpAny (model X.prog X.w) X.A (f v) (EP X pins σ Q) X.xe s
def bS (X:Cx) (f:Value) (r:List V->Hp->VK->Prop):Prop :=
 ∀(pins:List (Addr × Obj)) (s:Shared) (σ:St) (H:Hp) (xs:List V) (us:List Value) (Q:VK),Inv X pins σ H s->Vals xs us->r xs H Q ->
  wpAny (model X.prog X.w) X.A (call f us) (EP X pins σ Q) X.xe s
def zk (X:Cx) (r:V->Hp->(Bool->Hp->Prop)->Prop):Prop :=
 ∀(pins:List (Addr × Obj)) (s:Shared) (σ:St) (H:Hp) (x:V) (v:Value) (Q:Bool->Hp->Prop),Inv X pins σ H s->RelV x v->r x H Q ->
  wpAny (model X.prog X.w) X.A (truthy v) (TP X pins σ Q) X.xe s
def xk (r:R2) (ta tb:TE):TE:=λσ H Q=>ta σ H λx H1=>tb σ H1 λy H2=>r x y H2 Q
def Am (r:V->Hp->VK->Prop) (ta:TE):TE:=λσ H Q=>ta σ H λx H1=>r x H1 Q
def rI (C:Int->Int->Prop) (g:Int->Int->V):R2:=λx y H Q=>∃ i j,x=.int i/\y=.int j/\C i j/\Q (g i j) H
def ve (g:Int->Int->V):R2:=λx y H Q=>∃ i j,x=.int i/\y=.int j/\Q (g i j) H
def rU (g:Int->V):V->Hp->VK->Prop:=λx H Q=>∃ i,x=.int i/\Q (g i) H
section
variable {X:Cx} {a b c:Expr} {ta tb tc:TE} {pos:Pos}
theorem sP (ha:PE X a ta) (hb:PE X b tb) {pins:List (Addr × Obj)} {s:Shared} {σ:St} {H:Hp} {R:V->V->Hp->Prop} (I:Inv X pins σ H s)
  (h:ta σ H λx H1=>tb σ H1 λy H2=>R x y H2) {Q:Value->Shared->Prop} {f:Value->Value->Sem Value}
  (hf:∀ v u s2 x y H2,Inv X pins σ H2 s2->RelV x v->RelV y u->R x y H2->wpAny (model X.prog X.w) X.A (f v u) Q X.xe s2) :
  wpAny (model X.prog X.w) X.A (eval a X.env) (λv s₁=>wpAny (model X.prog X.w) X.A (eval b X.env) (λu s₂=>wpAny (model X.prog X.w) X.A (f v u) Q X.xe s₂) X.xe s₁) X.xe s:=by
 refine aR (ha pins s σ H _ I h) λv s1 ⟨x,H1,I1,r1,q1⟩=>?_
 refine aR (hb pins s1 σ H1 _ I1 q1) λu s2 ⟨y,H2,I2,r2,q2⟩=>?_
 exact hf v u s2 x y H2 I2 r1 r2 q2
theorem ay {op:Operator} {r:R2} (ho:ff X (binaryOp op) r) (ha:PE X a ta) (hb:PE X b tb):PE X (.BinOp a op b pos) (xk r ta tb):=by
 intro pins s σ H Q I h
 exact wpAny_BinOp (sP ha hb I h λv u s2 x y H2 I2 rx ry q=>ho pins s2 σ H2 x y v u Q I2 rx ry q)
theorem mV {op:UnaryOp} {r:V->Hp->VK->Prop} (ho:zm X (unaryOp op) r) (ha:PE X a ta):PE X (.UnaryOp op a pos) (Am r ta):=by
 intro pins s σ H Q I h
 exact UnaryOp_ (aR (ha pins s σ H _ I h) λv s1 ⟨x,H1,I1,r1,q1⟩=>ho pins s1 σ H1 x v Q I1 r1 q1)
theorem yZ {f:Value->Value->Sem Value} {C:Int->Int->Prop} {g:Int->Int->Int}
  (rule:∀(i j:Int) (t u:Tok) (s:Shared) (Q:Value->Shared->Prop) (E:Value->Shared->Prop),C i j->Q (.int (g i j) s.toks) { s with toks:=s.toks+1 }->wpAny (model X.prog X.w) X.A (f (.int i t) (.int j u)) Q E s) :
  ff X f (rI C λi j=>.int (g i j)):=by
 intro pins s σ H x y v u Q I rx ry h
 obtain⟨i,j,rfl,rfl,hc,q⟩:=h
 obtain⟨t,rfl⟩:=rx
 obtain⟨t',rfl⟩:=ry
 exact rule i j t t' s _ _ hc ⟨.int (g i j),H,I.tok _,⟨_,rfl⟩,q⟩
theorem wC {f:Value->Value->Sem Value} {g:Int->Int->Int}
  (rule:∀(i j:Int) (t u:Tok) (s:Shared) (Q:Value->Shared->Prop) (E:Value->Shared->Prop),Q (.int (g i j) s.toks) { s with toks:=s.toks+1 }->wpAny (model X.prog X.w) X.A (f (.int i t) (.int j u)) Q E s) :
  ff X f (ve λi j=>.int (g i j)):=by
 intro pins s σ H x y v u Q I rx ry h
 obtain⟨i,j,rfl,rfl,q⟩:=h
 obtain⟨t,rfl⟩:=rx
 obtain⟨t',rfl⟩:=ry
 exact rule i j t t' s _ _ ⟨.int (g i j),H,I.tok _,⟨_,rfl⟩,q⟩
theorem yw {f:Value->Value->Sem Value} {g:Int->Int->Bool}
  (rule:∀(i j:Int) (t u:Tok) (s:Shared) (Q:Value->Shared->Prop) (E:Value->Shared->Prop),Q (.bool (g i j)) s->wpAny (model X.prog X.w) X.A (f (.int i t) (.int j u)) Q E s) :
  ff X f (ve λi j=>.bl (g i j)):=by
 intro pins s σ H x y v u Q I rx ry h
 obtain⟨i,j,rfl,rfl,q⟩:=h
 obtain⟨t,rfl⟩:=rx
 obtain⟨t',rfl⟩:=ry
 exact rule i j t t' s _ _ ⟨.bl (g i j),H,I,rfl,q⟩
def xG (i j:Int):Prop:=0<=j/\j<=1000000/\i.natAbs<2^64
def xF (i j:Int):Prop:=(-(2^64)<i/\i<2^64)∨(-(2^64)<j/\j<2^64)
theorem xF.ok {i j:Int} (h:xF i j):IntMulOk i j:=by
 rcases h with⟨h1,h2⟩|⟨h1,h2⟩
 ·exact .of_left (intBits_le_64 h1 h2)
 ·exact .of_right (intBits_le_64 h1 h2)
theorem aY:ff X (binaryOp .Add) (ve λi j=>.int (i+j)):=wC λ_ _ _ _ _ _ _ q=>add_int q
theorem cH:ff X (binaryOp .Sub) (ve λi j=>.int (i-j)):=wC λ_ _ _ _ _ _ _ q=>sub_int q
theorem dS:ff X (binaryOp .Mod) (rI (λ_ j=>0<j) λi j=>.int (i%j)):=yZ λi j _ _ _ _ _ hc q=>by
 have h1:(0:Int)<j:=hc
 exact mod_int' (by omega) (by rw [Int.fmod_eq_emod_of_nonneg i (by omega)];exact q)
theorem qD:ff X (binaryOp .Pow) (rI xG λi j=>.int (i^j.toNat)):=yZ λ_ _ _ _ _ _ _ hc q=>pow_int_small hc.1 hc.2.1 hc.2.2 q
theorem mH:ff X (inplaceOp .Add) (ve λi j=>.int (i+j)):=wC λ_ _ _ _ _ _ _ q=>iadd_int q
theorem AG {f:Value->Sem Value} {g:Int->Int}
  (rule:∀(i:Int) (t:Tok) (s:Shared) (Q:Value->Shared->Prop) (E:Value->Shared->Prop),Q (.int (g i) s.toks) { s with toks:=s.toks+1 }->wpAny (model X.prog X.w) X.A (f (.int i t)) Q E s) :
  zm X f (rU λi=>.int (g i)):=by
 intro pins s σ H x v Q I rx h
 obtain⟨i,rfl,q⟩:=h
 obtain⟨t,rfl⟩:=rx
 exact rule i t s _ _ ⟨.int (g i),H,I.tok _,⟨_,rfl⟩,q⟩
theorem j4:zm X (unaryOp .USub) (rU λi=>.int (-i)):=AG λ_ _ _ _ _ q=>neg_int q
end
def iT:V->V->Bool
 | .aQ,.aQ=>true | .aQ,.int _=>true | .int _,.aQ=>true | .aQ,.bl _=>true | .bl _,.aQ=>true | .aQ,.str _=>true | .str _,.aQ=>true
 | .int _,.int _=>true | .bl _,.bl _=>true | .str _,.str _=>true | .byt _,.byt _=>true
 | .int _,.str _=>true | .str _,.int _=>true | .bl _,.str _=>true | .str _,.bl _=>true
 | _,_=>false
def zB:R2:=λx y H Q=>iT x y=true/\Q (.bl (decide (x=y))) H
def Af:R2:=λx y H Q=>iT x y=true/\Q (.bl (!decide (x=y))) H
theorem mw {i j:Int}:decide (V.int i=V.int j)=(i==j):=by
 rw [Bool.eq_iff_iff]
 simp
theorem pC {i j:Bool}:decide (V.bl i=V.bl j)=(i==j):=by
 rw [Bool.eq_iff_iff]
 simp
theorem mx {i j:Str}:decide (V.str i=V.str j)=(i==j):=by
 rw [Bool.eq_iff_iff]
 simp
theorem mv {i j:Array UInt8}:decide (V.byt i=V.byt j)=(i.toList==j.toList):=by
 rw [Bool.eq_iff_iff]
 cases i
 cases j
 simp
section
variable {X:Cx} {a b c:Expr} {ta tb tc:TE} {pos:Pos}
theorem aK {pins:List (Addr × Obj)} {σ:St} {H:Hp} {s:Shared} {Q:VK} {k k':Bool} (I:Inv X pins σ H s) (q:Q (.bl k) H) (e:k=k'):EP X pins σ Q (.bool k') s:=by
 subst e
 exact⟨.bl k,H,I,rfl,q⟩
theorem aI:ff X (compareOp .Eq) zB:=by
 intro pins s σ H x y v u Q I rx ry h
 obtain⟨hs,q⟩:=h
 cases x with
 | aQ =>
  cases rx
  cases y with
  | aQ=>cases ry;exact PySem.EqNone.eq_none_none (aK I q (by simp))
  | bl j=>cases ry;exact PySem.EqNone.eq_none_bool (aK I q (by simp))
  | int j=>obtain⟨t',rfl⟩:=ry;exact PySem.EqNone.eq_none_int (aK I q (by simp))
  | str j=>obtain⟨t',rfl⟩:=ry;exact PySem.EqNone.eq_none_str (aK I q (by simp))
  | _=>exact absurd (show false=true from hs) Bool.false_ne_true
 | bl i =>
  cases rx
  cases y with
  | aQ=>cases ry;exact PySem.EqNone.eq_bool_none (aK I q (by simp))
  | bl j=>cases ry;exact eq_bool (aK I q pC)
  | str j=>obtain⟨t',rfl⟩:=ry;exact PySem.EqMixed.eq_bool_str (aK I q (by simp))
  | _=>exact absurd (show false=true from hs) Bool.false_ne_true
 | int i =>
  obtain⟨t,rfl⟩:=rx
  cases y with
  | aQ=>cases ry;exact PySem.EqNone.eq_int_none (aK I q (by simp))
  | int j=>obtain⟨t',rfl⟩:=ry;exact eq_int (aK I q mw)
  | str j=>obtain⟨t',rfl⟩:=ry;exact PySem.EqMixed.eq_int_str (aK I q (by simp))
  | _=>exact absurd (show false=true from hs) Bool.false_ne_true
 | str i =>
  obtain⟨t,rfl⟩:=rx
  cases y with
  | aQ=>cases ry;exact PySem.EqNone.eq_str_none (aK I q (by simp))
  | bl j=>cases ry;exact PySem.EqMixed.eq_str_bool (aK I q (by simp))
  | int j=>obtain⟨t',rfl⟩:=ry;exact PySem.EqMixed.eq_str_int (aK I q (by simp))
  | str j=>obtain⟨t',rfl⟩:=ry;exact eq_str (aK I q mx)
  | _=>exact absurd (show false=true from hs) Bool.false_ne_true
 | byt i =>
  obtain⟨t,rfl⟩:=rx
  cases y with
  | byt j=>obtain⟨t',rfl⟩:=ry;exact PySem.W.eq_bytes (aK I q mv)
  | _=>exact absurd (show false=true from hs) Bool.false_ne_true
 | _=>cases y<;>exact absurd (show false=true from hs) Bool.false_ne_true
theorem jo:ff X (compareOp .NotEq) Af:=by
 intro pins s σ H x y v u Q I rx ry h
 obtain⟨hs,q⟩:=h
 cases x with
 | aQ =>
  cases rx
  cases y with
  | aQ=>cases ry;exact PySem.EqNone.ne_none_none (aK I q (by simp))
  | bl j=>cases ry;exact PySem.EqNone.ne_none_bool (aK I q (by simp))
  | int j=>obtain⟨t',rfl⟩:=ry;exact PySem.EqNone.ne_none_int (aK I q (by simp))
  | str j=>obtain⟨t',rfl⟩:=ry;exact PySem.EqNone.ne_none_str (aK I q (by simp))
  | _=>exact absurd (show false=true from hs) Bool.false_ne_true
 | bl i =>
  cases rx
  cases y with
  | aQ=>cases ry;exact PySem.EqNone.ne_bool_none (aK I q (by simp))
  | bl j=>cases ry;exact ne_bool (aK I q (congrArg not pC))
  | str j=>obtain⟨t',rfl⟩:=ry;exact PySem.EqMixed.ne_bool_str (aK I q (by simp))
  | _=>exact absurd (show false=true from hs) Bool.false_ne_true
 | int i =>
  obtain⟨t,rfl⟩:=rx
  cases y with
  | aQ=>cases ry;exact PySem.EqNone.ne_int_none (aK I q (by simp))
  | int j=>obtain⟨t',rfl⟩:=ry;exact ne_int (aK I q (congrArg not mw))
  | str j=>obtain⟨t',rfl⟩:=ry;exact PySem.EqMixed.ne_int_str (aK I q (by simp))
  | _=>exact absurd (show false=true from hs) Bool.false_ne_true
 | str i =>
  obtain⟨t,rfl⟩:=rx
  cases y with
  | aQ=>cases ry;exact PySem.EqNone.ne_str_none (aK I q (by simp))
  | bl j=>cases ry;exact PySem.EqMixed.ne_str_bool (aK I q (by simp))
  | int j=>obtain⟨t',rfl⟩:=ry;exact PySem.EqMixed.ne_str_int (aK I q (by simp))
  | str j=>obtain⟨t',rfl⟩:=ry;exact ne_str (aK I q (congrArg not mx))
  | _=>exact absurd (show false=true from hs) Bool.false_ne_true
 | byt i =>
  obtain⟨t,rfl⟩:=rx
  cases y with
  | byt j=>obtain⟨t',rfl⟩:=ry;exact PySem.W.ne_bytes (aK I q (congrArg not mv))
  | _=>exact absurd (show false=true from hs) Bool.false_ne_true
 | _=>cases y<;>exact absurd (show false=true from hs) Bool.false_ne_true
theorem fv:ff X (compareOp .Lt) (ve λi j=>.bl (decide (i<j))):=yw λ_ _ _ _ _ _ _ q=>lt_int q
theorem eF:ff X (compareOp .Gt) (ve λi j=>.bl (decide (j<i))):=yw λ_ _ _ _ _ _ _ q=>gt_int q
theorem cE:ff X (compareOp .In) (λx y H Q=>∃ i j,x=.str i/\y=.str j/\Q (.bl (!(Builtin.Str.occurrences j i 0 j.length 1).isEmpty)) H):=by
 intro pins s σ H x y v u Q I rx ry h
 obtain⟨i,j,rfl,rfl,q⟩:=h
 obtain⟨t,rfl⟩:=rx
 obtain⟨t',rfl⟩:=ry
 exact in_str (aK I q rfl)
theorem qC:ff X (compareOp .Is) (λx y H Q=>y=.aQ/\Q (.bl (decide (x=.aQ))) H):=by
 intro pins s σ H x y v u Q I rx ry h
 obtain⟨rfl,q⟩:=h
 cases ry
 refine is_none_gen (aK I q ?_)
 cases x<;>first
  | (cases rx;rfl)
  | (obtain⟨t,rfl⟩:=rx;rfl)
theorem ff.or {f:Value->Value->Sem Value} {r r':R2} (h:ff X f r) (h':ff X f r'):ff X f (λx y H Q=>r x y H Q∨r' x y H Q):=by
 intro pins s σ H x y v u Q I rx ry q
 rcases q with q | q
 ·exact h pins s σ H x y v u Q I rx ry q
 ·exact h' pins s σ H x y v u Q I rx ry q
theorem au (b:Expr) {op:CmpOp} (h:op≠.In:=by decide) (h2:op≠.NotIn:=by decide):behindInMarks op b=false:=by
 have e1:(op==CmpOp.In)=false:=by cases op<;>first | rfl | exact absurd rfl h
 have e2:(op==CmpOp.NotIn)=false:=by cases op<;>first | rfl | exact absurd rfl h2
 cases b<;>simp [behindInMarks,e1,e2]
theorem a9 {op:CmpOp} {r:R2} (ho:ff X (compareOp op) r) (ha:PE X a ta) (hb:PE X b tb) (hm:behindInMarks op b=false):PE X (.Compare a [op] [b] pos) (xk r ta tb):=by
 intro pins s σ H Q I h
 exact wpAny_Compare1 (sP ha hb I h λv u s2 x y H2 I2 rx ry q=>ho pins s2 σ H2 x y v u Q I2 rx ry q) hm
def rK (t:TE):TT:=λσ H Q=>t σ H λx H'=>∃ k,x=.bl k/\Q k H'
theorem ar {op:CmpOp} {r:R2} (ho:ff X (compareOp op) r) (ha:PE X a ta) (hb:PE X b tb) (hm:behindInMarks op b=false):PT X (.Compare a [op] [b] pos) (rK (xk r ta tb)):=by
 intro pins s σ H Q I h
 refine wpAny_isTrue_Compare1 (aR (ha pins s σ H _ I h) λv s1 ⟨x,H1,I1,r1,q1⟩=>aR (hb pins s1 σ H1 _ I1 q1) λu s2 ⟨y,H2,I2,r2,q2⟩ =>
  aR (ho pins s2 σ H2 x y v u _ I2 r1 r2 q2) λc s3 ⟨z,H3,I3,r3,k,e,q3⟩=>?_) hm
 subst e
 cases r3
 exact wpAny_truthy_bool ⟨H3,I3,q3⟩
def sI (K:PySem.W.Frag) (x:V) (H:Hp) (k:Bool):Prop :=
 match x with
 | .aQ=>k=false
 | .bl b=>k=b
 | .int i=>k=(i != 0)
 | .str y=>y.length<=sizeLine/\k=((y.length:Int) != 0)
 | .byt y=>y.size<=sizeLine/\k=((y.size:Int) != 0)
 | .ref p=>(∃ xs,aP K H p xs/\k=!xs.isEmpty)∨(∃ xs,br K H p xs/\k=!xs.isEmpty)∨∃ kvs,H p=some (.dK kvs)/\k=!kvs.isEmpty
 | _=>False
theorem lG {κ:Type} {kvs:List (κ × V)} {vs:List (κ × Value)} (r:KV kvs vs):(!vs.isEmpty)=!kvs.isEmpty:=by
 cases r<;>rfl
theorem ie {xs:List V} {its:List Value} (r:Vals xs its):(!its.toArray.isEmpty)=!xs.isEmpty:=by
 cases r<;>simp
theorem ip:(sizeLine:Nat)<2^63:=by rw [sizeLine_eq];decide
theorem xt:zk X (λx H Q=>∃ k,sI X.K x H k/\Q k H):=by
 intro pins s σ H x v Q I rx h
 obtain⟨k,e,q⟩:=h
 have hl:=ip
 have hs:sizeLine=16777216:=sizeLine_eq
 cases x with
 | aQ =>
  cases rx
  have e':k=false:=e
  subst e'
  exact truthy_none ⟨H,I,q⟩
 | bl b =>
  cases rx
  have e':k=b:=e
  subst e'
  exact wpAny_truthy_bool ⟨H,I,q⟩
 | int i =>
  obtain⟨t,rfl⟩:=rx
  have e':k=(i != 0):=e
  subst e'
  exact PySem.P.truthy_int ⟨H,I,q⟩
 | str y =>
  obtain⟨t,rfl⟩:=rx
  obtain⟨hy,e'⟩:y.length<=sizeLine/\k=((y.length:Int) != 0):=e
  subst e'
  exact PySem.P.truthy_str (by omega) ⟨H,I.tok _,q⟩
 | byt y =>
  obtain⟨t,rfl⟩:=rx
  obtain⟨hy,e'⟩:y.size<=sizeLine/\k=((y.size:Int) != 0):=e
  subst e'
  exact PySem.W.truthy_bytes (by omega) ⟨H,I.tok _,q⟩
 | ref p =>
  cases rx
  have e':(∃ xs,aP X.K H p xs/\k=!xs.isEmpty)∨(∃ xs,br X.K H p xs/\k=!xs.isEmpty)∨∃ kvs,H p=some (.dK kvs)/\k=!kvs.isEmpty:=e
  rcases e' with⟨xs,hx,e'⟩|⟨xs,hx,e'⟩|⟨kvs,hx,e'⟩
  ·subst e'
   obtain⟨its,r,pl,hz⟩:=I.list hx
   have hlen:=r.length
   exact wpAny_truthy_list pl.isList (by simp only [List.size_toArray];omega) ⟨H,I.tok _,by rw [ie r];exact q⟩
  ·subst e'
   obtain⟨its,r,pl,hz⟩:=I.tuple hx
   have hlen:=r.length
   exact truthy_tuple pl (by simp only [List.size_toArray];omega) ⟨H,I.tok _,by rw [ie r];exact q⟩
  ·subst e'
   obtain⟨hz,hS,vs,r,m⟩:kvs.length<=sizeLine/\(p==sysModules)=false/\∃ vs,KV kvs vs/\s.heap.DictOf (bc X.prog X.w) p vs:=I.hok p _ hx
   have hlen:kvs.length=vs.length:=Paired.length r
   exact wpAny_truthy_dict hS m (by omega) ⟨H,I.tok _,by rw [lG r];exact q⟩
 | _=>exact (show False from e).elim
theorem bp (ha:PE X a ta) (he:∀ whole,isTrue a X.env whole=(do let v <- whole;standAt a.pos;holding [v] (truthy v))) :
  PT X a (λσ H Q=>ta σ H λx H'=>∃ k,sI X.K x H' k/\Q k H'):=by
 intro pins s σ H Q I h
 exact isTrue_plain (aR (ha pins s σ H _ I h) λv s1 ⟨x,H1,I1,r1,q1⟩=>xt pins s1 σ H1 x v Q I1 r1 q1) (he _)
theorem aN:ff X (binaryOp .Add) (λx y H Q=>∃ i j,x=.str i/\y=.str j/\i.length+j.length<=sizeLine/\Q (.str (i++j)) H):=by
 intro pins s σ H x y v u Q I rx ry h
 obtain⟨i,j,rfl,rfl,hz,q⟩:=h
 obtain⟨t,rfl⟩:=rx
 obtain⟨t',rfl⟩:=ry
 exact add_str (λt' tk=>⟨.str (i++j),H,I.tok _,⟨_,rfl⟩,q⟩) hz
def pe (b:Expr):Prop:=∀ o i,subscripted b false o i=operate [o,i] (getItem o i)
theorem bC (ha:PE X a ta) (hb:PE X b tb) (hs:pe b) :
  PE X (.Subscript a b pos) (xk (λx y H Q=>∃ z i c,x=.str z/\y=.int i/\0<=i/\i<2^63/\i<z.length/\z.cps[i.toNat]?=some c/\Q (.str ⟨#[c]⟩) H) ta tb):=by
 intro pins s σ H Q I h
 refine Subscript_ (sP ha hb I h λv u s2 x y H2 I2 rx ry q=>?_)
 obtain⟨z,i,c,rfl,rfl,h0,h63,h1,hc,q⟩:=q
 obtain⟨t,rfl⟩:=rx
 obtain⟨t',rfl⟩:=ry
 have e:seqIndex? i z.length=some i.toNat:=PySem.StrLaws.seqIndex_nonneg h0 h1
 exact tail_any (typeIs_str s2 z t) slot_str_getitem.lookup (getItem_str (c:=c) (by
  have e1:decide (i < -(2^63:Int))=false:=decide_eq_false (by omega)
  have e2:decide (i≥2^63)=false:=decide_eq_false (by omega)
  rw [e1,e2]<;>rfl) (by rw [e];exact hc) ⟨.str ⟨#[c]⟩,H2,I2.tok _,⟨_,rfl⟩,q⟩) (hs _ _)
theorem vals1 {x:V} {us:List Value} (r:Vals [x] us):∃ u,us=[u]/\RelV x u:=by
 cases r with
 | cons r1 r2=>cases r2;exact⟨_,rfl,r1⟩
theorem vals2 {x y:V} {us:List Value} (r:Vals [x,y] us):∃ u w',us=[u,w']/\RelV x u/\RelV y w':=by
 cases r with
 | cons r1 r2 =>
  cases r2 with
  | cons r3 r4=>cases r4;exact⟨_,_,rfl,r1,r3⟩
theorem dh:bS X (.type "int") (λxs H Q=>(∃ i,xs=[.int i]/\Q (.int i) H)∨∃ k,xs=[.bl k]/\Q (.int (if k then 1 else 0)) H):=by
 intro pins s σ H xs us Q I r h
 rcases h with⟨i,rfl,q⟩|⟨k,rfl,q⟩
 ·obtain⟨u,rfl,t,rfl⟩:=vals1 r
  exact call_int_int ⟨.int i,H,I,⟨_,rfl⟩,q⟩
 ·obtain⟨u,rfl,r1⟩:=vals1 r
  cases r1
  exact call_int_bool ⟨.int (if k then 1 else 0),H,I.tok _,⟨_,rfl⟩,q⟩
theorem jz:bS X (.type "str") (λxs H Q=>∃ i,xs=[.int i]/\i.natAbs.log2<1920/\Q (.str (toString i)) H):=by
 intro pins s σ H xs us Q I r h
 obtain⟨i,rfl,hz,q⟩:=h
 obtain⟨u,rfl,t,rfl⟩:=vals1 r
 exact PySem.P.str_of_int hz ⟨.str _,H,I.tok _,⟨_,rfl⟩,q⟩
end
structure vB (h:Heap) (x dx C:Addr) (mA:Str->Option Value):Prop where
 obj:h.get? x=some (PySem.W.instObj C dx)
 ns:h.Ns1 dx mA
 ne:dx≠x
theorem jh {h:Heap} {dx:Addr} {mA:Str->Option Value} (n:h.Ns1 dx mA):∃ od,h.get? dx=some od/\∀ name,PySem.W.lookIn name od=some (mA name):=by
 obtain⟨o,es,ep,ho,hd,hk,_,hm⟩:=n
 refine⟨o,ho,λname=>?_⟩
 have e:=hm name
 unfold nsFind findBy at e
 rw [<- Array.find?_toList] at e
 unfold PySem.W.lookIn
 rw [hd]
 dsimp only
 split
 ·rename_i y q
  rw [q] at e
  exact congrArg some e
 ·rename_i q
  rw [q] at e
  have a:es.toList.any (·.refKey)=false:=by
   rw [List.any_eq_false]
   intro y hy
   obtain⟨z,t,hkey⟩:=hk y (Array.mem_toList_iff.mp hy)
   simp [DictEntry.refKey,hkey]
  have a':¬es.toList.any (·.refKey)=true:=by rw [a];exact Bool.false_ne_true
  rw [if_neg a']
  exact congrArg some e
theorem vB.look {h:Heap} {x dx C:Addr} {mA:Str->Option Value} (I:vB h x dx C mA):∃ od,PySem.W.InstAt h x (PySem.W.instObj C dx) C (some od)/\∀ name,PySem.W.lookIn name od=some (mA name) :=
 let ⟨od,ho,hl⟩:=jh I.ns
 ⟨od,⟨I.obj,rfl,rfl,ho⟩,hl⟩
section
variable {prog:Program} {w:World} {A:Around} {E:Value->Shared->Prop} {s:Shared} {K:PySem.W.Frag} {x dx C f:Addr} {mA:Str->Option Value} {name:Str} {v:Value}
end
def wM (f:Str) (v:V):List (Str × V)->List (Str × V)
 | []=>[(f,v)]
 | (g,x)::r=>if g=f then (g,v)::r else (g,x)::wM f v r
theorem dO.some_of {v:V} {o:Option Value} (r:dO (some v) o):∃ u,o=some u/\RelV v u:=by
 cases o with
 | none=>exact (show False from r).elim
 | some u=>exact⟨u,rfl,r⟩
theorem oh {v:V} {u:Value} (r:RelV v u):PySem.W.handedIn u=true:=by
 cases v with
 | aQ=>cases (show u=Value.none from r);rfl
 | bl b=>cases (show u=Value.bool b from r);rfl
 | int i=>obtain⟨t,e⟩:=(show ∃ t,u=Value.int i t from r);cases e;rfl
 | str x=>obtain⟨t,e⟩:=(show ∃ t,u=Value.str x t from r);cases e;rfl
 | byt b=>obtain⟨t,e⟩:=(show ∃ t,u=Value.bytes b t from r);cases e;rfl
 | flt b=>obtain⟨t,e⟩:=(show ∃ t,u=Value.float b t from r);cases e;rfl
 | ref a=>cases (show u=Value.ref a from r);rfl
 | ty n=>cases (show u=Value.type n from r);rfl
section
variable {P:Program} {w:World} {H H':Hp} {h h':Heap} {a C dx:Addr} {fs fs':List (Str × V)}
theorem sY (hok:dB P w H h) (e:H a=some (.ins C dx fs)):∃ mA,vB h a dx C mA/\(∀ f,dO (fs.lookup f) (mA f))/\PySem.Within mA (fs.map (·.1))/\fs.length<=1000/\H dx=some (.own a):=by
 obtain⟨d,z,ne,ob,mA,n,r,q⟩:=(show aS P w H h a (.ins C dx fs) from hok a _ e)
 exact⟨mA,⟨ob,n,ne⟩,r,q,z,d⟩
end
structure xC (K:PySem.W.Frag) (C:Addr):Prop where
 pg:PySem.W.plainGet K C Str.empty=true
 hd:PySem.W.hasDictIn K C=true
 po:PySem.W.plainOver K C=true
 sa:PySem.W.findIn K (.ref C) "__setattr__"=some (some (.builtin "object.__setattr__"))
theorem xC.get {K:PySem.W.Frag} {C:Addr} (c:xC K C) (f:Str):PySem.W.plainGet K C f=true:=c.pg
def kZ (K:PySem.W.Frag) (C:Addr) (f:Str):Prop:=PySem.W.findIn K (.ref C) f=some none
structure Meth (K:PySem.W.Frag) (C:Addr) (m:Str) (f:Addr):Prop where
 at_:PySem.W.findIn K (.ref C) m=some (some (.ref f))
 fn:PySem.W.isFn K (.ref f)=true
 kp:PySem.W.keepIn K (.ref f)=true
section
variable {X:Cx} {pins:List (Addr × Obj)} {σ:St} {H:Hp} {s:Shared} {a C dx:Addr} {fs:List (Str × V)} {f:Str} {v:V} {A:Around} {E:Value->Shared->Prop}
theorem sO {prog:Program} {w:World} {env:Env} {e:Expr} {f:Str} {pos:Pos} {s:Shared} {Q:Value->Shared->Prop} (hb:attributeBase e f env (eval e env)=eval e env)
  (h:wpAny (model prog w) A (eval e env) (λo s₁=>wpAny (model prog w) A (getAttr o f true) Q E s₁) E s):wpAny (model prog w) A (eval (.Attribute e f pos) env) Q E s :=
 Attribute_any_ h (by rw [arm_eval_Attribute,hb])
end
def zI (K:PySem.W.Frag) (ta:TE) (f:Str):TE:=λσ H Q=>ta σ H λx H1=>∃ a C dx fs v,x=.ref a/\H1 a=some (.ins C dx fs)/\xC K C/\kZ K C f/\fs.lookup f=some v/\Q v H1
def zF (K:PySem.W.Frag) (ta tv:TE) (f:Str):TS:=λD σ H=>tv σ H λy H1=>ta σ H1 λx H2=>∃ a C dx fs,x=.ref a/\H2 a=some (.ins C dx fs)/\xC K C/\kZ K C f/\fs.length<1000 /\
 D.nx σ (upd H2 a (.ins C dx (wM f y fs)))
def um (K:PySem.W.Frag) (ta tv:TE) (rd:V->V->Hp->VK->Prop) (f:Str):TS:=λD σ H=>ta σ H λx H1=>∃ a C dx fs v,x=.ref a/\H1 a=some (.ins C dx fs)/\xC K C/\kZ K C f/\fs.lookup f=some v /\
 tv σ H1 λy H2=>rd v y H2 λz H3=>∃ dx' fs',H3 a=some (.ins C dx' fs')/\fs'.length<1000/\D.nx σ (upd H3 a (.ins C dx' (wM f z fs')))
section
variable {X:Cx} {o e value:Expr} {f:Str} {pos pos' tpos:Pos} {ta tv:TE}
end
section
variable {X:Cx} {pins:List (Addr × Obj)} {σ:St} {H:Hp} {s:Shared} {A:Around} {E:Value->Shared->Prop} {Q:Value->Shared->Prop} {c:Value} {b:Bool}
inductive eg (K:PySem.W.Frag) (H:Hp):V->Value->Prop where
 | aQ:eg K H .aQ (.type "NoneType")
 | bl (x:Bool):eg K H (.bl x) (.type "bool")
 | int (i:Int):eg K H (.int i) (.type "int")
 | str (x:Str):eg K H (.str x) (.type "str")
 | flt (x:UInt64):eg K H (.flt x) (.type "float")
 | lst {a:Addr} {xs:List V} (e:H a=some (.lst xs)):eg K H (.ref a) (.type "list")
 | frz {a:Addr} {o:Obj} {xs:List V} (e:H a=some (.frz o (.lst xs))):eg K H (.ref a) (.type "list")
 | tup {a:Addr} {xs:List V} (e:H a=some (.tup xs)):eg K H (.ref a) (.type "tuple")
 | dK {a:Addr} {kvs:List (Key × V)} (e:H a=some (.dK kvs)):eg K H (.ref a) (.type "dict")
 | dT {a:Addr} {kvs:List (List Key × V)} (e:H a=some (.dT kvs)):eg K H (.ref a) (.type "dict")
 | ins {a C dx:Addr} {fs:List (Str × V)} (e:H a=some (.ins C dx fs)) (cl:xC K C) (ha:PySem.W.findIn K (.ref C) "__class__"=some (some (.builtin "object.__class__")))
   (hn:PySem.W.specialIn K (.builtin "object.__class__") "__get__"=some (some (.builtin "getset_descriptor.__get__"))) (htk:PySem.W.takesIn K (.builtin "object.__class__")=some true)
   (hm:PySem.W.mroIn K C (.type "object")=some true):eg K H (.ref a) (.ref C)
theorem d7 {x:V} {u t:Value} (I:Inv X pins σ H s) (rx:RelV x u) (ty:eg X.K H x t) (e:PySem.W.kitOne X.K t c=some b) (h:∀ tk,Q (.bool b) { s with toks:=tk }) :
  wpAny (model X.prog X.w) A (call (.builtin "isinstance") [u,c]) Q E s:=by
 cases ty with
 | aQ=>cases (show u=Value.none from rx);exact PySem.W.kia_one PySem.W.kitx_none I.dC True.intro e (λz=>nomatch z) h
 | bl y=>cases (show u=Value.bool y from rx);exact PySem.W.kia_one PySem.W.kitx_bool I.dC True.intro e (λz=>nomatch z) h
 | int i=>obtain⟨t,q⟩:=(show ∃ t,u=Value.int i t from rx);cases q;exact PySem.W.kia_one PySem.W.kitx_int I.dC True.intro e (λz=>nomatch z) h
 | str y=>obtain⟨t,q⟩:=(show ∃ t,u=Value.str y t from rx);cases q;exact PySem.W.kia_one PySem.W.kitx_str I.dC True.intro e (λz=>nomatch z) h
 | flt y=>obtain⟨t,q⟩:=(show ∃ t,u=Value.float y t from rx);cases q;exact PySem.W.kia_one PySem.W.kitx_float I.dC True.intro e (λz=>nomatch z) h
 | @lst a xs ea =>
  cases (show u=Value.ref a from rx)
  obtain⟨_,_,n,_,h1⟩:=(show aS X.prog X.w H s.heap a (.lst xs) from I.hok a _ ea)
  exact PySem.W.kia_one PySem.W.kitx_list I.dC ⟨_,h1,rfl⟩ e (λz=>nomatch z) h
 | @frz a ob xs ea =>
  cases (show u=Value.ref a from rx)
  obtain⟨_,_,_,n,_,h1⟩:=(show aS X.prog X.w H s.heap a (.frz ob (.lst xs)) from I.hok a _ ea)
  exact PySem.W.kia_one PySem.W.kitx_list I.dC ⟨_,h1,rfl⟩ e (λz=>nomatch z) h
 | @tup a xs ea =>
  cases (show u=Value.ref a from rx)
  obtain⟨_,_,_,p⟩:=(show aS X.prog X.w H s.heap a (.tup xs) from I.hok a _ ea)
  obtain⟨o,h1,h2,_⟩:=p
  exact PySem.W.kia_one PySem.W.kitx_tuple I.dC ⟨o,h1,h2⟩ e (λz=>nomatch z) h
 | @dK a kvs ea =>
  cases (show u=Value.ref a from rx)
  obtain⟨_,_,vs,_,p⟩:=(show aS X.prog X.w H s.heap a (.dK kvs) from I.hok a _ ea)
  obtain⟨o,es,ep,h1,h2,_⟩:=p
  exact PySem.W.kia_one PySem.W.kitx_dict I.dC ⟨o,h1,h2.1⟩ e (λz=>nomatch z) h
 | @dT a kvs ea =>
  cases (show u=Value.ref a from rx)
  obtain⟨_,_,xs,_,o,es,ep,h1,h2,_⟩:=(show aS X.prog X.w H s.heap a (.dT kvs) from I.hok a _ ea)
  exact PySem.W.kia_one PySem.W.kitx_dict I.dC ⟨o,h1,h2.1⟩ e (λz=>nomatch z) h
 | @ins a C dx fs ea cl ha hn htk hm =>
  cases (show u=Value.ref a from rx)
  obtain⟨mA,O,_⟩:=sY I.hok ea
  obtain⟨od,J,_⟩:=O.look
  exact PySem.W.kia_one (PySem.W.kitx_own (cl.get _) cl.hd ha hn htk hm) I.dC J e (λz=>nomatch z) h
end
structure bq (k:Nat) (A:Around):Prop where
 hd:A.handled=none
 dp:A.depth+3*k+5<recursionLimit
 un:A.units+16*k+200<cLine
 gs:A.guards=some []
theorem bq.mono {j k:Nat} {A:Around} (r:bq k A) (h:j<=k):bq j A:=⟨r.hd,by have:=r.dp;omega,by have:=r.un;omega,r.gs⟩
theorem bq.deeper {k:Nat} {A:Around} (r:bq (k+1) A) (env:Env):bq k (A.deeper env) :=
 ⟨r.hd,by have:=r.dp;show A.depth+1+3*k+5<_;omega,by have:=r.un;show A.units+3+16*k+200<_;omega,r.gs⟩
theorem lK {A:Around} {C:Addr} {us:List Value} {kw:List (Str × Value)}:(A.under (.builtin "type.__call__" ⟨.ref C::us,kw⟩)).depth=A.depth+1:=by
 first | rfl | simp [Around.under,Code.weight,Code.isCreation,Code.isGuard,Code.isCaller,Code.frames,Code.isFrame,guardIds]
theorem lM {A:Around} {C:Addr} {us:List Value} {kw:List (Str × Value)}:(A.under (.builtin "type.__call__" ⟨.ref C::us,kw⟩)).units=A.units+1:=by
 first | rfl | simp [Around.under,Code.cUnits,Code.frames,Code.isFrame]
theorem kz {A:Around} {C:Addr} {us:List Value} {kw:List (Str × Value)}:(A.under (.builtin "type.__call__" ⟨.ref C::us,kw⟩)).guards=A.guards:=by
 first | rfl | simp [Around.under,Code.weight,Code.isCreation,Code.isGuard,Code.isCaller,Code.frames,Code.isFrame,guardIds]
theorem bq.make {k:Nat} {A:Around} (r:bq (k+1) A) (C:Addr) (us:List Value) (kw:List (Str × Value)):bq k (A.under (.builtin "type.__call__" ⟨.ref C::us,kw⟩)) :=
 ⟨r.hd,by have:=r.dp;rw [lK];omega,by have:=r.un;rw [lM];omega,by rw [kz];exact r.gs⟩
theorem bq.depth {k:Nat} {A:Around} (r:bq k A):A.depth<recursionLimit:=by have:=r.dp;omega
theorem bq.units {k:Nat} {A:Around} (r:bq k A):A.units+64<cLine:=by have:=r.un;omega
def iV:TA:=λ_ H Q=>Q [] H
def cL (ta:TE) (tr:TA):TA:=λσ H Q=>ta σ H λx H1=>tr σ H1 λxs H2=>Q (x::xs) H2
section
variable {X:Cx} {e:Expr} {es:List Expr} {te:TE} {t:TA} {pos:Pos}
theorem ae:PA X [] iV:=λ_ _ _ _ H Q I h=>Calls.spliced_nil ⟨[],H,I,.nil,h⟩
theorem aa (ha:PE X e te) (hr:PA X es t) (hs:starEach (e::es) X.env=(false,eval e X.env)::starEach es X.env:=by rfl):PA X (e::es) (cL te t):=by
 intro pos pins s σ H Q I h
 rw [hs]
 show wpAny _ _ (spliced ((false,eval e X.env)::backTo pos (starEach es X.env))) _ _ s
 refine Calls.spliced_cons (aR (ha pins s σ H _ I h) λu s1 ⟨x,H1,I1,r1,q1⟩=>?_)
 exact aR (hr pos pins s1 σ H1 _ I1 q1) λus s2 ⟨xs,H2,I2,r2,q2⟩=>⟨x::xs,H2,I2,.cons r1 r2,q2⟩
def rL (t:TA):TE:=λσ H Q=>t σ H λxs H1=>xs.length<=sizeLine/\∀ p,H1 p=none->Q (.ref p) (upd H1 p (.tup xs))
def uH (t:TA):TE:=λσ H Q=>t σ H λxs H1=>xs.length<=sizeLine/\∀ p,H1 p=none->Q (.ref p) (upd H1 p (.lst xs))
theorem df {x1} (h:PA X es t):PE X (.Tuple es x1 pos) (rL t):=by
 intro pins s σ H Q I hq
 refine wpAny_Tuple_spliced (aR (h pos pins s σ H _ I hq) λus s1 ⟨xs,H1,I1,r,z,q⟩=>⟨by rw [<- r.length];exact z,?_⟩)
 have hf:H1 s1.heap.objs.size=none:=I1.hok.fresh (Nat.le_refl _)
 refine⟨.ref s1.heap.objs.size,upd H1 s1.heap.objs.size (.tup xs),I1.laid (t':=s1.toks) (λb u e=>Heap.get?_push_of_some _ e) (Nat.le_refl _) ?_,rfl,q _ hf⟩
 exact⟨z,us,r,⟨_,Heap.get?_push_size _ rfl,rfl,_,rfl⟩⟩
theorem bA (h:PA X es t):PE X (.List es pos) (uH t):=by
 intro pins s σ H Q I hq
 refine wpAny_List_spliced (aR (h pos pins s σ H _ I hq) λus s1 ⟨xs,H1,I1,r,z,q⟩=>⟨by rw [<- r.length];exact z,?_⟩)
 have hf:H1 s1.heap.objs.size=none:=I1.hok.fresh (Nat.le_refl _)
 refine⟨.ref s1.heap.objs.size,upd H1 s1.heap.objs.size (.lst xs),I1.laid (t':=s1.toks) (λb u e=>Heap.get?_push_of_some _ e) (Nat.le_refl _) ?_,rfl,q _ hf⟩
 exact⟨z,us,0,r,Heap.get?_push_size _ rfl⟩
end
abbrev Sp:=List V->Hp->VK->XK->Prop
abbrev eP:=List Env->Hp->Shared->XK->Value->Shared->Prop
structure hJ (P:Program) (w:World) (K:PySem.W.Frag) (mg:Str->Option Value) (base:Heap) (A:Around) (outer:List Env) (s:Shared) (H:Hp):Prop where
 frames:A.frames=some outer
 mod:Mod K mg base
 bs:∀ b o,base.get? b=some o->s.heap.get? b=some o/\H b=none
 bsz:base.objs.size<=s.heap.objs.size
 eT:s.heap.FunFrames base outer
 frf:∀ b∈eS outer,H b=none
 hok:dB P w H s.heap
 bare:AllBare s.gens
def CE (outer:List Env) (P:Program) (w:World) (H:Hp) (s:Shared) (Q:VK) (u:Value) (s':Shared):Prop :=
 ∃ v H',s'.os=s.os/\AllBare s'.gens/\Un (eS outer) [] H H' s.heap s'.heap/\dB P w H' s'.heap/\RelV v u/\Q v H'
def CR (CX:eP) (outer:List Env) (P:Program) (w:World) (H:Hp) (s:Shared) (Q:VK) (E:XK) (r:Result) (s':Shared):Prop :=
 match r with
 | .ok (.ret u)=>CE outer P w H s Q u s'
 | .ok _=>False
 | .error e=>CX outer H s E e s'
structure cp (P:Program) (w:World) (K:PySem.W.Frag) (mg:Str->Option Value) (base:Heap) (CX:eP) (k:Nat) (f:Addr) (fd:FuncData) (ps:List Str) (sp:Sp):Prop where
 len:∀ vs H Q E,sp vs H Q E->vs.length=ps.length
 run:∀(A:Around) (outer:List Env) (s:Shared) (H:Hp) (args:Args) (us:List Value) (vs:List V) (Q:VK) (E:XK),bq k A->hJ P w K mg base A outer s H->BindsTo s fd args (ps.zip us)->Vals vs us->sp vs H Q E ->
  codeAny (model P w) A (.call (.ref f) args) (CR CX outer P w H s Q E) s
theorem cp.mono {P:Program} {w:World} {K:PySem.W.Frag} {mg:Str->Option Value} {base:Heap} {CX:eP} {j k:Nat} {f:Addr} {fd:FuncData} {ps:List Str} {sp:Sp} (F:cp P w K mg base CX j f fd ps sp) (h:j<=k) :
  cp P w K mg base CX k f fd ps sp:=⟨F.len,λA outer s H args us vs Q E hr=>F.run A outer s H args us vs Q E (hr.mono h)⟩
theorem hJ.make {P:Program} {w:World} {K:PySem.W.Frag} {mg:Str->Option Value} {base:Heap} {A:Around} {outer:List Env} {s:Shared} {H:Hp} (e:hJ P w K mg base A outer s H) (C:Addr) (us:List Value) (kw:List (Str × Value)) :
  hJ P w K mg base (A.under (.builtin "type.__call__" ⟨.ref C::us,kw⟩)) outer s H:=⟨by first | exact e.frames | (simpa [Around.under,Code.envs,Code.isFrame,pushEnvs] using e.frames),e.mod,e.bs,e.bsz,e.eT,e.frf,e.hok,e.bare⟩
section
variable {X:Cx} {pins:List (Addr × Obj)} {σ:St} {H:Hp} {s s':Shared}
theorem Inv.pN (I:Inv X pins σ H s):hJ X.prog X.w X.K X.mg X.base X.A X.stack s H :=
 ⟨I.ok.frames,I.ok.mod,I.bs,Nat.le_trans I.ok.bsz I.sz,I.stack,I.fN,I.hok,I.bare⟩
theorem Inv.after {Q:VK} {u:Value} (I:Inv X pins σ H s) (h:CE X.stack X.prog X.w H s Q u s'):EP X pins σ Q u s':=by
 obtain⟨v,H',os,bare,un,hok,r,q⟩:=h
 obtain⟨hh,g,d,t,os'⟩:=s'
 obtain rfl:os'=s.os:=os
 exact⟨v,H',I.call (h':=hh) (g':=g) (d':=d) (t':=t) (ch:=[]) un hok bare (λb z=>absurd z (by simp)),r,q⟩
end
def dI (sp:Sp) (aZ:List V) (E:XK) (t:TA):TE:=λσ H Q=>t σ H λvs H1=>sp (vs++aZ) H1 Q E
def yM (C:Addr) (m:Str) (sp:Sp) (aZ:List V) (E:XK) (ta:TE) (t:TA):TE:=λσ H Q=>ta σ H λx H1=>∃ a dx fs,x=.ref a/\H1 a=some (.ins C dx fs)/\fs.lookup m=none /\
 t σ H1 λvs H2=>sp (x::(vs++aZ)) H2 Q E
def yL (C:Addr) (sp:Sp) (aZ:List V) (E:XK) (t:TA):TE:=λσ H Q=>t σ H λvs H1=>∀ x dx,H1 x=none->H1 dx=none->dx≠x ->
 sp (.ref x::(vs++aZ)) (upd (upd H1 dx (.own x)) x (.ins C dx [])) (λv H2=>v=.aQ/\Q (.ref x) H2) E
def Binds (K:PySem.W.Frag) (fd:FuncData) (ps:List Str) (ds:List Value):Prop :=
 ∀(s:Shared) (us:List Value),K.In s.heap->(us++ds).length=ps.length->BindsTo s fd ⟨us,[]⟩ (ps.zip (us++ds))
theorem Binds.all {K:PySem.W.Frag} {fd:FuncData} {ps:List Str} (h:∀ us:List Value,us.length=ps.length->bindArgs fd ⟨us,[]⟩=pure (ps.zip us)):Binds K fd ps []:=λs us _ hl=>by
 rw [List.append_nil] at hl ⊢
 exact .of_eq (h us hl)
def Passes (CX:eP) (X:Cx) (E:XK):Prop:=∀(pins:List (Addr × Obj)) (σ:St) (H:Hp) (s:Shared) (e:Value) (s':Shared),Inv X pins σ H s->CX X.stack H s E e s'->X.xe e s'
section
variable {X:Cx} {CX:eP} {k:Nat} {f C:Addr} {fd:FuncData} {ps:List Str} {sp:Sp} {aZ:List V} {ds:List Value} {E:XK} {x m:Str} {p pos apos:Pos} {e o:Expr} {es:List Expr} {ta:TE} {t:TA}
theorem rj {pins:List (Addr × Obj)} {σ:St} {H:Hp} {s:Shared} {Q:VK} {us:List Value} {vs:List V} (F:cp X.prog X.w X.K X.mg X.base CX k f fd ps sp) (hr:bq k X.A) (hb:Binds X.K fd ps ds) (hd:Vals aZ ds) (hx:Passes CX X E)
  (I:Inv X pins σ H s) (r:Vals vs us) (h:sp (vs++aZ) H Q E):wpAny (model X.prog X.w) X.A (call (.ref f) us) (EP X pins σ Q) X.xe s:=by
 have r2:Vals (vs++aZ) (us++ds):=r.append hd
 have hl:(us++ds).length=ps.length:=by rw [<- r2.length];exact F.len _ _ _ _ h
 refine wpAny_call (codeAny_mono (F.run X.A X.stack s H ⟨us,[]⟩ (us++ds) (vs++aZ) Q E hr I.pN (hb s us I.dC hl) r2 h) λr s' hq=>?_)
 cases r with
 | error e=>exact hx pins σ H s e s' I hq
 | ok fl =>
  cases fl with
  | ret u=>exact I.after hq
  | next=>exact False.elim hq
  | brk=>exact False.elim hq
  | cont=>exact False.elim hq
theorem tS (F:cp X.prog X.w X.K X.mg X.base CX k f fd ps sp) (hr:bq k X.A) (hg:Gl X x) (hm:X.mg x=some (.ref f)) (hk:PySem.W.keepIn X.K (.ref f)=true) (hb:Binds X.K fd ps ds) (hd:Vals aZ ds) (hx:Passes CX X E)
  (ha:PA X (e::es) t) (hdb:(x==("__debug__":Str))=false:=by decide) (he:starEach (e::es) X.env=(false,eval e X.env)::starEach es X.env:=by rfl) (hpl:(backTo pos (starEach es X.env)).any (·.1)=false:=by rfl) :
  PE X (.Call (.Name x p) (e::es) [] pos) (dI sp aZ E t):=by
 intro pins s σ H Q I h
 refine wpAny_Call_Name_kw (cS I hg hm ?_ hdb)
 refine PySem.W.callWith_K (h₀:=X.base) I.ok.mod.kin hk (aR (ha pos pins s σ H _ I h) λus s1 ⟨vs,H1,I1,r,q⟩=>⟨I1.dC,?_⟩) he hpl
 exact rj F hr hb hd hx I1 r q
theorem qN (F:cp X.prog X.w X.K X.mg X.base CX k f fd ps sp) (hr:bq k X.A) (hg:Gl X x) (hm:X.mg x=some (.ref f)) (hk:PySem.W.keepIn X.K (.ref f)=true) (hb:Binds X.K fd ps ds) (hd:Vals aZ ds) (hx:Passes CX X E)
  (hdb:(x==("__debug__":Str))=false:=by decide):PE X (.Call (.Name x p) [] [] pos) (dI sp aZ E iV):=by
 intro pins s σ H Q I h
 refine wpAny_Call_Name_kw (cS I hg hm ?_ hdb)
 exact PySem.W.callWith_K0 I.dC hk (rj (us:=[]) F hr hb hd hx I .nil h)
end
section
variable {X:Cx} {CX:eP} {k:Nat} {f C:Addr} {fd:FuncData} {ps ks:List Str} {sp:Sp} {E:XK} {x m:Str} {p pos apos kpos:Pos} {e o:Expr} {es:List Expr} {kws:List Keyword} {te ta:TE} {t tk:TA} {nm:Option Str}
variable {g:List Value->List Value->List Value} {gV:List V->List V->List V}
end
structure az (N P:List Str) (sc:Scope):Prop where
 kind:sc.kind=.function
 co:sc.isCoroutine=false
 gen:sc.isGenerator=false
 nd:N.Nodup
 pre:N.take P.length=P
 par:∀ x∈P,sc.names.lookup x=some .local∨sc.names.lookup x=some .cell
 nofree:∀ y∈sc.names,y.2≠.free
theorem i7 {kindOf:Str->Option NameKind} {x:Str}:∀{binds:List (Str × Value)} {m:Str->Option Value},(∀ v,(x,v)∉binds)->bindL kindOf binds m x=m x
 | [],_,_=>rfl
 | (n,v)::r,m,h=>by
  unfold bindL
  rw [i7 λw hw=>h w (List.mem_cons_of_mem _ hw)]
  split
  ·have:x≠n:=by rintro rfl;exact h v List.mem_cons_self
   simp [this]
  ·rfl
theorem iZ {kindOf:Str->Option NameKind} {x:Str}:∀{binds:List (Str × Value)} {m:Str->Option Value},(∀ v,(x,v)∉binds)->bindC kindOf binds m x=m x
 | [],_,_=>rfl
 | (n,v)::r,m,h=>by
  unfold bindC
  rw [iZ λw hw=>h w (List.mem_cons_of_mem _ hw)]
  split
  ·rfl
  ·have:x≠n:=by rintro rfl;exact h v List.mem_cons_self
   simp [this]
theorem i5 {kindOf:Str->Option NameKind} {x:Str} {v:Value}:∀{P:List Str} {vs:List Value} {i:Nat} {m:Str->Option Value},P.Nodup->P[i]?=some x->vs[i]?=some v->kindOf x=some .local ->
  bindL kindOf (P.zip vs) m x=some v
 | [],_,_,_,_,h,_,_=>by simp at h
 | _::_,[],_,_,_,_,h,_=>by simp at h
 | p::P,w::vs,0,m,nd,h1,h2,hk=>by
  simp at h1 h2;subst h1;subst h2
  show bindL kindOf ((p,w)::P.zip vs) m p=_
  unfold bindL
  rw [i7 λv hv=>(List.nodup_cons.mp nd).1 (List.of_mem_zip hv).1,if_pos hk]
  simp
 | p::P,w::vs,i+1,m,nd,h1,h2,hk=>by
  show bindL kindOf ((p,w)::P.zip vs) m x=_
  unfold bindL
  exact i5 (i:=i) (List.nodup_cons.mp nd).2 (by simpa using h1) (by simpa using h2) hk
theorem iY {kindOf:Str->Option NameKind} {x:Str} {v:Value}:∀{P:List Str} {vs:List Value} {i:Nat} {m:Str->Option Value},P.Nodup->P[i]?=some x->vs[i]?=some v->kindOf x≠some .local ->
  bindC kindOf (P.zip vs) m x=some v
 | [],_,_,_,_,h,_,_=>by simp at h
 | _::_,[],_,_,_,_,h,_=>by simp at h
 | p::P,w::vs,0,m,nd,h1,h2,hk=>by
  simp at h1 h2;subst h1;subst h2
  show bindC kindOf ((p,w)::P.zip vs) m p=_
  unfold bindC
  rw [iZ λv hv=>(List.nodup_cons.mp nd).1 (List.of_mem_zip hv).1,if_neg hk]
  simp
 | p::P,w::vs,i+1,m,nd,h1,h2,hk=>by
  show bindC kindOf ((p,w)::P.zip vs) m x=_
  unfold bindC
  exact iY (i:=i) (List.nodup_cons.mp nd).2 (by simpa using h1) (by simpa using h2) hk
def start (N:List Str) (vs:List V):St:=vs.map some++List.replicate (N.length-vs.length) none
def cQ (CX:eP) (P:Program) (w:World) (K:PySem.W.Frag) (mg:Str->Option Value) (base:Heap) (N:List Str) (qual:Str) (scope:Scope) (f:Addr) (cd:Value) (A:Around) (outer:List Env) (s:Shared) (H:Hp) (E:XK):Cx where
 prog:=P
 w:=w
 K:=K
 mg:=mg
 base:=base
 A:=A.deeper (envOfC qual scope s.heap.objs.size f cd)
 N:=N
 s₀:=s
 H₀:=H
 env:=envOfC qual scope s.heap.objs.size f cd
 outer:=outer
 stack:=envOfC qual scope s.heap.objs.size f cd::outer
 ex:=[]
 calm:=true
 fn:=λ_=>true
 pn:=[]
 xe:=λe s'=>wpAny (model P w) (A.deeper (envOfC qual scope s.heap.objs.size f cd)) (leaving (envOfC qual scope s.heap.objs.size f cd) e) (λ_ s''=>CX outer H s E e s'') (λe' s''=>CX outer H s E e' s'') s'
theorem kh {sc:Scope} {n:Nat} {x:Str} (h:sc.names.lookup x=some .cell):∃ c,(cellsFrom n sc.names []).lookup x=some c:=by
 have q:=PySem.W.cellsFrom_some sc.names n [] (.inl h)
 exact Option.isSome_iff_exists.mp q
theorem gf {CX:eP} {P:Program} {w:World} {K:PySem.W.Frag} {mg:Str->Option Value} {base:Heap} {N ps:List Str} {qual:Str} {scope:Scope} {f:Addr} {cd:Value} {A:Around} {outer:List Env} {s s1:Shared} {H:Hp} {E:XK} {us:List Value} {vs:List V}
  (S:az N ps scope) (hd:A.handled=none) (e0:hJ P w K mg base A outer s H) (hl:vs.length=ps.length) (r:Vals vs us)
  (x:InCallC s s.heap.objs.size (bindL (envOfC qual scope s.heap.objs.size f cd).kindOf (ps.zip us) λ_=>none) (cellsFrom (s.heap.objs.size+1) scope.names []) (bindC (envOfC qual scope s.heap.objs.size f cd).kindOf (ps.zip us) λ_=>none) s1) :
  Inv (cQ CX P w K mg base N qual scope f cd A outer s H E) [] (start N vs) H s1:=by
 have hpl:ps.length<=N.length:=by have:=congrArg List.length S.pre;rw [List.length_take] at this;omega
 obtain⟨h1,tk,rfl,hk⟩:=x.done
 have noA:∀ b:Addr,b∉(cQ CX P w K mg base N qual scope f cd A outer s H E).ex:=λb z=>absurd (show b∈([]:List Addr) from z) (by simp)
 refine⟨⟨e0.mod,S.kind,rfl,rfl,Nat.le_refl _,λy z c h1 h2=>?_,λy hy=>?_,λy c _ h=>?_,λ_=>hd,Around.frames_deeper e0.frames,.inr ⟨rfl,rfl⟩,λb z=>absurd z (noA b),e0.bs,e0.bsz,λb _ _=>noA b,λb z=>absurd z (noA b),e0.eT,e0.frf⟩,
  rfl,e0.bare,Un.kept hk,⟨_,x.toInCall.ns,λi y v h1 h2 h3=>?_⟩,λy c h=>⟨_,x.cell y c h⟩,e0.hok.fresh (Nat.le_refl _),λy c h=>?_,λp hp=>absurd (show p∈([]:List (Addr × Obj)) from hp) (by simp),e0.hok.kept hk,?_⟩
 ·exact name_of_addr x.apart (PySem.mem_of_lookup h1) (PySem.mem_of_lookup h2)
 ·have hy:scope.names.lookup y=some .cell∨scope.names.lookup y=some .free:=hy
  rcases hy with hy | hy
  ·exact kh hy
  ·exact absurd rfl (S.nofree _ (PySem.mem_of_lookup hy))
 ·exact Nat.le_of_lt (x.above y c (PySem.mem_of_lookup h))
 ·have hi:i<vs.length:=by
   unfold start at h2
   by_cases hi:i<vs.length
   ·exact hi
   ·rw [List.getElem?_append_right (by simpa using hi)] at h2
    rw [List.getElem?_replicate] at h2
    split at h2<;>cases h2
  have ha:vs[i]?=some v:=by
   unfold start at h2
   rw [List.getElem?_append_left (by simpa using hi),List.getElem?_map] at h2
   cases e:vs[i]? with
   | none=>rw [e] at h2;cases h2
   | some a=>rw [e] at h2;cases h2;rfl
  obtain⟨u,hu,rv⟩:=r.get ha
  have hp:ps[i]?=some y:=by
   rw [<- S.pre,List.getElem?_take_of_lt (by omega)];exact h1
  have ndP:ps.Nodup:=by rw [<- S.pre];exact S.nd.sublist (List.take_sublist _ _)
  refine⟨u,rv,?_⟩
  rcases S.par y (List.mem_of_getElem? hp) with k | k
  ·exact .inl ⟨k,i5 ndP hp hu k⟩
  ·obtain⟨c,e⟩:=kh (n:=s.heap.objs.size+1) k
   refine .inr ⟨.inl k,c,e,?_⟩
   have q:=x.cell y c e
   rw [iY ndP hp hu (by show scope.names.lookup y≠_;rw [k];decide)] at q
   exact q
 ·exact e0.hok.fresh (Nat.le_of_lt (x.above y c (PySem.mem_of_lookup h)))
 ·unfold start
  show _=N.length
  rw [List.length_append,List.length_map,List.length_replicate]
  omega
theorem uW {CX:eP} {P:Program} {w:World} {K:PySem.W.Frag} {mg:Str->Option Value} {base:Heap} {k:Nat} {f:Addr} {name qual:Str} {params:Arguments} {body:List Stmt} {scope:Scope} {dV kV doc pm cdv ct oc:Value} {an od:Option Addr}
  {osl:Array (Option Value)} {N ps:List Str} {sp:Sp} (lk:K.lookup f=some ⟨oc,od,.func (PySem.W.fnOf name qual params body scope dV kV doc pm an cdv ct),osl⟩) (hcd:PySem.W.codeIn K cdv qual=true) (S:az N ps scope)
  (len:∀ vs H Q E,sp vs H Q E->vs.length=ps.length)
  (hbody:∀(A:Around) (outer:List Env) (s:Shared) (H:Hp) (vs:List V) (Q:VK) (E:XK),bq k (A.deeper (envOfC qual scope s.heap.objs.size f cdv))->sp vs H Q E ->
   ∃ t,fU (cQ CX P w K mg base N qual scope f cdv A outer s H E) body t/\t { nx:=λ_ H'=>Q .aQ H',rt:=Q } (start N vs) H) :
  cp P w K mg base CX (k+1) f (PySem.W.fnOf name qual params body scope dV kV doc pm an cdv ct) ps sp:=by
 refine⟨len,λA outer s H args us vs Q E hr e0 hb r hsp=>?_⟩
 have hl:=len _ _ _ _ hsp
 have KX:K.In s.heap:=e0.mod.kin.keeps λb o e=>(e0.bs b o e).1
 have lim:s.heap.NoLimit:=e0.mod.nolimit.keeps λb o e=>(e0.bs b o e).1
 have hkind:∀ y∈ps.zip us,scope.names.lookup y.1=some .local∨(scope.names.lookup y.1=some .cell/\((cellsFrom (s.heap.objs.size+1) scope.names []).lookup y.1).isSome=true):=fun⟨n,v⟩ hy=>by
  rcases S.par n (List.of_mem_zip hy).1 with q | q
  ·exact .inl q
  ·exact .inr ⟨q,PySem.W.cellsFrom_some _ _ _ (.inl q)⟩
 refine codeAny_call_function hr.depth (KX _ _ lk) rfl S.co S.gen rfl (PySem.W.codeRec_of KX hcd) (hb _ _ _ _ ?_)
 refine wpAny_newFunctionEnv_cells S.kind hkind λenv he s1 x=>?_
 subst he
 refine⟨lim.keeps x.toInCall.keep,codeAny_func ?_⟩
 obtain⟨t,ht,hq⟩:=hbody A outer s H vs Q E (hr.deeper _) hsp
 have I:Inv (cQ CX P w K mg base N qual scope f cdv A outer s H E) [] (start N vs) H s1:=gf S hr.hd e0 hl r x
 refine wpAny_mono (ht [] s1 (start N vs) H _ I hq) (λfl s' hs=>?_) λe s' hs=>hs
 have fin:∀{σ':St} {H':Hp} {v:V} {u:Value},Inv (cQ CX P w K mg base N qual scope f cdv A outer s H E) [] σ' H' s'->RelV v u->Q v H'->CE outer P w H s Q u s' :=
  λ{σ' H' v u} J rv q=>⟨v,H',J.os,J.bare,J.base,J.hok,rv,q⟩
 cases fl with
 | ret u =>
  obtain⟨v,σ',H',J,rv,q⟩:=hs
  exact fin J rv q
 | next =>
  obtain⟨σ',H',J,q⟩:=hs
  exact fin (v:=V.aQ) (u:=Value.none) J rfl q
 | brk =>
  obtain⟨_,_,_,q⟩:=hs
  exact False.elim q
 | cont =>
  obtain⟨_,_,_,q⟩:=hs
  exact False.elim q
section
variable {X:Cx} {x:Str} {p pos:Pos} {e:Expr} {es:List Expr} {t:TA} {id T:String} {r:List V->Hp->VK->Prop}
def zG (r:List V->Hp->VK->Prop) (t:TA):TE:=λσ H Q=>t σ H λvs H1=>r vs H1 Q
theorem aw (hc:bS X (.builtin id) r) (hg:Gl X x) (hm:X.mg x=none) (hv:bootBuiltins x=some (.builtin id)) (ha:PA X (e::es) t) (hn:x ≠ "__name__":=by decide) (hdb:(x==("__debug__":Str))=false:=by decide)
  (he:starEach (e::es) X.env=(false,eval e X.env)::starEach es X.env:=by rfl) (hpl:(backTo pos (starEach es X.env)).any (·.1)=false:=by rfl):PE X (.Call (.Name x p) (e::es) [] pos) (zG r t):=by
 intro pins s σ H Q I h
 refine wpAny_Call_Name_kw (ik I hg hm hv ?_ hn hdb)
 exact PyProof.Rows.callWith_builtin1 (aR (ha pos pins s σ H _ I h) λus s1 ⟨vs,H1,I1,r1,q1⟩=>hc pins s1 σ H1 vs us Q I1 r1 q1) he hpl
theorem bo (hc:bS X (.type T) r) (hg:Gl X x) (hm:X.mg x=none) (hv:bootBuiltins x=some (.type T)) (ha:PA X (e::es) t) (hn:x ≠ "__name__":=by decide) (hdb:(x==("__debug__":Str))=false:=by decide)
  (he:starEach (e::es) X.env=(false,eval e X.env)::starEach es X.env:=by rfl) (hpl:(backTo pos (starEach es X.env)).any (·.1)=false:=by rfl):PE X (.Call (.Name x p) (e::es) [] pos) (zG r t):=by
 intro pins s σ H Q I h
 refine wpAny_Call_Name_kw (ik I hg hm hv ?_ hn hdb)
 exact PyProof.Rows.callWith_type1 (aR (ha pos pins s σ H _ I h) λus s1 ⟨vs,H1,I1,r1,q1⟩=>hc pins s1 σ H1 vs us Q I1 r1 q1) he hpl
end
end L2
namespace HT
open PySem PyProof.Rows
section
open PySem.SeqAt
open PySem.AutoSeq1 (wpAny_loadPart')
open PySem.MeetsSeq PySem.MeetsSeq2 PySem.MeetsSeq3
end
section
variable {prog:Program} {w:World} {A:Around} {E:Value->Shared->Prop} {s:Shared}
def lY (n d:Nat):Option Int->Nat
 | none=>d
 | some v=>if v<0 then (v+(n:Int)).toNat else min v.toNat n
end
end HT
namespace L2
open PySem PySem.Spec PyProof.Rows
abbrev TO:=St->Hp->(Option Int->Hp->Prop)->Prop
def PO (X:Cx) (e:Option Expr) (t:TO):Prop :=
 ∀(pins:List (Addr × Obj)) (s:Shared) (σ:St) (H:Hp) (Q:Option Int->Hp->Prop),Inv X pins σ H s->t σ H Q ->
  wpAny (model X.prog X.w) X.A (evalPart e X.env) (λu s'=>∃ o H',Inv X pins σ H' s'/\IsPart u o/\Q o H') X.xe s
def nA:TO:=λ_ H Q=>Q none H
def vt (t:TE):TO:=λσ H Q=>t σ H λx H1=>∃ i,x=.int i/\Q (some i) H1
section
variable {X:Cx} {e:Expr} {te:TE} {lo hi:Option Expr} {tl th:TO} {pos p2:Pos}
theorem d9:PO X none nA:=by
 intro pins s σ H Q I h
 rw [evalPart_none]
 exact wpAny_pure ⟨none,H,I,.none,h⟩
theorem bH (h:PE X e te):PO X (some e) (vt te):=by
 intro pins s σ H Q I hw
 rw [evalPart_some]
 refine aR (h pins s σ H _ I hw) λu s1 ⟨x,H1,I1,r1,q1⟩=>?_
 obtain⟨i,rfl,q⟩:=q1
 obtain⟨t,rfl⟩:=r1
 exact⟨some i,H1,I1,.int i t,q⟩
def vD (X:Cx) (r:V->Option Int->Option Int->Hp->VK->Prop):Prop :=
 ∀(pins:List (Addr × Obj)) (s:Shared) (σ:St) (H:Hp) (x:V) (v vl vu:Value) (lo hi:Option Int) (sl:Addr) (Q:VK),Inv X pins σ H s->RelV x v->s.heap.IsSliceOf sl vl vu .none->IsPart vl lo->IsPart vu hi->r x lo hi H Q ->
  ∃ T id,typeLookup (.type T) "__getitem__"=pure (some (.builtin id))/\s.TypeIs v T/\wpAny (model X.prog X.w) X.A (getItem v (.ref sl)) (EP X pins σ Q) X.xe s
theorem vD.or {r r':V->Option Int->Option Int->Hp->VK->Prop} (h:vD X r) (h':vD X r'):vD X (λx lo hi H Q=>r x lo hi H Q∨r' x lo hi H Q):=by
 intro pins s σ H x v vl vu lo hi sl Q I rx hs pl pu q
 rcases q with q | q
 ·exact h pins s σ H x v vl vu lo hi sl Q I rx hs pl pu q
 ·exact h' pins s σ H x v vl vu lo hi sl Q I rx hs pl pu q
def Ak (r:V->Option Int->Option Int->Hp->VK->Prop) (te:TE) (tl th:TO):TE:=λσ H Q=>te σ H λx H1=>tl σ H1 λl H2=>th σ H2 λu H3=>r x l u H3 Q
theorem bN {r:V->Option Int->Option Int->Hp->VK->Prop} (hr:vD X r) (he:PE X e te) (hl:PO X lo tl) (hu:PO X hi th):PE X (.Subscript e (.Slice lo hi none p2) pos) (Ak r te tl th):=by
 intro pins s σ H Q I h
 refine Subscript_ (aR (he pins s σ H _ I h) λv s1 ⟨x,H1,I1,r1,q1⟩=>?_)
 refine wpAny_Slice (aR (hl pins s1 σ H1 _ I1 q1) λvl s2 ⟨l,H2,I2,pl,q2⟩=>aR (hu pins s2 σ H2 _ I2 q2) λvu s3 ⟨u,H3,I3,pu,q3⟩=>?_)
 rw [evalPart_none]
 refine wpAny_pure ?_
 have I4:Inv X pins σ H3 { s3 with heap:=s3.heap.push { cls:=.type "slice",data:=.fields #[vl,vu,.none] } }:=I3.kept (t':=s3.toks) λb ob q=>Heap.get?_push_of_some _ q
 obtain⟨T,id,hT,ht,hg⟩:=hr pins { s3 with heap:=s3.heap.push { cls:=.type "slice",data:=.fields #[vl,vu,.none] } } σ H3 x v vl vu l u s3.heap.objs.size Q I4 r1 (Heap.IsSliceOf.new ..) pl pu q3
 show wpAny (model X.prog X.w) X.A (subscriptTail e (.Slice lo hi none p2) v (.ref s3.heap.objs.size)) (EP X pins σ Q) X.xe { s3 with heap:=s3.heap.push { cls:=.type "slice",data:=.fields #[vl,vu,.none] } }
 exact tail_any (ops:=[.ref s3.heap.objs.size,v]) ht hT hg (by with_unfolding_all rfl)
def ly (xs:List V) (lo hi:Option Int):List V:=(xs.drop (HT.lY xs.length 0 lo)).take (HT.lY xs.length xs.length hi-HT.lY xs.length 0 lo)
theorem gB (xs:List V) (lo hi:Option Int):(ly xs lo hi).length<=xs.length:=by
 unfold ly
 rw [List.length_take,List.length_drop]
 omega
end
def pY (n:Nat) (i:Int):Option Nat:=if 0<=i then (if i<n then some i.toNat else none) else if -(n:Int)<=i then some (i+n).toNat else none
def sf {α:Type} (xs:List α) (i:Int):Option α:=(pY xs.length i).bind λj=>xs[j]?
theorem mI {n:Nat} {i:Int} {j:Nat} (h:pY n i=some j):seqIndex? i n=some j/\j<n /\ -(n:Int)<=i/\i<n:=by
 unfold pY at h
 by_cases h0:0<=i
 ·rw [if_pos h0] at h
  by_cases h1:i<n
  ·rw [if_pos h1] at h
   have e:i.toNat=j:=Option.some.inj h
   exact⟨by rw [seqIndex_of h0 h1,e],by omega,by omega,h1⟩
  ·rw [if_neg h1] at h;cases h
 ·rw [if_neg h0] at h
  by_cases h1:-(n:Int)<=i
  ·rw [if_pos h1] at h
   have e:(i+n).toNat=j:=Option.some.inj h
   exact⟨by rw [seqIndex_neg (by omega) h1,e],by omega,h1,by omega⟩
  ·rw [if_neg h1] at h;cases h
theorem sN {α:Type} {xs:List α} {i:Int} {v:α} (h:sf xs i=some v):∃ j,seqIndex? i xs.length=some j/\xs[j]?=some v/\j<xs.length /\ -(xs.length:Int)<=i/\i<xs.length:=by
 unfold sf at h
 cases e:pY xs.length i with
 | none=>rw [e] at h;cases h
 | some j =>
  rw [e] at h
  obtain⟨h1,h2,h3,h4⟩:=mI e
  exact⟨j,h1,h,h2,h3,h4⟩
theorem mq {α:Type} {xs:List α} {j:Nat} {v:α} (h:xs[j]?=some v):sf xs (j:Int)=some v:=by
 have hj:j<xs.length:=(List.getElem?_eq_some_iff.mp h).1
 have e:pY xs.length (j:Int)=some j:=by
  unfold pY
  rw [if_pos (by omega),if_pos (by omega)];simp
 unfold sf;rw [e];exact h
theorem hW {α:Type} (xs:List α) (v:α):sf (xs++[v]) (-1)=some v:=by
 have hl:(xs++[v]).length=xs.length+1:=by simp
 have e:pY (xs++[v]).length (-1)=some xs.length:=by
  unfold pY
  rw [hl,if_neg (by decide),if_pos (by omega)]
  congr 1
  omega
 unfold sf
 rw [e]
 show (xs++[v])[xs.length]?=some v
 simp
def sy (b:Expr):Prop:=∀ o i,subscripted b false o i=operate [o,i] (getItem o i)
def vz (X:Cx) (r:R2):Prop :=
 ∀(value slice:Expr) (pins:List (Addr × Obj)) (s:Shared) (σ:St) (H:Hp) (x y:V) (v u:Value) (Q:VK),Inv X pins σ H s->RelV x v->RelV y u->r x y H Q ->
  subscripted slice false v u=operate [v,u] (getItem v u)->wpAny (model X.prog X.w) X.A (subscriptTail value slice v u) (EP X pins σ Q) X.xe s
def rY (X:Cx) (id:String) (r:V->List V->Hp->VK->Prop):Prop :=
 ∀(pins:List (Addr × Obj)) (s:Shared) (σ:St) (H:Hp) (x:V) (xs:List V) (v:Value) (us:List Value) (Q:VK),Inv X pins σ H s->RelV x v->Vals xs us->r x xs H Q ->
  wpAny (model X.prog X.w) X.A (call (.builtin id) (v::us)) (EP X pins σ Q) X.xe s
section
variable {X:Cx} {a b:Expr} {ta tb:TE} {pos:Pos}
theorem vz.or {r r':R2} (h:vz X r) (h':vz X r'):vz X (λx y H Q=>r x y H Q∨r' x y H Q):=by
 intro value slice pins s σ H x y v u Q I rx ry q hs
 rcases q with q | q
 ·exact h value slice pins s σ H x y v u Q I rx ry q hs
 ·exact h' value slice pins s σ H x y v u Q I rx ry q hs
theorem rY.or {id:String} {r r':V->List V->Hp->VK->Prop} (h:rY X id r) (h':rY X id r'):rY X id (λx xs H Q=>r x xs H Q∨r' x xs H Q):=by
 intro pins s σ H x xs v us Q I rx rs q
 rcases q with q | q
 ·exact h pins s σ H x xs v us Q I rx rs q
 ·exact h' pins s σ H x xs v us Q I rx rs q
theorem bT {r:R2} (hr:vz X r) (ha:PE X a ta) (hb:PE X b tb) (hs:sy b):PE X (.Subscript a b pos) (xk r ta tb):=by
 intro pins s σ H Q I h
 exact Subscript_ (sP ha hb I h λv u s2 x y H2 I2 rx ry q=>hr a b pins s2 σ H2 x y v u Q I2 rx ry q (hs _ _))
def qZ (K:PySem.W.Frag):R2:=λx y H Q=>∃ p xs i v,x=.ref p/\y=.int i/\aP K H p xs/\sf xs i=some v/\Q v H
theorem aW:vz X (qZ X.K):=by
 intro value slice pins s σ H x y v u Q I rx ry h hs
 obtain⟨p,xs,i,z,rfl,rfl,hq,he,q⟩:=h
 cases rx
 obtain⟨t,rfl⟩:=ry
 obtain⟨its,r,pl,hz⟩:=I.list hq
 obtain⟨j,h1,h2,h3,h4,h5⟩:=sN he
 obtain⟨w,ew,rw'⟩:=r.get h2
 have hl:=r.length
 have hn:=ip
 have fin:EP X pins σ Q w s:=⟨z,H,I,rw',q⟩
 by_cases h0:0<=i
 ·have hj:i.toNat=j:=by
   rw [seqIndex_of h0 h5] at h1
   exact Option.some.inj h1
  exact item_listR pl.isList h0 (by omega) (by rw [hj];simpa using ew) fin hs
 ·have hj:(i+(its.toArray.size:Int)).toNat=j:=by
   rw [seqIndex_neg (by omega) h4] at h1
   rw [List.size_toArray,<- hl]
   exact Option.some.inj h1
  exact subscriptTail_builtinR (x:=w) pl.isList.typeIs slot_list_getitem.lookup
   (wpAny_getItem_list_neg (Q:=λr s'=>r=w/\EP X pins σ Q r s') pl.isList (by omega) (by rw [List.size_toArray]<;>omega) (by omega) (by rw [hj];simpa using ew) ⟨rfl,fin⟩) hs
theorem lN (its:List Value) (n j:Nat) (u:Value):Obj.mapSeq (·.setIfInBounds j u) { cls:=.type "list",data:=.seq its.toArray n }={ cls:=.type "list",data:=.seq (its.set j u).toArray n }:=by
 simp [Obj.mapSeq]
theorem Inv.lst {pins:List (Addr × Obj)} {σ:St} {H:Hp} {s:Shared} {p:Addr} {xs:List V} (I:Inv X pins σ H s) (h:H p=some (.lst xs)) :
  ∃(its:List Value) (n:Nat),Vals xs its/\s.heap.get? p=some { cls:=.type "list",data:=.seq its.toArray n }/\xs.length<=sizeLine:=by
 obtain⟨z,its,n,r,e⟩:=I.hok p _ h
 exact⟨its,n,r,e,z⟩
theorem Inv.wg {pins:List (Addr × Obj)} {σ:St} {H:Hp} {s:Shared} {p:Addr} {xs ys:List V} {its its':List Value} {n n':Nat} {f:Obj->Obj} (I:Inv X pins σ H s) (h:H p=some (.lst xs))
  (ho:s.heap.get? p=some { cls:=.type "list",data:=.seq its.toArray n }) (hf:f { cls:=.type "list",data:=.seq its.toArray n }={ cls:=.type "list",data:=.seq its'.toArray n' }) (r:Vals ys its') (hz:ys.length<=sizeLine) (t:Nat) :
  Inv X pins σ (upd H p (.lst ys)) { s with heap:=s.heap.update p f,toks:=t }:=by
 have e:(s.heap.update p f).get? p=some { cls:=.type "list",data:=.seq its'.toArray n' }:=by
  rw [Heap.get?_update_self f ho (by rw [hf]<;>rfl),hf]
 refine I.write (x:=p) (e:=p) (by rw [h];trivial) (.inl rfl) (λb u hb q=>(Heap.get?_update_other _ _ (Ne.symm hb)).trans q) ⟨_,e⟩ ?_
 exact⟨hz,its',n',r,e⟩
def yC:V->V->V->Hp->(Hp->Prop)->Prop:=λo i v H Q=>∃ p xs k j,o=.ref p/\i=.int k/\H p=some (.lst xs)/\pY xs.length k=some j/\Q (upd H p (.lst (xs.set j v)))
theorem set_list:xQ X yC:=by
 intro pins s σ H o i v ov iv u Q I ro ri rv h
 obtain⟨p,xs,k,j,rfl,rfl,hp,hj,q⟩:=h
 cases ro
 obtain⟨t,rfl⟩:=ri
 obtain⟨its,n,r,ho,hz⟩:=I.lst hp
 obtain⟨h1,h2,h3,h4⟩:=mI hj
 have hl:=r.length
 have hn:=ip
 have I':Inv X pins σ (upd H p (.lst (xs.set j v))) { s with heap:=s.heap.update p (Obj.mapSeq (·.setIfInBounds j u)) } :=
  I.wg hp ho (lN its n j u) (r.set rv j) (by rw [List.length_set];exact hz) s.toks
 by_cases h0:0<=k
 ·have hk:k.toNat=j:=by
   rw [seqIndex_of h0 h4] at h1
   exact Option.some.inj h1
  exact PySem.W.ki_setAt ho h0 (by omega) (by rw [List.size_toArray,<- hl];exact h4) (by rw [hk];exact⟨_,I',q⟩)
 ·have hk:(k+(its.toArray.size:Int)).toNat=j:=by
   rw [seqIndex_neg (by omega) h3] at h1
   rw [List.size_toArray,<- hl]
   exact Option.some.inj h1
  exact PySem.W.ki_setBack ho (by omega) (by rw [List.size_toArray,<- hl];exact h3) (by omega) (by rw [hk];exact⟨_,I',q⟩)
theorem jT (lo hi:Option Int) (n:Nat):(sliceBounds lo hi none n).1=((HT.lY n 0 lo:Nat):Int)/\(sliceBounds lo hi none n).2.1=((HT.lY n n hi:Nat):Int)/\(sliceBounds lo hi none n).2.2=1:=by
 refine⟨?_,?_,rfl⟩
 ·cases lo with
  | none=>simp [sliceBounds,HT.lY]
  | some i =>
   simp only [sliceBounds,HT.lY,Option.getD_none,show (1:Int) > 0 by decide,if_true]
   by_cases h:i<0
   ·simp only [h,if_true]<;>omega
   ·simp only [h,if_false]<;>omega
 ·cases hi with
  | none=>simp [sliceBounds,HT.lY]
  | some i =>
   simp only [sliceBounds,HT.lY,Option.getD_none,show (1:Int) > 0 by decide,if_true]
   by_cases h:i<0
   ·simp only [h,if_true]<;>omega
   ·simp only [h,if_false]<;>omega
theorem iU (its:List Value) (lo hi:Option Int):slicePick its.toArray lo hi none=((its.drop (HT.lY its.length 0 lo)).take (HT.lY its.length its.length hi-HT.lY its.length 0 lo)).toArray:=by
 obtain⟨h1,h2,h3⟩:=jT lo hi its.toArray.size
 unfold slicePick
 rw [h1,h2,h3]
 simp only [sliceRange_one,pick_run,List.size_toArray]<;>rfl
def zD (K:PySem.W.Frag):V->Option Int->Option Int->Hp->VK->Prop:=λx lo hi H Q=>∃ a xs,x=.ref a/\aP K H a xs/\∀ p,H p=none->Q (.ref p) (upd H p (.lst (ly xs lo hi)))
theorem m8:vD X (zD X.K):=by
 intro pins s σ H x v vl vu lo hi sl Q I rx hs pl pu h
 obtain⟨a,xs,rfl,hx,q⟩:=h
 cases rx
 obtain⟨its,r,ht,hz⟩:=I.list hx
 have hlen:=r.length
 refine⟨"list",_,slot_list_getitem.lookup,ht.isList.typeIs,?_⟩
 refine wpAny_getItem_list_slice ht.isList hs pl pu .none (by simp) ?_ (by rw [List.size_toArray]<;>omega)
 rw [iU,<- hlen]
 refine⟨.ref s.heap.objs.size,_,I.laid (t':=s.toks) (o:=.lst (ly xs lo hi)) (λb ob q=>Heap.get?_push_of_some _ q) (Nat.le_refl _) ?_,rfl,q _ (I.hok.fresh (Nat.le_refl _))⟩
 exact⟨Nat.le_trans (gB xs lo hi) hz,_,0,(r.drop (HT.lY xs.length 0 lo)).take (HT.lY xs.length xs.length hi-HT.lY xs.length 0 lo),Heap.get?_push_size _ rfl⟩
def b9:V->Bool
 | .aQ=>true
 | .bl _=>true
 | .int _=>true
 | .str _=>true
 | _=>false
def kn:V->V->Bool
 | .aQ,.aQ=>true
 | .bl a,.bl b=>a==b
 | .bl a,.int b=>(if a then 1 else 0)==b
 | .int a,.bl b=>a==(if b then 1 else 0)
 | .int a,.int b=>a==b
 | .str a,.str b=>a==b
 | _,_=>false
theorem vR {A:Around} {s:Shared} {y x:V} {u v:Value} (ry:RelV y u) (rx:RelV x v) (fy:b9 y=true) (fx:b9 x=true):SeqAt.EqAt A s u v (kn y x):=by
 cases y with
 | aQ =>
  cases ry
  cases x with
  | aQ=>cases rx;exact SeqAt.EqAt.same _
  | bl b=>cases rx;exact SeqAt.EqAt.none_bool b
  | int b=>obtain⟨t,rfl⟩:=rx;exact SeqAt.EqAt.none_int b t
  | str b=>obtain⟨t,rfl⟩:=rx;exact SeqAt.EqAt.none_str b t
  | _=>exact absurd (show false=true from fx) Bool.false_ne_true
 | bl a =>
  cases ry
  cases x with
  | aQ=>cases rx;exact SeqAt.EqAt.bool_none a
  | bl b=>cases rx;exact SeqAt.EqAt.bool_bool a b
  | int b=>obtain⟨t,rfl⟩:=rx;exact SeqAt.EqAt.bool_int a b t
  | str b=>obtain⟨t,rfl⟩:=rx;exact SeqAt.EqAt.bool_str a b t
  | _=>exact absurd (show false=true from fx) Bool.false_ne_true
 | int a =>
  obtain⟨t',rfl⟩:=ry
  cases x with
  | aQ=>cases rx;exact SeqAt.EqAt.int_none a t'
  | bl b=>cases rx;exact SeqAt.EqAt.int_bool a t' b
  | int b=>obtain⟨t,rfl⟩:=rx;exact SeqAt.EqAt.int_int a t' b t
  | str b=>obtain⟨t,rfl⟩:=rx;exact SeqAt.EqAt.int_str a t' b t
  | _=>exact absurd (show false=true from fx) Bool.false_ne_true
 | str a =>
  obtain⟨t',rfl⟩:=ry
  cases x with
  | aQ=>cases rx;exact SeqAt.EqAt.str_none a t'
  | bl b=>cases rx;exact SeqAt.EqAt.str_bool a t' b
  | int b=>obtain⟨t,rfl⟩:=rx;exact SeqAt.EqAt.str_int a t' b t
  | str b=>obtain⟨t,rfl⟩:=rx;exact SeqAt.EqAt.str_str a t' b t
  | _=>exact absurd (show false=true from fx) Bool.false_ne_true
 | _=>exact absurd (show false=true from fy) Bool.false_ne_true
def iO (x:V) (u:Value):Bool:=match u with
 | .none=>kn .aQ x
 | .bool b=>kn (.bl b) x
 | .int i _=>kn (.int i) x
 | .str z _=>kn (.str z) x
 | _=>false
theorem jF {x y:V} {u:Value} (r:RelV y u) (f:b9 y=true):iO x u=kn y x:=by
 cases y with
 | aQ=>cases r;rfl
 | bl b=>cases r;rfl
 | int i=>obtain⟨t,rfl⟩:=r;rfl
 | str z=>obtain⟨t,rfl⟩:=r;rfl
 | _=>exact absurd (show false=true from f) Bool.false_ne_true
theorem fj {x:V}:∀{xs:List V} {us:List Value},Vals xs us->xs.all b9=true->us.any (iO x)=xs.any λy=>kn y x
 | _,_,.nil,_=>rfl
 | y::xs,u::us,.cons r t,f=>by
  rw [List.all_cons,Bool.and_eq_true] at f
  rw [List.any_cons,List.any_cons,jF r f.1,fj t f.2]
theorem cG {A:Around} {s:Shared} {x:V} {v:Value} (rx:RelV x v) (fx:b9 x=true):∀{xs:List V} {us:List Value},Vals xs us->xs.all b9=true->∀ u∈us,SeqAt.EqAt A s u v (iO x u)
 | _,_,.nil,_=>λu hu=>by cases hu
 | y::xs,u::us,.cons r t,f=>λu' hu=>by
  rw [List.all_cons,Bool.and_eq_true] at f
  rcases List.mem_cons.mp hu with rfl | hu
  ·rw [jF r f.1];exact vR r rx f.1 fx
  ·exact cG rx fx t f.2 u' hu
def sW (x:V) (xs:List V):Bool:=xs.any λy=>kn y x
def Ae (K:PySem.W.Frag) (neg:Bool):R2:=λx y H Q=>∃ p xs,y=.ref p/\(aP K H p xs∨br K H p xs)/\b9 x=true/\xs.all b9=true/\Q (.bl (if neg then !sW x xs else sW x xs)) H
theorem gh:ff X (compareOp .In) (Ae X.K false):=by
 intro pins s σ H x y v u Q I rx ry h
 obtain⟨p,xs,rfl,hq,fx,fs,q⟩:=h
 cases ry
 rcases hq with hq | hq
 ·obtain⟨its,r,pl,hz⟩:=I.list hq
  refine SeqAt.in_listAt (iO x) pl.isList (λw hw=>cG rx fx r fs w (by simpa using hw)) ⟨.bl _,H,I,rfl,?_⟩
  rw [show its.toArray.any (iO x)=its.any (iO x) by simp,fj r fs]
  exact q
 ·obtain⟨its,r,pl,hz⟩:=I.tuple hq
  refine SeqAt.in_tupleAt (iO x) pl (λw hw=>cG rx fx r fs w (by simpa using hw)) ⟨.bl _,H,I,rfl,?_⟩
  rw [show its.toArray.any (iO x)=its.any (iO x) by simp,fj r fs]
  exact q
theorem jL:ff X (compareOp .NotIn) (Ae X.K true):=by
 intro pins s σ H x y v u Q I rx ry h
 obtain⟨p,xs,rfl,hq,fx,fs,q⟩:=h
 cases ry
 rcases hq with hq | hq
 ·obtain⟨its,r,pl,hz⟩:=I.list hq
  refine SeqAt.notIn_listAt (iO x) pl.isList (λw hw=>cG rx fx r fs w (by simpa using hw)) ⟨.bl _,H,I,rfl,?_⟩
  rw [show its.toArray.any (iO x)=its.any (iO x) by simp,fj r fs]
  exact q
 ·obtain⟨its,r,pl,hz⟩:=I.tuple hq
  refine SeqAt.notIn_tupleAt (iO x) pl (λw hw=>cG rx fx r fs w (by simpa using hw)) ⟨.bl _,H,I,rfl,?_⟩
  rw [show its.toArray.any (iO x)=its.any (iO x) by simp,fj r fs]
  exact q
theorem jy:bS X (.builtin "len") (λxs H Q=>∃ p ys,xs=[.ref p]/\(aP X.K H p ys∨br X.K H p ys)/\Q (.int ys.length) H):=by
 intro pins s σ H xs us Q I r h
 obtain⟨p,ys,rfl,hq,q⟩:=h
 obtain⟨u,rfl,rx⟩:=vals1 r
 cases rx
 have hn:=ip
 rcases hq with hq | hq
 ·obtain⟨its,r',pl,hz⟩:=I.list hq
  have hlen:=r'.length
  exact Calls.call_len_list pl.isList (by simp only [List.size_toArray]<;>omega) ⟨.int ys.length,H,I.tok _,⟨s.toks+1,by rw [List.size_toArray,hlen]⟩,q⟩
 ·obtain⟨its,r',pl,hz⟩:=I.tuple hq
  have hlen:=r'.length
  exact len_tuple pl (by simp only [List.size_toArray]<;>omega) ⟨.int ys.length,H,I.tok _,⟨s.toks+1,by rw [List.size_toArray,hlen]⟩,q⟩
theorem aT:bS X (.builtin "len") (λxs H Q=>∃ z,xs=[.str z]/\z.length<=sizeLine/\Q (.int z.length) H):=by
 intro pins s σ H xs us Q I r h
 obtain⟨z,rfl,hz,q⟩:=h
 obtain⟨u,rfl,t,rfl⟩:=vals1 r
 have hn:=ip
 exact len_str (by omega) ⟨.int z.length,H,I.tok _,⟨_,rfl⟩,q⟩
theorem bS.or {f:Value} {r r':List V->Hp->VK->Prop} (h:bS X f r) (h':bS X f r'):bS X f (λxs H Q=>r xs H Q∨r' xs H Q):=by
 intro pins s σ H xs us Q I rs q
 rcases q with q | q
 ·exact h pins s σ H xs us Q I rs q
 ·exact h' pins s σ H xs us Q I rs q
theorem dc:bS X (.type "tuple") (λxs H Q=>∃ p ys,xs=[.ref p]/\((aP X.K H p ys/\∀ l,H l=none->Q (.ref l) (upd H l (.tup ys)))∨(br X.K H p ys/\Q (.ref p) H))):=by
 intro pins s σ H xs us Q I r h
 obtain⟨p,ys,rfl,h⟩:=h
 obtain⟨u,rfl,rx⟩:=vals1 r
 cases rx
 rcases h with⟨hq,q⟩|⟨hq,q⟩
 ·obtain⟨its,r',pl,hz⟩:=I.list hq
  have hlen:=r'.length
  refine call_tuple_list pl.isList (λh' kp=>?_) (by simp only [List.size_toArray]<;>omega)
  have I1:Inv X pins σ H { s with heap:=h' }:=I.kept (t':=s.toks) kp
  have I2:Inv X pins σ (upd H h'.objs.size (.tup ys)) { s with heap:=h'.push { cls:=.type "tuple",data:=.seq its.toArray } } :=
   I1.laid (t':=s.toks) (λb o e=>Heap.get?_push_of_some _ e) (Nat.le_refl _) (show aS X.prog X.w _ _ _ (.tup ys) from ⟨hz,its,r',IsTup.new _ _⟩)
  exact⟨.ref h'.objs.size,_,I2,rfl,q _ (I1.hok.fresh (Nat.le_refl _))⟩
 ·obtain⟨its,r',pl,hz⟩:=I.tuple hq
  exact call_tuple_same pl ⟨.ref p,H,I,rfl,q⟩
def y4 (K:PySem.W.Frag) (T:String) (x:V) (H:Hp):Prop:=match x with
 | .str _=>T = "str"
 | .int _=>T = "int"
 | .ref p=>(T = "list"/\∃ xs,aP K H p xs)∨(T = "tuple"/\∃ o,K.lookup p=some o/\o.cls=.type "tuple"/\o.dict=none) ∨
   (T = "dict"/\((∃ kvs,H p=some (.dK kvs))∨∃ kvs,H p=some (.dT kvs)))∨(T = "set"/\∃ S n,H p=some (.set S n))
 | _=>False
theorem me {pins:List (Addr × Obj)} {σ:St} {H:Hp} {s:Shared} {T:String} {x:V} {v:Value} (I:Inv X pins σ H s) (r:RelV x v) (ty:y4 X.K T x H) :
  s.TypeIs v T/\∀ a,v=.ref a->∃ ob,s.heap.get? a=some ob/\ob.dict=none:=by
 cases x with
 | str z =>
  obtain⟨t,rfl⟩:=r
  cases (show T = "str" from ty)
  exact⟨typeIs_str s z t,λ_ e=>nomatch e⟩
 | int i =>
  obtain⟨t,rfl⟩:=r
  cases (show T = "int" from ty)
  exact⟨typeIs_int s i t,λ_ e=>nomatch e⟩
 | ref p =>
  cases r
  rcases ty with⟨rfl,xs,hq⟩|⟨rfl,o,hk,hc,hd⟩|⟨rfl,hk⟩|⟨rfl,S,n,hk⟩
  ·obtain⟨its,_,pl,_⟩:=I.list hq
   refine⟨pl.isList.typeIs,λa e=>?_⟩
   cases e
   obtain⟨o,n,e,c,hd,_⟩:=pl
   exact⟨o,e,hd⟩
  ·refine⟨⟨o,I.dC p o hk,hc⟩,λa e=>?_⟩
   cases e
   exact⟨o,I.dC _ o hk,hd⟩
  ·have z:∃ o,s.heap.get? p=some o/\o.ExactDict:=by
    rcases hk with⟨kvs,hk⟩|⟨kvs,hk⟩
    ·obtain⟨_,_,_,_,o,_,_,e,ex,_⟩:=I.hok p _ hk
     exact⟨o,e,ex⟩
    ·obtain⟨_,_,_,_,o,_,_,e,ex,_⟩:=I.hok p _ hk
     exact⟨o,e,ex⟩
   obtain⟨o,e,ex⟩:=z
   refine⟨⟨o,e,ex.1⟩,λa e2=>?_⟩
   cases e2
   exact⟨o,e,ex.2.1⟩
  ·obtain⟨o,_,_,_,e,ex,_⟩:=I.hok p _ hk
   refine⟨⟨o,e,ex.1⟩,λa e2=>?_⟩
   cases e2
   exact⟨o,e,ex.2.1⟩
 | _=>exact False.elim ty
def xc (K:PySem.W.Frag) (T:String) (r:V->List V->Hp->VK->Prop) (to:TE):TE:=λσ H Q=>to σ H λx H1=>y4 K T x H1/\r x [] H1 Q
def Ah (K:PySem.W.Frag) (T:String) (r:V->List V->Hp->VK->Prop) (to:TE) (t:TA):TE:=λσ H Q=>to σ H λx H1=>y4 K T x H1/\t σ H1 λxs H2=>r x xs H2 Q
variable {o e:Expr} {es:List Expr} {to:TE} {t:TA} {name:Str} {apos cpos:Pos} {T id:String} {r:V->List V->Hp->VK->Prop}
theorem qM (pa:PlainAttrs T) (slot:Slot T name id) (hty:typeOf (.builtin id)=pure (.type "method_descriptor")) (hm:rY X id r) (ho:PE X o to)
  (hbase:attributeBase o name X.env (eval o X.env)=eval o X.env:=by rfl) (hline:(apos.endLine==cpos.line)=true:=by rfl):PE X (.Call (.Attribute o name apos) [] [] cpos) (xc X.K T r to):=by
 intro pins s σ H Q I h
 refine wpAny_Call_method0_late hbase hline (aR (ho pins s σ H _ I h) λv s1 ⟨x,H1,I1,r1,ty,q1⟩=>?_)
 obtain⟨h1,h2⟩:=me I1 r1 ty
 exact⟨T,id,pa,slot,hty,h1,h2,Calls.callWith_builtin rfl (PySem.evalArgs_none (hm pins s1 σ H1 x [] v [] Q I1 r1 .nil q1))⟩
theorem eG (pa:PlainAttrs T) (slot:Slot T name id) (hty:typeOf (.builtin id)=pure (.type "method_descriptor")) (hm:rY X id r) (ho:PE X o to) (ha:PA X (e::es) t)
  (hbase:attributeBase o name X.env (eval o X.env)=eval o X.env:=by rfl)
  (hfew:((backTo cpos (starEach (e::es) X.env)).all (λx=>!x.1) && (backToKw cpos (keywordEach [] X.env)).all (λx=>x.1.isSome)
   && decide ((e::es).length+([]:List Keyword).length+(if ([]:List Keyword).isEmpty then 0 else 1)<30))=true:=by rfl)
  (hline:(apos.endLine==cpos.line)=true:=by rfl) (hs:starEach (e::es) X.env=(false,eval e X.env)::starEach es X.env:=by rfl) (hplain:(backTo cpos (starEach es X.env)).any (·.1)=false:=by rfl) :
  PE X (.Call (.Attribute o name apos) (e::es) [] cpos) (Ah X.K T r to t):=by
 intro pins s σ H Q I h
 refine wpAny_Call_method_late hbase hfew hline rfl (aR (ho pins s σ H _ I h) λv s1 ⟨x,H1,I1,r1,ty,q1⟩=>?_)
 obtain⟨h1,h2⟩:=me I1 r1 ty
 refine⟨T,id,pa,slot,hty,h1,h2,?_⟩
 have hA:=ha cpos pins s1 σ H1 _ I1 q1
 rw [hs] at hA ⊢
 refine Calls.callWith_builtin (by show (false || (backTo cpos (starEach es X.env)).any (·.1))=false;rw [hplain]<;>rfl) (Calls.evalArgs_plain ?_)
 exact aR hA λus s2 ⟨vs,H2,I2,r2,q2⟩=>hm pins s2 σ H2 x vs v us Q I2 r1 r2 q2
/- xs.append(e),list.index on a module's tuple .. are rY facts of 06m -/
end
def yW (X:Cx) (id:String) (r:V->List V->Hp->VK->Prop):Prop :=
 ∀(pins:List (Addr × Obj)) (s:Shared) (σ:St) (H:Hp) (x:V) (xs:List V) (v:Value) (us:List Value) (Q:VK),Inv X pins σ H s->RelV x v->Vals xs us->r x xs H Q ->
  wpAny (model X.prog X.w) X.A (call (.builtin id) (v::us)) (EP X pins σ Q) X.xe s
theorem Vals.one:∀{x:V} {us:List Value},Vals [x] us->∃ u,us=[u]/\RelV x u
 | _,_,.cons r .nil=>⟨_,rfl,r⟩
theorem Vals.two:∀{x y:V} {us:List Value},Vals [x,y] us->∃ u v,us=[u,v]/\RelV x u/\RelV y v
 | _,_,_,.cons r (.cons q .nil)=>⟨_,_,rfl,r,q⟩
theorem Vals.zero:∀{us:List Value},Vals [] us->us=[]
 | _,.nil=>rfl
theorem Vals.dropLast {xs:List V} {us:List Value} (h:Vals xs us):Vals xs.dropLast us.dropLast:=by
 induction h with
 | nil=>exact .nil
 | cons r t ih =>
  cases t with
  | nil=>exact .nil
  | cons q t'=>exact .cons r ih
theorem Vals.reverse {xs:List V} {us:List Value} (h:Vals xs us):Vals xs.reverse us.reverse:=by
 induction h with
 | nil=>exact .nil
 | cons r t ih=>rw [List.reverse_cons,List.reverse_cons];exact Vals.append ih (.cons r .nil)
theorem lA {α:Type} (l:List α):l.eraseIdx (l.length-1)=l.dropLast:=by
 induction l with
 | nil=>rfl
 | cons a r ih =>
  cases r with
  | nil=>rfl
  | cons b r =>
   have e:(a::b::r).length-1=((b::r).length-1)+1:=by
    have h1:(a::b::r).length=r.length+2:=rfl
    have h2:(b::r).length=r.length+1:=rfl
    omega
   rw [e,List.eraseIdx_cons_succ,ih]
   all_goals rfl
section
variable {X:Cx} {pins:List (Addr × Obj)} {σ:St} {H:Hp} {s:Shared} {l b:Addr} {xs ys zs:List V}
theorem Inv.yh {its its':List Value} {n:Nat} {f:Array Value->Array Value} {t':Nat} (I:Inv X pins σ H s) (hH:H l=some (.lst xs))
  (e:s.heap.get? l=some { cls:=.type "list",data:=.seq its.toArray n }) (hf:f its.toArray=its'.toArray) (hv:Vals ys its') (hz:ys.length<=sizeLine) :
  Inv X pins σ (upd H l (.lst ys)) { s with heap:=s.heap.update l (Obj.mapSeq f),toks:=t' }:=by
 have q:=PySem.IsL.update e f
 rw [hf] at q
 refine I.write (x:=l) (e:=l) (by rw [hH];exact trivial) (.inl rfl) (λb' u hb hu=>(Heap.get?_update_other s.heap (Obj.mapSeq f) (Ne.symm hb)).trans hu) ⟨_,q⟩ ?_
 exact⟨hz,its',_,hv,q⟩
theorem Inv.zw {its:List Value} {t':Nat} (I:Inv X pins σ H s) (hv:Vals ys its) (hz:ys.length<=sizeLine) :
  Inv X pins σ (upd H s.heap.objs.size (.lst ys)) { s with heap:=s.heap.push { cls:=.type "list",data:=.seq its.toArray },toks:=t' } :=
 I.laid (λ_ _ q=>Heap.get?_push_of_some _ q) (Nat.le_refl _) ⟨hz,its,0,hv,Heap.get?_push_size _ rfl⟩
theorem Inv.fresh (I:Inv X pins σ H s):H s.heap.objs.size=none:=I.hok.fresh (Nat.le_refl _)
theorem Inv.oz (I:Inv X pins σ H s) (hH:H l=some (.lst xs)):xs.length<=sizeLine/\∃(its:List Value) (n:Nat),Vals xs its/\xs.length=its.length/\s.heap.get? l=some { cls:=.type "list",data:=.seq its.toArray n }:=by
 obtain⟨z,its,n,r,e⟩:=I.hok l _ hH
 exact⟨z,its,n,r,r.length,e⟩
end
section
variable {X:Cx}
def uk:V->List V->Hp->VK->Prop:=λx vs H Q=>∃ l xs y,x=.ref l/\vs=[y]/\H l=some (.lst xs)/\xs.length<sizeLine/\Q .aQ (upd H l (.lst (xs++[y])))
theorem bX:yW X "list.append" uk:=by
 intro pins s σ H x vs v us Q I rx rv h
 obtain⟨l,xs,y,rfl,rfl,hH,hz,q⟩:=h
 cases rx
 obtain⟨u,rfl,ru⟩:=rv.one
 obtain⟨z,its,n,r,hl,e⟩:=I.oz hH
 refine call_meets F.slot_list_append ⟨_,e,rfl⟩ F.entry_list_append (F.args_list_append_2 _ _) (PySem.list_append l its.toArray n u (by rw [List.size_toArray];omega)) ⟨e,?_⟩
 refine⟨.aQ,_,I.yh (its':=its++[u]) hH e (by simp) (r.append (.cons ru .nil)) ?_,rfl,q⟩
 rw [List.length_append,List.length_singleton]
 omega
def zC:V->List V->Hp->VK->Prop:=λx vs H Q=>∃ l xs y,x=.ref l/\vs=[]/\H l=some (.lst xs)/\xs[xs.length-1]?=some y/\Q y (upd H l (.lst xs.dropLast))
theorem ql:yW X "list.pop" zC:=by
 intro pins s σ H x vs v us Q I rx rv h
 obtain⟨l,xs,y,rfl,rfl,hH,hy,q⟩:=h
 cases rx
 have hus:=rv.zero
 subst hus
 obtain⟨z,its,n,r,hl,e⟩:=I.oz hH
 obtain⟨u,hu,ru⟩:=r.get hy
 have hy':its.toArray[its.toArray.size-1]?=some u:=by
  show its.toArray[its.length-1]?=some u
  rw [<- Array.getElem?_toList,<- hl]
  exact hu
 refine call_meets F.slot_list_pop ⟨_,e,rfl⟩ F.entry_list_pop (F.args_list_pop_1 _) (MeetsSeq.list_pop_last l its.toArray n u hy' (by rw [List.size_toArray];omega)) ⟨e,?_⟩
 refine⟨y,_,I.yh (its':=its.dropLast) hH e ?_ r.dropLast ?_,ru,q⟩
 ·show its.toArray.eraseIdxIfInBounds (its.toArray.size-1)=its.dropLast.toArray
  rw [List.size_toArray,List.eraseIdxIfInBounds_toArray,lA]
 ·rw [List.length_dropLast]
  omega
def zA:R2:=λx y H Q=>∃ l b xs zs,x=.ref l/\y=.ref b/\H l=some (.lst xs)/\H b=some (.lst zs)/\xs.length+zs.length<=sizeLine/\∀ p,H p=none->Q (.ref p) (upd H p (.lst (xs++zs)))
theorem qA:ff X (binaryOp .Add) zA:=by
 intro pins s σ H x y v u Q I rx ry h
 obtain⟨l,b,xs,zs,rfl,rfl,hH,hB,hz,q⟩:=h
 cases rx
 cases ry
 obtain⟨z,its,n,r,hl,e⟩:=I.oz hH
 obtain⟨z2,its2,n2,r2,hl2,e2⟩:=I.oz hB
 refine PySem.P.add_list e e2 ?_ (by rw [List.size_toArray,List.size_toArray];omega)
 have ea:its.toArray++its2.toArray=(its++its2).toArray:=by simp
 rw [ea]
 exact⟨.ref _,_,I.zw (t':=s.toks) (r.append r2) (by rw [List.length_append];omega),rfl,q _ I.fresh⟩
end
section
variable {prog:Program} {w:World} {A:Around} {E:Value->Shared->Prop} {s:Shared}
end
section
variable {X:Cx}
end
end L2
namespace Att
open PySem PySem.W PySem.Calls PyProof.Rows
theorem gI {P:Params} {h:Heap}:∀(ns:List Int) (vs:List Value),WellAll P h vs (ns.map WData.int)->IntsAre vs ns:=by
 intro ns
 induction ns with
 | nil =>
  intro vs w
  rw [List.map_nil] at w
  cases w
  exact .nil
 | cons n ns ih =>
  intro vs w
  rw [List.map_cons] at w
  cases w with
  | cons a b =>
   cases a
   exact .cons _ _ (ih _ b)
theorem oU {l:OpenLaw} {n:Nat} (hn:l.most=some n) {P:Params} {h:Heap} {args:List WData} {vals:List Value}
  (hpre:l.row.toRowW.claim.pre args=true) (hwl:WellAll P h vals args) :
  ∃ a vs ns,vals=[Value.ref a]/\args=[WData.list (ns.map WData.int)]/\h.get? a=some { cls:=.type "list",data:=.seq vs.toArray }/\IntsAre vs ns/\ns.length<=n:=by
 have hsh:WShape.hasAll [] args [.list .int]=true:=(pre_splitW hpre).1
 have hc:l.pre.holds [] { args:=args }=true:=(pre_splitW hpre).2
 obtain⟨d,r,rfl,h1,h2⟩:=hasAllW_cons hsh
 obtain rfl:=hasAllW_nil h2
 obtain⟨xs,rfl,h3⟩:=hasW_list h1
 obtain⟨ns,rfl⟩:=items_int h3
 have hlen:ns.length<=n:=by
  unfold OpenLaw.pre at hc
  have h4:(WTm.not (.lt (.lit (.int (n:Int))) (.len (.arg 0)))).holds [] { args:=[.list (ns.map .int)] }=true:=by
   have h4:=(holds_andW hc).1
   rw [hn] at h4
   exact h4
  have h5:=condW_of h4 (w_not (w_lt w_lit (w_len_list (w_arg rfl))))
  rw [List.length_map] at h5
  refine Nat.le_of_not_lt λq=>?_
  have q':(n:Int)<((ns.length:Nat):Int):=by omega
  first
   | (rw [decide_eq_true q'] at h5;exact absurd h5 (by decide))
   | (simp at h5;omega)
 cases hwl with
 | cons w1 w2 =>
  cases w2
  cases w1 with
  | list ho hall=>exact⟨_,_,ns,rfl,rfl,ho,gI ns _ hall,hlen⟩
theorem oP (l:OpenLaw) (args:List WData):l.row.toRowW.claim.post args (.bool true) args=true :=
 postW_of (r:=l.row.toRowW) (X:=(true==true))
  (show WShape.has [] (.bool true) .bool=true by first | rfl | decide | simp [WShape.has,WShape.arms,WShape.armsAll])
  (show (WTm.eq .res (.lit (.bool true))).value [] { args:=args,res:=some (.bool true),after:=args }=some (.bool (true==true)) from w_eq_bool (w_res rfl) w_lit) rfl
theorem kg {l:OpenLaw} {n:Nat} {q:Program} {loose:List Str} {XP:(Str->Option Value)->Heap->Prop} {YP:World->Heap->Prop} {d:DefRec}
  (hn:l.most=some n) (hdf:d.params.defaults=[])
  (call:∀(w:World) (s₀ s₁:Shared) (mg mb:Str->Option Value) (fa:Addr) (o:Obj) (pm cd doc:Value) (a:Addr) (vs:List Value) (ns:List Int),
   Ground q loose [] XP w s₀ mg mb s₁.heap->YP w s₁.heap ->
   s₁.heap.get? fa=some o->o.data=.func (docDef d.name d.params d.body d.scope pm cd doc)->s₁.heap.CodeRec cd d.name->mg d.name=some (.ref fa) ->
   s₁.heap.get? a=some { cls:=.type "list",data:=.seq vs.toArray }->IntsAre vs ns->ns.length<=n->s₁.gens=#[] ->
   codeAny (model l.prog w) callerA (.call (.ref fa) ⟨[.ref a],[]⟩) (λr s'=>r=.ok (.ret (.bool true))/\OldK s₁.heap s'.heap/\s'.os=s₁.os/\AllBare s'.gens) s₁) :
  WalkO q loose XP YP l.row.toRowW d [] (λf vs=>PySem.call f vs):=by
 intro w s₀ s₁ mg mb G Y fa o pm cd doc dV kV ho hd hcd hD hmg hg args vals as hpre hlay hrd hwl hlo
 obtain rfl:dV=.none:=Dflts.none hD hdf
 obtain rfl:kV=.none:=Dflts.noKw hD
 obtain⟨a,vs,ns,rfl,rfl,hobj,hints,hlen⟩:=oU hn hpre hwl
 refine enter_call (codeAny_mono (call w s₀ s₁ mg mb fa o pm cd doc a vs ns G Y ho (fd_plain hd) hcd hmg hobj hints hlen hg) λr s' hq=>?_)
 obtain⟨rfl,h2,h3,h4⟩:=hq
 exact⟨.inl ⟨.bool true,.bool true,[],rfl,λ_=>rfl,.bool true,oP l _,λ_=>⟨List.Pairwise.nil,λ_ hm=>(nomatch hm)⟩⟩,h2,h3,h4⟩
section
variable {prog:Program} {w:World} {A:Around} {E:Value->Shared->Prop} {s:Shared} {K:Frag}
end
end Att
namespace L2
open PySem PySem.Spec PyProof.Rows
theorem jx:∀{vs:List Value} {ns:List Int},IntsAre vs ns->Vals (ns.map V.int) vs
 | _,_,.nil=>.nil
 | _,_,.cons n t h=>.cons ⟨t,rfl⟩ (jx h)
def sr (H:Hp):Prop:=∀ b,H b=none∨∃ o xs,H b=some (.frz o (.lst xs))
theorem qe {P:Program} {w:World} {K:PySem.W.Frag} {mg mb:Str->Option Value} {CX:eP} {k:Nat} {fa a:Addr} {fd:FuncData} {x:Str} {sp:Sp} {s₁:Shared} {vs:List Value} {ns:List Int}
  (KX:K.In s₁.heap) (hns:s₁.heap.Ns mainGlobals mg) (hb:s₁.heap.Ns builtinsNs mb) (hbb:∀ x:Str,x ≠ "__name__"->mb x=bootBuiltins x) (hlim:s₁.heap.NoLimit) (hg:s₁.gens=#[])
  (ha:s₁.heap.get? a=some { cls:=.type "list",data:=.seq vs.toArray }) (hi:IntsAre vs ns) (hl:ns.length<=sizeLine) (hr:bq k callerA)
  (F:∀ base:Heap,K.In base->base.Ns mainGlobals mg->cp P w K mg base CX k fa fd [x] sp) (hbind:∀(s:Shared) (u:Value),BindsTo s fd ⟨[u],[]⟩ [(x,u)])
  (hsp:∀ H:Hp,sr H->aP K H a (ns.map V.int)->sp [.ref a] H (λv _=>v=.bl true) λ_ _ _=>False)
  (hCX:∀ H e s',CX [] H s₁ (λ_ _ _=>False) e s'->False) :
  codeAny (model P w) callerA (.call (.ref fa) ⟨[.ref a],[]⟩) (λr s'=>r=.ok (.ret (.bool true))/\OldK s₁.heap s'.heap/\s'.os=s₁.os/\AllBare s'.gens) s₁:=by
 have rv:=jx hi
 have lenV:=hi.length
 -- from an abstract heap in which nothing but the script may be tracked
 have core:∀ H:Hp,sr H->aP K H a (ns.map V.int)->dB P w H s₁.heap->(∀ b,H b≠none->b=a)->(H a≠none->K.lookup a=none) ->
   codeAny (model P w) callerA (.call (.ref fa) ⟨[.ref a],[]⟩) (λr s'=>r=.ok (.ret (.bool true))/\OldK s₁.heap s'.heap/\s'.os=s₁.os/\AllBare s'.gens) s₁:=by
  intro H hO hS hok hA hK
  have base_of:∀{b:Addr} {o:Obj},s₁.heap.get? b=some o->H b=none->(jH s₁.heap H).get? b=some o:=λe n=>pV e n
  have noA:∀{b:Addr} {o:Obj} {es:Array DictEntry} {ep:Nat},s₁.heap.get? b=some o->o.data=.dict es ep->H b=none:=λ{b o es ep} e d=>by
   cases q:H b with
   | none=>rfl
   | some u =>
    have e':b=a:=hA b (by rw [q];simp)
    subst e'
    rw [ha] at e;cases e
    have d':Data.seq vs.toArray _=Data.dict es ep:=d
    cases d'
  have nsK:∀{b:Addr} {m:Str->Option Value},s₁.heap.Ns b m->(jH s₁.heap H).Ns b m:=λ{b m} ⟨o,es,ep,e,d,r⟩=>⟨o,es,ep,base_of e (noA e d),d,r⟩
  have hKb:K.In (jH s₁.heap H):=λb o e=>base_of (KX b o e) (by
   cases q:H b with
   | none=>rfl
   | some u =>
    have e':b=a:=hA b (by rw [q];simp)
    subst e'
    rw [hK (by rw [q];simp)] at e;cases e)
  have hM:Mod K mg (jH s₁.heap H):=⟨hKb,nsK hns,⟨mb,nsK hb,hbb⟩,let ⟨mc,h1,h2⟩:=hlim;⟨mc,nsK h1,h2⟩⟩
  have e0:hJ P w K mg (jH s₁.heap H) callerA [] s₁ H:=⟨rfl,hM,λb o e=>tI e,Nat.le_of_eq (oj _ _),trivial,λb hb=>absurd (show b∈([]:List Addr) from hb) (by simp),hok,.of_eq hg⟩
  refine codeAny_mono ((F _ hKb (nsK hns)).run callerA [] s₁ H ⟨[.ref a],[]⟩ [.ref a] [.ref a] _ _ hr e0 (hbind s₁ (.ref a)) (.cons rfl .nil) (hsp H hO hS)) λr s' h=>?_
  cases r with
  | error e=>exact (hCX H e s' h).elim
  | ok fl =>
   cases fl with
   | next=>exact False.elim h
   | brk=>exact False.elim h
   | cont=>exact False.elim h
   | ret u =>
    obtain⟨v,H',os,bare,un,hok',r',q⟩:=h
    have q':v=.bl true:=q
    subst q'
    obtain rfl:u=Value.bool true:=r'
    refine⟨rfl,OldK.of_keep λb o e=>?_,os,bare⟩
    cases q:H b with
    | none=>exact un.keep b o e q (by intro z;exact absurd (show b∈([]:List Addr) from z) (by simp)) (by simp)
    | some u =>
     rcases hO b with z | ⟨ob,xs,z⟩
     ·rw [q] at z;cases z
     ·have z2:=un.frzs b ob _ z
      obtain⟨e1,_⟩:=hok b _ z
      obtain⟨e2,_⟩:=hok' b _ z2
      rw [e] at e1;cases e1
      exact e2
 cases hk:K.lookup a with
 | some o =>
  -- the script is one of the module's own objects
  have e:=KX a o hk
  rw [ha] at e
  cases e
  refine core (λ_=>none) (λ_=>.inl rfl) (.inr ⟨_,vs.toArray,_,hk,rfl,rfl,rfl,by rw [List.size_toArray,lenV];exact hl,by simpa using rv⟩) (λb u z=>by have z':(none:Option HO)=some u:=z;cases z') (λb z=>absurd rfl z) λz=>absurd rfl z
 | none =>
  refine core (λb=>if b=a then some (.frz { cls:=.type "list",data:=.seq vs.toArray } (.lst (ns.map V.int))) else none) (λb=>?_) (.inl (.inr ⟨{ cls:=.type "list",data:=.seq vs.toArray },if_pos rfl⟩)) (λb u z=>?_) (λb z=>?_) λ_=>hk
  ·by_cases hb:b=a
   ·exact .inr ⟨_,_,if_pos hb⟩
   ·exact .inl (if_neg hb)
  ·by_cases hb:b=a
   ·have z':=(if_pos hb).symm.trans z
    cases z'
    subst hb
    exact⟨ha,by rw [List.length_map];exact hl,vs,_,rv,ha⟩
   ·have z':=(if_neg hb).symm.trans z
    cases z'
  ·by_cases hb:b=a
   ·exact hb
   ·exact absurd (if_neg hb) z
abbrev fX {K:PySem.W.Frag} {h:Heap} (_:K.In h):PySem.W.Frag:=K
theorem nG {l:PySem.W.OpenLaw} {n k:Nat} {q:Program} {loose:List Str} {XP:(Str->Option Value)->Heap->Prop} {YP:World->Heap->Prop} {d:DefRec} {K:Params->PySem.W.Frag} {CX:World->eP} {sp:World->Sp} {x:Str}
  (hn:l.most=some n) (hn2:n<=sizeLine) (hdf:d.params.defaults=[]) (hr:bq k callerA)
  (hY:∀(w:World) (h:Heap),YP w h->(K w.params).In h)
  (F:∀(w:World) (mg:Str->Option Value) (fa:Addr) (h:Heap),(K w.params).In h->h.Ns mainGlobals mg->mg d.name=some (.ref fa) ->
   ∃ fd:FuncData,(∀(s:Shared) (u:Value),BindsTo s fd ⟨[u],[]⟩ [(x,u)]) /\
    ∀ base:Heap,(K w.params).In base->base.Ns mainGlobals mg->cp l.prog w (K w.params) mg base (CX w) k fa fd [x] (sp w))
  (hsp:∀(w:World) (H:Hp) (a:Addr) (ns:List Int),ns.length<=n->sr H->aP (K w.params) H a (ns.map V.int)->sp w [.ref a] H (λv _=>v=.bl true) λ_ _ _=>False)
  (hCX:∀(w:World) (H:Hp) (s:Shared) (e:Value) (s':Shared),CX w [] H s (λ_ _ _=>False) e s'->False) :
  PySem.W.WalkO q loose XP YP l.row.toRowW d [] (λf vs=>PySem.call f vs):=by
 refine Att.kg hn hdf λw s₀ s₁ mg mb fa o pm cd doc a vs ns G Y ho hd hcd hmg hobj hints hlen hg=>?_
 have KX:=hY w _ Y
 obtain⟨fd,hb,hF⟩:=F w mg fa _ KX G.T.g hmg
 exact qe KX G.T.g G.T.b G.T.builtins G.T.nolimit hg hobj hints (Nat.le_trans hlen hn2) hr hF hb (λH hO hS=>hsp w H a ns hlen hO hS) λH e s'=>hCX w H s₁ e s'
theorem rT {l:PySem.W.OpenLaw} {n k:Nat} {q:Program} {loose:List Str} {XP:(Str->Option Value)->Heap->Prop} {YP:World->Heap->Prop} {d:DefRec} {K:Params->PySem.W.Frag} {CX:eP} {sp:PySem.W.Frag->Sp} {x:Str}
  (hn:l.most=some n) (hn2:n<=sizeLine) (hdf:d.params.defaults=[]) (hr:bq k callerA)
  (hY:∀(w:World) (h:Heap),YP w h->(K w.params).In h)
  (F:∀(w:World) (mg:Str->Option Value) (fa:Addr) (h:Heap),(K w.params).In h->h.Ns mainGlobals mg->mg d.name=some (.ref fa) ->
   ∃ fd:FuncData,(∀(s:Shared) (u:Value),BindsTo s fd ⟨[u],[]⟩ [(x,u)]) /\
    ∀ base:Heap,(K w.params).In base->base.Ns mainGlobals mg->cp l.prog w (K w.params) mg base CX k fa fd [x] (sp (K w.params)))
  (hsp:∀(K:PySem.W.Frag) (H:Hp) (a:Addr) (ns:List Int),ns.length<=n->sr H->aP K H a (ns.map V.int)->sp K [.ref a] H (λv _=>v=.bl true) λ_ _ _=>False)
  (hCX:∀(H:Hp) (s:Shared) (e:Value) (s':Shared),CX [] H s (λ_ _ _=>False) e s'->False) :
  PySem.W.WalkO q loose XP YP l.row.toRowW d [] (λf vs=>PySem.call f vs) :=
 nG (K:=K) (CX:=λ_=>CX) (sp:=λw=>sp (K w.params)) hn hn2 hdf hr hY F (λw H a ns h1 h2 h3=>hsp (K w.params) H a ns h1 h2 h3) λ_ H s e s'=>hCX H s e s'
end L2
/- THE LAST THEOREM (shape;LID,My.* are yours):
   My.Adr: a structure of the addresses that your layer names (classes,functions);My.Txt K t: a structure (Prop) of the equations over K;
   My.txt_mk:{K} {implicit addresses ..} (e1:nsIn K mainGlobals "law"=some (some (.ref f))) (e2:K.lookup f=some ⟨oc,od,.func (fnOf "law" "law" params body scope dV kV doc pm an cdv ct),sl⟩) (e3:codeIn K cdv "law"=true) ..:∃ t,My.Txt K t
set_option maxRecDepth 100000 in
set_option maxHeartbeats 0 in
theorem PySem.Challenge.cw_LID_holds : PySem.Challenge.rw_LID.Holds := by
 w_on;o_law;k_head;(case hw=>w_witness2)
 k_fill
 refine L2.nG (l:=PySem.Challenge.rw_LID) (n:=63) (k:=40) (x := "script") (CX:=λw=>..) (sp:=λ_=>My.sp_law) rfl (by decide) rfl ⟨rfl,by decide,by decide⟩ (λw h Y=>PySem.W.kIn_of Y) ?F ?S ?C
 case F =>
  intro w mg fa h KX G hmg
  have T:∃ t,My.Txt (L2.fX KX) t:=by
   dsimp only [L2.fX]                          -- K must stand as «<heap const> w.params» for k_is
   refine' My.txt_mk ?e1 ?e2 ?e3 ..
   (case e1=>PySem.W.k_is)                    -- in the order: a name -> its address -> its object -> its parts
   (case e2=>PySem.W.k_is)
   ..
  obtain⟨t,T⟩:=T
  have e0:=hmg.symm.trans (PySem.W.mg_of KX G T.law)
  cases e0                                       -- fa is the law's own address
  exact⟨_,λs u=>.of_eq rfl,λbase kb nb=>My.law_fn T kb nb⟩     -- if «.of_eq rfl» comes too early: refine' ⟨_,?b,λbase kb nb=>My.law_fn T kb nb⟩;exact λs u=>.of_eq rfl
 case S=>exact λw H a ns hl hO hS=>..
 case C=>exact ..
(the tactic k_is has no namespace: write k_is) -/
namespace L2
open PySem PySem.Spec PyProof.Rows
def inClass (s:Stmt) (j:Nat):Stmt:=match s with
 | .ClassDef _ _ _ body _ _ _ _ _ _ _=>body.getD j (.Pass ⟨0,0,0,0⟩)
 | _=>.Pass ⟨0,0,0,0⟩
def aV (s:Stmt):Arguments:=match s with
 | .FunctionDef _ a _ _ _ _ _ _ _ _=>a
 | _=>{ posonlyargs:=[],args:=[],vararg:=none,kwonlyargs:=[],kw_defaults:=[],kwarg:=none,defaults:=[] }
def aG (s:Stmt):List Stmt:=match s with
 | .FunctionDef _ _ b _ _ _ _ _ _ _=>b
 | _=>[]
def ai (s:Stmt):Scope:=match s with
 | .FunctionDef _ _ _ _ _ _ sc _ _ _=>sc
 | _=>{ kind:=.function,names:=[],isGenerator:=false,isCoroutine:=false }
abbrev ba:eP:=λ_ _ _ _ _ _=>False
abbrev E0:XK:=λ_ _ _=>False
theorem aD {X:Cx}:Passes ba X E0:=λ_ _ _ _ _ _ _ h=>h.elim
structure pd (K:PySem.W.Frag) (x qual:Str) (st:Stmt) (f:Addr) (fd:FuncData):Prop where
 ex:∃(oc:Value) (od:Option Addr) (kV doc pm:Value) (an:Option Addr) (cdv ct:Value) (osl:Array (Option Value)),
  fd=PySem.W.fnOf x qual (aV st) (aG st) (ai st) .none kV doc pm an cdv ct/\K.lookup f=some ⟨oc,od,.func fd,osl⟩/\PySem.W.codeIn K cdv qual=true
 kp:PySem.W.keepIn K (.ref f)=true
section
variable {P:Program} {w:World} {K:PySem.W.Frag} {mg:Str->Option Value} {base:Heap}
theorem pd.ok {x qual:Str} {st:Stmt} {f:Addr} {fd:FuncData} {N ps:List Str} {k:Nat} {sp:Sp} (F:pd K x qual st f fd) (S:az N ps (ai st)) (len:∀ vs H Q E,sp vs H Q E->vs.length=ps.length)
  (hbody:∀(cdv:Value) (A:Around) (outer:List Env) (s:Shared) (H:Hp) (vs:List V) (Q:VK) (E:XK),bq k (A.deeper (envOfC qual (ai st) s.heap.objs.size f cdv))->sp vs H Q E ->
   ∃ t,fU (cQ ba P w K mg base N qual (ai st) f cdv A outer s H E).iJ (aG st) t/\t { nx:=λ_ H'=>Q .aQ H',rt:=Q } (start N vs) H):cp P w K mg base ba (k+1) f fd ps sp:=by
 obtain⟨oc,od,kV,doc,pm,an,cdv,ct,osl,rfl,lk,hcd⟩:=F.ex
 refine uW lk hcd S len λA outer s H vs Q E hr hsp=>?_
 obtain⟨t,h,q⟩:=hbody cdv A outer s H vs Q E hr hsp
 exact⟨t,h.iJ,q⟩
theorem pd.binds {x qual:Str} {st:Stmt} {f:Addr} {fd:FuncData} {ps:List Str} (F:pd K x qual st f fd)
  (h:∀(kV doc pm:Value) (an:Option Addr) (cdv ct:Value) (us:List Value),us.length=ps.length->bindArgs (PySem.W.fnOf x qual (aV st) (aG st) (ai st) .none kV doc pm an cdv ct) ⟨us,[]⟩=pure (ps.zip us)):Binds K fd ps []:=by
 obtain⟨oc,od,kV,doc,pm,an,cdv,ct,osl,rfl,lk,hcd⟩:=F.ex
 exact .all (h kV doc pm an cdv ct)
theorem lB {x qual:Str} {st:Stmt} {f:Addr} {oc:Value} {od an:Option Addr} {osl:Array (Option Value)} {kV doc pm cdv ct:Value} (l:K.lookup f=some ⟨oc,od,.func (PySem.W.fnOf x qual (aV st) (aG st) (ai st) .none kV doc pm an cdv ct),osl⟩)
  (c:PySem.W.codeIn K cdv qual=true) (k:PySem.W.keepIn K (.ref f)=true):pd K x qual st f (PySem.W.fnOf x qual (aV st) (aG st) (ai st) .none kV doc pm an cdv ct):=⟨⟨oc,od,kV,doc,pm,an,cdv,ct,osl,rfl,l,c⟩,k⟩
end
theorem gD {A:Around} {k:Nat} (hr:bq k A):A.units+1<cLine:=Nat.lt_of_le_of_lt (Nat.add_le_add_left (by decide:1<=64) _) hr.units
section
variable {X:Cx}
theorem pv (i:Nat) {x:Str} {pos:Pos} (hN:X.N[i]?=some x:=by rfl) (hv:vF X.env.scope x:=by first | exact Or.inl rfl | exact Or.inr (Or.inl rfl) | exact Or.inr (Or.inr rfl)) (hd:(x==("__debug__":Str))=false:=by decide)
  (hcd:(x==("__classdict__":Str))=false:=by decide):PE X (.Name x pos) (gL i):=eW hN hv hd hcd
end
theorem aM {c A B:Prop} [Decidable c] (h1:c->A) (h2:¬c->B):if c then A else B:=by
 by_cases h:c
 ·rw [if_pos h]
  exact h1 h
 ·rw [if_neg h]
  exact h2 h
def aF (H H':Hp):Prop:=∀ b o,H b=some o->H' b=some o
theorem aF.refl (H:Hp):aF H H:=λ_ _ h=>h
theorem aF.trans {H H1 H2:Hp} (a:aF H H1) (b:aF H1 H2):aF H H2:=λc o h=>b c o (a c o h)
theorem aF.free {H H':Hp} (e:aF H H') {l:Addr} (h:H' l=Option.none):H l=Option.none:=by
 cases q:H l with
 | none=>rfl
 | some o =>
  rw [e l o q] at h
  cases h
end L2
set_option maxHeartbeats 1000000
namespace L2
open PySem PySem.Spec PyProof.Rows
theorem jD {Ex:Value->Shared->Prop} {prog:Program} {w:World} {A:Around} {R:Result->Shared->Prop} {s:Shared} {elt target:Expr} {gens:List Comprehension} {scope:Scope} {pos ps:Pos} {ifs:List Expr} {d:Nat} {B:Sem Unit} {it acc:Value} {env:Env} (I:Nat->Shared->Prop)
  (ht:compTurn (.ListComp elt gens scope pos) d it acc env=(do
   standAt ps
   match <- pyNext it with
   | none=>pure (.done .next)
   | some v =>
    letOwnedTupleGo target it v
    assign target env v
    let mut ok:=true
    for c in ifs do
     if ok then ok <- isTrue c env (eval c env)
    if ok then B
    again (.compLoop (.ListComp elt gens scope pos) d it acc env)))
  (turn:∀ n s,I n s->wpAny (model prog w) A (pyNext it) (λr s₁=>match r with
   | none=>R (.ok .next) s₁
   | some v=>wpAny (model prog w) A (letOwnedTupleGo target it v) (λ_ s₁'=>wpAny (model prog w) A (assign target env v) (λ_ s₂ =>
     wpAny (model prog w) A (forIn ifs true λc r=>if r=true then do let ok <- isTrue c env (eval c env);pure (ForInStep.yield ok) else pure (ForInStep.yield r)) (λok s₃ =>
      if ok=true then wpAny (model prog w) A B (λ_ s₅=>∃ m,m<n/\I m s₅) Ex s₃
      else ∃ m,m<n/\I m s₃) Ex s₂) Ex s₁') Ex s₁) Ex s)
  (n:Nat) (h:I n s) (hE:∀ e s',Ex e s'->notedBy (model prog w) A env (λe s''=>R (.error e) s'') e s') :
  codeAny (model prog w) A (.compLoop (.ListComp elt gens scope pos) d it acc env) R s:=by
 refine codeAny_loop rfl I (λn s hI=>?_) n h
 show wpAny _ A ((compTurn (.ListComp elt gens scope pos) d it acc env).onRaise (λx=>do noteFrame x env;theTreesLotGoes x)) _ _ s
 refine wpAny_noted ?_
 rw [ht]
 refine wpAny_bind (wpAny_standAt (wpAny_bind (wpAny_mono (turn n s hI) (λr s₁ h₁=>?_) λ_ _ h'=>hE _ _ h')))
 cases r with
 | none=>exact wpAny_pure h₁
 | some v =>
  refine wpAny_bind (wpAny_mono h₁ (λ_ s₁' h₁'=>?_) λ_ _ h'=>hE _ _ h')
  refine wpAny_bind (wpAny_mono h₁' (λ_ s₂ h₂=>wpAny_bind (wpAny_mono h₂ (λok s₃ h₃=>?_) λ_ _ h'=>hE _ _ h')) λ_ _ h'=>hE _ _ h')
  cases ok with
  | false=>exact wpAny_pure ⟨rfl,h₃⟩
  | true=>exact wpAny_bind (wpAny_mono h₃ (λ_ s₅ h₅=>wpAny_pure ⟨rfl,h₅⟩) λ_ _ h'=>hE _ _ h')
def mr (elt:Expr) (acc:Value) (env:Env):Sem Unit:=do let _ <- call (.builtin "list.append") [acc,<- eval elt env]
theorem rR (elt target iter:Expr) (ifs:List Expr) (scope:Scope) (pos:Pos) (it acc:Value) (env:Env) :
  compTurn (.ListComp elt [⟨target,iter,ifs,0⟩] scope pos) 0 it acc env=(do
   standAt iter.pos
   match <- pyNext it with
   | none=>pure (.done .next)
   | some v =>
    letOwnedTupleGo target it v
    assign target env v
    let mut ok:=true
    for c in ifs do
     if ok then ok <- isTrue c env (eval c env)
    if ok then mr elt acc env
    again (.compLoop (.ListComp elt [⟨target,iter,ifs,0⟩] scope pos) 0 it acc env)):=by rfl
def bL (X:Cx) (Ex:Value->Shared->Prop) (N':List Str) (scope:Scope) (cl:List (Str × Addr)) (C:Addr) (s₂:Shared) (H₂:Hp) (fp:List Addr):Cx :=
 { X with N:=N',s₀:=s₂,H₀:=H₂,env:=compEnvC scope (cellsFrom (C+1) scope.names cl) C X.env,outer:=X.stack,stack:=X.stack,ex:=fp,fn:=λx=>scope.names.lookup x==some .cell,pn:=[],xe:=Ex }
abbrev jC (X:Cx):=bL X λ_ _=>False
def AllIn (env:Env):List (Str × Addr)->Prop
 | []=>True
 | p::r=>env.cells.lookup p.1=some p.2/\AllIn env r
theorem AllIn.get {env:Env}:∀{l:List (Str × Addr)},AllIn env l->∀ y c,l.lookup y=some c->env.cells.lookup y=some c
 | [],_,_,_,h=>by simp at h
 | (z,d)::r,a,y,c,h=>by
  rw [List.lookup_cons] at h
  cases e:y==z with
  | true =>
   rw [e] at h
   have q:y=z:=by simpa using e
   subst q
   cases h
   exact a.1
  | false =>
   rw [e] at h
   exact AllIn.get a.2 y c h
def cy (js:List (Option Nat)) (σ:St):St:=js.map λo=>match o with | none=>none | some j=>(σ[j]?).join
structure gZ (X:Cx) (N':List Str) (js:List (Option Nat)) (scope:Scope) (cl:List (Str × Addr)):Prop where
 clos:closureFor scope X.env=pure cl
 kind:scope.kind=.function
 nocell:∀ y∈scope.names,y.2=.cell->scope.names.lookup y.1=some .cell/\∀ p∈js.zip N',p.1.isSome=true->p.2≠y.1
 names:∀ y∈scope.names,y.2=.local->scope.names.lookup y.1=some .local
 sub:AllIn X.env cl
 has:∀ y∈scope.names,y.2=.free->(cl.lookup y.1).isSome=true
 jlen:js.length=N'.length
 jok:∀(i j:Nat) x,js[i]?=some (some j)->N'[i]?=some x->X.N[j]?=some x/\(cl.lookup x).isSome=true/\vF X.env.scope x/\X.env.kindOf x≠some .local/\((relabel scope X.env).names.lookup x=some .cell∨(relabel scope X.env).names.lookup x=some .free)
theorem gE {scope:Scope} {env:Env} {x:Str} {k:NameKind} (h:(relabel scope env).names.lookup x=some k) (hk:k=.cell∨k=.free):∃ y∈scope.names,y.1=x/\(y.2=.free∨y.2=.cell):=by
 have hm:=PySem.mem_of_lookup h
 obtain⟨⟨n,q⟩,hm',e⟩:=List.mem_map.mp hm
 dsimp only at e
 split at e
 ·rename_i hc
  have e1:n=x:=congrArg Prod.fst e
  refine⟨(n,q),hm',e1,.inl ?_⟩
  have:(q==NameKind.free)=true:=by
   simp only [Bool.and_eq_true] at hc
   exact hc.1.1
  simpa using this
 ·have e1:n=x:=congrArg Prod.fst e
  have e2:q=k:=congrArg Prod.snd e
  refine⟨(n,q),hm',e1,?_⟩
  rcases hk with hk | hk
  ·exact .inr (e2.trans hk)
  ·exact .inl (e2.trans hk)
theorem fk {x:Str} {c:Addr}:∀(ns:List (Str × NameKind)) (n:Nat) (acc:List (Str × Addr)),(cellsFrom n ns acc).lookup x=some c->acc.lookup x=some c∨n<=c
 | [],_,_,h=>.inl h
 | (y,k)::r,n,acc,h=>by
  unfold cellsFrom at h
  split at h
  ·rcases fk r _ _ h with z | z
   ·rw [List.lookup_cons] at z
    split at z
    ·cases z;exact .inr (Nat.le_refl _)
    ·exact .inl z
   ·exact .inr (Nat.le_of_succ_le z)
  ·exact fk r _ _ h
theorem lq {x:Str} {c:Addr}:∀(ns:List (Str × NameKind)) (n:Nat) (acc:List (Str × Addr)),ns.lookup x=some .cell->(cellsFrom n ns acc).lookup x=some c->n<=c
 | [],_,_,h,_=>by cases h
 | (y,k)::r,n,acc,h,e=>by
  rw [List.lookup_cons] at h
  unfold cellsFrom at e
  split at h
  ·rename_i hy
   cases h
   rcases fk r _ _ e with z | z
   ·rw [List.lookup_cons,hy] at z
    cases z;exact Nat.le_refl _
   ·exact Nat.le_of_succ_le z
  ·split at e
   ·exact Nat.le_of_succ_le (lq r _ _ h e)
   ·exact lq r _ _ h e
theorem jB {x:Str}:∀(ns:List (Str × NameKind)) (n:Nat) (acc:List (Str × Addr)),(∀ y∈ns,y.2=.cell->x≠y.1)->(cellsFrom n ns acc).lookup x=acc.lookup x
 | [],_,_,_=>rfl
 | (y,k)::r,n,acc,h=>by
  unfold cellsFrom
  split
  ·rename_i hk
   rw [jB r _ _ λz hz=>h z (List.mem_cons_of_mem _ hz),List.lookup_cons]
   have:(x==y)=false:=by simpa using h (y,k) List.mem_cons_self (by simpa using hk)
   rw [this]
  ·exact jB r _ _ λz hz=>h z (List.mem_cons_of_mem _ hz)
theorem lj:∀(ns:List (Str × NameKind)) (n:Nat) (acc:List (Str × Addr)),(∀ x c,acc.lookup x=some c->c<n)->(∀ x y c,acc.lookup x=some c->acc.lookup y=some c->x=y) ->
  ∀ x y c,(cellsFrom n ns acc).lookup x=some c->(cellsFrom n ns acc).lookup y=some c->x=y
 | [],_,_,_,h=>h
 | (z,k)::r,n,acc,hl,hi=>by
  unfold cellsFrom
  split
  ·refine lj r _ _ (λx c e=>?_) λx y c e1 e2=>?_
   ·rw [List.lookup_cons] at e
    split at e
    ·cases e;exact Nat.lt_succ_self _
    ·exact Nat.lt_succ_of_lt (hl x c e)
   ·rw [List.lookup_cons] at e1 e2
    split at e1<;>split at e2
    ·rename_i a _ b
     rw [eq_of_beq a,eq_of_beq b]
    ·cases e1;exact absurd (hl y _ e2) (Nat.lt_irrefl _)
    ·cases e2;exact absurd (hl x _ e1) (Nat.lt_irrefl _)
    ·exact hi x y c e1 e2
  ·exact lj r _ _ hl hi
theorem jA:∀(ns:List (Str × NameKind)) (h:Heap) (acc:List (Str × Addr)),(∀ x c,acc.lookup x=some c->∃ v,h.IsCell c v)->∀ x c,(cellsFrom h.objs.size ns acc).lookup x=some c->∃ v,(pushCells h ns).IsCell c v
 | [],_,_,h=>h
 | (z,k)::r,h,acc,hl=>by
  unfold cellsFrom pushCells
  split
  ·have:=jA r (h.push { cls:=.type "cell",data:=.cell none }) ((z,h.objs.size)::acc) λx c e=>by
    rw [List.lookup_cons] at e
    split at e
    ·cases e;exact⟨none,_,Heap.get?_push_size _ rfl,rfl⟩
    ·obtain⟨v,q⟩:=hl x c e
     exact⟨v,q.keeps λb o e=>Heap.get?_push_of_some _ e⟩
   rwa [Heap.size_push] at this
  ·exact jA r h acc hl
theorem iW {M:Model} {A:Around} {E:Value->Shared->Prop} {s:Shared} {scope:Scope} {g:Addr} {cl:List (Str × Addr)} {qual:Str} {env:Env} {Q:Env->Shared->Prop}
  (h:Q (newEnv scope s.heap.objs.size g (cellsFrom (s.heap.objs.size+1) scope.names cl) qual none .none (some env) builtinsNs) { s with heap:=pushCells (s.heap.push { cls:=.type "dict",data:=.dict #[] }) scope.names }) :
  wpAny M A (newFunctionEnv scope g cl [] qual none .none (some env)) Q E s:=by
 simp only [newFunctionEnv,Option.isSome_some,if_true]
 refine wpAny_bind (wpAny_alloc ?_)
 refine wpAny_bind (wpAny_layCells _ (λname kind cells=>by cases hkc:kind==NameKind.cell<;>simp [hkc]) _ _ _ _ ?_)
 rw [show ({ s with heap:=s.heap.push { cls:=.type "dict",data:=.dict #[] } }:Shared).heap.objs.size=s.heap.objs.size+1 from Heap.size_push ..]
 exact wpAny_bind (wpAny_pure (wpAny_pure h))
def lobj (ys:List Value):Obj:={ cls:=.type "list",data:=.seq ys.toArray ys.length }
def su (X:Cx) (ifs:List Expr) (t:TT):Prop :=
 ∀(pins:List (Addr × Obj)) (s:Shared) (σ:St) (H:Hp) (Q:Bool->Hp->Prop),Inv X pins σ H s->t σ H Q ->
  wpAny (model X.prog X.w) X.A (forIn ifs true λc r=>if r=true then do let ok <- isTrue c X.env (eval c X.env);pure (ForInStep.yield ok) else pure (ForInStep.yield r)) (TP X pins σ Q) X.xe s
def ny:TT:=λ_ H Q=>Q true H
theorem kI {X:Cx}:su X [] ny:=λpins s σ H Q I h=>wpAny_tests_nil ⟨H,I,h⟩
def bB:List (Option V)->List (Option V)->Prop
 | [],[]=>True
 | none::r,_::r'=>bB r r'
 | some v::r,some u::r'=>u=v/\bB r r'
 | _,_=>False
theorem bB.len:∀{a b:List (Option V)},bB a b->a.length=b.length
 | [],[],_=>rfl
 | none::r,_::r',h=>by simp [bB.len (a:=r) (b:=r') h]
 | some v::r,some u::r',h=>by simp [bB.len (a:=r) (b:=r') h.2]
 | some v::r,none::r',h=>h.elim
 | some v::r,[],h=>h.elim
 | none::r,[],h=>h.elim
 | [],_::_,h=>h.elim
theorem bB.get:∀{a b:List (Option V)},bB a b->∀(i:Nat) v,a[i]?=some (some v)->b[i]?=some (some v)
 | [],[],_,i,v,h=>by simp at h
 | none::r,_::r',h,0,v,e=>by simp at e
 | none::r,_::r',h,i+1,v,e=>by
  have:=bB.get (a:=r) (b:=r') h i v (by simpa using e)
  simpa using this
 | some v::r,some u::r',h,0,v',e=>by
  have q:v=v':=by simpa using e
  have:=h.1
  simp [this,q]
 | some v::r,some u::r',h,i+1,v',e=>by
  have:=bB.get (a:=r) (b:=r') h.2 i v' (by simpa using e)
  simpa using this
 | some v::r,none::r',h,_,_,_=>h.elim
 | some v::r,[],h,_,_,_=>h.elim
 | none::r,[],h,_,_,_=>h.elim
 | [],_::_,h,_,_,_=>h.elim
def Ai (js:List (Option Nat)) (wi:TI) (g:TG) (tt:TT) (te:TE):TE:=λσ H Q=>wi σ H λJ H1=>∃ W:Nat->Nat->List V->Hp->Prop,(∃ m,W 0 m [] H1)/\∀ i m ys H,W i m ys H ->
 (J.stop i H/\ys.length<=sizeLine/\∀ p,H p=none->Q (.ref p) (upd H p (.lst ys))) ∨
 (J.go i H/\ys.length<sizeLine/\∃ N:List V->Hp->Prop,(∀ ys' H',N ys' H'->∃ m',m'<m/\W (i+1) m' ys' H') /\
  ∀ x H',J.yld i H x H'->g x (cy js σ) H' λσ2 H2=>bB (cy js σ) σ2/\tt σ2 H2 λb H3=>if b=true then te σ2 H3 λv H4=>N (ys++[v]) H4 else N ys H3)
structure kY (X:Cx) (C:Addr) (s₂:Shared) (H₂:Hp) (fp:List Addr):Prop where
 inv:∃ pins σ,Inv X pins σ H₂ s₂
 new:∀ b∈fp,X.s₀.heap.objs.size<=b∨b∈X.ex
 nof:∀ b∈eS X.stack,b∉fp
 le:s₂.heap.objs.size<=C
def vA (X:Cx) (elt target:Expr) (gens:List Comprehension) (ifs:List Expr) (scope:Scope) (pos:Pos) (Bd:(Value->Shared->Prop)->Value->Env->(Shared->Prop)->Shared->Prop):Prop :=
 ∀(Ex:Value->Shared->Prop) (R:Result->Shared->Prop) (s:Shared) (it acc:Value) (env:Env) (I:Nat->Shared->Prop),
  (∀ n s,I n s->wpAny (model X.prog X.w) X.A (pyNext it) (λr s₁=>match r with
   | none=>R (.ok .next) s₁
   | some v=>wpAny (model X.prog X.w) X.A (letOwnedTupleGo target it v) (λ_ s₁'=>wpAny (model X.prog X.w) X.A (assign target env v) (λ_ s₂ =>
     wpAny (model X.prog X.w) X.A (forIn ifs true λc r=>if r=true then do let ok <- isTrue c env (eval c env);pure (ForInStep.yield ok) else pure (ForInStep.yield r)) (λok s₃ =>
      if ok=true then Bd Ex acc env (λs₅=>∃ m,m<n/\I m s₅) s₃ else ∃ m,m<n/\I m s₃) Ex s₂) Ex s₁') Ex s₁) Ex s) ->
  ∀ n,I n s->(∀ e s',Ex e s'->notedBy (model X.prog X.w) X.A env (λe s''=>R (.error e) s'') e s')->codeAny (model X.prog X.w) X.A (.compLoop (.ListComp elt gens scope pos) 0 it acc env) R s
structure mi (Y:Cx) (D:Addr) (P:List (Addr × Obj)):Prop where
 ne:∀ p∈P,p.1≠D
 new:Y.s₀.heap.objs.size<=D
 cell:∀ x c,Y.env.cells.lookup x=some c->c≠D
theorem we {X:Cx} {Ex:Addr->Shared->Hp->List Addr->Value->Shared->Prop} {elt target iter:Expr} {rest:List Comprehension} {ifs:List Expr} {scope:Scope} {pos:Pos} {N':List Str} {js:List (Option Nat)} {cl:List (Str × Addr)} {g:TG} {tt:TT} {Cc:List V->Prop} {tb:List V->St->Hp->(List V->Hp->Prop)->Prop} {Bd:(Value->Shared->Prop)->Value->Env->(Shared->Prop)->Shared->Prop} (hcalm:X.calm=true) (hloop:vA X elt target (⟨target,iter,ifs,0⟩::rest) ifs scope pos Bd)
  (K:gZ X N' js scope cl)
  (hg:∀ C s₂ H₂ fp,kY X C s₂ H₂ fp->PG (bL X (Ex C s₂ H₂ fp) N' scope cl C s₂ H₂ fp) target g) (ht:∀ C s₂ H₂ fp,kY X C s₂ H₂ fp->su (bL X (Ex C s₂ H₂ fp) N' scope cl C s₂ H₂ fp) ifs tt) (hB:∀ C s₂ H₂ fp,kY X C s₂ H₂ fp->∀(D:Addr) ys vys P σ H s N Ps,Inv (bL X (Ex C s₂ H₂ fp) N' scope cl C s₂ H₂ fp) ([(D,lobj ys)]++P) σ H s->Vals vys ys->mi (bL X (Ex C s₂ H₂ fp) N' scope cl C s₂ H₂ fp) D P->Cc vys->tb vys σ H N ->
   (∀ ys' vys' H' s',Inv (bL X (Ex C s₂ H₂ fp) N' scope cl C s₂ H₂ fp) ([(D,lobj ys')]++P) σ H' s'->Vals vys' ys'->N vys' H'->Ps s')->Bd (Ex C s₂ H₂ fp) (.ref D) (bL X (Ex C s₂ H₂ fp) N' scope cl C s₂ H₂ fp).env Ps s)
  (herr:∀ C s₂ H₂ fp use Q' acc e s',Ex C s₂ H₂ fp e s'->notedBy (model X.prog X.w) X.A (compEnvC scope (cellsFrom (C+1) scope.names cl) C X.env) (λe s''=>compPost (model X.prog X.w) X.A X.xe use Q' acc C (.error e) s'') e s')
  {pins:List (Addr × Obj)} {σ:St} {Q:VK} {use:Option (Value->Sem Unit)} {Q':Value->Shared->Prop} {itv:Value} {s2:Shared}
  (h2:xP X pins σ target (λJ H1=>∃ W:Nat->Nat->List V->Hp->Prop,(∃ m,W 0 m [] H1)/\∀ i m ys H,W i m ys H ->
 (J.stop i H/\ys.length<=sizeLine/\∀ p,H p=none->Q (.ref p) (upd H p (.lst ys))) ∨
 (J.go i H/\Cc ys/\∃ N:List V->Hp->Prop,(∀ ys' H',N ys' H'->∃ m',m'<m/\W (i+1) m' ys' H') /\
  ∀ x H',J.yld i H x H'->g x (cy js σ) H' λσ2 H2=>bB (cy js σ) σ2/\tt σ2 H2 λb H3=>if b=true then tb ys σ2 H3 N else N ys H3)) itv s2)
  (hok:∀ C D vys H4 s5,(∃ m,s5.heap.Ns C m)->s2.heap.objs.size<=D->D<=C->D≠C->H4 D=none->H4 C=none->(∀ h',Heap.SameBut C s5.heap h'->Inv X pins σ (upd H4 D (.lst vys)) { s5 with heap:=h' })->Q (.ref D) (upd H4 D (.lst vys))->compPost (model X.prog X.w) X.A X.xe use Q' (.ref D) C (.ok .next) s5) :
  wpAny (model X.prog X.w) X.A (newList []) (λacc s₃=>wpAny (model X.prog X.w) X.A (newFunctionEnv scope X.env.globals cl [] X.env.qual none .none (some X.env)) (λcenv s₄ =>
   codeAny (model X.prog X.w) X.A (.compStart (.ListComp elt (⟨target,iter,ifs,0⟩::rest) scope pos) 0 itv acc { cenv with scope:=relabel scope X.env }) (compPost (model X.prog X.w) X.A X.xe use Q' acc cenv.locals) s₄) X.xe s₃) X.xe s2:=by
 obtain⟨it,fp,tn,J,H2,e,I2,T,st2,f2,W,⟨m0,w0⟩,turn⟩:=h2
 subst e
 refine wpAny_newObj_type (iW ?_)
 dsimp only
 generalize hP2:s2.heap.push { cls:=.type "list",dict:=none,data:=.seq ([]:List Value).toArray }=P2
 generalize hh₁:pushCells (P2.push { cls:=.type "dict",data:=.dict #[] }) scope.names=h₁
 have hns₁:h₁.Ns P2.objs.size λ_=>none:=hh₁▸(Heap.Ns.new P2 (.type "dict")).keeps (pushCells_keeps _ _)
 have upP:∀ b o,P2.get? b=some o->h₁.get? b=some o:=λb o e=>hh₁▸pushCells_keeps _ _ b o (Heap.get?_push_of_some _ e)
 have hcel:∀ x c,(cellsFrom (P2.objs.size+1) scope.names cl).lookup x=some c->∃ v,h₁.IsCell c v:=by
  have:=jA scope.names (P2.push { cls:=.type "dict",data:=.dict #[] }) cl λx c e=>by
   obtain⟨v,q⟩:=I2.cell x c (K.sub.get x c e)
   exact⟨v,q.keeps λb o e=>Heap.get?_push_of_some _ (hP2▸Heap.get?_push_of_some _ e)⟩
  rw [Heap.size_push,hh₁] at this
  exact this
 have hC:P2.objs.size=s2.heap.objs.size+1:=by rw [<- hP2,Heap.size_push]
 have hDC:s2.heap.objs.size≠P2.objs.size:=by rw [hC];exact Nat.ne_of_lt (Nat.lt_succ_self _)
 have below:∀ b,b<s2.heap.objs.size->b≠P2.objs.size/\b≠s2.heap.objs.size:=λb hb=>⟨by rw [hC];exact Nat.ne_of_lt (Nat.lt_succ_of_lt hb),Nat.ne_of_lt hb⟩
 have old:∀ b o,s2.heap.get? b=some o->h₁.get? b=some o:=λb o e=>upP b o (hP2▸Heap.get?_push_of_some _ e)
 have hacc:h₁.get? s2.heap.objs.size=some (lobj []):=upP _ _ (hP2▸Heap.get?_push_size _ rfl)
 generalize hCe:P2.objs.size=C at *
 generalize hDe:s2.heap.objs.size=D at *
 let Y:Cx:=bL X (Ex C s2 H2 fp) N' scope cl C s2 H2 fp
 have clLt:∀ y c,cl.lookup y=some c->c<D:=λy c e=>by
  obtain⟨v,q⟩:=I2.cell y c (K.sub.get y c e)
  rw [<- hDe]
  exact q.lt
 have cellsX:∀ y c,Y.env.cells.lookup y=some c->cl.lookup y=some c∨C+1<=c:=λy c e=>fk _ _ _ e
 have cellNe:∀ y c,Y.env.cells.lookup y=some c->c≠D:=λy c e=>by
  rcases cellsX y c e with z | z
  ·exact Nat.ne_of_lt (clLt y c z)
  ·exact Nat.ne_of_gt (by omega)
 have freshH:∀ a,D<=a->H2 a=none:=λa ha=>I2.hok.fresh (by rw [hDe];exact ha)
 have hDleC:D<=C:=by rw [hC];exact Nat.le_succ _
 have lc:kY X C s2 H2 fp:=⟨⟨pins,σ,I2⟩,λb hb=>((f2 b hb).2.2.2.1).symm,λb hf hb=>by
   rcases List.mem_cons.mp (I2.e9 b hf) with z | z
   ·exact (f2 b hb).2.1 z
   ·exact (f2 b hb).2.2.1 z,by rw [hDe];exact hDleC⟩
 have hbelowfp:∀ b∈fp,b<D:=λb hb=>by
  obtain⟨o,e,_⟩:=T.obj _ _ st2 b hb
  rw [<- hDe]
  exact Heap.lt_size e
 have okY:Y.Ok:=by
  refine⟨I2.ok.mod,K.kind,I2.ok.glob,I2.ok.blt,?_,lj _ _ _ (λx c e=>Nat.lt_succ_of_lt (Nat.lt_of_lt_of_le (clLt x c e) hDleC)) (λx y c e1 e2=>I2.ok.inj x y c (K.sub.get x c e1) (K.sub.get y c e2)),λx hx=>?_,λx c hf hc=>?_,I2.ok.hd,I2.ok.frames,.inl rfl,λb hb=>?_,I2.bs,Nat.le_trans I2.ok.bsz I2.sz,λb o e hb=>?_,λb hb hf=>?_,I2.stack,I2.fN⟩
  ·show s2.heap.objs.size<=C
   rw [hDe];exact hDleC
  ·have hx':(relabel scope X.env).names.lookup x=some .cell∨(relabel scope X.env).names.lookup x=some .free:=hx
   have:∃ y∈scope.names,y.1=x/\(y.2=.free∨y.2=.cell):=by
    rcases hx' with q | q
    ·exact gE q (.inl rfl)
    ·exact gE q (.inr rfl)
   obtain⟨y,hm,e1,e2⟩:=this
   refine Option.isSome_iff_exists.mp (PySem.W.cellsFrom_some _ _ _ ?_)
   rcases e2 with e2 | e2
   ·have q:=K.has y hm e2
    rw [e1] at q
    exact .inr q
   ·exact .inl (e1▸(K.nocell y hm e2).1)
  ·have hf':scope.names.lookup x=some .cell:=by simpa using (show (scope.names.lookup x==some .cell)=true from hf)
   have:=lq _ _ _ hf' hc
   show s2.heap.objs.size<=c
   rw [hDe];exact Nat.le_trans hDleC (Nat.le_of_succ_le this)
  ·refine⟨Nat.ne_of_lt (Nat.lt_of_lt_of_le (hbelowfp b hb) hDleC),λx c e=>?_⟩
   rcases cellsX x c e with z | z
   ·exact (f2 b hb).2.2.2.2.1 x c (K.sub.get x c z)
   ·exact Nat.ne_of_gt (Nat.lt_of_lt_of_le (Nat.lt_of_lt_of_le (hbelowfp b hb) hDleC) (Nat.le_of_succ_le z))
  ·rcases (f2 b hb).2.2.2.1 with z | z
   ·exact I2.ok.noex b o e z
   ·exact absurd (Nat.lt_of_lt_of_le (Heap.lt_size e) (Nat.le_trans I2.ok.bsz z)) (Nat.lt_irrefl _)
  ·rcases List.mem_cons.mp (I2.e9 b hf) with z | z
   ·exact (f2 b hb).2.1 z
   ·exact (f2 b hb).2.2.1 z
 -- the block's names
 have locY:∀{s':Shared} {H':Hp} {σ':St},True:=λ{_ _ _}=>trivial
 have invY0:Inv Y [(D,lobj [])] (cy js σ) H2 { s2 with heap:=h₁ }:=by
  refine⟨okY,rfl,I2.bare,Un.kept old,⟨_,hns₁,λi x v e1 e2 vis=>?_⟩,hcel,freshH C hDleC,λy c e=>?_,λp hp=>?_,I2.hok.kept old,?_⟩
  ·-- a name of the block that has a value stands outside in a cell
   have e2':(cy js σ)[i]?=some (some v):=e2
   unfold cy at e2'
   rw [List.getElem?_map] at e2'
   cases ej:js[i]? with
   | none=>rw [ej] at e2';cases e2'
   | some o =>
    rw [ej] at e2'
    cases o with
    | none=>cases e2'
    | some j =>
     obtain⟨n1,n2,n3,n4,n5⟩:=K.jok i j x ej e1
     have e3:(σ[j]?).join=some v:=by simpa using e2'
     have e4:σ[j]?=some (some v):=by
      cases q:σ[j]? with
      | none=>rw [q] at e3;cases e3
      | some z=>rw [q] at e3;simpa using e3
     obtain⟨m,hn,hl⟩:=I2.loc
     obtain⟨u,r,l⟩:=hl j x v n1 e4 n3
     refine⟨u,r,.inr ⟨n5,?_⟩⟩
     rcases l with⟨k,_⟩|⟨k,c,ec,z⟩
     ·exact absurd k n4
     ·obtain⟨c',ec'⟩:=Option.isSome_iff_exists.mp n2
      have ee:=K.sub.get x c' ec'
      rw [ec] at ee
      cases ee
      refine⟨c,(jB _ _ _ λy hy hk=>(K.nocell y hy hk).2 (some j,x) ?_ rfl).trans ec',?_⟩
      ·exact List.mem_of_getElem? (i:=i) (by rw [List.getElem?_zip_eq_some];exact⟨ej,e1⟩)
      obtain⟨o,ho,hd⟩:=z
      exact⟨o,old c o ho,hd⟩
  ·rcases cellsX y c e with z | z
   ·exact I2.freeC y c (K.sub.get y c z)
   ·exact freshH c (by omega)
  ·have hp':p∈[(D,lobj [])]:=hp
   have e:p=(D,lobj []):=by simpa using hp'
   subst e
   refine⟨hacc,freshH D (Nat.le_refl _),hDC,λz=>?_,λv z=>by cases z⟩
   rcases List.mem_cons.mp (I2.e9 D z) with q | q
   ·exact absurd (q▸I2.lt) (by rw [hDe];exact Nat.lt_irrefl _)
   ·exact I2.wo (by rw [hDe];exact Nat.le_refl _) q
  ·show (cy js σ).length=N'.length
   unfold cy
   rw [List.length_map]
   exact K.jlen
 have hDfs:D∉Y.fs:=λz=>by
  rcases List.mem_cons.mp (I2.e9 D z) with q | q
  ·exact absurd (q▸I2.lt) (by rw [hDe];exact Nat.lt_irrefl _)
  ·exact I2.wo (by rw [hDe];exact Nat.le_refl _) q
 have stat:∀{H':Hp} {ys:List Value},(∀ b∈fp,H' b=none)->∀ b∈fp,iK Y [(D,lobj ys)] H' b:=λ{H' ys} hn b hb=>by
  refine⟨hn b hb,Nat.ne_of_lt (Nat.lt_of_lt_of_le (hbelowfp b hb) hDleC),okY.exfs b hb,.inl hb,okY.exf b hb |>.2,λp hp=>?_⟩
  have hp':p∈[(D,lobj ys)]:=hp
  have e:p=(D,lobj ys):=by simpa using hp'
  subst e
  exact Nat.ne_of_gt (hbelowfp b hb)
 have loop:∀ s3:Shared,s3={ s2 with heap:=h₁ } ->
   codeAny (model X.prog X.w) X.A (.compLoop (.ListComp elt (⟨target,iter,ifs,0⟩::rest) scope pos) 0 (.ref it) (.ref D) (compEnvC scope (cellsFrom (C+1) scope.names cl) C X.env)) (compPost (model X.prog X.w) X.A X.xe use Q' (.ref D) C) s3:=by
  rintro s3 rfl
  refine hloop _ _ _ _ _ _ (λn s'=>∃ i ys vys H',Inv Y [(D,lobj ys)] (cy js σ) H' s'/\tn i s'.heap/\(∀ b∈fp,H' b=none)/\Vals vys ys/\W i n vys H') ?_ m0
   ⟨0,[],[],H2,invY0,T.keep _ _ _ st2 λb _ o e=>old b o e,λb hb=>(f2 b hb).1,.nil,w0⟩ λe s' z=>herr C s2 H2 fp use Q' (.ref D) e s' z
  rintro n s4 ⟨i,ys,vys,H4,I4,st4,fr4,rv,w4⟩
  rcases turn i n vys H4 w4 with⟨stop,hz,qn⟩|⟨go,hz,Nn,hN,step⟩
  ·refine aR (T.done Y rfl rfl rfl hcalm i _ s4 _ H4 (Ex C s2 H2 fp) I4 (stat fr4) st4 stop) λr s5 ⟨hr,I5⟩=>?_
   subst hr
   obtain⟨m5,hn5,_⟩:=I5.loc
   obtain⟨pD,nD,_,_,_⟩:=I5.pin (D,lobj ys) (by show _∈[(D,lobj ys)];simp)
   have nC:H4 C=none:=I5.free
   refine hok C D vys H4 s5 ⟨m5,hn5⟩ (Nat.le_refl _) hDleC hDC nD nC (λh' hsb=>?_) (qn D nD)
   have pD':h'.get? D=some (lobj ys):=hsb.extBut _ _ hDC pD
   refine I2.uS (s':={ s5 with heap:=h' }) (ch:=fp) I5.os ?_ ?_ I5.bare (λb hb=>?_)
   ·-- kept
    have u:=I5.base
    have neC:∀ b o,s2.heap.get? b=some o->b≠C/\b≠D:=λb o e=>by
     have:=Heap.lt_size e
     rw [hDe] at this
     exact⟨Nat.ne_of_lt (Nat.lt_of_lt_of_le this hDleC),Nat.ne_of_lt this⟩
    refine⟨λb o e nn hb hx=>hsb.extBut b o (neC b o e).1 (u.keep b o e nn hb hx),λb o e nn hb hx=>?_,λb o e nn hx=>?_,λb o e hx=>?_,λb xs e=>?_,λb o xs e=>?_,λb ps e=>?_⟩
    ·obtain⟨sl,q⟩:=u.slot b o e nn hb hx
     exact⟨sl,hsb.extBut b _ (neC b o e).1 q⟩
    ·rw [ao (neC b o e).2]
     exact u.free b o e nn hx
    ·obtain⟨o',q⟩:=u.there b o e hx
     exact⟨o',hsb.extBut b _ (neC b o e).1 q⟩
    ·rw [ao (aO (u.tups b xs e) nD)]
     exact u.tups b xs e
    ·rw [ao (aO (u.frzs b o xs e) nD)]
     exact u.frzs b o xs e
    ·obtain⟨more,q⟩:=u.tbls b ps e
     exact⟨more,by rw [ao (aO q nD)];exact q⟩
   ·intro b o e
    by_cases hb:b=D
    ·subst hb
     rw [aj] at e
     cases e
     exact⟨hz,ys,_,rv,pD'⟩
    ·rw [ao hb] at e
     refine (I5.hok b o e).gy (λc w' hc q=>hsb.extBut c w' ?_ q) (λc q=>by rw [ao (aO q nD)];exact q) λc xs q=>by rw [ao (aO q nD)];exact q
     rintro rfl
     rcases hc with rfl | hc
     ·rw [nC] at e;cases e
     ·rw [nC] at hc;cases hc
   ·exact⟨(f2 b hb).2.2.2.1,(f2 b hb).2.1,(f2 b hb).2.2.2.2.1,(f2 b hb).2.2.2.2.2⟩
  ·refine aR (T.item Y rfl rfl rfl hcalm i _ s4 _ H4 (Ex C s2 H2 fp) I4 (stat fr4) st4 go) λr s5 ⟨u,hr,h5⟩=>?_
   subst hr
   refine aR h5 λ_ s6 ⟨x,H6,I6,r6,y6,st6,fr6⟩=>?_
   have I6':=I6.pinned (stat fr6) (T.obj _ _ st6)
   refine aR (hg C s2 H2 fp lc _ s6 _ H6 x u _ I6' r6 (step x H6 y6)) λ_ s7 ⟨σ7,H7,I7,k7,q7⟩=>?_
   refine aR (ht C s2 H2 fp lc _ s7 σ7 H7 _ I7 q7) λb s8 ⟨H8,I8,q8⟩=>?_
   -- behind the tests and the element: the state goes back to what the next turn wants
   have again:∀{ys':List Value} {s9:Shared} {H9:Hp},Inv Y ([(D,lobj ys')]++eY fp s6.heap) σ7 H9 s9->Inv Y [(D,lobj ys')] (cy js σ) H9 s9/\tn (i+1) s9.heap/\∀ b∈fp,H9 b=none:=λ{ys' s9 H9} I9=>by
    refine⟨(I9.cM).weak k7.len k7.get,T.keep _ _ _ st6 λb hb o e=>(I9.pin (b,o) (List.mem_append_right _ (List.mem_append_right _ (bW hb e)))).1,λb hb=>?_⟩
    obtain⟨o,e,d⟩:=T.obj _ _ st6 b hb
    exact (I9.pin (b,o) (List.mem_append_right _ (List.mem_append_right _ (bW hb e)))).2.1
   cases b with
   | false =>
    rw [if_neg Bool.false_ne_true] at q8 ⊢
    obtain⟨m',hm,w8⟩:=hN _ _ q8
    obtain⟨J8,t8,f8⟩:=again I8
    exact⟨m',hm,i+1,ys,vys,H8,J8,t8,f8,rv,w8⟩
   | true =>
    rw [if_pos rfl] at q8 ⊢
    have aok:mi Y D (eY fp s6.heap):=⟨λp hp z=>absurd (hbelowfp p.1 (jk hp).1) (by rw [z];exact Nat.lt_irrefl _),by show s2.heap.objs.size<=D;rw [hDe];exact Nat.le_refl _,λx c e=>cellNe x c e⟩
    refine hB C s2 H2 fp lc D ys vys _ σ7 H8 s8 Nn _ I8 rv aok hz q8 λys' vys' H9 s9 I9 rv' q9=>?_
    obtain⟨J9,t9,f9⟩:=again I9
    obtain⟨m',hm,w9⟩:=hN _ _ q9
    exact⟨m',hm,i+1,ys',vys',H9,J9,t9,f9,rv',w9⟩
 exact codeAny_compStart_list (loop _ rfl) (T.self _ 0 _ _ _ (T.keep _ _ _ st2 λb _ o e=>old b o e) (loop _ rfl))
theorem sM {Y:Cx} {D:Addr} {ys:List Value} {P:List (Addr × Obj)} {σ:St} {H:Hp} {s:Shared} {y:Value} {Q:Value->Shared->Prop} {E:Value->Shared->Prop} (hpn:Y.pn=[]) (I:Inv Y ([(D,lobj ys)]++P) σ H s) (ok:mi Y D P) (z:ys.length<sizeLine)
  (q:∀ s',Inv Y ([(D,lobj (ys++[y]))]++P) σ H s'->Q .none s'):wpAny (model Y.prog Y.w) Y.A (call (.builtin "list.append") [.ref D,y]) Q E s:=by
 obtain⟨pD,nD,neD,nfD,_⟩:=I.pin (D,lobj ys) (by rw [hpn];simp)
 refine append_at (hsz:=by show ys.toArray.size<=sizeLine;rw [List.size_toArray];exact Nat.le_of_lt z) (show s.heap.get? D=some { cls:=.type "list",data:=.seq ys.toArray ys.length } from pD) λh' hsb hD'=>q _ ?_
 have eD:h'.get? D=some (lobj (ys++[y])):=by
  rw [hD']
  unfold lobj
  rw [List.length_append,List.length_singleton,List.push_toArray]
 have J1:Inv Y P σ H s:=I.gR λp hp=>I.pin p (List.mem_append_right _ (List.mem_append_right _ hp))
 have J2:Inv Y P σ H { s with heap:=h' }:=J1.turned (t':=s.toks) (it:=D) (λb o hb e=>hsb.extBut b o hb e) nD neD (.inr ok.new) ok.cell λp hp=>ok.ne p (by rw [hpn] at hp;simpa using hp)
 refine J2.gR λp hp=>?_
 rcases List.mem_append.mp hp with hp | hp
 ·have e:p=(D,lobj (ys++[y])):=by simpa using hp
  subst e
  exact⟨eD,nD,neD,nfD,λv z=>by cases z⟩
 ·exact J2.pin p (List.mem_append_right _ hp)
theorem pq {Y:Cx} {D:Addr} {ys:List Value} {vys:List V} {P:List (Addr × Obj)} {σ:St} {H:Hp} {s:Shared} {elt:Expr} {te:TE} {N:List V->Hp->Prop} {Ps:Shared->Prop} (hpn:Y.pn=[]) (he:PE Y elt te) (I:Inv Y ([(D,lobj ys)]++P) σ H s) (rv:Vals vys ys) (ok:mi Y D P) (z:vys.length<sizeLine) (q:te σ H λv H4=>N (vys++[v]) H4)
  (k:∀ ys' vys' H' s',Inv Y ([(D,lobj ys')]++P) σ H' s'->Vals vys' ys'->N vys' H'->Ps s'):wpAny (model Y.prog Y.w) Y.A (mr elt (.ref D) Y.env) (λ_ s'=>Ps s') Y.xe s:=by
 unfold mr
 refine wpAny_bind (aR (he _ s σ H _ I q) λy s9 ⟨vy,H9,I9,r9,q9⟩=>?_)
 exact wpAny_bind (sM hpn I9 ok (by rw [<- rv.length];exact z) λs' I'=>wpAny_pure (k _ _ _ _ I' (rv.append (.cons r9 .nil)) q9))
theorem tG {X:Cx} {Ex:Addr->Shared->Hp->List Addr->Value->Shared->Prop} {elt target iter:Expr} {ifs:List Expr} {scope:Scope} {pos:Pos} {N':List Str} {js:List (Option Nat)} {cl:List (Str × Addr)} {g:TG} {tt:TT} {te:TE} (hcalm:X.calm=true)
  (K:gZ X N' js scope cl)
  (hg:∀ C s₂ H₂ fp,kY X C s₂ H₂ fp->PG (bL X (Ex C s₂ H₂ fp) N' scope cl C s₂ H₂ fp) target g) (ht:∀ C s₂ H₂ fp,kY X C s₂ H₂ fp->su (bL X (Ex C s₂ H₂ fp) N' scope cl C s₂ H₂ fp) ifs tt) (he:∀ C s₂ H₂ fp,kY X C s₂ H₂ fp->PE (bL X (Ex C s₂ H₂ fp) N' scope cl C s₂ H₂ fp) elt te)
  (herr:∀ C s₂ H₂ fp use Q' acc e s',Ex C s₂ H₂ fp e s'->notedBy (model X.prog X.w) X.A (compEnvC scope (cellsFrom (C+1) scope.names cl) C X.env) (λe s''=>compPost (model X.prog X.w) X.A X.xe use Q' acc C (.error e) s'') e s')
  {pins:List (Addr × Obj)} {σ:St} {Q:VK} {use:Option (Value->Sem Unit)} {Q':Value->Shared->Prop} {itv:Value} {s2:Shared}
  (h2:xP X pins σ target (λJ H1=>∃ W:Nat->Nat->List V->Hp->Prop,(∃ m,W 0 m [] H1)/\∀ i m ys H,W i m ys H ->
 (J.stop i H/\ys.length<=sizeLine/\∀ p,H p=none->Q (.ref p) (upd H p (.lst ys))) ∨
 (J.go i H/\ys.length<sizeLine/\∃ N:List V->Hp->Prop,(∀ ys' H',N ys' H'->∃ m',m'<m/\W (i+1) m' ys' H') /\
  ∀ x H',J.yld i H x H'->g x (cy js σ) H' λσ2 H2=>bB (cy js σ) σ2/\tt σ2 H2 λb H3=>if b=true then te σ2 H3 λv H4=>N (ys++[v]) H4 else N ys H3)) itv s2)
  (hok:∀ C D vys H4 s5,(∃ m,s5.heap.Ns C m)->s2.heap.objs.size<=D->D<=C->D≠C->H4 D=none->H4 C=none->(∀ h',Heap.SameBut C s5.heap h'->Inv X pins σ (upd H4 D (.lst vys)) { s5 with heap:=h' })->Q (.ref D) (upd H4 D (.lst vys))->compPost (model X.prog X.w) X.A X.xe use Q' (.ref D) C (.ok .next) s5) :
  wpAny (model X.prog X.w) X.A (newList []) (λacc s₃=>wpAny (model X.prog X.w) X.A (newFunctionEnv scope X.env.globals cl [] X.env.qual none .none (some X.env)) (λcenv s₄ =>
   codeAny (model X.prog X.w) X.A (.compStart (.ListComp elt [⟨target,iter,ifs,0⟩] scope pos) 0 itv acc { cenv with scope:=relabel scope X.env }) (compPost (model X.prog X.w) X.A X.xe use Q' acc cenv.locals) s₄) X.xe s₃) X.xe s2 :=
 we (Bd:=λEx acc env Ps s=>wpAny (model X.prog X.w) X.A (mr elt acc env) (λ_ s'=>Ps s') Ex s) (Cc:=λys=>ys.length<sizeLine) (tb:=λys σ2 H3 N=>te σ2 H3 λv H4=>N (ys++[v]) H4) hcalm
  (λ_ _ _ it acc env I turn n h hE=>jD I (rR elt target iter ifs scope pos it acc env) turn n h hE) K hg ht
  (λC s₂ H₂ fp lc D ys vys P σ H s N Ps I rv ok z q k=>pq rfl (he C s₂ H₂ fp lc) I rv ok z q k) herr h2 hok
theorem vd {X:Cx} {elt target iter:Expr} {ifs:List Expr} {scope:Scope} {pos:Pos} {N':List Str} {js:List (Option Nat)} {cl:List (Str × Addr)} {wi:TI} {g:TG} {tt:TT} {te:TE} (hcalm:X.calm=true)
  (K:gZ X N' js scope cl) (hi:PI X target iter wi)
  (hg:∀ C s₂ H₂ fp,PG (jC X N' scope cl C s₂ H₂ fp) target g) (ht:∀ C s₂ H₂ fp,su (jC X N' scope cl C s₂ H₂ fp) ifs tt) (he:∀ C s₂ H₂ fp,PE (jC X N' scope cl C s₂ H₂ fp) elt te)
  (hs:∀ x,foldedSetIterable iter X.env x=pure x:=by intro _;rfl):PE X (.ListComp elt [⟨target,iter,ifs,0⟩] scope pos) (Ai js wi g tt te):=by
 intro pins s σ H Q I h
 rw [eval_ListComp]
 refine wpAny_comprehension_free (use:=none) rfl hs K.clos K.kind K.names (aR (hi pins s σ H _ I h) λv s1 h1=>aR h1 λitv s2 h2=>?_)
 exact tG (Ex:=λ_ _ _ _ _ _=>False) hcalm K (λC s H f _=>hg C s H f) (λC s H f _=>ht C s H f) (λC s H f _=>he C s H f) (λ_ _ _ _ _ _ _ _ _ z=>z.elim) h2 λC D vys H4 s5 ⟨m,hn⟩ _ _ _ _ _ hI q=>⟨m,hn,λh' hsb=>⟨.ref D,_,hI h' hsb,rfl,q⟩⟩
def Bd (i:Int):Prop:=i.natAbs<2^4000
theorem pk:(10:Nat)^250<=2^4000:=by decide +kernel
theorem Bd.of {i:Int} (h1:-(10^250)<i) (h2:i<10^250):Bd i:=by
 refine Nat.lt_of_lt_of_le ?_ pk
 have:((10:Nat)^250:Nat)=((10:Int)^250).toNat:=by decide +kernel
 rw [this]
 omega
theorem Bd.mono {i j:Int} (h:Bd j) (h':i.natAbs<=j.natAbs):Bd i:=Nat.lt_of_le_of_lt h' h
theorem Bd.bits {i:Int} (h:Bd i):Builtin.Int.intBits i<=2^20 :=
 Nat.le_trans (intBits_le h) (by decide)
theorem Bd.AB {i j:Int} (h:Bd j):Builtin.divisionGoesByPylong i j=false:=by
 refine PyProof.noPylong_of_log2 ?_
 by_cases z:j.natAbs=0
 ·rw [z];decide
 ·exact Nat.lt_of_lt_of_le ((Nat.log2_lt z).mpr h) (by decide)
section
variable {X:Cx}
theorem fz:ff X (binaryOp .Mult) (rI (λi j=>Bd i/\Bd j) λi j=>.int (i*j)):=yZ λ_ _ _ _ _ _ _ hc q=>mul_int q (IntMulOk.of_bits hc.1.bits hc.2.bits)
theorem d8:ff X (binaryOp .FloorDiv) (rI (λ_ j=>0<j/\Bd j) λi j=>.int (i/j)):=yZ λi j _ _ _ _ _ hc q=>by
 have h1:(0:Int)<j:=hc.1
 exact floordiv_int (by omega) (by rw [Int.fdiv_eq_ediv_of_nonneg i (by omega)];exact q) (.inl hc.2.AB)
theorem u1 {op:Operator} {r:R2} (ho:ff X (inplaceOp op) r):z6 X op r:=λpins s σ H x y v u Q I r1 r2 h=>ho pins s σ H x y v u Q I r1 r2 h
def yP (i j k:Nat) (ta:TA):TS:=λD σ H=>ta σ H λvs H1=>∃ v w u,vs=[v,w,u]/\D.nx (((σ.set i (some v)).set j (some w)).set k (some u)) H1
def wQ (K:PySem.W.Frag):List V->Hp->VK->Prop:=λxs H Q=>∃(a:Addr) (bs:List Bool),xs=[.ref a]/\aP K H a (bs.map V.bl)/\Q (.bl (bs.all id)) H
theorem pw (hc:X.calm=true):bS X (.builtin "all") (wQ X.K):=by
 intro pins s σ H xs us Q I r h
 obtain⟨a,bs,rfl,hq,q⟩:=h
 obtain⟨u,rfl,ru⟩:=vals1 r
 cases ru
 obtain⟨its,rv,p,hz⟩:=I.list hq
 have hl:=p.isList
 have hlt:a<s.heap.objs.size:=by obtain⟨_,e,_⟩:=hl;exact Heap.lt_size e
 have hb:∀(i:Nat) v,its[i]?=some v->∃ b,bs[i]?=some b/\v=.bool b:=λi v e=>by
  have hi:i<its.length:=(List.getElem?_eq_some_iff.mp e).1
  have hi2:i<bs.length:=by have:=rv.length;rw [List.length_map] at this;omega
  obtain⟨u,e1,e2⟩:=rv.get (i:=i) (x:=V.bl bs[i]) (by rw [List.getElem?_map,List.getElem?_eq_getElem hi2];rfl)
  rw [e] at e1
  cases e1
  exact⟨bs[i],List.getElem?_eq_getElem hi2,e2⟩
 have hln:its.length=bs.length:=by have:=rv.length;rw [List.length_map] at this;omega
 refine call_all_walk (wpAny_pyIter_list hl ?_)
 refine⟨s.heap.objs.size,[s.heap.objs.size,a],[s.heap.objs.size],its.toArray.size,_,_,λi=>(bs[i]?).getD true,rfl,Walks.list (A:=X.A.in1) (I.ok.hd hc) _ a (Nat.ne_of_lt hlt) its.toArray,
  ⟨⟨_,Heap.get?_push_size _ rfl,rfl,rfl⟩,hl.push _⟩,λi v s' Q' E' hP hQ=>?_,λh' tk hk=>?_⟩
 ·obtain⟨b,e,rfl⟩:=hb i v (by simpa using hP)
  simp only [e,Option.getD_some] at hQ
  exact wpAny_truthy_bool hQ
 ·have e:((List.range its.toArray.size).all λi=>(bs[i]?).getD true)=bs.all id:=by
   rw [List.size_toArray,hln,Bool.eq_iff_iff]
   simp only [List.all_eq_true,List.mem_range,id]
   constructor
   ·intro z b hb'
    obtain⟨i,hi,rfl⟩:=List.mem_iff_getElem.mp hb'
    have:=z i hi
    rwa [List.getElem?_eq_getElem hi,Option.getD_some] at this
   ·intro z i hi
    rw [List.getElem?_eq_getElem hi,Option.getD_some]
    exact z _ (List.getElem_mem hi)
  rw [e]
  exact⟨.bl _,H,I.kept λb o eb=>hk b o (λhm=>by rw [List.mem_singleton.mp hm] at eb;exact Nat.lt_irrefl _ (Heap.lt_size eb)) (Heap.get?_push_of_some _ eb),rfl,q⟩
def xV:V->Option Value
 | .ty n=>some (.type n)
 | .ref a=>some (.ref a)
 | _=>none
end
def aC (K:PySem.W.Frag) (mg:Str->Option Value) (x:Str) (st:Stmt):Prop:=∃ f fd,pd K x x st f fd/\mg x=some (.ref f)
structure Callee (P:Program) (w:World) (K:PySem.W.Frag) (mg:Str->Option Value) (base:Heap) (CX:eP) (k:Nat) (x:Str) (ps:List Str) (sp:Sp):Prop where
 ex:∃ f fd,cp P w K mg base CX k f fd ps sp/\mg x=some (.ref f)/\PySem.W.keepIn K (.ref f)=true/\Binds K fd ps []
section
variable {P:Program} {w:World} {K:PySem.W.Frag} {mg:Str->Option Value} {base:Heap} {CX:eP} {k:Nat} {x:Str} {ps:List Str} {sp:Sp}
theorem Callee.mono {j:Nat} (C:Callee P w K mg base CX k x ps sp) (h:k<=j):Callee P w K mg base CX j x ps sp:=by
 obtain⟨f,fd,F,a,b,c⟩:=C.ex
 exact⟨f,fd,F.mono h,a,b,c⟩
theorem cg {X:Cx} {E:XK} {e:Expr} {es:List Expr} {t:TA} {p pos:Pos} (C:Callee X.prog X.w X.K X.mg X.base CX k x ps sp) (hr:bq k X.A) (hg:Gl X x) (hx:Passes CX X E)
  (ha:PA X (e::es) t) (hdb:(x==("__debug__":Str))=false:=by decide) (he:starEach (e::es) X.env=(false,eval e X.env)::starEach es X.env:=by rfl) (hpl:(backTo pos (starEach es X.env)).any (·.1)=false:=by rfl) :
  PE X (.Call (.Name x p) (e::es) [] pos) (dI sp [] E t):=by
 obtain⟨f,fd,F,hm,hk,hb⟩:=C.ex
 exact tS F hr hg hm hk hb .nil hx ha hdb he hpl
theorem i9 {st:Stmt} {N:List Str} (D:aC K mg x st)
  (hb:∀(kV doc pm:Value) (an:Option Addr) (cdv ct:Value) (us:List Value),us.length=ps.length->bindArgs (PySem.W.fnOf x x (aV st) (aG st) (ai st) .none kV doc pm an cdv ct) ⟨us,[]⟩=pure (ps.zip us))
  (S:az N ps (ai st)) (len:∀ vs H Q E,sp vs H Q E->vs.length=ps.length)
  (hbody:∀(f:Addr) (cdv:Value) (A:Around) (outer:List Env) (s:Shared) (H:Hp) (vs:List V) (Q:VK) (E:XK),bq k (A.deeper (envOfC x (ai st) s.heap.objs.size f cdv))->sp vs H Q E ->
   ∃ t,fU (cQ ba P w K mg base N x (ai st) f cdv A outer s H E).iJ (aG st) t/\t { nx:=λ_ H'=>Q .aQ H',rt:=Q } (start N vs) H):Callee P w K mg base ba (k+1) x ps sp:=by
 obtain⟨f,fd,F,hm⟩:=D
 exact⟨f,fd,F.ok S len λcdv A outer s H vs Q E hr h=>hbody f cdv A outer s H vs Q E hr h,hm,F.kp,F.binds hb⟩
theorem pF {h:Heap} {f:Addr} {st:Stmt} {oc:Value} {od an:Option Addr} {osl:Array (Option Value)} {kV doc pm cdv ct:Value} (X:K.In h) (G:h.Ns mainGlobals mg)
  (a:PySem.W.nsIn K mainGlobals x=some (some (.ref f))) (l:K.lookup f=some ⟨oc,od,.func (PySem.W.fnOf x x (aV st) (aG st) (ai st) .none kV doc pm an cdv ct),osl⟩)
  (c:PySem.W.codeIn K cdv x=true) (kk:PySem.W.keepIn K (.ref f)=true):aC K mg x st:=⟨f,_,lB l c kk,PySem.W.mg_of X G a⟩
end
def fV (cl:List (Str × Addr)):List (Str × NameKind)->Prop
 | []=>True
 | y::r=>(match y.2 with | .free=>(cl.lookup y.1).isSome=true | _=>True)/\fV cl r
theorem fV.get {cl:List (Str × Addr)}:∀{l:List (Str × NameKind)},fV cl l->∀ y∈l,y.2=.free->(cl.lookup y.1).isSome=true
 | [],_,_,h,_=>nomatch h
 | z::r,a,y,h,e=>by
  rcases List.mem_cons.mp h with q | q
  ·subst q
   have:=a.1
   rw [e] at this
   exact this
  ·exact fV.get a.2 y q e
def fh (X:Cx) (scope:Scope) (cl:List (Str × Addr)):List (Option Nat)->List Str->Prop
 | none::r,_::n=>fh X scope cl r n
 | some j::r,x::n=>(X.N[j]?=some x/\(cl.lookup x).isSome=true/\(X.env.scope.names.lookup x=some .cell∨X.env.scope.names.lookup x=some .free)/\((relabel scope X.env).names.lookup x=some .cell∨(relabel scope X.env).names.lookup x=some .free))/\fh X scope cl r n
 | [],[]=>True
 | _,_=>False
theorem fh.len {X:Cx} {scope:Scope} {cl:List (Str × Addr)}:∀{js:List (Option Nat)} {N:List Str},fh X scope cl js N->js.length=N.length
 | [],[],_=>rfl
 | none::r,_::n,h=>by
  have h':fh X scope cl r n:=h
  simp [fh.len h']
 | some j::r,x::n,h=>by
  have h':fh X scope cl r n:=h.2
  simp [fh.len h']
 | [],_::_,h=>h.elim
 | none::_,[],h=>h.elim
 | some _::_,[],h=>h.elim
theorem fh.get {X:Cx} {scope:Scope} {cl:List (Str × Addr)}:∀{js:List (Option Nat)} {N:List Str},fh X scope cl js N->∀(i j:Nat) x,js[i]?=some (some j)->N[i]?=some x ->
  X.N[j]?=some x/\(cl.lookup x).isSome=true/\vF X.env.scope x/\X.env.kindOf x≠some .local/\((relabel scope X.env).names.lookup x=some .cell∨(relabel scope X.env).names.lookup x=some .free)
 | [],[],_,i,j,x,e,_=>by simp at e
 | none::r,y::n,h,0,j,x,e,_=>by simp at e
 | none::r,y::n,h,i+1,j,x,e,e2=>fh.get (js:=r) (N:=n) h i j x (by simpa using e) (by simpa using e2)
 | some k::r,y::n,h,0,j,x,e,e2=>by
  have q:k=j:=by simpa using e
  have q2:y=x:=by simpa using e2
  subst q;subst q2
  obtain⟨a,b,c,d⟩:=h.1
  refine⟨a,b,?_,?_,d⟩
  ·rcases c with c | c
   ·exact .inr (.inl c)
   ·exact .inr (.inr c)
  ·intro z
   have z':X.env.scope.names.lookup y=some .local:=z
   rcases c with c | c
   ·rw [c] at z';cases z'
   ·rw [c] at z';cases z'
 | some k::r,y::n,h,i+1,j,x,e,e2=>fh.get (js:=r) (N:=n) h.2 i j x (by simpa using e) (by simpa using e2)
 | [],_::_,h,_,_,_,_,_=>h.elim
 | none::_,[],h,_,_,_,_,_=>h.elim
 | some _::_,[],h,_,_,_,_,_=>h.elim
theorem vP {X:Cx} {N':List Str} {js:List (Option Nat)} {scope:Scope} {cl:List (Str × Addr)} (clos:closureFor scope X.env=pure cl) (kind:scope.kind=.function) (nocell:∀ y∈scope.names,y.2=.cell->scope.names.lookup y.1=some .cell/\∀ p∈js.zip N',p.1.isSome=true->p.2≠y.1)
  (names:∀ y∈scope.names,y.2=.local->scope.names.lookup y.1=some .local) (sub:AllIn X.env cl) (has:fV cl scope.names) (j:fh X scope cl js N'):gZ X N' js scope cl :=
 ⟨clos,kind,nocell,names,sub,has.get,j.len,j.get⟩
theorem boot_int:bootBuiltins "int"=some (.type "int"):=by decide +kernel
theorem boot_bool:bootBuiltins "bool"=some (.type "bool"):=by decide +kernel
theorem boot_tuple:bootBuiltins "tuple"=some (.type "tuple"):=by decide +kernel
theorem boot_list:bootBuiltins "list"=some (.type "list"):=by decide +kernel
theorem boot_all:bootBuiltins "all"=some (.builtin "all"):=by decide +kernel
theorem av {H:Hp} {p:Addr} {o:HO} (h:H p=none):aF H (upd H p o):=λb u q=>by rw [ao (aO q h)];exact q
theorem kW {α:Type} {c:TT} {tb:TS} {D:Ends} {σ:St} {H:Hp} (S:α->St) (Pv:α->Hp->Prop) (μ:α->Nat) (x₀:α) (hσ:σ=S x₀) (h0:Pv x₀ H)
  (hs:∀ x H,Pv x H->c (S x) H λb H1=>if b=true then (∃ N:St->Hp->Prop,(∀ σ' H',N σ' H'->∃ y,σ'=S y/\Pv y H'/\μ y<μ x)/\tb { D with nx:=N,ct:=N,bk:=D.nx } (S x) H1) else D.nx (S x) H1):rM c tb D σ H:=by
 subst hσ
 refine⟨λm σ H=>∃ x,σ=S x/\Pv x H/\m=μ x,⟨_,x₀,rfl,h0,rfl⟩,?_⟩
 rintro m σ H ⟨x,rfl,p,rfl⟩
 have q:=hs x H p
 have e:(λb H1=>if b=true then (∃ N:St->Hp->Prop,(∀ σ' H',N σ' H'->∃ y,σ'=S y/\Pv y H'/\μ y<μ x)/\tb { D with nx:=N,ct:=N,bk:=D.nx } (S x) H1) else D.nx (S x) H1) =
   (λb H1=>if b=true then (∃ N:St->Hp->Prop,(∀ σ' H',N σ' H'->∃ m',m'<μ x/\∃ y,σ'=S y/\Pv y H'/\m'=μ y)/\tb { D with nx:=N,ct:=N,bk:=D.nx } (S x) H1) else D.nx (S x) H1):=by
  funext b H1
  cases b with
  | false=>rfl
  | true =>
   simp only [if_true]
   refine propext ⟨fun⟨N,hN,z⟩=>⟨N,λσ' H' n=>?_,z⟩,fun⟨N,hN,z⟩=>⟨N,λσ' H' n=>?_,z⟩⟩
   ·obtain⟨y,e1,e2,e3⟩:=hN σ' H' n
    exact⟨_,e3,y,e1,e2,rfl⟩
   ·obtain⟨m',l,y,e1,e2,e3⟩:=hN σ' H' n
    exact⟨y,e1,e2,e3▸l⟩
 rw [e] at q
 exact q
end L2
namespace Gcd
structure J (A B g u v ng nu nv:Int):Prop where
 g0:0<=g
 n0:0<=ng
 e1:u*A+v*B=g
 e2:nu*A+nv*B=ng
 ex:∃ s U NU V NV:Int,(s=1∨s = -1)/\0<=U/\0<=NU/\0<=V/\0<=NV/\u=s*U/\nu = -s*NU/\v = -s*V/\nv=s*NV/\g*NU+ng*U=B/\g*NV+ng*V=A /\
  (U<=1∨U<=B)/\(NU<=1∨NU<=B)/\(V<=1∨V<=A)/\(NV<=1∨NV<=A)
theorem J.start {A B:Int} (ha:0<=A) (hb:0<=B):J A B A 1 0 B 0 1 :=
 ⟨ha,hb,by grind,by grind,1,1,0,0,1,.inl rfl,by decide,by decide,by decide,by decide,by grind,by grind,by grind,by grind,by grind,by grind,.inl (by decide),.inl (by decide),.inl (by decide),.inl (by decide)⟩
structure AH (a b g u v:Int):Prop where
 g0:0<=g
 lin:u*a+v*b=g
 da:g∣a
 db:g∣b
 bu:u.natAbs<=max 1 b.natAbs
 bv:v.natAbs<=max 1 a.natAbs
end Gcd
namespace L2
open PySem PySem.Spec PyProof.Rows
theorem aF.upd {H H1:Hp} {p:Addr} {o:HO} (h:aF H H1) (hp:H p=none):aF H (upd H1 p o):=λb u q=>by rw [ao (aO q hp)];exact h b u q
theorem vJ {α:Type} {xs:List α} {k:Int} (h0:0<=k) (h1:k<xs.length):∃ v,sf xs k=some v/\xs[k.toNat]?=some v:=by
 have hk:k.toNat<xs.length:=by omega
 refine⟨xs[k.toNat],?_,List.getElem?_eq_getElem hk⟩
 have:=mq (xs:=xs) (j:=k.toNat) (List.getElem?_eq_getElem hk)
 rwa [Int.toNat_of_nonneg h0] at this
theorem fm {K:PySem.W.Frag} {H:Hp} {p:Addr} {xs:List V} {k:Int} {Q:VK} (h:aP K H p xs) (h0:0<=k) (h1:k<xs.length) (q:∀ v∈xs,Q v H):qZ K (.ref p) (.int k) H Q:=by
 obtain⟨v,e,e2⟩:=vJ h0 h1
 exact⟨p,xs,k,v,rfl,rfl,h,e,q v (List.mem_of_getElem? e2)⟩
theorem eU {K:PySem.W.Frag} {H:Hp} {p:Addr} {xs:List V} {k:Int} {v:V} {Q:VK} (h:aP K H p xs) (h0:0<=k) (e:xs[k.toNat]?=some v) (q:Q v H):qZ K (.ref p) (.int k) H Q:=by
 have:=mq e
 rw [Int.toNat_of_nonneg h0] at this
 exact⟨p,xs,k,v,rfl,rfl,h,this,q⟩
def Loop (J:It) (g:TG) (tb:TS) (D:Ends) (σ:St) (H:Hp):Prop:=∃ W:Nat->Nat->St->Hp->Prop,(∃ m,W 0 m σ H)/\∀ i m σ H,W i m σ H ->
 (J.stop i H/\D.nx σ H)∨(J.go i H/\∃ N:St->Hp->Prop,(∀ σ' H',N σ' H'->∃ m',m'<m/\W (i+1) m' σ' H')/\∀ x H',J.yld i H x H'->g x σ H' λσ2 H2=>tb { D with nx:=N,ct:=N,bk:=D.nx } σ2 H2)
theorem uF {wi:TI} {g:TG} {tb:TS} {D:Ends} {σ:St} {H:Hp}:xi wi g tb D σ H=wi σ H λJ H1=>Loop J g tb D σ H1:=rfl
theorem bV {lo:Int} {n:Nat} {g:TG} {tb:TS} {D:Ends} {σ:St} {H:Hp} (Pv:Nat->St->Hp->Prop) (h0:Pv 0 σ H)
  (hs:∀ i σ H,i<n->Pv i σ H->g (.int (lo+i)) σ H λσ2 H2=>tb { D with nx:=Pv (i+1),ct:=Pv (i+1),bk:=D.nx } σ2 H2) (hd:∀ σ H,Pv n σ H->D.nx σ H):Loop (sj lo n) g tb D σ H:=oa Pv h0 hs hd
theorem oy {K:PySem.W.Frag} {a:Addr} {xs:List V} {g:TG} {tb:TS} {D:Ends} {σ:St} {H:Hp} (Pv:Nat->St->Hp->Prop) (h0:Pv 0 σ H) (hl:∀ i σ H,i<=xs.length->Pv i σ H->aP K H a xs)
  (hs:∀ i x σ H,xs[i]?=some x->Pv i σ H->g x σ H λσ2 H2=>tb { D with nx:=Pv (i+1),ct:=Pv (i+1),bk:=D.nx } σ2 H2) (hd:∀ σ H,Pv xs.length σ H->D.nx σ H):Loop (uQ K a) g tb D σ H:=pS Pv h0 hl hs hd
def gY (J:It) (js:List (Option Nat)) (g:TG) (tt:TT) (te:TE) (σ:St) (Q:VK) (H1:Hp):Prop:=∃ W:Nat->Nat->List V->Hp->Prop,(∃ m,W 0 m [] H1)/\∀ i m ys H,W i m ys H ->
 (J.stop i H/\ys.length<=sizeLine/\∀ p,H p=none->Q (.ref p) (upd H p (.lst ys))) ∨
 (J.go i H/\ys.length<sizeLine/\∃ N:List V->Hp->Prop,(∀ ys' H',N ys' H'->∃ m',m'<m/\W (i+1) m' ys' H') /\
  ∀ x H',J.yld i H x H'->g x (cy js σ) H' λσ2 H2=>bB (cy js σ) σ2/\tt σ2 H2 λb H3=>if b=true then te σ2 H3 λv H4=>N (ys++[v]) H4 else N ys H3)
theorem xj {js:List (Option Nat)} {wi:TI} {g:TG} {tt:TT} {te:TE} {σ:St} {H:Hp} {Q:VK}:Ai js wi g tt te σ H Q=wi σ H λJ H1=>gY J js g tt te σ Q H1:=rfl
theorem lu {K:PySem.W.Frag} {a:Addr} {xs:List V} {js:List (Option Nat)} {g:TG} {tt:TT} {te:TE} {σ:St} {Q:VK} {H1:Hp} (Pv:Nat->List V->Hp->Prop) (h0:Pv 0 [] H1) (hx:xs.length<=sizeLine) (hl:∀ i ys H,i<=xs.length->Pv i ys H->aP K H a xs/\ys.length<=i)
  (hs:∀ i x ys H,xs[i]?=some x->Pv i ys H->g x (cy js σ) H λσ2 H2=>bB (cy js σ) σ2/\tt σ2 H2 λb H3=>if b=true then te σ2 H3 λv H4=>Pv (i+1) (ys++[v]) H4 else Pv (i+1) ys H3)
  (hd:∀ ys H p,Pv xs.length ys H->H p=none->Q (.ref p) (upd H p (.lst ys))):gY (uQ K a) js g tt te σ Q H1:=by
 refine⟨λi m ys H=>m=xs.length-i/\i<=xs.length/\Pv i ys H,⟨xs.length,by simp,Nat.zero_le _,h0⟩,?_⟩
 rintro i m ys H ⟨rfl,hi,p⟩
 obtain⟨q,hy⟩:=hl i ys H hi p
 by_cases hlt:i<xs.length
 ·refine .inr ⟨⟨xs,xs[i],q,by simp [hlt]⟩,by omega,Pv (i+1),λys' H' p'=>⟨xs.length-(i+1),by omega,rfl,hlt,p'⟩,λx H' y=>?_⟩
  obtain⟨e,y⟩:=y
  subst e
  exact hs i x ys _ (y xs q) p
 ·have e:i=xs.length:=by omega
  subst e
  exact .inl ⟨⟨xs,q,Nat.le_refl _⟩,by omega,λp' hp'=>hd ys H p' p hp'⟩
theorem nW {K:PySem.W.Frag} {a:Addr} {xs:List V} {js:List (Option Nat)} {g:TG} {tt:TT} {te:TE} {σ:St} {Q:VK} {H1:Hp} (Pv:Nat->List V->Hp->Prop) (h0:Pv 0 [] H1) (hx:xs.length<=sizeLine) (hl:∀ i ys H,i<=xs.length->Pv i ys H->br K H a xs/\ys.length<=i)
  (hs:∀ i x ys H,xs[i]?=some x->Pv i ys H->g x (cy js σ) H λσ2 H2=>bB (cy js σ) σ2/\tt σ2 H2 λb H3=>if b=true then te σ2 H3 λv H4=>Pv (i+1) (ys++[v]) H4 else Pv (i+1) ys H3)
  (hd:∀ ys H p,Pv xs.length ys H->H p=none->Q (.ref p) (upd H p (.lst ys))):gY (yU K a) js g tt te σ Q H1:=by
 refine⟨λi m ys H=>m=xs.length-i/\i<=xs.length/\Pv i ys H,⟨xs.length,by simp,Nat.zero_le _,h0⟩,?_⟩
 rintro i m ys H ⟨rfl,hi,p⟩
 obtain⟨q,hy⟩:=hl i ys H hi p
 by_cases hlt:i<xs.length
 ·refine .inr ⟨⟨xs,xs[i],q,by simp [hlt]⟩,by omega,Pv (i+1),λys' H' p'=>⟨xs.length-(i+1),by omega,rfl,hlt,p'⟩,λx H' y=>?_⟩
  obtain⟨e,y⟩:=y
  subst e
  exact hs i x ys _ (y xs q) p
 ·have e:i=xs.length:=by omega
  subst e
  exact .inl ⟨⟨xs,q,Nat.le_refl _⟩,by omega,λp' hp'=>hd ys H p' p hp'⟩
theorem Ay {CX:eP} {P:Program} {w:World} {K:PySem.W.Frag} {mg:Str->Option Value} {base:Heap} {N:List Str} {qual:Str} {scope:Scope} {f:Addr} {cd:Value} {A:Around} {outer:List Env} {s:Shared} {H:Hp} {E:XK} :
  (cQ CX P w K mg base N qual scope f cd A outer s H E).K=K:=rfl
theorem xW {X:Cx} {N':List Str} {scope:Scope} {cl:List (Str × Addr)} {C:Addr} {s₂:Shared} {H₂:Hp} {fp:List Addr}:(jC X N' scope cl C s₂ H₂ fp).K=X.K:=rfl
theorem aX {K:PySem.W.Frag} {b k:Bool} {H:Hp}:sI K (.bl b) H k=(k=b):=rfl
theorem rQ {K:PySem.W.Frag} {i:Int} {k:Bool} {H:Hp}:sI K (.int i) H k=(k=(i != 0)):=rfl
def wV (K:PySem.W.Frag):List V->Hp->VK->Prop:=λxs H Q=>∃ p ys,xs=[.ref p]/\(aP K H p ys∨br K H p ys)/\Q (.int ys.length) H
theorem bU {X:Cx}:bS X (.builtin "len") (wV X.K):=jy
theorem cT {K:PySem.W.Frag} {H:Hp} {p:Addr} {xs:List V} {Q:VK} (h:aP K H p xs) (q:Q (.int xs.length) H):wV K [.ref p] H Q:=⟨p,xs,rfl,.inl h,q⟩
theorem mM {K:PySem.W.Frag} {H:Hp} {p:Addr} {xs:List V} {Q:VK} (h:br K H p xs) (q:Q (.int xs.length) H):wV K [.ref p] H Q:=⟨p,xs,rfl,.inr h,q⟩
theorem vI {K:PySem.W.Frag} {H:Hp} {p:Addr} {bs:List Bool} {Q:VK} (h:aP K H p (bs.map V.bl)) (q:Q (.bl (bs.all id)) H):wQ K [.ref p] H Q:=⟨p,bs,rfl,h,q⟩
theorem uu {a b:Int}:iT (.int a) (.int b)=true:=rfl
theorem uq {a b:Bool}:iT (.bl a) (.bl b)=true:=rfl
theorem uv {a:Int}:iT (.int a) .aQ=true:=rfl
theorem uw {a:Int}:iT .aQ (.int a)=true:=rfl
theorem ux:iT .aQ .aQ=true:=rfl
theorem ur {a:Bool}:iT (.bl a) .aQ=true:=rfl
theorem uy {a b:Str}:iT (.str a) (.str b)=true:=rfl
def yK (t:TS):TS:=λD σ H=>∃ R:St->Hp->Prop,t { D with nx:=R } σ H/\∀ σ' H',R σ' H'->D.nx σ' H'
theorem gj {X:Cx} {st:Stmt} {t:TS} (h:PS X st t):PS X st (yK t):=by
 intro pins s σ H D I ⟨R,hw,hR⟩
 refine aR (h pins s σ H _ I hw) λf s' q=>?_
 cases f with
 | next=>obtain⟨σ',H',I',r⟩:=q;exact⟨σ',H',I',hR _ _ r⟩
 | brk=>exact q
 | cont=>exact q
 | ret u=>exact q
theorem sU {P:Program} {w:World} {K:PySem.W.Frag} {mg:Str->Option Value} {base:Heap} {k:Nat} {x:Str} {ps:List Str} {sp:Sp} {st:Stmt} {N:List Str} {f:Addr} {fd:FuncData} (F:pd K x x st f fd)
  (S:az N ps (ai st)) (len:∀ vs H Q E,sp vs H Q E->vs.length=ps.length)
  (hbody:∀(cdv:Value) (A:Around) (outer:List Env) (s:Shared) (H:Hp) (vs:List V) (Q:VK) (E:XK),bq k (A.deeper (envOfC x (ai st) s.heap.objs.size f cdv))->sp vs H Q E ->
   ∃ t,fU (cQ ba P w K mg base N x (ai st) f cdv A outer s H E).iJ (aG st) t/\t { nx:=λ_ H'=>Q .aQ H',rt:=Q } (start N vs) H):cp P w K mg base ba (k+1) f fd ps sp :=
 F.ok S len λcdv A outer s H vs Q E hr h=>hbody cdv A outer s H vs Q E hr h
theorem tw {P:Program} {w:World} {K:PySem.W.Frag} {mg:Str->Option Value} {k:Nat} {x y:Str} {sp:Sp} {st:Stmt} {fa:Addr} (hfa:mg x=some (.ref fa)) (D:aC K mg x st)
  (hb:∀(kV doc pm:Value) (an:Option Addr) (cdv ct:Value) (u:Value),bindArgs (PySem.W.fnOf x x (aV st) (aG st) (ai st) .none kV doc pm an cdv ct) ⟨[u],[]⟩=pure [(y,u)])
  (ok:∀(base:Heap) (f:Addr) (fd:FuncData),K.In base->pd K x x st f fd->cp P w K mg base ba k f fd [y] sp) :
  ∃ fd:FuncData,(∀(s:Shared) (u:Value),BindsTo s fd ⟨[u],[]⟩ [(y,u)])/\∀ base:Heap,K.In base->base.Ns mainGlobals mg->cp P w K mg base ba k fa fd [y] sp:=by
 obtain⟨f,fd,F,hm⟩:=D
 have e:=hfa.symm.trans hm
 cases e
 refine⟨fd,λs u=>?_,λbase kb _=>ok base _ _ kb F⟩
 obtain⟨oc,od,kV,doc,pm,an,cdv,ct,osl,rfl,lk,hcd⟩:=F.ex
 exact .of_eq (hb kV doc pm an cdv ct u)
end L2
namespace L2
open PySem PySem.Spec PyProof.Rows PySem.W
def bE:List Value:=[.type "ValueError",.type "Exception",.type "BaseException",.type "object"]
def bj:List Value->Bool
 | .ref _::r=>bj r
 | l=>l==bE
theorem kM (self:Value):refuseLoop self "__setattr__" bE=pure ():=by kernel_rfl
theorem eZ (self:Value):∀{l:List Value},bj l=true->refuseLoop self "__setattr__" l=pure ()
 | .ref c::r,e=>by rw [refuseLoop_ref];exact eZ self (l:=r) e
 | [],e=>by cases e
 | .type n::r,e=>by
  have:Value.type n::r=bE:=by simpa [bj] using e
  rw [this];exact kM self
 | .none::r,e=>by simp [bj,bE] at e
 | .bool _::r,e=>by simp [bj,bE] at e
 | .int _ _::r,e=>by simp [bj,bE] at e
 | .str _ _::r,e=>by simp [bj,bE] at e
 | .bytes _ _::r,e=>by simp [bj,bE] at e
 | .float _ _::r,e=>by simp [bj,bE] at e
 | .builtin _::r,e=>by simp [bj,bE] at e
theorem d4 {l:List Value}:bj l=true->l.contains (.type "object")=true/\l.contains (.type "BaseException")=true/\l.isEmpty=false:=by
 intro h
 induction l with
 | nil=>cases h
 | cons a r ih =>
  cases a with
  | ref c =>
   obtain⟨h1,h2,_⟩:=ih h
   exact⟨by rw [List.contains_cons,h1,Bool.or_true],by rw [List.contains_cons,h2,Bool.or_true],rfl⟩
  | type n =>
   have e:Value.type n::r=bE:=by simpa [bj] using h
   rw [e]
   exact⟨by decide,by decide,rfl⟩
  | _=>simp [bj,bE] at h
section
variable {prog:Program} {w:World} {A:Around} {E:Value->Shared->Prop} {s:Shared} {K:PySem.W.Frag} {x C:Addr} {name:Str} {v:Value} {cd:ClassData}
theorem sS {vs:Array Value} {sl:Array (Option Value)} {Q:Unit->Shared->Prop} (X:K.In s.heap) (hx:s.heap.get? x=some ⟨.ref C,none,.fields vs,sl⟩) (hc:clsIn K C=some cd) (hm:bj cd.mro=true) (hh:cd.hasDict=true)
  (hs:findIn K (.ref C) "__setattr__"=some (some (.builtin "object.__setattr__"))) (hn:findIn K (.ref C) name=some none)
  (h:∀ h',h'.get? x=some ⟨.ref C,some s.heap.objs.size,.fields vs,sl⟩->h'.Ns1 s.heap.objs.size (λy=>if y=name then some v else none)->(∀ b ob,b≠x->s.heap.get? b=some ob->h'.get? b=some ob)->Q () { s with heap:=h',toks:=s.toks+2 }) :
  wpAny (model prog w) A (setAttr (.ref x) name v) Q E s:=by
 have I:PySem.W.InstAt s.heap x ⟨.ref C,none,.fields vs,sl⟩ C none:=⟨hx,rfl,rfl,True.intro⟩
 obtain⟨m1,m2,m3⟩:=d4 hm
 refine PySem.W.set_plain X I hs ?_
 have SF:=PySem.F.store_object
 have sub:Looks (model prog w) s.heap (isInstance (.ref x) (.type "object")) true:=I.type.andThen (looks_mroIn X (by unfold mroIn;rw [hc,Option.bind_some,if_neg (by rw [m3];decide),m1]))
 refine codeAny_call_builtin SF.slot.plain SF.entry (@check_slot (model prog w) _ _ { s with toks:=s.toks+1 } "object.__setattr__" "object" "__setattr__" (.ref x) [.str name s.toks,v] [] _ SF.kind SF.split sub (SF.args (.ref x) (.str name s.toks) v) ?_)
 have L1:Looks (model prog w) s.heap (mroOf (.ref C)) cd.mro:=(looks_clsIn X hc).andThen .now
 rw [osa_eq,refuse_eq]
 refine wpAny_bind (wpAny_bind (Looks.here (s:={ s with toks:=s.toks+1 }) I.type (wpAny_bind (Looks.here (s:={ s with toks:=s.toks+1 }) L1 ?_))))
 rw [eZ _ hm]
 refine wpAny_pure (wpAny_bind (Looks.here (s:={ s with toks:=s.toks+1 }) I.type (wpAny_bind (Looks.here (s:={ s with toks:=s.toks+1 }) (looks_findIn X hn) (wpAny_bind (wpAny_pure ?_))))))
 show wpAny _ _ (Builtin.ObjectAttr.storeInOwnDict (.ref x) (.ref C) (.str name s.toks) name v false) _ _ _
 refine wpAny_bind (wpAny_pure (wpAny_bind (wpAny_bind (wpAny_loadPart hx (wpAny_bind (Looks.here (s:={ s with toks:=s.toks+1 }) (looks_clsIn X hc) ?_))))))
 rw [hh]
 refine wpAny_bind (wpAny_alloc ?_)
 have hlt:x≠s.heap.objs.size:=Nat.ne_of_lt (Heap.lt_size hx)
 have hp:(s.heap.push { cls:=.type "dict",data:=.dict #[] }).get? x=some ⟨.ref C,none,.fields vs,sl⟩:=Heap.get?_push_of_some _ hx
 refine wpAny_bind (wpAny_update (s:={ s with toks:=s.toks+1,heap:=s.heap.push { cls:=.type "dict",data:=.dict #[] } }) hp ?_)
 refine wpAny_pure ?_
 show wpAny _ _ (Builtin.ObjectAttr.storeInDict s.heap.objs.size (.str name s.toks) name v) _ _ _
 generalize hu:(s.heap.push { cls:=.type "dict",data:=.dict #[] }).update x (λo=>{ o with dict:=some s.heap.objs.size })=h1
 have g1:h1.get? x=some ⟨.ref C,some s.heap.objs.size,.fields vs,sl⟩:=by rw [<- hu];exact Heap.get?_update_self _ hp rfl
 have g2:∀ b,b≠x->h1.get? b=(s.heap.push { cls:=.type "dict",data:=.dict #[] }).get? b:=λb hb=>by rw [<- hu];exact Heap.get?_update_other _ _ (Ne.symm hb)
 have g3:h1.Ns1 s.heap.objs.size (λ_=>none):=by
  have e1:h1.get? s.heap.objs.size=some { cls:=.type "dict",data:=.dict #[] }:=by rw [g2 _ (Ne.symm hlt)];exact Heap.get?_push_size _ rfl
  have e3:h1.Ns s.heap.objs.size (λ_=>none):=⟨_,#[],_,e1,rfl,(λe he=>absurd he (by simp)),λ_=>rfl⟩
  exact Heap.Ns1.of_empty e3
 refine wpAny_bind (wpAny_pure (wpAny_bind ?_))
 refine wpAny_nsSet1 (s:={ s with toks:=s.toks+1,heap:=h1 }) g3 λh' hn2 hs2=>?_
 obtain⟨oD,esD,epD,hoD,hdD,hcD⟩:=hn2.count (ns:=[name]) (PySem.Within.cons name v (ns:=[]) (λy hy=>absurd rfl hy))
 refine wpAny_bind (wpAny_lookBehind hoD (by rw [hdD];exact pastItsLine_dict (Nat.le_trans hcD (by show 1<=sizeLine+1;decide))) ?_)
 refine wpAny_pure (h h' ((hs2.2 _ hlt).trans g1) hn2 λb ob hb e=>?_)
 have hb2:b≠s.heap.objs.size:=Nat.ne_of_lt (Heap.lt_size e)
 exact (hs2.2 b hb2).trans ((g2 b hb).trans (Heap.get?_push_of_some _ e))
theorem pP {ox:Obj} {od:Option Obj} {tk:Tok} {fill expr:Bool} {Q:Value->Shared->Prop} (X:K.In s.heap) (I:PySem.W.InstAt s.heap x ox C od) (hc:clsIn K C=some cd) (hm:bj cd.mro=true)
  (hga:findIn K (.ref C) "__getattribute__"=some (some (.builtin "BaseException.__getattribute__"))) (hk:findIn K (.ref C) "__getattr__"=some none)
  (h:wpAny (model prog w) A.in1 (Builtin.«object.__getattribute__» ⟨[.ref x,.str name tk],[]⟩)
   (λfin s'=>match fin with | .done (.ret v)=>handedIn v=true/\Q v s' | _=>False) (λ_ _=>False) s) :
  wpAny (model prog w) A (getAttrBy (.ref x) (.str name tk) fill expr) Q E s:=by
 obtain⟨hh',g,d,t,os⟩:=s
 obtain⟨m1,m2,m3⟩:=d4 hm
 have L0:=I.type (M:=model prog w)
 have L1:=looks_findIn (M:=model prog w) X hga
 have L2:=looks_findIn (M:=model prog w) X hk
 have FX:=F.excAttr_ValueError
 have e0:(expr && onTheHeap (Value.builtin "BaseException.__getattribute__"))=false:=by cases expr<;>rfl
 unfold getAttrBy
 refine wpAny_holding (wpAny_bind (L0.at (wpAny_bind (L1.at ?_))))
 show wpAny _ _ (getAttrByItsOwn (.ref x) (.str name tk) (.ref C) (.builtin "BaseException.__getattribute__") fill expr) _ _ _
 unfold getAttrByItsOwn
 refine wpAny_bind (L2.at (wpAny_bind (wpAny_attempt (wpAny_holding ?_))))
 unfold callGetattribute
 rw [e0,if_neg Bool.false_ne_true]
 unfold boundAndCalled
 rw [FX.ga.bind]
 refine wpAny_bind (wpAny_pure (wpAny_call ?_))
 show codeAny _ _ (.call (.builtin "BaseException.__getattribute__") ⟨[.ref x,.str name tk],[]⟩) _ _
 have sub:Looks (model prog w) hh' (isInstance (.ref x) (.type "BaseException")) true:=L0.andThen (looks_mroIn X (by unfold mroIn;rw [hc,Option.bind_some,if_neg (by rw [m3];decide),m2]))
 have hk1:builtinKind "BaseException.__getattribute__"=some .slot:=by decide +kernel
 have hsplit:splitId "BaseException.__getattribute__"=some ("BaseException","__getattribute__"):=by decide +kernel
 refine codeAny_call_builtin FX.ga.plain F.entry_bexc_ga (@check_slot (model prog w) _ _ ⟨hh',g,d,t,os⟩ "BaseException.__getattribute__" "BaseException" "__getattribute__" (.ref x) [.str name tk] [] _ hk1 hsplit sub (F.args_bexc_ga (.ref x) (.str name tk)) ?_)
 refine wpAny_mono h (λfin s' z=>?_) λ_ _ z=>z.elim
 rcases fin with (_ | _ | _ | v) | _
 ·exact z.elim
 ·exact z.elim
 ·exact z.elim
 ·show wpAny _ _ (handedOut v) Q E s'
  rw [handedOut_of z.1]
  exact wpAny_pure z.2
 ·exact z.elim
theorem sQ {ox:Obj} {od:Option Obj} {expr:Bool} {Q:Value->Shared->Prop} (X:K.In s.heap) (I:PySem.W.InstAt s.heap x ox C od) (hc:clsIn K C=some cd) (hm:bj cd.mro=true)
  (hga:findIn K (.ref C) "__getattribute__"=some (some (.builtin "BaseException.__getattribute__"))) (hk:findIn K (.ref C) "__getattr__"=some none)
  (hf:findObj K C od name=some (.value v)) (hv:handedIn v=true) (h:Q v { s with toks:=s.toks+1 }):wpAny (model prog w) A (getAttr (.ref x) name expr) Q E s:=by
 obtain⟨hh',g,d,t,os⟩:=s
 unfold getAttr
 refine wpAny_bind (wpAny_mkText (pP (s:=⟨hh',g,d,t+1,os⟩) X I hc hm hga hk ?_))
 have L0:=I.type (M:=model prog w)
 have L1:=looks_find (M:=model prog w) X I hf
 refine wpAny_bind (wpAny_pure (wpAny_bind (wpAny_pure (wpAny_bind (L0.at (wpAny_bind (L1.at ?_)))))))
 exact wpAny_pure ⟨hv,h⟩
structure a0 (K:PySem.W.Frag) (C:Addr):Prop where
 cls:∃ cd,clsIn K C=some cd/\bj cd.mro=true/\cd.hasDict=true
 at_:∃ od cd sl,K.lookup C=some ⟨.type "type",od,.cls cd,sl⟩
 sa:findIn K (.ref C) "__setattr__"=some (some (.builtin "object.__setattr__"))
 ga:findIn K (.ref C) "__getattribute__"=some (some (.builtin "BaseException.__getattribute__"))
 gx:findIn K (.ref C) "__getattr__"=some none
 ca:findIn K (.ref C) "__class__"=some (some (.builtin "object.__class__"))
 gs:specialIn K (.builtin "object.__class__") "__get__"=some (some (.builtin "getset_descriptor.__get__"))
 tk:takesIn K (.builtin "object.__class__")=some true
theorem a0.obj (c:a0 K C):mroIn K C (.type "object")=some true:=by
 obtain⟨cd,hc,hm,_⟩:=c.cls
 obtain⟨m1,m2,m3⟩:=d4 hm
 unfold mroIn
 rw [hc,Option.bind_some,if_neg (by rw [m3];decide),m1]
theorem a0.there (c:a0 K C) {h:Heap} (X:K.In h):∃ oc od cd sl,h.get? C=some ⟨oc,od,.cls cd,sl⟩:=by
 obtain⟨cd,hc,_⟩:=c.cls
 unfold clsIn at hc
 split at hc
 ·rename_i c' d' cd' sl' ho
  exact⟨_,_,_,_,X _ _ ho⟩
 ·cases hc
theorem mB {ox:Obj} {od:Option Obj} (c:a0 K C):KitX K (.ref x) (.ref C) (λh=>PySem.W.InstAt h x ox C od) where
 ty:=λ_ _ _ I=>I.type
 it:=λ_ h X _=>by
  obtain⟨oc,od,cd,sl,ho⟩:=c.there X
  intro A' Q' E' s' k q
  unfold isType loadHead
  exact wpAny_bind (wpAny_loadPart (k _ _ ho) (wpAny_pure q))
 ne:=λh tp dd its n sl X htp=>by
  obtain⟨oc,od,cd,sl',ho⟩:=c.there X
  refine Bool.eq_false_iff.mpr λq=>?_
  have e:C=tp:=Value.ref.inj (beq_iff_eq.mp q)
  subst e
  rw [ho] at htp
  cases htp
 ca:=λ{prog w A E Q s} X I k=>by
  obtain⟨cd,hc,hm,_⟩:=c.cls
  have hf:findObj K C od "__class__"=some (.bind (.builtin "getset_descriptor.__get__") (.builtin "object.__class__")):=by
   unfold findObj
   rw [hc,Option.bind_some,c.ca,Option.bind_some]
   simp [c.gs,c.tk]
  obtain⟨hh',g,d,t,os⟩:=s
  unfold getAttr? getAttrBy?
  refine wpAny_bind (wpAny_mkText (wpAny_bind (wpAny_attempt (pP (s:=⟨hh',g,d,t+1,os⟩) X I hc hm c.ga c.gx ?_))))
  have L0:=I.type (M:=model prog w)
  have L1:=looks_find (M:=model prog w) X I hf
  refine wpAny_bind (wpAny_pure (wpAny_bind (wpAny_pure (wpAny_bind (L0.at (wpAny_bind (L1.at ?_)))))))
  show wpAny _ _ (holding [.builtin "object.__class__"] (call (.builtin "getset_descriptor.__get__") [.builtin "object.__class__",.ref x,.ref C]) >>= ret) _ _ _
  refine wpAny_bind (wpAny_holding (wpAny_call (class_get (s:=⟨hh',g,d,t+1,os⟩) (ox:=ox) (od:=od) X I c.obj ?_)))
  exact wpAny_pure ⟨rfl,wpAny_pure k⟩
end
section
variable {prog:Program} {w:World} {A:Around} {E:Value->Shared->Prop} {h:Heap} {g:Array GenState} {d:Drawn} {t:Nat} {os:OsState}
variable {nm q:Str} {C N:Addr} {bs bm:List Value} {hdct:Bool} {sn:List Str} {sub:List Value} {ab:Bool} {col:Option Bool} {dd:Option Addr} {k0 k1 k2 k3 k5:Option Value}
abbrev j5:String := "ValueError.__new__"
abbrev newExc (C a:Addr):Obj:={ cls:=.ref C,data:=.fields #[.ref a,.none,.none,.none,.bool false,.none] }
theorem sR (hB:bm.contains (.type "ValueError")=true) (hA:bm.contains (.type "AttributeError")=false) (hN:bm.contains (.type "NameError")=false) {rest:List Value} {R:Result->Shared->Prop}
  (hC:h.get? C=some (excClassObj nm q C N bs bm hdct sn sub ab col dd k0 k1 k2 k3 k5 j5)) (hrest:rest.length<=sizeLine)
  (hq:R (.ok (.ret (.ref (h.objs.size+1)))) ⟨(h.push { cls:=.type "tuple",data:=.seq rest.toArray }).push (newExc C h.objs.size),g,d,t,os⟩) :
  codeAny (model prog w) A (.builtin j5 ⟨.ref C::rest,[]⟩) R ⟨h,g,d,t,os⟩:=by
 have Fn:=PySem.F.excBase_ValueError
 have hends:=Fn.ends
 have cB:(Value.ref C::bm).contains (.type "ValueError")=true:=by rw [List.contains_cons,hB,Bool.or_true]
 have cA:(Value.ref C::bm).contains (.type "AttributeError")=false:=by rw [List.contains_cons,hA];rfl
 have cN:(Value.ref C::bm).contains (.type "NameError")=false:=by rw [List.contains_cons,hN];rfl
 refine codeAny_builtinAt Fn.entry ?_
 unfold Builtin.«BaseException.__new__»
 refine PySem.wpAt_bind ?_
 show PySem.wpAt _ _ _ (stack >>= _) _ _ _
 refine PySem.wpAt_bind (PySem.wpAt_stack λp below=>PySem.wpAt_of_wpAny ?_)
 wp_walk
 refine PySem.wpAt_of_wpAny ?_
 rw [Fn.owner]
 repeat (first | with_reducible refine wpAny_madeHere_exc Fn.canon hC ?_ | with_reducible refine wpAny_loadPart_at hC ?_ | (with_reducible refine wpAny_isSubtype_exc hC ?_;first | rw [cB] | rw [cA] | rw [cN]) | wp_step)
 show R _ _
 rw [Heap.size_push]
 exact hq
theorem iP (hB:bm.contains (.type "ValueError")=true) {rest:List Value} {M:Model} {Q:Unit->Shared->Prop} (hC:h.get? C=some (excClassObj nm q C N bs bm hdct sn sub ab col dd k0 k1 k2 k3 k5 j5))
  (hq:Q () ⟨h,g,d,t,os⟩):wpAny M A (checkBuiltinCall j5 ⟨.ref C::rest,[]⟩) Q E ⟨h,g,d,t,os⟩:=by
 have Fn:=PySem.F.excBase_ValueError
 have cB:(Value.ref C::bm).contains (.type "ValueError")=true:=by rw [List.contains_cons,hB,Bool.or_true]
 have hstar:=Fn.noStar
 simp only [checkBuiltinCall,Fn.newKind,Fn.newSplit,Fn.newRow]
 repeat (first | refine wpAny_loadPart_at hC ?_ | (refine wpAny_isSubtype_exc hC ?_;rw [cB]) | refine wpAny_staticBase_exc hC ?_ | refine wpAny_madeBy_exc hC ?_ | simp only [bne_self_eq_false,Bool.false_eq_true,if_false] | wp_step)
 exact hq
theorem jG {K:PySem.W.Frag} {i:Value} {rest:List Value} {Q:Fin->Shared->Prop} (X:K.In h) (hB:bm.contains (.type "ValueError")=true) (hA:bm.contains (.type "AttributeError")=false) (hN:bm.contains (.type "NameError")=false)
  (hC:h.get? C=some (excClassObj nm q C N bs bm hdct sn sub ab col dd k0 k1 k2 k3 k5 j5)) (hrest:rest.length<=sizeLine) (hi:findIn K (.ref C) "__init__"=some (some i)) {j:Value}
  (hb:Looks (model prog w) h (bindSpecial i (.ref (h.objs.size+1))) (j,[.ref (h.objs.size+1)]))
  (hq:codeAny (model prog w) A (.call j ⟨.ref (h.objs.size+1)::rest,[]⟩) (λr s'=>match r with | .ok (.ret v)=>v=.none/\Q (.done (.ret (.ref (h.objs.size+1)))) s' | .ok _=>False | .error e=>E e s')
   ⟨(h.push { cls:=.type "tuple",data:=.seq rest.toArray }).push (newExc C h.objs.size),g,d,t,os⟩) :
  wpAny (model prog w) A (Builtin.«type.__call__» ⟨.ref C::rest,[]⟩) Q E ⟨h,g,d,t,os⟩:=by
 have Fn:=PySem.F.excBase_ValueError
 repeat (first | with_reducible refine wpAny_loadPart_at hC ?_ | with_reducible refine wpAny_madeBy_exc hC ?_ | wp_step)
 refine codeAny_call_builtin_code (Code.quiet_builtin _ Fn.quiet) (iP hB hC ?_)
 refine sR hB hA hN hC hrest ?_
 show wpAny _ _ _ _ _ _
 have kp:∀ b o,h.get? b=some o->((h.push { cls:=.type "tuple",data:=.seq rest.toArray }).push (newExc C h.objs.size)).get? b=some o:=λb o e=>Heap.get?_push_of_some _ (Heap.get?_push_of_some _ e)
 have hget:((h.push { cls:=.type "tuple",data:=.seq rest.toArray }).push (newExc C h.objs.size)).get? (h.objs.size+1)=some (newExc C h.objs.size):=by
  have:=Heap.get?_push_size (h.push { cls:=.type "tuple",data:=.seq rest.toArray }) (o:=newExc C h.objs.size) rfl
  rwa [Heap.size_push] at this
 have cC:(Value.ref C::bm).contains (.ref C)=true:=by simp
 have hC₁:=kp _ _ hC
 have L1:=(looks_findIn (M:=model prog w) X hi).keeps kp
 have L2:=hb.keeps kp
 unfold isInstance
 repeat (first | with_reducible refine wpAny_loadPart_at hget ?_ | (with_reducible refine wpAny_isSubtype_exc hC₁ ?_;rw [cC]) | wp_step)
 show wpAny _ _ (typeLookup (.ref C) _) _ _ _
 refine L1.at (wpAny_holding (wpAny_bind (L2.at (wpAny_bind (wpAny_call (codeAny_mono hq λr s' z=>?_))))))
 rcases r with e | (_ | _ | _ | v)
 ·exact z
 ·exact z.elim
 ·exact z.elim
 ·exact z.elim
 ·obtain⟨rfl,z⟩:=z
  exact wpAny_pure (wpAny_pure z)
theorem pQ {K:PySem.W.Frag} {i:Value} {rest:List Value} {Q:Value->Shared->Prop} (X:K.In h) (hB:bm.contains (.type "ValueError")=true) (hA:bm.contains (.type "AttributeError")=false) (hN:bm.contains (.type "NameError")=false)
  (hC:h.get? C=some (excClassObj nm q C N bs bm hdct sn sub ab col dd k0 k1 k2 k3 k5 j5)) (hrest:rest.length<=sizeLine) (hi:findIn K (.ref C) "__init__"=some (some i)) {j:Value}
  (hb:Looks (model prog w) h (bindSpecial i (.ref (h.objs.size+1))) (j,[.ref (h.objs.size+1)]))
  (hq:codeAny (model prog w) (A.under (.builtin "type.__call__" ⟨.ref C::rest,[]⟩)) (.call j ⟨.ref (h.objs.size+1)::rest,[]⟩) (λr s'=>match r with | .ok (.ret v)=>v=.none/\Q (.ref (h.objs.size+1)) s' | .ok _=>False | .error e=>E e s')
   ⟨(h.push { cls:=.type "tuple",data:=.seq rest.toArray }).push (newExc C h.objs.size),g,d,t,os⟩) :
  wpAny (model prog w) A (call (.ref C) rest) Q E ⟨h,g,d,t,os⟩:=by
 have f1:=tc_lookup
 have f2:=tc_bind (.ref C)
 have hT:(⟨h,g,d,t,os⟩:Shared).TypeIs (.ref C) "type":=⟨_,hC,rfl⟩
 refine wpAny_call (codeAny_of_tree ?_)
 show wpAny _ _ (callAny (.ref C) _) _ _ _
 repeat (any_goals (first | assumption | with_reducible refine wpAny_loadPart_at hC ?_ | wp_step))
 refine⟨rfl,?_⟩
 refine codeAny_call_builtin_at (Code.quiet_builtin _ (by decide +kernel)) entry_typeCall (wpAny_check_type_call_sub hC ?_)
 exact jG X hB hA hN hC hrest hi hb hq
end
def Tr (h:Heap) (e:Addr) (C:Value) (dd:Option Addr) (T:Addr) (fl:Value):Prop :=
 ∃ vs sl oT ts,h.get? e=some ⟨C,dd,.fields vs,sl⟩/\vs[1]?=some (.ref T)/\T≠e/\h.get? T=some oT/\oT.data=.fields ts/\ts[3]?=some fl
structure Kp (fs ch:List Addr) (h h':Heap):Prop where
 keep:∀ b o,b∉ch->b∉fs->h.get? b=some o->h'.get? b=some o
 slot:∀ b o,b∉ch->h.get? b=some o->∃ sl,h'.get? b=some { o with slots:=sl }
theorem Kp.trans {fs ch:List Addr} {h h' h'':Heap} (a:Kp fs ch h h') (b:Kp fs ch h' h''):Kp fs ch h h'' :=
 ⟨λc o hc hf e=>b.keep c o hc hf (a.keep c o hc hf e),λc o hc e=>by
  obtain⟨sl,e1⟩:=a.slot c o hc e
  obtain⟨sl',e2⟩:=b.slot c _ hc e1
  exact⟨sl',e2⟩⟩
theorem Kp.mono {fs ch ch':List Addr} {h h':Heap} (a:Kp fs ch h h') (hs:∀ b∈ch,b∈ch'):Kp fs ch' h h' :=
 ⟨λc o hc hf e=>a.keep c o (λz=>hc (hs c z)) hf e,λc o hc e=>a.slot c o (λz=>hc (hs c z)) e⟩
section
variable {M:Model} {A:Around} {E:Value->Shared->Prop} {s:Shared} {base:Heap} {env:Env} {outer:List Env} {L e T:Addr} {C:Value} {dd:Option Addr} {fl:Value}
theorem ko {vs:Array Value} {sl:Array (Option Value)} {head:Value} {hadNext:Bool} {Q:Unit->Shared->Prop} (hfr:A.frames=some (env::outer)) (hl:s.heap.FunFrames base (env::outer)) (hf:env.frame=some L)
  (he:s.heap.get? e=some ⟨C,dd,.fields vs,sl⟩) (hsz:1<vs.size)
  (h:∀ h' T,Tr h' e C dd T (rawInt L)->s.heap.objs.size<=T->Kp (eS (env::outer)) [e] s.heap h'->Q () { s with heap:=h' }) :
  wpAny M A (do let a <- frameOf env;let pl <- entryPlaceOf L hadNext;let b <- EntryCells.newEntry head a .none (rawInt L) .none pl;setField (.ref e) 1 b) Q E s:=by
 have hne:e∉eS (env::outer):=λhm=>by
  obtain⟨_,o,ho,hnf⟩:=hl.mem hm
  rw [he] at ho
  cases ho
  exact hnf vs rfl
 refine wpAny_bind (wpAny_frameOf_fun hfr hl hf λh1 so=>?_)
 refine wpAny_bind (wpAny_entryPlaceOf λpl hpl=>?_)
 unfold EntryCells.newEntry newFields
 refine wpAny_bind (wpAny_newObj_type ?_ (hpl.sizeOk5 _ _ _ _ _))
 have e1:h1.get? e=some ⟨C,dd,.fields vs,sl⟩:=(so.2.1 e hne).trans he
 generalize hO:({ cls:=.type "traceback",dict:=none,data:=.fields ([head,.ref L,.none,rawInt L,.none]++(if pl.isEmpty then List.replicate 6 Value.none else pl)).toArray }:Obj)=oT
 have hTd:oT.data=.fields ([head,.ref L,.none,rawInt L,.none]++(if pl.isEmpty then List.replicate 6 Value.none else pl)).toArray:=by rw [<- hO]
 have hTf:oT.isFreed=false:=by rw [<- hO];rfl
 have e2:(h1.push oT).get? e=some ⟨C,dd,.fields vs,sl⟩:=Heap.get?_push_of_some oT e1
 refine wpAny_setField e2 rfl hsz (h _ h1.objs.size ?_ ?_ ?_)
 ·have ne:h1.objs.size≠e:=Nat.ne_of_gt (Heap.lt_size e1)
  refine⟨vs.setIfInBounds 1 (.ref h1.objs.size),sl,oT,_,Heap.get?_update_self _ e2 rfl,by simp [hsz],ne,?_,hTd,by simp⟩
  rw [Heap.get?_update_other _ _ (Ne.symm ne)]
  exact Heap.get?_push_size h1 hTf
 ·exact Nat.le_of_eq (Eq.symm so.1)
 ·refine⟨λb o hb hf' q=>?_,λb o hb q=>?_⟩
  ·have hb':b≠e:=λz=>hb (by simp [z])
   rw [Heap.get?_update_other _ _ (Ne.symm hb')]
   exact Heap.get?_push_of_some oT ((so.2.1 b hf').trans q)
  ·have hb':b≠e:=λz=>hb (by simp [z])
   obtain⟨sl',q'⟩:=so.2.2 b o q
   refine⟨sl',?_⟩
   rw [Heap.get?_update_other _ _ (Ne.symm hb')]
   exact Heap.get?_push_of_some oT q'
theorem lP {vs:Array Value} {sl:Array (Option Value)} {Q:Unit->Shared->Prop} (hfr:A.frames=some (env::outer)) (hl:s.heap.FunFrames base (env::outer)) (hf:env.frame=some L)
  (he:s.heap.get? e=some ⟨C,dd,.fields vs,sl⟩) (h1:vs[1]?=some .none)
  (h:∀ h' T,Tr h' e C dd T (rawInt L)->s.heap.objs.size<=T->Kp (eS (env::outer)) [e] s.heap h'->Q () { s with heap:=h' }):wpAny M A (noteFrame (.ref e) env) Q E s:=by
 unfold noteFrame
 simp only [hf]
 refine wpAny_bind (wpAny_field he rfl h1 ?_)
 rw [if_neg (by decide)]
 exact ko hfr hl hf he (Array.getElem?_eq_some_iff.mp h1).1 h
theorem oE {Q:Unit->Shared->Prop} (hfr:A.frames=some (env::outer)) (hl:s.heap.FunFrames base (env::outer)) (hf:env.frame=some L) (ht:Tr s.heap e C dd T .none)
  (h:∀ h' T',Tr h' e C dd T' (rawInt L)->s.heap.objs.size<=T'->Kp (eS (env::outer)) [e,T] s.heap h'->Q () { s with heap:=h' }):wpAny M A (noteFrame (.ref e) env) Q E s:=by
 obtain⟨vs,sl,oT,ts,he,h1,hTe,hT,hdT,h3⟩:=ht
 unfold noteFrame
 simp only [hf]
 refine wpAny_bind (wpAny_field he rfl h1 ?_)
 rw [if_pos (show (Value.ref T != Value.none)=true from by simp)]
 refine wpAny_bind (wpAny_field hT hdT h3 ?_)
 rw [if_neg (show ¬((Value.none==rawInt L)=true) from by simp [rawInt])]
 refine wpAny_bind (wpAny_setField hT hdT (Array.getElem?_eq_some_iff.mp h3).1 ?_)
 generalize hu:s.heap.update T (Obj.mapFields (·.setIfInBounds 3 Value.none))=h1'
 have oth:∀ b,b≠T->h1'.get? b=s.heap.get? b:=λb hb=>by rw [<- hu];exact Heap.get?_update_other _ _ (Ne.symm hb)
 have hT1:∃ o,h1'.get? T=some o:=⟨_,by rw [<- hu];exact Heap.get?_update_self _ hT (Obj.isFreed_of_fields (Obj.data_mapFields hdT _))⟩
 have hl1:h1'.FunFrames base (env::outer):=hl.of_keeps λb o hb hnf=>⟨o,(oth b λq=>by rw [q,hT] at hb;cases hb;exact hnf ts hdT).trans hb,rfl⟩
 refine ko (s:={ s with heap:=h1' }) hfr hl1 hf ((oth e (Ne.symm hTe)).trans he) (Array.getElem?_eq_some_iff.mp h1).1 λh' T' t' n' k'=>h h' T' t' ?_ ?_
 ·have z:h1'.objs.size=s.heap.objs.size:=by rw [<- hu];exact Heap.size_update ..
  rw [<- z];exact n'
 ·refine⟨λb o hb hf' q=>k'.keep b o (λz=>hb (by simp at z;simp [z])) hf' ((oth b λz=>hb (by simp [z])).trans q),λb o hb q=>k'.slot b o (λz=>hb (by simp at z;simp [z])) ((oth b λz=>hb (by simp [z])).trans q)⟩
theorem land {Q:Unit->Shared->Prop} {fs:List Addr} (ht:Tr s.heap e C dd T fl) (h:∀ h',Tr h' e C dd T .none->Kp fs [T] s.heap h'->Q () { s with heap:=h' }):wpAny M A (setFlight (.ref e) none) Q E s:=by
 obtain⟨vs,sl,oT,ts,he,h1,hTe,hT,hdT,h3⟩:=ht
 unfold setFlight
 refine wpAny_bind (wpAny_field he rfl h1 ?_)
 rw [if_pos (show (Value.ref T != Value.none)=true from by simp)]
 have hsz:=(Array.getElem?_eq_some_iff.mp h3).1
 refine wpAny_setField hT hdT hsz (h _ ?_ ?_)
 ·refine⟨vs,sl,_,_,(Heap.get?_update_other _ _ hTe).trans he,h1,hTe,Heap.get?_update_self _ hT (Obj.isFreed_of_fields (Obj.data_mapFields hdT _)),Obj.data_mapFields hdT _,by simp [hsz]⟩
 ·refine⟨λb o hb _ q=>(Heap.get?_update_other _ _ λz=>hb (by simp [z])).trans q,λb o hb q=>⟨o.slots,(Heap.get?_update_other _ _ λz=>hb (by simp [z])).trans q⟩⟩
theorem kx {vs:Array Value} {sl:Array (Option Value)} {Q:Unit->Shared->Prop} (hfr:A.frames=some (env::outer)) (hl:s.heap.FunFrames base (env::outer)) (hf:env.frame=some L)
  (he:s.heap.get? e=some ⟨C,dd,.fields vs,sl⟩) (h1:vs[1]?=some .none)
  (h:∀ h' T,Tr h' e C dd T .none->s.heap.objs.size<=T->Kp (eS (env::outer)) [e] s.heap h'->Q () { s with heap:=h' }):wpAny M A (leaving env (.ref e)) Q E s:=by
 unfold leaving
 refine wpAny_bind (lP hfr hl hf he h1 λh1' T t1 n1 k1=>?_)
 refine land (fs:=eS (env::outer)) t1 λh2 t2 k2=>h h2 T t2 n1 ⟨λb o hb hf' q=>?_,λb o hb q=>?_⟩
 ·exact k2.keep b o (λz=>by simp at z;rw [z] at q;exact absurd (Heap.lt_size q) (Nat.not_lt.mpr n1)) hf' (k1.keep b o hb hf' q)
 ·obtain⟨s1,q1⟩:=k1.slot b o hb q
  obtain⟨s2,q2⟩:=k2.slot b _ (λz=>by simp at z;rw [z] at q;exact absurd (Heap.lt_size q) (Nat.not_lt.mpr n1)) q1
  exact⟨s2,q2⟩
end
def XO (x C:Addr) (dd:Option Addr):HO:=.ext λh=>∃ vs sl,h.get? x=some ⟨.ref C,dd,.fields vs,sl⟩
def XN (x C:Addr) (dd:Option Addr):HO:=.ext λh=>∃ t sl,h.get? x=some ⟨.ref C,dd,.fields #[.ref t,.none,.none,.none,.bool false,.none],sl⟩
section
variable {P:Program} {w:World} {H H':Hp} {h h':Heap} {x C:Addr} {dd:Option Addr}
theorem XO.ok {vs:Array Value} {sl:Array (Option Value)} (e:h.get? x=some ⟨.ref C,dd,.fields vs,sl⟩):aS P w H h x (XO x C dd) :=
 ⟨⟨vs,sl,e⟩,⟨_,e⟩,λ_ _ ⟨vs,sl,q⟩ k=>⟨vs,sl,k _ q⟩⟩
theorem XN.ok {t:Addr} {sl:Array (Option Value)} (e:h.get? x=some ⟨.ref C,dd,.fields #[.ref t,.none,.none,.none,.bool false,.none],sl⟩):aS P w H h x (XN x C dd) :=
 ⟨⟨t,sl,e⟩,⟨_,e⟩,λ_ _ ⟨vs,sl,q⟩ k=>⟨vs,sl,k _ q⟩⟩
theorem XN.get (hok:dB P w H h) (e:H x=some (XN x C dd)):∃ t sl,h.get? x=some ⟨.ref C,dd,.fields #[.ref t,.none,.none,.none,.bool false,.none],sl⟩:=by
 obtain⟨q,_⟩:=(show aS P w H h x (XN x C dd) from hok x _ e)
 exact q
theorem XO.get (hok:dB P w H h) (e:H x=some (XO x C dd)):∃ vs sl,h.get? x=some ⟨.ref C,dd,.fields vs,sl⟩:=by
 obtain⟨q,_⟩:=(show aS P w H h x (XO x C dd) from hok x _ e)
 exact q
end
def kX (P:Program) (w:World):eP:=λouter H s E e s'=>∃(x C T:Addr) (dd:Option Addr) (H':Hp),e=.ref x/\s'.os=s.os/\AllBare s'.gens/\Un (eS outer) [] H H' s.heap s'.heap/\dB P w H' s'.heap /\
 Tr s'.heap x (.ref C) dd T .none/\s.heap.get? x=none/\s.heap.get? T=none/\H' T=none/\H' x=some (XO x C dd)/\E (.ref C) (some x) H'
theorem mE {base h h':Heap} {H H':Hp} {ex:List Addr}:∀{l:List Env} {fs:List Addr},h.FunFrames base l->Un fs ex H H' h h'->(∀ b∈eS l,H b=none)->(∀ b∈eS l,b∉ex)->h'.FunFrames base l
 | [],_,_,_,_,_=>trivial
 | env::r,fs,hl,u,hn,hx=>by
  obtain⟨hk,⟨L,o,hf,hb,ho,hd⟩,hr⟩:=hl
  have hL:L∈eS (env::r):=by unfold eS;rw [List.filterMap_cons,hf];exact List.mem_cons_self
  have sub:∀ b∈eS r,b∈eS (env::r):=λb hb'=>by unfold eS;rw [List.filterMap_cons,hf];exact List.mem_cons_of_mem _ hb'
  obtain⟨sl,e⟩:=u.any ho (hn L hL) (hx L hL)
  exact⟨hk,⟨L,_,hf,hb,e,hd⟩,mE hr u (λb hb'=>hn b (sub b hb')) λb hb'=>hx b (sub b hb')⟩
theorem mC {P:Program} {w:World} {H':Hp} {h h':Heap} {x C:Addr} {dd:Option Addr} {fs ch:List Addr} (hok:dB P w H' h) (k:Kp fs ch h h') (hch:∀ b∈ch,b=x∨H' b=none) (hfs:∀ b∈fs,H' b=none)
  (hx:H' x=some (XO x C dd)) {vs:Array Value} {sl:Array (Option Value)} (e:h'.get? x=some ⟨.ref C,dd,.fields vs,sl⟩):dB P w H' h':=by
 intro b o q
 by_cases hb:b=x
 ·subst hb
  rw [hx] at q
  cases q
  exact XO.ok e
 ·refine (hok b o q).gy (λc u hc r=>k.keep c u (λz=>?_) (λz=>?_) r) (λ_ r=>r) λ_ _ r=>r
  ·rcases hch c z with q1 | q1
   ·rcases hc with q2 | q2
    ·exact hb (q2.symm.trans q1)
    ·rw [q1,hx] at q2;cases q2
   ·rcases hc with q2 | q2
    ·rw [q2,q] at q1;cases q1
    ·rw [q2] at q1;cases q1
  ·have q1:=hfs c z
   rcases hc with q2 | q2
   ·rw [q2,q] at q1;cases q1
   ·rw [q2] at q1;cases q1
section
variable {prog:Program} {w:World} {A:Around} {E:Value->Shared->Prop} {s:Shared} {K:PySem.W.Frag} {env:Env}
theorem iQ {x:Sem Value} {Q:Flow->Shared->Prop} (hh:A.handled=none)
  (h:wpAny (model prog w) A x (λv s₁=>∃ e C t dd sl,v=.ref e/\K.In s₁.heap/\a0 K C/\s₁.heap.get? e=some ⟨.ref C,dd,.fields #[.ref t,.none,.none,.none,.bool false,.none],sl⟩/\E (.ref e) s₁) E s) :
  wpAny (model prog w) A (raiseStmt env (some x) none) Q E s:=by
 unfold raiseStmt
 refine wpAny_bind (wpAny_mono h (λv s₁ h₁=>?_) λ_ _ z=>z)
 obtain⟨e,C,t,dd,sl,rfl,X,c,he,hE⟩:=h₁
 obtain⟨hp,g,d,tk,os⟩:=s₁
 have L1:Looks (model prog w) hp (isSubtype (.ref C) (.type "BaseException")) true:=by
  obtain⟨cd,hc,hm,_⟩:=c.cls
  obtain⟨m1,m2,m3⟩:=d4 hm
  exact looks_mroIn X (by unfold mroIn;rw [hc,Option.bind_some,if_neg (by rw [m3];decide),m2])
 obtain⟨od,cd,sc,hk⟩:=c.at_
 have hC:=X _ _ hk
 repeat (first | with_reducible refine wpAny_loadPart_at he ?_ | with_reducible refine wpAny_loadPart_at hC ?_ | with_reducible refine Looks.at L1 ?_ | wp_step)
 exact wpAny_raiseNew_none hh hE
end
def rJ (K:PySem.W.Frag) (H₀:Hp) (E:XK) (te:TE):TS:=λ_ σ H=>te σ H λv H1=>∃ x C dd,v=.ref x/\H1 x=some (XN x C dd)/\a0 K C/\H₀ x=none/\E (.ref C) (some x) (upd H1 x (XO x C dd))
section
variable {P:Program} {w:World} {K:PySem.W.Frag} {mg:Str->Option Value} {base:Heap} {N:List Str} {qual:Str} {scope:Scope} {f:Addr} {cd:Value} {A:Around} {outer:List Env} {s:Shared} {H:Hp} {E:XK}
theorem oR {pins:List (Addr × Obj)} {σ:St} {H2:Hp} {s2:Shared} {x C:Addr} {dd:Option Addr} (I:Inv (cQ (kX P w) P w K mg base N qual scope f cd A outer s H E) pins σ H2 s2) (hx:H2 x=some (XN x C dd)) (hn:H x=none)
  (hE:E (.ref C) (some x) (upd H2 x (XO x C dd))):(cQ (kX P w) P w K mg base N qual scope f cd A outer s H E).xe (.ref x) s2:=by
 obtain⟨t,sl,he⟩:=XN.get I.hok hx
 have nex:∀ b:Addr,b∉(cQ (kX P w) P w K mg base N qual scope f cd A outer s H E).ex:=λb z=>absurd (show b∈([]:List Addr) from z) (by simp)
 have nx:s.heap.get? x=none:=by
  cases q:s.heap.get? x with
  | none=>rfl
  | some o =>
   have:=I.base.free x o q hn (nex x)
   rw [hx] at this
   cases this
 have old:∀ b o,s.heap.get? b=some o->b≠x:=λb o q z=>by rw [z,nx] at q;cases q
 have nfr:∀ b o,s.heap.get? b=some o->b∉eS outer->b∉eS (envOfC qual scope s.heap.objs.size f cd::outer):=λb o q hb hm=>by
  rcases List.mem_cons.mp (I.e9 b hm) with z | z
  ·exact absurd (Heap.lt_size q) (by rw [z];exact Nat.lt_irrefl _)
  ·exact hb z
 have hok':dB P w (upd H2 x (XO x C dd)) s2.heap:=λb o q=>by
  by_cases hb:b=x
  ·subst hb
   rw [aj] at q
   cases q
   exact XO.ok he
  ·rw [ao hb] at q
   refine (I.hok b o q).gy (λ_ _ _ r=>r) (λc r=>?_) λc xs r=>?_
   ·rw [ao (λz=>by rw [z,hx] at r;cases r)];exact r
   ·rw [ao (λz=>by rw [z,hx] at r;cases r)];exact r
 show wpAny (model P w) (A.deeper (envOfC qual scope s.heap.objs.size f cd)) (leaving (envOfC qual scope s.heap.objs.size f cd) (.ref x)) _ _ s2
 refine kx (L:=s.heap.objs.size) I.ok.frames I.stack rfl he rfl λh'' T t' n' k'=>?_
 obtain⟨vs,sl',oT,ts,he',r'⟩:=t'
 have tr':Tr h'' x (.ref C) dd T .none:=⟨vs,sl',oT,ts,he',r'⟩
 have nT:T≠x:=r'.2.1
 refine⟨x,C,T,dd,upd H2 x (XO x C dd),rfl,I.os,I.bare,?_,?_,tr',nx,?_,?_,aj,hE⟩
 ·refine⟨λb o q nn hb _=>?_,λb o q nn hb _=>?_,λb o q nn _=>?_,λb o q _=>?_,λb xs q=>?_,λb o xs q=>?_,λb ps q=>?_⟩
  ·exact k'.keep b o (by simp [old b o q]) (nfr b o q hb) (I.base.keep b o q nn hb (nex b))
  ·obtain⟨s1',q1⟩:=I.base.slot b o q nn hb (nex b)
   obtain⟨s3',q3⟩:=k'.slot b _ (by simp [old b o q]) q1
   exact⟨s3',q3⟩
  ·rw [ao (old b o q)]
   exact I.base.free b o q nn (nex b)
  ·obtain⟨o1,q1⟩:=I.base.there b o q (nex b)
   obtain⟨s3',q3⟩:=k'.slot b _ (by simp [old b o q]) q1
   exact⟨_,q3⟩
  ·have:=I.base.tups b xs q
   rw [ao (λz=>by rw [z,hx] at this;cases this)];exact this
  ·have:=I.base.frzs b o xs q
   rw [ao (λz=>by rw [z,hx] at this;cases this)];exact this
  ·obtain⟨m1,e1⟩:=I.base.tbls b ps q
   exact⟨m1,by rw [ao (λz=>by rw [z,hx] at e1;cases e1)];exact e1⟩
 ·exact mC hok' k' (λb hb=>.inl (by simpa using hb)) (λb hb=>by
   have z:=I.fN b hb
   rw [ao (λy=>by rw [y,hx] at z;cases z)];exact z) aj he'
 ·cases q:s.heap.get? T with
  | none=>rfl
  | some o =>
   obtain⟨o1,q1⟩:=I.base.there T o q (nex T)
   exact absurd (Heap.lt_size q1) (Nat.not_lt.mpr n')
 ·rw [ao nT]
  exact I.hok.fresh n'
theorem kK {e:Expr} {te:TE} {pos:Pos} (he:PE (cQ (kX P w) P w K mg base N qual scope f cd A outer s H E) e te):PS (cQ (kX P w) P w K mg base N qual scope f cd A outer s H E) (.Raise (some e) none pos) (rJ K H E te):=by
 intro pins s1 σ H1 D I h
 rw [arm_exec_Raise]
 refine wpAny_bind (wpAny_standAt (iQ (K:=K) (I.ok.hd rfl) (wpAny_bind (aR (he pins s1 σ H1 _ I h) λv s2 ⟨y,H2,I2,r,x,C,dd,ey,hx,c,hn,hE⟩=>?_))))
 subst ey
 obtain rfl:v=Value.ref x:=r
 obtain⟨t,sl,hg⟩:=XN.get I2.hok hx
 exact wpAny_bind (wpAny_standAt (wpAny_pure ⟨x,C,t,dd,sl,rfl,I2.dC,c,hg,oR I2 hx hn hE⟩))
end
section
variable {prog:Program} {w:World} {A:Around} {E:Value->Shared->Prop} {h:Heap} {g:Array GenState} {d:Drawn} {t:Nat} {os:OsState}
variable {nm q:Str} {C N:Addr} {bs bm:List Value} {hdct:Bool} {sn:List Str} {sub:List Value} {ab:Bool} {col:Option Bool} {dd:Option Addr} {k0 k1 k2 k3 k5:Option Value}
end
theorem cp.any {P:Program} {w:World} {K:PySem.W.Frag} {mg:Str->Option Value} {base:Heap} {CX:eP} {k:Nat} {f:Addr} {fd:FuncData} {ps:List Str} {sp:Sp} (F:cp P w K mg base ba k f fd ps sp):cp P w K mg base CX k f fd ps sp :=
 ⟨F.len,λA outer s H args us vs Q E hr he hb hv hs=>codeAny_mono (F.run A outer s H args us vs Q E hr he hb hv hs) λr s' q=>by
  cases r with
  | error e=>exact False.elim q
  | ok fl =>
   cases fl with
   | ret u=>exact q
   | next=>exact q
   | brk=>exact q
   | cont=>exact q⟩
def yE (K:PySem.W.Frag) (ta tv:TE) (f:Str):TS:=λD σ H=>tv σ H λy H1=>ta σ H1 λxv H2=>∃ x C,xv=.ref x/\H2 x=some (XN x C none)/\a0 K C/\findIn K (.ref C) f=some none /\
 ∀ dx,H2 dx=none->dx≠x->D.nx σ (upd (upd H2 dx (.xd [(f,y)])) x (XN x C (some dx)))
section
variable {X:Cx} {o value:Expr} {f:Str} {pos pos':Pos} {ta tv:TE}
theorem mW (ha:PE X o ta) (hv:PE X value tv) (hs:swapsWith value (some (.Attribute o f pos')) pos.line X.env=pure false:=by rfl):PS X (.Assign [.Attribute o f pos'] value pos) (yE X.K ta tv f):=by
 intro pins s σ H D I h
 refine plainObj_wpAny_Assign_Attribute (aR (hv pins s σ H _ I h) λu s1 ⟨y,H1,I1,ry,q⟩=>aR (ha pins s1 σ H1 _ I1 q) λov s2 ⟨xv,H2,I2,rx,x,C,ex,hx,c,hf,q2⟩=>?_) hs
 subst ex
 obtain rfl:ov=Value.ref x:=rx
 obtain⟨t,sl,hg⟩:=XN.get I2.hok hx
 obtain⟨cd,hc,hm,hh⟩:=c.cls
 refine sS I2.dC hg hc hm hh c.sa hf λh' g1 g2 g3=>?_
 have hd0:H2 s2.heap.objs.size=none:=I2.hok.fresh (Nat.le_refl _)
 have hne:s2.heap.objs.size≠x:=λz=>by rw [z,hx] at hd0;cases hd0
 have bx:∀ b,H2 b=none->b≠x:=λb z y=>by rw [y,hx] at z;cases z
 have bd:∀ b o,s2.heap.get? b=some o->b≠s2.heap.objs.size:=λb o q=>Nat.ne_of_lt (Heap.lt_size q)
 have tb:∀ b u,H2 b=some u->b≠s2.heap.objs.size:=λb u q z=>by rw [z,hd0] at q;cases q
 refine⟨σ,upd (upd H2 s2.heap.objs.size (.xd [(f,y)])) x (XN x C (some s2.heap.objs.size)),I2.un ⟨λb o q n _ _=>g3 b o (bx b n) q,λb o q n _ _=>⟨o.slots,g3 b o (bx b n) q⟩,λb o q n _=>?_,λb o q _=>?_,λb xs q=>?_,λb o xs q=>?_,λb ps q=>?_⟩ ?_,q2 _ hd0 hne⟩
 ·rw [ao (bx b n),ao (bd b o q)];exact n
 ·by_cases z:b=x
  ·exact⟨_,by rw [z];exact g1⟩
  ·exact⟨o,g3 b o z q⟩
 ·rw [ao (λz=>by rw [z,hx] at q;cases q),ao (tb b _ q)];exact q
 ·rw [ao (λz=>by rw [z,hx] at q;cases q),ao (tb b _ q)];exact q
 ·exact⟨#[],by rw [ao (λz=>by rw [z,hx] at q;cases q),ao (tb b _ q),q];simp⟩
 ·intro b o q
  by_cases z:b=x
  ·subst z
   rw [aj] at q
   cases q
   exact XN.ok g1
  ·rw [ao z] at q
   by_cases z2:b=s2.heap.objs.size
   ·subst z2
    rw [aj] at q
    cases q
    refine⟨_,g2,λk=>?_⟩
    show dO (List.lookup k [(f,y)]) (if k=f then some u else none)
    by_cases e:k=f
    ·subst e
     rw [if_pos rfl,List.lookup_cons,beq_self_eq_true]
     exact ry
    ·have e':(k==f)=false:=by simpa using e
     rw [if_neg e,List.lookup_cons,e']
     exact True.intro
   ·rw [ao z2] at q
    refine (I2.hok b o q).gy (λc' u' hc' r=>g3 c' u' (λz3=>?_) r) (λc' r=>?_) λc' xs r=>?_
    ·rcases hc' with e | e
     ·exact z (e.symm.trans z3)
     ·rw [z3,hx] at e;cases e
    ·rw [ao (λz3=>by rw [z3,hx] at r;cases r),ao (tb c' _ r)];exact r
    ·rw [ao (λz3=>by rw [z3,hx] at r;cases r),ao (tb c' _ r)];exact r
end
structure nO (K:PySem.W.Frag) (C:Addr):Prop where
 obj:∃ nm q N bs bm hdct sn sub ab col dd k0 k1 k2 k3 k5,K.lookup C=some (excClassObj nm q C N bs bm hdct sn sub ab col dd k0 k1 k2 k3 k5 j5)/\bm.contains (.type "ValueError")=true/\bm.contains (.type "AttributeError")=false/\bm.contains (.type "NameError")=false
 kp:keepIn K (.ref C)=true
def rB (K:PySem.W.Frag) (f:Str):Sp:=λvs H Q _=>∃ x C v,vs=[.ref x,v]/\H x=some (XN x C none)/\a0 K C/\findIn K (.ref C) f=some none /\
 ∀ dx,H dx=none->dx≠x->Q .aQ (upd (upd H dx (.xd [(f,v)])) x (XN x C (some dx)))
def zP (C:Addr) (f:Str) (t:TA):TE:=λσ H Q=>t σ H λvs H1=>∃ v,vs=[v]/\∀ x dx,H1 x=none->H1 dx=none->dx≠x->Q (.ref x) (upd (upd (upd H1 x (XN x C none)) dx (.xd [(f,v)])) x (XN x C (some dx)))
def zO (C:Addr):TE:=λ_ H Q=>∀ x,H x=none->Q (.ref x) (upd H x (XN x C none))
section
variable {X:Cx} {C fi:Addr} {fd:FuncData} {p f x:Str} {k:Nat} {pos np:Pos} {e:Expr} {t:TA}
theorem Inv.newExc {pins:List (Addr × Obj)} {σ:St} {H:Hp} {s:Shared} (I:Inv X pins σ H s) (us:List Value):Inv X pins σ (upd H (s.heap.objs.size+1) (XN (s.heap.objs.size+1) C none))
  { s with heap:=(s.heap.push { cls:=.type "tuple",data:=.seq us.toArray }).push (L2.newExc C s.heap.objs.size) }:=by
 have I1:Inv X pins σ H { s with heap:=s.heap.push { cls:=.type "tuple",data:=.seq us.toArray } }:=I.kept (t':=s.toks) λb u q=>Heap.get?_push_of_some _ q
 refine I1.laid (a:=s.heap.objs.size+1) (t':=s.toks) (λb u q=>Heap.get?_push_of_some _ q) (Nat.le_of_eq (Heap.size_push _ _)) ?_
 refine XN.ok (t:=s.heap.objs.size) (sl:=#[]) ?_
 have:=Heap.get?_push_size (s.heap.push { cls:=.type "tuple",data:=.seq us.toArray }) (o:=L2.newExc C s.heap.objs.size) rfl
 rwa [Heap.size_push] at this
end
def xR (H:Hp) (x C:Addr) (dd:Option Addr):Prop:=H x=some (XO x C dd)∨H x=some (XN x C dd)
theorem xR.get {P:Program} {w:World} {H:Hp} {h:Heap} {x C:Addr} {dd:Option Addr} (a:xR H x C dd) (hok:dB P w H h):∃ vs sl,h.get? x=some ⟨.ref C,dd,.fields vs,sl⟩:=by
 rcases a with a | a
 ·exact XO.get hok a
 ·obtain⟨t,sl,e⟩:=XN.get hok a
  exact⟨_,sl,e⟩
def zN (K:PySem.W.Frag) (ta:TE) (f:Str):TE:=λσ H Q=>ta σ H λxv H1=>∃ x C dx fs v,xv=.ref x/\xR H1 x C (some dx)/\a0 K C/\findIn K (.ref C) f=some none/\H1 dx=some (.xd fs)/\fs.lookup f=some v/\Q v H1
def qY (K:PySem.W.Frag):List V->Hp->VK->Prop:=λxs H Q=>∃ x C dd c cv b,xs=[.ref x,c]/\xV c=some cv/\xR H x C dd/\(∀ dx,dd=some dx->∃ fs,H dx=some (.xd fs))/\a0 K C/\kitOne K (.ref C) cv=some b/\Q (.bl b) H
section
variable {X:Cx} {e:Expr} {f:Str} {pos:Pos} {ta:TE}
theorem nH {P:Program} {w:World} {H:Hp} {h:Heap} {dx:Addr} {fs:List (Str × V)} (hok:dB P w H h) (hd:H dx=some (.xd fs)):∃(mA:Str->Option Value) (od:Obj),h.get? dx=some od/\(∀ name,lookIn name od=some (mA name))/\∀ g,dO (fs.lookup g) (mA g):=by
 obtain⟨mA,n,r⟩:=(show aS P w H h dx (.xd fs) from hok dx _ hd)
 obtain⟨od,ho,hl⟩:=jh n
 exact⟨mA,od,ho,hl,r⟩
theorem tY (he:PE X e ta) (hb:attributeBase e f X.env (eval e X.env)=eval e X.env:=by rfl):PE X (.Attribute e f pos) (zN X.K ta f):=by
 intro pins s σ H Q I h
 refine sO hb (aR (he pins s σ H _ I h) λu s1 ⟨xv,H1,I1,rx,x,C,dx,fs,v,ex,ax,c,hf,hd,hl,q⟩=>?_)
 subst ex
 obtain rfl:u=Value.ref x:=rx
 obtain⟨vs,sl,hg⟩:=ax.get I1.hok
 obtain⟨mA,od,ho,lk,r⟩:=nH I1.hok hd
 obtain⟨cd,hc,hm,hh⟩:=c.cls
 obtain⟨u,hu,ru⟩:=dO.some_of (v:=v) (o:=mA f) (by rw [<- hl];exact r f)
 have J:PySem.W.InstAt s1.heap x ⟨.ref C,some dx,.fields vs,sl⟩ C (some od):=⟨hg,rfl,rfl,ho⟩
 refine sQ I1.dC J hc hm c.ga c.gx (findObj_own (by unfold hasDictIn;rw [hc];exact hh) hf rfl (by rw [lk,hu])) (oh ru) ⟨v,H1,I1.tok _,ru,q⟩
theorem nR:bS X (.builtin "isinstance") (qY X.K):=by
 intro pins s σ H xs us Q I r h
 obtain⟨x,C,dd,c,cv,b,rfl,ec,ax,hdd,cl,ek,q⟩:=h
 obtain⟨u,w',rfl,rx,rc⟩:=vals2 r
 obtain rfl:u=Value.ref x:=rx
 have e:w'=cv:=by
  cases c with
  | ty n=>cases ec;exact rc
  | ref a=>cases ec;exact rc
  | _=>cases ec
 subst e
 obtain⟨vs,sl,hg⟩:=ax.get I.hok
 have fin:∀ tk,EP X pins σ Q (.bool b) { s with toks:=tk }:=λtk=>⟨.bl b,H,I.tok _,rfl,q⟩
 cases dd with
 | none=>exact kia_one (mB (ox:=⟨.ref C,none,.fields vs,sl⟩) (od:=none) cl) I.dC ⟨hg,rfl,rfl,True.intro⟩ ek (λz=>nomatch z) fin
 | some dx =>
  obtain⟨fs,hd⟩:=hdd dx rfl
  obtain⟨mA,od,ho,lk,r⟩:=nH I.hok hd
  exact kia_one (mB (ox:=⟨.ref C,some dx,.fields vs,sl⟩) (od:=some od) cl) I.dC ⟨hg,rfl,rfl,ho⟩ ek (λz=>nomatch z) fin
end
section
variable {prog:Program} {w:World} {A:Around} {E:Value->Shared->Prop} {K:PySem.W.Frag} {h:Heap} {g:Array GenState} {d:Drawn} {t:Nat} {os:OsState} {x C B:Addr}
theorem a0.base (c:a0 K C):mroIn K C (.type "BaseException")=some true:=by
 obtain⟨cd,hc,hm,_⟩:=c.cls
 obtain⟨m1,m2,m3⟩:=d4 hm
 unfold mroIn
 rw [hc,Option.bind_some,if_neg (by rw [m3];decide),m2]
theorem n8 {dd:Option Addr} {vs:Array Value} {sl:Array (Option Value)} {Q:Bool->Shared->Prop} (X:K.In h) (c:a0 K C) (b:a0 K B) (he:h.get? x=some ⟨.ref C,dd,.fields vs,sl⟩) (hs:mroIn K C (.ref B)=some true)
  (hq:Q true ⟨h,g,d,t,os⟩):wpAny (model prog w) A (excMatches (.ref x) (.ref B)) Q E ⟨h,g,d,t,os⟩:=by
 have f:=tc_notTuple
 have L1:=looks_mroIn (M:=model prog w) X hs
 have L2:=looks_mroIn (M:=model prog w) X b.base
 have L3:=looks_mroIn (M:=model prog w) X c.base
 obtain⟨od,cd,sc,hk⟩:=b.at_
 have hB:=X _ _ hk
 unfold excMatches
 repeat (first | with_reducible refine wpAny_loadPart_at he ?_ | with_reducible refine wpAny_loadPart_at hB ?_ | with_reducible refine Looks.at L1 ?_ | with_reducible refine Looks.at L2 ?_ | with_reducible refine Looks.at L3 ?_ | wp_step)
 exact hq
end
theorem find_erase {α:Type} (p:α->Bool):∀(l:List α) (i:Nat),(∀ e,l[i]?=some e->p e=false)->(l.eraseIdx i).find? p=l.find? p
 | [],_,_=>by simp
 | a::r,0,h=>by
  have:=h a rfl
  rw [List.eraseIdx_cons_zero,List.find?_cons_of_neg (by rw [this];decide)]
 | a::r,i+1,h=>by
  have ih:=find_erase p r i (λe q=>h e (by simpa using q))
  rw [List.eraseIdx_cons_succ]
  cases q:p a with
  | true=>rw [List.find?_cons_of_pos q,List.find?_cons_of_pos q]
  | false=>rw [List.find?_cons_of_neg (by rw [q];decide),List.find?_cons_of_neg (by rw [q];decide),ih]
theorem qp {es:Array DictEntry} {i:Nat} {name y:Str} (hk:∀ e,es[i]?=some e->e.key.isStr name=true) (hy:y≠name):nsFind (es.eraseIdxIfInBounds i) y=nsFind es y:=by
 unfold nsFind findBy
 congr 1
 rw [<- Array.find?_toList,<- Array.find?_toList]
 have e:(es.eraseIdxIfInBounds i).toList=es.toList.eraseIdx i:=by
  unfold Array.eraseIdxIfInBounds
  split
  ·rw [Array.toList_eraseIdx]
  ·rename_i h
   rw [List.eraseIdx_of_length_le (by simpa using h)]
 rw [e]
 refine find_erase _ _ _ λd q=>?_
 have z:=hk d (by simpa using q)
 cases c:d.key.isStr y with
 | false=>exact c
 | true =>
  cases hkey:d.key with
  | str n t =>
   rw [hkey] at z c
   have z1:n=name:=by simpa [Value.isStr] using z
   have c1:n=y:=by simpa [Value.isStr] using c
   exact absurd (c1.symm.trans z1) hy
  | _=>rw [hkey] at z;simp [Value.isStr] at z
section
variable {M:Model} {A:Around} {E:Value->Shared->Prop} {s:Shared}
theorem lQ {a:Addr} {m:Str->Option Value} {name:Str} {Q:Bool->Shared->Prop} (hn:s.heap.Ns a m)
  (hQ:∀ h' m',h'.Ns a m'->(∀ y,y≠name->m' y=m y)->Heap.SameBut a s.heap h'->Q (m name).isSome { s with heap:=h' }):wpAny M A (nsDel a name) Q E s:=by
 obtain⟨o,es,ep,ho,hd,hk,hm⟩:=id hn
 have noRef:es.any (·.refKey)=false:=by
  rw [Array.any_eq_false']
  intro e he
  obtain⟨n,t,z⟩:=hk e he
  simp [DictEntry.refKey,z]
 have there:(m name).isSome=es.any (·.key.isStr name):=by
  rw [<- hm name]
  unfold nsFind findBy
  rw [Option.isSome_map,<- Array.find?_toList,<- Array.any_toList,Bool.eq_iff_iff,List.find?_isSome,List.any_eq_true]
 have has:nsHas name o=pure (es.any (·.key.isStr name)):=by
  rw [nsHas_eq]
  unfold nsHasByArray
  rw [hd]
  show (if (es.any λx=>x.key.isStr name)=true then _ else _)=_
  generalize (es.any λx=>x.key.isStr name)=b
  cases b<;>simp [noRef]
 unfold nsDel
 refine wpAny_bind (wpAny_loadPart ho ?_)
 rw [has]
 refine wpAny_bind (wpAny_pure ?_)
 rw [<- there]
 cases c:(m name).isSome with
 | false =>
  have:=hQ s.heap m hn (λ_ _=>rfl) (.refl ..)
  rw [c] at this
  exact wpAny_pure this
 | true =>
  refine wpAny_bind (wpAny_updatePart ho (wpAny_pure ?_))
  obtain⟨cl,dd,dt,sl⟩:=o
  subst hd
  have fin:∃ m',(s.heap.update a (Obj.dropName name)).Ns a m'/\∀ y,y≠name->m' y=m y:=by
   cases q:es.findIdx? (·.key.isStr name) with
   | none=>exact⟨m,⟨_,es,ep,Heap.get?_update_self _ ho (by simp only [Obj.dropName_eq,Obj.dropNameByArray,q]<;>rfl),(by simp only [Obj.dropName_eq,Obj.dropNameByArray,q]<;>rfl),hk,hm⟩,λ_ _=>rfl⟩
   | some i =>
    refine⟨nsFind (es.eraseIdxIfInBounds i),⟨_,es.eraseIdxIfInBounds i,ep+1,Heap.get?_update_self _ ho (by simp only [Obj.dropName_eq,Obj.dropNameByArray,q]<;>rfl),(by simp only [Obj.dropName_eq,Obj.dropNameByArray,q]<;>rfl),hk.erase i,λ_=>rfl⟩,λy hy=>?_⟩
    rw [qp (name:=name) (λe z=>?_) hy,hm y]
    obtain⟨hi,hp⟩:=Array.findIdx?_eq_some_iff_getElem.mp q
    rw [Array.getElem?_eq_getElem hi] at z
    cases z
    exact hp.1
  obtain⟨m',n',k'⟩:=fin
  have:=hQ _ m' n' k' (Heap.SameBut.update ..)
  rw [c] at this
  exact this
end
section
variable {X:Cx} {pins:List (Addr × Obj)} {σ:St} {H:Hp} {s:Shared} {M:Model} {A:Around} {E:Value->Shared->Prop}
theorem Inv.uJ {i:Nat} {n:Str} {h':Heap} {m m':Str->Option Value} {tk:Nat} (I:Inv X pins σ H s) (hN:X.N.Nodup) (hi:X.N[i]?=some n) (hm:s.heap.Ns X.env.locals m) (hl:∀(j:Nat) (x:Str) (v:V),X.N[j]?=some x->σ[j]?=some (some v)->vF X.env.scope x->∃ u,RelV v u/\Look X.env s.heap m x u)
  (hn:h'.Ns X.env.locals m') (hk:∀ y,y≠n->m' y=m y) (hs:Heap.SameBut X.env.locals s.heap h'):Inv X pins (σ.set i none) H { s with heap:=h',toks:=tk }:=by
 have pz:=I.pz
 obtain⟨oL,_,_,hoL,_⟩:=id hm
 have lt:∀ b o,X.s₀.heap.get? b=some o->b≠X.env.locals:=λb o e=>Nat.ne_of_lt (Nat.lt_of_lt_of_le (Heap.lt_size e) I.ok.above)
 refine⟨I.ok,I.os,I.bare,⟨λb o e n hb hx=>?_,λb o e n hb hx=>?_,I.base.free,λb o e hx=>?_,I.base.tups,I.base.frzs,I.base.tbls⟩,⟨_,hn,λj y v' e1 e2 e3=>?_⟩,λy c e=>?_,I.free,I.freeC,λp hp=>?_,?_,by simpa using I.len⟩
 ·exact (hs.2 b (lt b o e)).trans (I.base.keep b o e n hb hx)
 ·obtain⟨sl,e1⟩:=I.base.slot b o e n hb hx
  exact⟨sl,(hs.2 b (lt b o e)).trans e1⟩
 ·obtain⟨o',e1⟩:=I.base.there b o e hx
  exact⟨o',(hs.2 b (lt b o e)).trans e1⟩
 ·by_cases hj:j=i
  ·subst hj
   have hlt:j<σ.length:=by rw [I.len];exact (List.getElem?_eq_some_iff.mp hi).1
   rw [List.getElem?_set_self hlt] at e2
   cases e2
  ·rw [List.getElem?_set_ne (Ne.symm hj)] at e2
   obtain⟨u',r',q⟩:=hl j y v' e1 e2 e3
   refine⟨u',r',?_⟩
   rcases q with⟨k,e⟩|⟨k,c,e,z⟩
   ·have:y≠n:=λe=>hj (iw hN e1 (e▸hi))
    exact .inl ⟨k,by rw [hk y this];exact e⟩
   ·exact .inr ⟨k,c,e,z.sameBut hs (pz y c e)⟩
 ·obtain⟨w',z⟩:=I.cell y c e
  exact⟨w',z.sameBut hs (pz y c e)⟩
 ·obtain⟨e,n,ne,nf,d⟩:=I.pin p hp
  exact⟨(hs.2 p.1 ne).trans e,n,ne,nf,d⟩
 ·intro b ob e
  refine (I.hok b ob e).gy (λc w' hc q=>(hs.2 c ?_).trans q) (λ_ q=>q) λ_ _ q=>q
  rintro rfl
  have hf:=I.free
  rcases hc with rfl | hc
  ·rw [hf] at e;cases e
  ·rw [hf] at hc;cases hc
theorem name_goes {i:Nat} {n:Str} {pos:Pos} {Q:Unit->Shared->Prop} (I:Inv X pins σ H s) (hN:X.N.Nodup) (hi:X.N[i]?=some n) (hl:X.env.scope.names.lookup n=some .local)
  (h:∀ s',Inv X pins (σ.set i none) H s'->Q () s'):wpAny M A (do bindName X.env n .none;unbindBehindTheSuite X.env n pos) Q E s:=by
 have hp:(X.env.scope.kind==.class || (X.env.scope.kind==.module && X.env.locals != X.env.globals))=false:=by rw [I.ok.kind];rfl
 have hk:X.env.kindOf n=some .local:=hl
 refine wpAny_bind (wpAny_bindName (cK (v:=.aQ) (u:=.none) I hN hi (.inl hl) rfl (λs1 I1=>?_) (.inr hl)))
 have hlt:i<σ.length:=by rw [I.len];exact (List.getElem?_eq_some_iff.mp hi).1
 obtain⟨m,hm,hlook⟩:=id I1.loc
 have some_n:(m n).isSome=true:=by
  obtain⟨u,_,q⟩:=hlook i n .aQ hi (List.getElem?_set_self hlt) (.inl hl)
  rcases q with⟨_,e⟩|⟨k,_⟩
  ·rw [e];rfl
  ·rw [hk] at k
   rcases k with k | k<;>cases k
 unfold unbindBehindTheSuite
 refine wpAny_onRaise ?_
 unfold unbindName
 refine wpAny_bind (wpAny_point (wpAny_bind ?_))
 unfold deleteName
 simp only [hk,hp]
 rw [if_neg (by decide)]
 refine wpAny_bind (lQ hm λh' m' n' k' s'=>?_)
 rw [some_n]
 simp only [Bool.not_true,Bool.false_eq_true,if_false]
 refine wpAny_pure (wpAny_point (h _ ?_))
 have J:=Inv.uJ (tk:=s1.toks) I1 hN hi hm hlook n' k' s'
 rw [List.set_set] at J
 exact J
end
def vW (X:Cx) (x:Addr):Cx:={ X with A:=X.A.mark (some (.ref x)),calm:=false,xe:=λ_ _=>False }
section
variable {X:Cx} {pins:List (Addr × Obj)} {σ:St} {H:Hp} {s:Shared} {x:Addr}
theorem Inv.zt (I:Inv X pins σ H s) (x:Addr):Inv (vW X x) pins σ H s :=
 ⟨⟨I.ok.mod,I.ok.kind,I.ok.glob,I.ok.blt,I.ok.above,I.ok.inj,I.ok.has,I.ok.cab,λz=>absurd (show false=true from z) (by decide),I.ok.frames,I.ok.stk,I.ok.exf,I.ok.bs,I.ok.bsz,I.ok.noex,I.ok.exfs,I.ok.eT,I.ok.frf⟩,I.os,I.bare,I.base,I.loc,I.cell,I.free,I.freeC,I.pin,I.hok,I.len⟩
theorem Inv.tQ (ok:X.Ok) (I:Inv (vW X x) pins σ H s):Inv X pins σ H s:=⟨ok,I.os,I.bare,I.base,I.loc,I.cell,I.free,I.freeC,I.pin,I.hok,I.len⟩
theorem vM {fn:Addr} {fd:FuncData} {ps:List Str} {sp:Sp} {k:Nat} {E:XK} {f:Str} {e:Expr} {es:List Expr} {t:TA} {p pos:Pos} {Q:VK} (F:cp X.prog X.w X.K X.mg X.base (kX X.prog X.w) k fn fd ps sp) (hr:bq k X.A) (hg:Gl X f) (hm:X.mg f=some (.ref fn)) (hk:PySem.W.keepIn X.K (.ref fn)=true) (hb:Binds X.K fd ps [])
  (ha:PA X.iJ (e::es) t) (I:Inv X pins σ H s) (h:t σ H λvs H1=>sp vs H1 Q E) (hdb:(f==("__debug__":Str))=false:=by decide) (he:starEach (e::es) X.env=(false,eval e X.env)::starEach es X.env:=by rfl) (hpl:(backTo pos (starEach es X.env)).any (·.1)=false:=by rfl) :
  wpAny (model X.prog X.w) X.A (eval (.Call (.Name f p) (e::es) [] pos) X.env) (EP X pins σ Q) (λev s'=>∃ H1 s1,Inv X pins σ H1 s1/\kX X.prog X.w X.stack H1 s1 E ev s') s:=by
 refine wpAny_Call_Name_kw (cS I hg hm ?_ hdb)
 refine PySem.W.callWith_K (h₀:=X.base) I.ok.mod.kin hk (wpAny_mono (ha pos pins s σ H _ (I.fe _) h) (λus s1 ⟨vs,H1,J1,r,q⟩=>?_) λ_ _ z=>False.elim z) he hpl
 have I1:Inv X pins σ H1 s1:=J1.bZ
 refine⟨I1.dC,?_⟩
 have hl:(us++[]).length=ps.length:=by rw [List.append_nil,<- r.length];exact F.len _ _ _ _ q
 have bt:=hb s1 us I1.dC hl
 rw [List.append_nil] at bt
 refine wpAny_call (codeAny_mono (F.run X.A X.stack s1 H1 ⟨us,[]⟩ us vs Q E hr I1.pN bt r q) λr' s' hq=>?_)
 cases r' with
 | error e=>exact⟨H1,s1,I1,hq⟩
 | ok fl =>
  cases fl with
  | ret u=>exact I1.after hq
  | next=>exact False.elim hq
  | brk=>exact False.elim hq
  | cont=>exact False.elim hq
theorem landed {E:XK} {ev:Value} {s' s1:Shared} {H1:Hp} {Q:Unit->Shared->Prop} {E':Value->Shared->Prop} (hst:X.stack=X.env::X.outer) (hfr:X.env.frame=some X.env.locals) (I:Inv X pins σ H1 s1) (hq:kX X.prog X.w X.stack H1 s1 E ev s')
  (h:∀ x C T dd H' h',ev=.ref x->Inv X pins σ H' { s' with heap:=h' }->Tr h' x (.ref C) dd T .none->H' T=none->H' x=some (XO x C dd)->E (.ref C) (some x) H'->(X.env.locals<T/\(∀ y c,X.env.cells.lookup y=some c->c≠T)/\∀ p∈X.pn++pins,p.1≠T)->Q () { s' with heap:=h' }) :
  wpAny (model X.prog X.w) X.A (noteFrame ev X.env) (λ_ s2=>wpAny (model X.prog X.w) X.A (setFlight ev none) Q E' s2) E' s':=by
 obtain⟨x,C,T,dd,H',rfl,os,bare,un,hok,tr,nx,nT,hT,hx,hE⟩:=hq
 have hl:=mE I.stack un I.fN (λb _=>by simp)
 have frN:∀ b∈eS X.stack,H' b=none:=λb hb=>by
  obtain⟨_,o,ho,_⟩:=I.stack.mem hb
  exact un.free b o ho (I.fN b hb) (by simp)
 have fr:=I.ok.frames
 have old:∀ b o,s1.heap.get? b=some o->b∉[x,T]:=λb o q hb=>by
  rcases List.mem_cons.mp hb with z | z
  ·rw [z,nx] at q;cases q
  ·rw [List.mem_singleton.mp z,nT] at q;cases q
 rw [hst] at hl fr
 refine oE (L:=X.env.locals) fr hl hfr tr λh1 T' t1 n1 k1=>?_
 refine land (fs:=eS (X.env::X.outer)) t1 λh2 t2 k2=>?_
 rw [<- hst] at k1 k2
 have k3:Kp (eS X.stack) [x,T] s'.heap h2:=⟨λb o hb hf q=>k2.keep b o (λz=>by simp at z;rw [z] at q;exact absurd (Heap.lt_size q) (Nat.not_lt.mpr n1)) hf (k1.keep b o hb hf q),λb o hb q=>by
  obtain⟨s1',q1⟩:=k1.slot b o hb q
  obtain⟨s2',q2⟩:=k2.slot b _ (λz=>by simp at z;rw [z] at q;exact absurd (Heap.lt_size q) (Nat.not_lt.mpr n1)) q1
  exact⟨s2',q2⟩⟩
 obtain⟨vs,sl,oT,ts,he,r'⟩:=t2
 have below:∀ b o,s1.heap.get? b=some o->b<T':=λb o q=>by
  obtain⟨o1,q1⟩:=un.there b o q (by simp)
  exact Nat.lt_of_lt_of_le (Heap.lt_size q1) n1
 have fT:X.env.locals<T'/\(∀ y c,X.env.cells.lookup y=some c->c≠T')/\∀ p∈X.pn++pins,p.1≠T':=by
  refine⟨?_,λy c e=>?_,λp hp=>?_⟩
  ·obtain⟨m,⟨o,_,_,ho,_⟩,_⟩:=I.loc
   exact below _ o ho
  ·obtain⟨v,o,ho,_⟩:=I.cell y c e
   exact Nat.ne_of_lt (below _ o ho)
  ·exact Nat.ne_of_lt (below _ _ (I.pin p hp).1)
 refine h x C T' dd H' h2 rfl ?_ ⟨vs,sl,oT,ts,he,r'⟩ (hok.fresh n1) hx hE fT
 refine I.uS (s':={ s' with heap:=h2 }) (ch:=[]) os ⟨λb o q nn hb _=>?_,λb o q nn hb _=>?_,λb o q nn _=>un.free b o q nn (by simp),λb o q _=>?_,un.tups,un.frzs,un.tbls⟩ ?_ bare (λb hb=>absurd hb (by simp))
 ·exact k3.keep b o (old b o q) hb (un.keep b o q nn hb (by simp))
 ·obtain⟨s1',q1⟩:=un.any q nn (by simp)
  obtain⟨s2',q2⟩:=k3.slot b _ (old b o q) q1
  exact⟨s2',q2⟩
 ·obtain⟨o1,q1⟩:=un.there b o q (by simp)
  obtain⟨s2',q2⟩:=k3.slot b _ (old b o q) q1
  exact⟨_,q2⟩
 ·exact mC hok k3 (λb hb=>by
   rcases List.mem_cons.mp hb with z | z
   ·exact .inl z
   ·exact .inr (by rw [List.mem_singleton.mp z];exact hT)) frN hx he
def kr (n:Option Nat) (x:Addr) (σ:St):St:=match n with | some i=>σ.set i (some (.ref x)) | none=>σ
def gC (n:Option Nat) (D:Ends):Ends:=match n with
 | some i=>{ nx:=λσ H=>D.nx (σ.set i none) H,rt:=D.rt,bk:=λσ H=>D.bk (σ.set i none) H,ct:=λσ H=>D.ct (σ.set i none) H }
 | none=>D
theorem oi {i:Nat} {n c:Str} {np hpos:Pos} {b₀:Stmt} {suite:List Stmt} {ts:TS} {D:Ends} {C B T:Addr} {dd:Option Addr} (I:Inv X pins σ H s) (tr:Tr s.heap x (.ref C) dd T .none) (hT:H T=none) (fT:X.env.locals<T/\(∀ y c,X.env.cells.lookup y=some c->c≠T)/\∀ p∈X.pn++pins,p.1≠T)
  (cC:a0 X.K C) (cB:a0 X.K B) (hs:mroIn X.K C (.ref B)=some true) (hg:Gl X c) (hm:X.mg c=some (.ref B)) (hN:X.N.Nodup) (hi:X.N[i]?=some n) (hl:X.env.scope.names.lookup n=some .local)
  (ht:fU (vW X x) (b₀::suite) ts) (h:ts (gC (some i) D) (kr (some i) x σ) H) (hdb:(c==("__debug__":Str))=false:=by decide) :
  wpAny (model X.prog X.w) X.A (handleBy (.ref x) X.env [.ExceptHandler (some (.Name c np)) (some n) (b₀::suite) hpos]) (SP X pins D) X.xe s:=by
 have J:=I.zt x
 obtain⟨vs,sl,oT,tsv,he,r'⟩:=tr
 refine wpAny_handleBy_cons (codeAny_handlers_test (cS (X:=vW X x) J hg hm ?_ hdb)) (by intro q;cases q)
 obtain⟨hh,g,d,tk,os⟩:=s
 refine n8 I.dC cC cB he hs ?_
 refine codeAny_handlers_suite_as (land (s:=⟨hh,g,d,tk,os⟩) (fs:=[]) ⟨vs,sl,oT,tsv,he,r'⟩ λh' t' k'=>?_)
 have J1:Inv (vW X x) pins σ H { (⟨hh,g,d,tk,os⟩:Shared) with heap:=h' }:=J.turned (t':=tk) (it:=T) (λb o hb e=>k'.keep b o (by simpa using hb) (by simp) e) hT (Nat.ne_of_gt fT.1) (.inr (Nat.le_trans I.ok.above (Nat.le_of_lt fT.1))) fT.2.1 fT.2.2
 refine cK (X:=vW X x) (v:=.ref x) J1 hN hi (.inl hl) rfl (λs2 J2=>?_) (.inr hl)
 refine wpAny_mono (ht pins s2 _ H _ J2 h) (λfl s3 q=>?_) λ_ _ z=>False.elim z
 cases fl with
 | next =>
  obtain⟨σ',H',I',q⟩:=q
  exact name_goes (I'.tQ I.ok) hN hi hl λs4 I4=>⟨_,H',I4,q⟩
 | brk =>
  obtain⟨σ',H',I',q⟩:=q
  exact name_goes (I'.tQ I.ok) hN hi hl λs4 I4=>⟨_,H',I4,q⟩
 | cont =>
  obtain⟨σ',H',I',q⟩:=q
  exact name_goes (I'.tQ I.ok) hN hi hl λs4 I4=>⟨_,H',I4,q⟩
 | ret u =>
  obtain⟨v,σ',H',I',rv,q⟩:=q
  exact name_goes (I'.tQ I.ok) hN hi hl λs4 I4=>⟨v,_,H',I4,rv,q⟩
end
def PH (X:Cx) (n:Option Nat) (B:Addr) (hd:ExceptHandler) (ts:TS):Prop:=∀(pins:List (Addr × Obj)) (σ:St) (H:Hp) (s:Shared) (x C T:Addr) (dd:Option Addr) (D:Ends),Inv X pins σ H s->Tr s.heap x (.ref C) dd T .none->H T=none ->
 (X.env.locals<T/\(∀ y c,X.env.cells.lookup y=some c->c≠T)/\∀ p∈X.pn++pins,p.1≠T)->a0 X.K C->mroIn X.K C (.ref B)=some true->ts (gC n D) (kr n x σ) H->wpAny (model X.prog X.w) X.A (handleBy (.ref x) X.env [hd]) (SP X pins D) X.xe s
def zM (K:PySem.W.Frag) (B:Addr) (n:Option Nat) (sp:Sp) (ta:TA) (put:V->St->St) (ts:TS):TS:=λD σ H=>ta σ H λvs H1=>sp vs H1 (λv H2=>D.nx (put v σ) H2)
 (λcv xo H2=>∃ C x dd,cv=.ref C/\xo=some x/\H2 x=some (XO x C dd)/\a0 K C/\mroIn K C (.ref B)=some true/\ts (gC n D) (kr n x σ) H2)
section
variable {X:Cx} {B:Addr} {n:Option Nat} {hd:ExceptHandler} {ts:TS}
theorem yy {i:Nat} {nm c:Str} {np hpos:Pos} {b₀:Stmt} {suite:List Stmt} (cB:a0 X.K B) (hg:Gl X c) (hm:X.mg c=some (.ref B)) (hN:X.N.Nodup) (hi:X.N[i]?=some nm) (hl:X.env.scope.names.lookup nm=some .local) (ht:∀ x,fU (vW X x) (b₀::suite) ts)
  (hdb:(c==("__debug__":Str))=false:=by decide):PH X (some i) B (.ExceptHandler (some (.Name c np)) (some nm) (b₀::suite) hpos) ts :=
 λpins σ H s x C T dd D I tr hT fT cC hs h=>oi I tr hT fT cC cB hs hg hm hN hi hl (ht x) h hdb
variable {k:Nat} {f:Str} {ps:List Str} {sp:Sp} {e:Expr} {es:List Expr} {t:TA} {p cpos epos pos:Pos}
theorem vN {pins:List (Addr × Obj)} {σ:St} {D:Ends} {E:XK} {ev:Value} {s' s1:Shared} {H1:Hp} (hst:X.stack=X.env::X.outer) (hfr:X.env.frame=some X.env.locals) (hh:PH X n B hd ts) (I:Inv X pins σ H1 s1) (hq:kX X.prog X.w X.stack H1 s1 E ev s')
  (hE:∀ C x H',E (.ref C) (some x) H'->a0 X.K C/\mroIn X.K C (.ref B)=some true/\ts (gC n D) (kr n x σ) H') :
  wpAny (model X.prog X.w) X.A (noteFrame ev X.env) (λ_ s2=>wpAny (model X.prog X.w) X.A (setFlight ev none) (λ_ s3=>wpAny (model X.prog X.w) X.A (handleBy ev X.env [hd]) (SP X pins D) X.xe s3) X.xe s2) X.xe s':=by
 refine landed hst hfr I hq λx C T dd H' h' ee I' tr hT hx e fT=>?_
 subst ee
 obtain⟨c1,c2,c3⟩:=hE C x H' e
 exact hh pins σ H' _ x C T dd D I' tr hT fT c1 c2 c3
end
section
variable {P:Program} {w:World} {K:PySem.W.Frag} {mg:Str->Option Value} {base:Heap} {k:Nat} {x:Str} {ps:List Str} {sp:Sp}
theorem lh {st:Stmt} {N:List Str} (D:aC K mg x st)
  (hb:∀(kV doc pm:Value) (an:Option Addr) (cdv ct:Value) (us:List Value),us.length=ps.length->bindArgs (PySem.W.fnOf x x (aV st) (aG st) (ai st) .none kV doc pm an cdv ct) ⟨us,[]⟩=pure (ps.zip us))
  (S:az N ps (ai st)) (len:∀ vs H Q E,sp vs H Q E->vs.length=ps.length)
  (hbody:∀(f:Addr) (cdv:Value) (A:Around) (outer:List Env) (s:Shared) (H:Hp) (vs:List V) (Q:VK) (E:XK),bq k (A.deeper (envOfC x (ai st) s.heap.objs.size f cdv))->sp vs H Q E ->
   ∃ t,fU (cQ (kX P w) P w K mg base N x (ai st) f cdv A outer s H E) (aG st) t/\t { nx:=λ_ H'=>Q .aQ H',rt:=Q } (start N vs) H):Callee P w K mg base (kX P w) (k+1) x ps sp:=by
 obtain⟨f,fd,F,hm⟩:=D
 obtain⟨oc,od,kV,doc,pm,an,cdv,ct,osl,rfl,lk,hcd⟩:=F.ex
 exact⟨f,_,uW lk hcd S len λA outer s H vs Q E hr h=>hbody f cdv A outer s H vs Q E hr h,hm,F.kp,F.binds hb⟩
theorem Callee.any {CX:eP} (C:Callee P w K mg base ba k x ps sp):Callee P w K mg base CX k x ps sp:=by
 obtain⟨f,fd,F,a,b,c⟩:=C.ex
 exact⟨f,fd,F.any,a,b,c⟩
end
theorem sX {P:Program} {w:World} {K:PySem.W.Frag} {mg:Str->Option Value} {base:Heap} {qual f p:Str} {st:Stmt} {fi:Addr} {fd:FuncData} {p1 p2 p3 p4:Pos} (F:pd K "__init__" qual st fi fd) (S:az ["self",p] ["self",p] (ai st))
  (hb:aG st=[.Assign [.Attribute (.Name "self" p1) f p2] (.Name p p3) p4]) (h1:(ai st).names.lookup ("self":Str)=some .local) (h2:(ai st).names.lookup p=some .local) (hd:(p==("__debug__":Str))=false) (hcd:(p==("__classdict__":Str))=false)
  (ab:∀ env:Env,attributeBase (.Name "self" p1) f env (eval (.Name "self" p1) env)=eval (.Name "self" p1) env) (sw:∀ env:Env,swapsWith (.Name p p3) (some (.Attribute (.Name "self" p1) f p2)) p4.line env=pure false):cp P w K mg base ba 1 fi fd ["self",p] (rB K f):=by
 refine F.ok S (λvs H Q E h=>?_) (λcdv A outer s H vs Q E hr h=>?_)
 ·obtain⟨x,C,v,rfl,_⟩:=h
  rfl
 ·obtain⟨x,C,v,rfl,hx,c,hf,q⟩:=h
  rw [hb]
  refine⟨_,ak (mW (eW (i:=0) rfl (.inl h1) (by decide) (by decide)) (eW (i:=1) rfl (.inl h2) hd hcd) (sw _)),?_⟩
  exact⟨v,rfl,.ref x,rfl,x,C,rfl,hx,c,hf,λdx n ne=>q dx n ne⟩
structure nK (P:Program) (w:World) (K:PySem.W.Frag) (mg:Str->Option Value) (base:Heap) (x:Str) (C:Addr) (f:Str):Prop where
 mkd:nO K C
 cls:a0 K C
 at_:mg x=some (.ref C)
 nof:findIn K (.ref C) f=some none
 ex:∃ fi fd p,findIn K (.ref C) "__init__"=some (some (.ref fi))/\isFn K (.ref fi)=true/\cp P w K mg base ba 1 fi fd ["self",p] (rB K f)/\Binds K fd ["self",p] []
structure nJ (K:PySem.W.Frag) (mg:Str->Option Value) (x:Str) (C:Addr):Prop where
 mkd:nO K C
 cls:a0 K C
 at_:mg x=some (.ref C)
 ini:findIn K (.ref C) "__init__"=some (some (.builtin "ValueError.__init__"))
section
variable {X:Cx} {C:Addr} {f x:Str} {pos np:Pos} {e:Expr} {t:TA}
theorem bh {X:Cx} (K:PySem.W.Frag) (hK:X.K=K):bS X (.builtin "isinstance") (qY K):=by subst hK;exact nR
theorem fD {X:Cx} {e:Expr} {f:Str} {pos:Pos} {ta:TE} (K:PySem.W.Frag) (hK:X.K=K) (he:PE X e ta) (hb:attributeBase e f X.env (eval e X.env)=eval e X.env:=by rfl):PE X (.Attribute e f pos) (zN K ta f):=by subst hK;exact tY he hb
theorem gH:bootBuiltins "ValueError"=some (.type "ValueError"):=by decide +kernel
end
inductive vx (K:PySem.W.Frag) (H:Hp):Nat->V->V->Bool->Prop
 | flat {d:Nat} {y x:V}:b9 y=true->b9 x=true->vx K H d y x (kn y x)
 | same {d:Nat} {p:Addr}:vx K H d (.ref p) (.ref p) true
 | lists {d:Nat} {p q:Addr} {xs ys:List V} {e:Nat->Bool}:p≠q->aP K H p xs->aP K H q ys->xs.length=ys.length->(∀ j y x,xs[j]?=some y->ys[j]?=some x->vx K H d y x (e j))->vx K H (d+1) (.ref p) (.ref q) ((List.range xs.length).all e)
 | unlike {d:Nat} {p q:Addr} {xs ys:List V}:p≠q->aP K H p xs->aP K H q ys->xs.length≠ys.length->vx K H (d+1) (.ref p) (.ref q) false
 | tups {d:Nat} {p q:Addr} {xs ys:List V} {e:Nat->Bool}:p≠q->br K H p xs->br K H q ys->(∀ j y x,xs[j]?=some y->ys[j]?=some x->vx K H d y x (e j))->vx K H (d+1) (.ref p) (.ref q) ((List.range (min xs.length ys.length)).all e && xs.length==ys.length)
section
variable {X:Cx} {pins:List (Addr × Obj)} {σ:St} {H:Hp} {s:Shared}
theorem Vals.at {xs:List V} {us:List Value} (r:Vals xs us):∀{j:Nat} {u:Value},us[j]?=some u->∃ x,xs[j]?=some x/\RelV x u:=by
 induction r with
 | nil=>intro j u h;simp at h
 | cons r t ih =>
  intro j u h
  cases j with
  | zero=>simp only [List.getElem?_cons_zero,Option.some.injEq] at h;subst h;exact⟨_,rfl,r⟩
  | succ j=>simp only [List.getElem?_cons_succ] at h ⊢;exact ih h
theorem Vals.len {xs:List V} {us:List Value} (r:Vals xs us):us.length=xs.length:=by
 induction r with
 | nil=>rfl
 | cons r t ih=>simp only [List.length_cons,ih]
end
theorem aU {A B:Prop} (a:A) (f:A->B):B:=f a
section
variable {K:PySem.W.Frag} {mg:Str->Option Value} {h:Heap} {x f p qual:Str} {C D fi N:Addr}
theorem qc:kitOne K (.ref C) (.ref C)=some true:=by
 unfold kitOne
 rw [if_pos (by simp)]
theorem tq {b:Bool} (ne:(Value.ref C==Value.ref D)=false) (d:a0 K D) (sb:mroIn K C (.ref D)=some b):kitOne K (.ref C) (.ref D)=some b:=by
 obtain⟨cd,hc,_,_⟩:=d.cls
 obtain⟨od,cd',sl,hl⟩:=d.at_
 unfold kitOne
 rw [if_neg (by rw [ne];decide)]
 show (if ((clsIn K D).isSome && typeIn K (.ref D)==some (.type "type"))=true then mroIn K C (.ref D) else none)=some b
 have ht:typeIn K (.ref D)=some (.type "type"):=by
  show (K.lookup D).map (λo=>o.cls)=_
  rw [hl]
  rfl
 rw [hc,ht,sb]
 rfl
theorem qd {T:String} {b:Bool} (m:kitMeta T=true) (sb:mroIn K C (.type T)=some b):kitOne K (.ref C) (.type T)=some b:=by
 unfold kitOne
 rw [if_neg (by intro z;cases (beq_iff_eq.mp z))]
 show (if kitMeta T=true then mroIn K C (.type T) else none)=some b
 rw [if_pos m,sb]
section
variable {nm q:Str} {bs bm:List Value} {hdct ab:Bool} {sn:Option Str} {od:Option Addr} {cd:ClassData} {sl:Array (Option Value)}
theorem xx {o:Obj} (l:K.lookup C=some o) (ob:∃ nm q N bs bm hdct sn sub ab col dd k0 k1 k2 k3 k5,o=excClassObj nm q C N bs bm hdct sn sub ab col dd k0 k1 k2 k3 k5 j5/\bm.contains (.type "ValueError")=true/\bm.contains (.type "AttributeError")=false/\bm.contains (.type "NameError")=false) (kp:keepIn K (.ref C)=true):nO K C:=by
 obtain⟨nm,q,N,bs,bm,hdct,sn,sub,ab,col,dd,k0,k1,k2,k3,k5,e,r⟩:=ob
 subst e
 exact⟨⟨nm,q,N,bs,bm,hdct,sn,sub,ab,col,dd,k0,k1,k2,k3,k5,l,r⟩,kp⟩
theorem uM (l:K.lookup C=some ⟨.type "type",od,.cls cd,sl⟩) (h2:bj cd.mro=true) (h3:cd.hasDict=true)
  (sa:findIn K (.ref C) "__setattr__"=some (some (.builtin "object.__setattr__"))) (ga:findIn K (.ref C) "__getattribute__"=some (some (.builtin "BaseException.__getattribute__"))) (gx:findIn K (.ref C) "__getattr__"=some none)
  (ca:findIn K (.ref C) "__class__"=some (some (.builtin "object.__class__"))) (gs:specialIn K (.builtin "object.__class__") "__get__"=some (some (.builtin "getset_descriptor.__get__"))) (tk:takesIn K (.builtin "object.__class__")=some true):L2.a0 K C :=
 ⟨⟨cd,by unfold clsIn;rw [l],h2,h3⟩,⟨_,_,_,l⟩,sa,ga,gx,ca,gs,tk⟩
theorem fR (a:mg x=some (.ref C)) (M:nO K C) (c:a0 K C) (ini:findIn K (.ref C) "__init__"=some (some (.builtin "ValueError.__init__"))):nJ K mg x C:=⟨M,c,a,ini⟩
structure fW (qual f p:Str) (st:Stmt):Prop where
 S:az ["self",p] ["self",p] (ai st)
 hb:∃ p1 p2 p3 p4,aG st=[.Assign [.Attribute (.Name "self" p1) f p2] (.Name p p3) p4]/\(∀ env:Env,attributeBase (.Name "self" p1) f env (eval (.Name "self" p1) env)=eval (.Name "self" p1) env)/\(∀ env:Env,swapsWith (.Name p p3) (some (.Attribute (.Name "self" p1) f p2)) p4.line env=pure false)
 h1:(ai st).names.lookup ("self":Str)=some .local
 h2:(ai st).names.lookup p=some .local
 hd:(p==("__debug__":Str))=false
 hcd:(p==("__classdict__":Str))=false
 bd:∀(kV doc pm:Value) (an:Option Addr) (cdv ct:Value) (us:List Value),us.length=2->bindArgs (PySem.W.fnOf "__init__" qual (aV st) (aG st) (ai st) .none kV doc pm an cdv ct) ⟨us,[]⟩=pure ((["self",p]:List Str).zip us)
theorem fS {st:Stmt} {oc:Value} {od an:Option Addr} {osl:Array (Option Value)} {kV doc pm cdv ct:Value} (I:fW qual f p st) (a:mg x=some (.ref C)) (M:nO K C) (c:a0 K C) (nof:findIn K (.ref C) f=some none)
  (ini:findIn K (.ref C) "__init__"=some (some (.ref fi))) (fn:isFn K (.ref fi)=true) (l:K.lookup fi=some ⟨oc,od,.func (PySem.W.fnOf "__init__" qual (aV st) (aG st) (ai st) .none kV doc pm an cdv ct),osl⟩) (cc:codeIn K cdv qual=true) (kk:keepIn K (.ref fi)=true) :
  ∀(P:Program) (w:World) (base:Heap),nK P w K mg base x C f:=λP w base=>by
 obtain⟨p1,p2,p3,p4,hb,ab,sw⟩:=I.hb
 have F:=lB l cc kk
 exact⟨M,c,a,nof,fi,_,p,ini,fn,sX F I.S hb I.h1 I.h2 I.hd I.hcd ab sw,F.binds I.bd⟩
end
theorem bR {od:Option Addr} {cd:ClassData} {sl:Array (Option Value)} (_:K.In h) (_:mg x=some (.ref C)) (l:K.lookup C=some ⟨.type "type",od,.cls cd,sl⟩) (h2:bj cd.mro=true) (h3:cd.hasDict=true)
  (sa:findIn K (.ref C) "__setattr__"=some (some (.builtin "object.__setattr__"))) (ga:findIn K (.ref C) "__getattribute__"=some (some (.builtin "BaseException.__getattribute__"))) (gx:findIn K (.ref C) "__getattr__"=some none)
  (ca:findIn K (.ref C) "__class__"=some (some (.builtin "object.__class__"))) (gs:specialIn K (.builtin "object.__class__") "__get__"=some (some (.builtin "getset_descriptor.__get__"))) (tk:takesIn K (.builtin "object.__class__")=some true)
  (ob:∃ nm q N bs bm hdct sn sub ab col dd k0 k1 k2 k3 k5,(⟨.type "type",od,.cls cd,sl⟩:Obj)=excClassObj nm q C N bs bm hdct sn sub ab col dd k0 k1 k2 k3 k5 j5/\bm.contains (.type "ValueError")=true/\bm.contains (.type "AttributeError")=false/\bm.contains (.type "NameError")=false) (kp:keepIn K (.ref C)=true):a0 K C/\nO K C :=
 ⟨uM l h2 h3 sa ga gx ca gs tk,xx l ob kp⟩
theorem wm {b:Bool} (_:a0 K C/\nO K C) (_:a0 K D/\nO K D) (m:mroIn K C (.ref D)=some b):mroIn K C (.ref D)=some b:=m
theorem dq {b:Bool} (_:a0 K C/\nO K C) (d:a0 K D/\nO K D) (ne:(Value.ref C==Value.ref D)=false) (m:mroIn K C (.ref D)=some b):kitOne K (.ref C) (.ref D)=some b:=tq ne d.1 m
theorem tu {b:Bool} (_:a0 K C/\nO K C) (m:mroIn K C (.type "ValueError")=some b):kitOne K (.ref C) (.type "ValueError")=some b:=qd (by decide +kernel) m
end
end L2
namespace Pw
theorem kJ (x n:Int):∀ k:Nat,(x%n)^k%n=x^k%n
 | 0=>by rw [Int.pow_zero,Int.pow_zero]
 | k+1=>by rw [Int.pow_succ,Int.pow_succ,Int.mul_emod,kJ x n k,Int.emod_emod,<- Int.mul_emod]
theorem rE (b:Int):∀ k:Nat,(b*b)^k=b^(2*k)
 | 0=>by rw [Nat.mul_zero,Int.pow_zero,Int.pow_zero]
 | k+1=>by
  rw [Int.pow_succ,rE b k,Nat.mul_add,Nat.mul_one,Int.pow_succ,Int.pow_succ,Int.mul_assoc]
theorem va {x x' y y' n:Int} (h:x%n=x'%n) (h':y%n=y'%n):x*y%n=x'*y'%n:=by rw [Int.mul_emod,h,h',<- Int.mul_emod]
theorem step (r b n:Int) (l:Nat):(if l%2=1 then r*b%n else r)*(b*b%n)^(l/2)%n=r*b^l%n:=by
 have e:(b*b%n)^(l/2)%n=b^(2*(l/2))%n:=by rw [kJ,rE]
 by_cases c:l%2=1
 ·rw [if_pos c]
  have h:l=2*(l/2)+1:=by omega
  have e2:b^l=b^(2*(l/2))*b:=by rw [<- Int.pow_succ];exact congrArg _ h
  rw [va (Int.emod_emod_of_dvd (r*b) (Int.dvd_refl n)) e,e2]
  congr 1
  rw [Int.mul_assoc,Int.mul_comm b]
 ·rw [if_neg c]
  have h:l=2*(l/2):=by omega
  rw [va (rfl:r%n=r%n) e,<- h]
theorem pow_add (a:Int) (m:Nat):∀ k:Nat,a^(m+k)=a^m*a^k
 | 0=>by rw [Nat.add_zero,Int.pow_zero,Int.mul_one]
 | k+1=>by rw [<- Nat.add_assoc,Int.pow_succ,pow_add a m k,Int.pow_succ,Int.mul_assoc]
theorem mul_pow (a b:Int):∀ k:Nat,(a*b)^k=a^k*b^k
 | 0=>by rw [Int.pow_zero,Int.pow_zero,Int.pow_zero,Int.mul_one]
 | k+1=>by
  rw [Int.pow_succ,Int.pow_succ,Int.pow_succ,mul_pow a b k]
  grind
theorem pow_mul (a:Int) (m:Nat):∀ k:Nat,a^(m*k)=(a^m)^k
 | 0=>by rw [Nat.mul_zero,Int.pow_zero,Int.pow_zero]
 | k+1=>by rw [Nat.mul_add,Nat.mul_one,pow_add,pow_mul a m k,Int.pow_succ]
theorem one_pow:∀ k:Nat,(1:Int)^k=1
 | 0=>Int.pow_zero 1
 | k+1=>by rw [Int.pow_succ,one_pow k,Int.mul_one]
theorem vG {n x y:Int}:x%n=y%n↔n∣x-y:=by
 rw [Int.emod_eq_emod_iff_emod_sub_eq_zero,Int.dvd_iff_emod_eq_zero]
end Pw
namespace L2
open PySem PySem.Spec PyProof.Rows
end L2
namespace L2
open PySem PySem.Spec PyProof.Rows PySem.W
def zL (K:PySem.W.Frag) (te:TE) (tk:TO):TE:=λσ H Q=>te σ H λx H1=>tk σ H1 λo H2=>o=some (-1)/\∃ a xs,x=.ref a/\aP K H2 a xs/\∀ p,H2 p=none->Q (.ref p) (upd H2 p (.lst xs.reverse))
section
variable {X:Cx} {e k:Expr} {te:TE} {tk:TO} {p2 pos:Pos}
end
mutual
def dv (K:PySem.W.Frag) (H:Hp):PyData->V->Prop
 | .none,v=>v=.aQ
 | .bool b,v=>v=.bl b
 | .int i,v=>v=.int i
 | .str x,v=>v=.str x
 | .list ds,v=>∃ p xs,v=.ref p/\aP K H p xs/\aZ K H ds xs
 | .tuple ds,v=>∃ p xs,v=.ref p/\br K H p xs/\aZ K H ds xs
 | .dict _,_=>False
def aZ (K:PySem.W.Frag) (H:Hp):List PyData->List V->Prop
 | [],xs=>xs=[]
 | d::ds,xs=>∃ x r,xs=x::r/\dv K H d x/\aZ K H ds r
end
section
variable {K:PySem.W.Frag} {H H':Hp}
theorem Rd.same {a:Addr} {o:HO} (h:Rd H a o) (s:aF H H'):Rd H' a o:=by
 rcases h with h | ⟨b,h⟩
 ·exact .inl (s _ _ h)
 ·exact .inr ⟨b,s _ _ h⟩
theorem aP.same {a:Addr} {xs:List V} (h:aP K H a xs) (s:aF H H'):aP K H' a xs:=h.imp (λz=>z.same s) id
theorem br.same {a:Addr} {xs:List V} (h:br K H a xs) (s:aF H H'):br K H' a xs:=h.imp (λz=>z.same s) id
mutual
theorem dv.same (s:aF H H'):∀(d:PyData) {v:V},dv K H d v->dv K H' d v
 | .none,_,h=>h
 | .bool _,_,h=>h
 | .int _,_,h=>h
 | .str _,_,h=>h
 | .list ds,_,⟨p,xs,e,h,t⟩=>⟨p,xs,e,h.same s,aZ.same s ds t⟩
 | .tuple ds,_,⟨p,xs,e,h,t⟩=>⟨p,xs,e,h.same s,aZ.same s ds t⟩
 | .dict _,_,h=>h.elim
theorem aZ.same (s:aF H H'):∀(ds:List PyData) {xs:List V},aZ K H ds xs->aZ K H' ds xs
 | [],_,h=>h
 | d::ds,_,⟨x,r,e,h,t⟩=>⟨x,r,e,dv.same s d h,aZ.same s ds t⟩
end
theorem aZ.length:∀{ds:List PyData} {xs:List V},aZ K H ds xs->xs.length=ds.length
 | [],_,h=>by cases h;rfl
 | d::ds,_,⟨x,r,e,h,t⟩=>by subst e;rw [List.length_cons,List.length_cons,aZ.length t]
theorem aZ.get:∀{ds:List PyData} {xs:List V},aZ K H ds xs->∀{i:Nat} {x:V},xs[i]?=some x->∃ d,ds[i]?=some d/\dv K H d x
 | [],_,h,i,x,e=>by cases h;simp at e
 | d::ds,_,⟨y,r,ey,h,t⟩,0,x,e=>by subst ey;simp at e;subst e;exact⟨d,rfl,h⟩
 | d::ds,_,⟨y,r,ey,h,t⟩,i+1,x,e=>by subst ey;simp at e;simpa using aZ.get t e
theorem aZ.append:∀{ds es:List PyData} {xs ys:List V},aZ K H ds xs->aZ K H es ys->aZ K H (ds++es) (xs++ys)
 | [],_,_,_,h,h'=>by cases h;exact h'
 | d::ds,_,_,_,⟨x,r,e,h,t⟩,h'=>by subst e;exact⟨x,_,rfl,h,t.append h'⟩
theorem aZ.one {d:PyData} {x:V} (h:dv K H d x):aZ K H [d] [x]:=⟨x,[],rfl,h,rfl⟩
theorem dv.lst {p:Addr} {xs:List V} {ds:List PyData} (h:H p=some (.lst xs)) (t:aZ K H ds xs):dv K H (.list ds) (.ref p):=⟨p,xs,rfl,aP.of h,t⟩
theorem dv.tup {p:Addr} {xs:List V} {ds:List PyData} (h:H p=some (.tup xs)) (t:aZ K H ds xs):dv K H (.tuple ds) (.ref p):=⟨p,xs,rfl,br.of h,t⟩
mutual
def lO:PyData->Bool
 | .list _=>false
 | .tuple ds=>cR ds
 | _=>true
def cR:List PyData->Bool
 | []=>true
 | d::ds=>lO d && cR ds
end
def SameBut (p:Addr) (H H':Hp):Prop:=∀ b o,b≠p->H b=some o->H' b=some o
theorem br.but {p a:Addr} {us xs:List V} (hp:H p=some (.lst us)) (s:SameBut p H H') (h:br K H a xs):br K H' a xs:=by
 rcases h with (h | ⟨o,h⟩) | h
 ·exact .inl (.inl (s _ _ (λe=>by rw [e,hp] at h;cases h) h))
 ·exact .inl (.inr ⟨o,s _ _ (λe=>by rw [e,hp] at h;cases h) h⟩)
 ·exact .inr h
mutual
theorem dv.but {p:Addr} {us:List V} (hp:H p=some (.lst us)) (s:SameBut p H H'):∀(d:PyData) {v:V},lO d=true->dv K H d v->dv K H' d v
 | .none,_,_,h=>h
 | .bool _,_,_,h=>h
 | .int _,_,_,h=>h
 | .str _,_,_,h=>h
 | .list ds,_,z,_=>by cases z
 | .tuple ds,_,z,⟨q,xs,e,h,t⟩=>⟨q,xs,e,h.but hp s,aZ.but hp s ds z t⟩
 | .dict _,_,_,h=>h.elim
theorem aZ.but {p:Addr} {us:List V} (hp:H p=some (.lst us)) (s:SameBut p H H'):∀(ds:List PyData) {xs:List V},cR ds=true->aZ K H ds xs->aZ K H' ds xs
 | [],_,_,h=>h
 | d::ds,_,z,⟨x,r,e,h,t⟩=>by
  have z':lO d=true/\cR ds=true:=by simpa [cR] using z
  exact⟨x,r,e,dv.but hp s d z'.1 h,aZ.but hp s ds z'.2 t⟩
end
end
section
variable {X:Cx} {pins:List (Addr × Obj)} {σ:St} {H:Hp} {s:Shared}
mutual
theorem iB (I:Inv X pins σ H s):∀(d:PyData) {v:V} {u:Value},dv X.K H d v->RelV v u->∃ as,Reads s.heap u d as
 | .none,_,u,h,r=>by cases h;cases r;exact⟨_,.none⟩
 | .bool _,_,u,h,r=>by cases h;cases r;exact⟨_,.bool _⟩
 | .int _,_,u,h,r=>by cases h;obtain⟨t,rfl⟩:=r;exact⟨_,.int _ _⟩
 | .str _,_,u,h,r=>by cases h;obtain⟨t,rfl⟩:=r;exact⟨_,.str _ _⟩
 | .list ds,_,u,⟨p,xs,e,h,t⟩,r=>by
  subst e
  cases r
  obtain⟨its,rr,pl,_⟩:=I.list h
  obtain⟨o,h1,h2,n,h3⟩:=pl.isList
  obtain⟨as,ra⟩:=dU I ds t rr
  exact⟨_,.list h1 h2 h3 (by simpa using ra)⟩
 | .tuple ds,_,u,⟨p,xs,e,h,t⟩,r=>by
  subst e
  cases r
  obtain⟨its,rr,pl,_⟩:=I.tuple h
  obtain⟨o,h1,h2,n,h3⟩:=pl
  obtain⟨as,ra⟩:=dU I ds t rr
  exact⟨_,.tuple h1 h2 h3 (by simpa using ra)⟩
 | .dict _,_,_,h,_=>h.elim
theorem dU (I:Inv X pins σ H s):∀(ds:List PyData) {xs:List V} {us:List Value},aZ X.K H ds xs->Vals xs us->∃ as,ReadsAll s.heap us ds as
 | [],_,us,h,r=>by cases h;cases r;exact⟨_,.nil⟩
 | d::ds,_,us,⟨x,r,e,h,t⟩,rr=>by
  subst e
  cases rr with
  | cons r1 r2 =>
   obtain⟨a1,q1⟩:=iB I d h r1
   obtain⟨a2,q2⟩:=dU I ds t r2
   exact⟨_,.cons q1 q2⟩
end
def yz (K:PySem.W.Frag) (neg:Bool):R2:=λy x H Q=>∃ d e,dv K H d y/\dv K H e x/\d.canLay0=true/\e.canLay0=true/\min d.depth e.depth<=60/\Q (.bl (if neg then !PyData.eqv d e else PyData.eqv d e)) H
theorem qB (hu:X.A.units+64<cLine):ff X (compareOp .Eq) (yz X.K false):=by
 intro pins s σ H y x u v Q I ry rx h
 obtain⟨d,e,hd,he,c1,c2,c3,q⟩:=h
 obtain⟨as,ra⟩:=iB I d hd ry
 obtain⟨bs,rb⟩:=iB I e he rx
 exact SeqAt.compareEq_reads ra rb c1 c2 (by omega) ⟨.bl _,H,I,rfl,q⟩
end
end L2
namespace Pw
def lst (xs:List Nat):Nat:=xs.getLast?.getD 0
end Pw
namespace L2
open PySem PySem.Spec PyProof.Rows PySem.W
end L2
namespace Ld
structure hU (n r:Int):Prop where
 two:2<=r
 dv:r∣n
 no:∀ d:Int,2<=d->d<r->¬d∣n
theorem hU.one {n r r':Int} (h:hU n r) (h':hU n r'):r=r':=by
 rcases Int.lt_trichotomy r r' with c | c | c
 ·exact absurd h.dv (h'.no r h.two c)
 ·exact c
 ·exact absurd h'.dv (h.no r' h'.two c)
theorem hU.le {n r:Int} (h:hU n r) (hn:0<n):r<=n:=Int.le_of_dvd hn h.dv
structure Inv (n k:Int):Prop where
 two:2<=k
 odd:k=2∨k%2=1
 no:∀ d:Int,2<=d->d<k->¬d∣n
theorem Inv.step {n k:Int} (h:Inv n k) (hk:¬k∣n):Inv n (k+if k=2 then 1 else 2):=by
 have h2:=h.two
 by_cases c:k=2
 ·rw [if_pos c]
  refine⟨by omega,.inr (by omega),λd d0 d1=>?_⟩
  have:d=k:=by omega
  rw [this];exact hk
 ·rw [if_neg c]
  have ho:k%2=1:=by rcases h.odd with z | z;exact absurd z c;exact z
  refine⟨by omega,.inr (by omega),λd d0 d1 hd=>?_⟩
  rcases (by omega:d<k∨d=k∨d=k+1) with z | z | z
  ·exact h.no d d0 z hd
  ·subst z;exact hk hd
  ·have e2:(2:Int)∣d:=Int.dvd_of_emod_eq_zero (by omega)
   exact h.no 2 (by omega) (by omega) (Int.dvd_trans e2 hd)
end Ld
namespace L2
open PySem PySem.Spec PyProof.Rows PySem.W
section
variable {K:PySem.W.Frag} {H:Hp}
mutual
theorem eqv_refl:∀ d:PyData,d.canLay0=true->PyData.eqv d d=true
 | .none,_=>by simp [PyData.eqv]
 | .bool _,_=>by simp [PyData.eqv]
 | .int _,_=>by simp [PyData.eqv]
 | .str _,_=>by simp [PyData.eqv]
 | .list ds,h=>by simpa [PyData.eqv] using gc ds h
 | .tuple ds,h=>by simpa [PyData.eqv] using gc ds h
 | .dict _,h=>by simp [PyData.canLay0] at h
theorem gc:∀ ds:List PyData,PyData.canLayAll0 ds=true->PyData.eqvAll ds ds=true
 | [],_=>by simp [PyData.eqvAll]
 | d::ds,h=>by
  have h':d.canLay0=true/\PyData.canLayAll0 ds=true:=by simpa [PyData.canLayAll0] using h
  simp [PyData.eqvAll,eqv_refl d h'.1,gc ds h'.2]
end
end
end L2
namespace L2
open PySem PySem.Spec PyProof.Rows
def zg (lo k:Int) (n:Nat):It:=⟨λi _=>i<n,λi H x H'=>H'=H/\x=.int (lo+i*k),λi _=>n<=i⟩
def yp (lo hi k:Int):Nat:=if lo<hi then ((hi-lo-1)/k+1).toNat else 0
def yc (ta:TA):TI:=λσ H R=>ta σ H λvs H1=>∃ i j k:Int,vs=[.int i,.int j,.int k]/\(-(2^60)<=i/\i<2^60 /\ -(2^60)<=j/\j<2^60/\0<k/\k<2^29)/\R (zg i k (yp i j k)) H1
section
variable {X:Cx} {tg:Expr}
end
end L2
namespace Sv
def xb (d:Nat) (arr:Nat->Bool):Nat->Bool:=λj=>arr j || (decide (d*d<=j) && decide (j%d=0))
def sv:Nat->(Nat->Bool) × List Nat
 | 0=>(λ_=>false,[])
 | i+1=>if (sv i).1 (i+2) then sv i else (xb (i+2) (sv i).1,(sv i).2++[i+2])
theorem len:∀ i,(sv i).2.length<=i
 | 0=>Nat.le_refl _
 | i+1=>by
  have:=len i
  rw [sv]
  split
  ·omega
  ·rw [List.length_append,List.length_singleton];omega
end Sv
namespace L2
open PySem PySem.Spec PyProof.Rows
section
variable {X:Cx} {pins:List (Addr × Obj)} {σ:St} {H:Hp} {s:Shared} {h':Heap}
theorem Inv.nE {t':Nat} {ch:List Addr} (I:Inv X pins σ H s) (k:∀ b o,b∉ch->s.heap.get? b=some o->h'.get? b=some o) (hf:∀ b∈ch,iK X pins H b):Inv X pins σ H { s with heap:=h',toks:=t' }:=by
 have nit:∀ b u,H b=some u->b∉ch:=λb u e z=>by rw [(hf b z).1] at e;cases e
 refine I.step (g':=s.gens) (d':=s.drawn) (ch:=ch) (λb hb=>?_) (λb o _ _ hc e _=>k b o hc e) (λb o _ _ hc e _=>⟨o.slots,k b o hc e⟩) (λ_ _ _ _ n=>n)
  (λb o hc e=>⟨o,k b o hc e⟩) (λ_ _ e=>e) (λ_ _ _ e=>e) (λb ps e=>⟨#[],by rw [e];simp⟩) (λm hm=>?_) (λb u e=>?_) I.bare
 ·obtain⟨_,f1,_,f3,f4,f5⟩:=hf b hb
  exact⟨f3,f1,f4,f5⟩
 ·obtain⟨o,es,ep,ho,r⟩:=hm
  exact⟨o,es,ep,k _ o (λz=>(hf _ z).2.1 rfl) ho,r⟩
 ·refine (I.hok b u e).gy (λc v hc q=>k c v ?_ q) (λ_ q=>q) λ_ _ q=>q
  rcases hc with z | z
  ·rw [z];exact nit b u e
  ·exact nit c _ z
theorem Inv.adopt {T:Addr} {o:HO} (I:Inv X pins σ H s) (hf:iK X pins H T) (new:aS X.prog X.w (upd H T o) s.heap T o):Inv X pins σ (upd H T o) s:=by
 have nT:∀ b u,H b=some u->b≠T:=λb u e z=>by rw [z,hf.1] at e;cases e
 refine I.step (h':=s.heap) (g':=s.gens) (d':=s.drawn) (t':=s.toks) (ch:=[T]) (λb hb=>?_) (λb o _ _ hc e _=>e) (λb o _ _ hc e _=>⟨o.slots,e⟩) (λb o hc e n=>by rw [ao (λz=>hc (by simp [z]))];exact n)
  (λb o hc e=>⟨o,e⟩) (λb xs e=>by rw [ao (nT _ _ e)];exact e) (λb o u e=>by rw [ao (nT _ _ e)];exact e) (λb ps e=>⟨#[],by rw [ao (nT _ _ e),e];simp⟩) (λm hm=>hm) (λb u e=>?_) I.bare
 ·have e:b=T:=by simpa using hb
  subst e
  obtain⟨_,f1,_,f3,f4,f5⟩:=hf
  exact⟨f3,f1,f4,f5⟩
 ·by_cases z:b=T
  ·subst z
   rw [aj] at e
   cases e
   exact new
  ·rw [ao z] at e
   exact (I.hok b u e).gy (λc v _ q=>q) (λc q=>by rw [ao (nT _ _ q)];exact q) λc xs q=>by rw [ao (nT _ _ q)];exact q
end
def Ap (K:PySem.W.Frag) (a:Addr):It :=
 ⟨λi H=>∃ xs x,aP K H a xs/\xs[i]?=some x,λi H x H'=>∃ p v,H p=none/\x=.ref p/\(∀ xs,aP K H a xs->xs[i]?=some v)/\H'=upd H p (.tup [.int i,v]),λi H=>∃ xs,aP K H a xs/\xs.length<=i⟩
def ya (K:PySem.W.Frag) (ta:TA):TI:=λσ H R=>ta σ H λvs H1=>∃ a,vs=[.ref a]/\(∃ xs,aP K H1 a xs)/\R (Ap K a) H1
end L2
namespace Crt
structure G (a b g:Int):Prop where
 pos:0<g
 da:g∣a
 db:g∣b
 lin:∃ u v:Int,u*a+v*b=g
theorem G.gr {a b g d:Int} (h:G a b g) (h1:d∣a) (h2:d∣b):d∣g:=by
 obtain⟨u,v,e⟩:=h.lin
 rw [<- e]
 exact Int.dvd_add (Int.dvd_mul_of_dvd_right h1) (Int.dvd_mul_of_dvd_right h2)
theorem G.one {a b g g':Int} (h:G a b g) (h':G a b g'):g=g':=Int.le_antisymm (Int.le_of_dvd h'.pos (h'.gr h.da h.db)) (Int.le_of_dvd h.pos (h.gr h'.da h'.db))
theorem a1 {g u A v L:Int} (e:u*(g*A)+v*(g*L)=g):g*(u*A+v*L)=g*1:=by grind
theorem a2 {g A k L l y:Int} (h1:y=g*A*k) (h2:y=g*L*l):g*(A*k)=g*(L*l):=by grind
theorem a3 {u A v L k l:Int} (e4:u*A+v*L=1) (e5:A*k=L*l):k=L*(u*l+v*k):=by
 have z:k*(u*A+v*L)=k:=by rw [e4,Int.mul_one]
 grind
theorem a4 {A D r L q1 t:Int} (et:L*q1+t=D*r):A*t=A*(D*r)-A*(L*q1):=by grind
theorem a5 {D r A L c:Int} (hc:r*A-1=L*c):D*(r*A)-D=D*(L*c):=by rw [<- hc];grind
theorem a6 {M L t q2 N x:Int} (ex:M*L*q2+x=N+M*t):x-N=M*(t-L*q2):=by grind
theorem a7 {g A L t q1 q2 c D r N x:Int} (z3:x=N+g*A*t-g*A*L*q2) (z1:A*t=A*(D*r)-A*(L*q1)) (z2:D*(r*A)-D=D*(L*c)):x-(N+g*D)=g*L*(c*D-q1*A-A*q2):=by grind
structure y7 (M N m n W x:Int):Prop where
 pos:0<W
 dM:M∣W
 dm:m∣W
 le:∀ y:Int,M∣y->m∣y->W∣y
 x0:0<=x
 x1:x<W
 eM:M∣x-N
 em:m∣x-n
theorem y8:∀(b a:Nat),0<a->∃ g,G (a:Int) (b:Int) g:=by
 intro b
 induction b using Nat.strongRecOn with
 | ind b ih =>
  intro a ha
  rcases Nat.eq_zero_or_pos b with z | z
  ·subst z
   exact⟨a,by omega,Int.dvd_refl _,Int.dvd_zero _,1,0,by simp⟩
  ·obtain⟨g,h⟩:=ih (a%b) (Nat.mod_lt a z) b z
   obtain⟨u,v,e⟩:=h.lin
   have ed:(a:Int)=(b:Int)*((a/b:Nat):Int)+((a%b:Nat):Int):=by
    have:=Nat.div_add_mod a b
    rw [<- Int.natCast_mul,<- Int.natCast_add,this]
   refine⟨g,h.pos,?_,h.da,v,u-v*((a/b:Nat):Int),?_⟩
   ·rw [ed]
    exact Int.dvd_add (Int.dvd_mul_of_dvd_left h.da) h.db
   ·rw [ed,<- e]
    generalize ((a/b:Nat):Int)=q
    generalize ((a%b:Nat):Int)=r
    generalize (b:Int)=b'
    grind
theorem xH {a b:Int} (ha:0<a) (hb:0<b):∃ g,G a b g:=by
 obtain⟨g,h⟩:=y8 b.toNat a.toNat (by omega)
 rw [Int.toNat_of_nonneg (by omega),Int.toNat_of_nonneg (by omega)] at h
 exact⟨g,h⟩
structure Told (ps:List (Int × Int)) (M N:Int):Prop where
 pos:0<M
 x0:0<=N
 x1:N<M
 dv:∀ p∈ps,p.1∣M
 le:∀ y:Int,(∀ p∈ps,p.1∣y)->M∣y
 al:∀ p∈ps,p.1∣N-p.2
theorem Told.nil:Told [] 1 0:=⟨by decide,by decide,by decide,λ_ h=>by simp at h,λy _=>⟨y,by omega⟩,λ_ h=>by simp at h⟩
theorem Told.step {ps:List (Int × Int)} {M N m n W x:Int} (h:Told ps M N) (b:y7 M N m n W x):Told (ps++[(m,n)]) W x:=by
 refine⟨b.pos,b.x0,b.x1,λp hp=>?_,λy hy=>?_,λp hp=>?_⟩
 ·rcases List.mem_append.mp hp with z | z
  ·exact Int.dvd_trans (h.dv p z) b.dM
  ·rw [List.mem_singleton.mp z];exact b.dm
 ·exact b.le y (h.le y λp hp=>hy p (List.mem_append_left _ hp)) (hy (m,n) (List.mem_append_right _ (by simp)))
 ·rcases List.mem_append.mp hp with z | z
  ·have e1:=Int.dvd_trans (h.dv p z) b.eM
   have e2:=h.al p z
   have:=Int.dvd_add e1 e2
   rwa [show x-N+(N-p.2)=x-p.2 by omega] at this
  ·rw [List.mem_singleton.mp z];exact b.em
theorem Told.one {ps:List (Int × Int)} {M N M' N':Int} (h:Told ps M N) (h':Told ps M' N'):M=M'/\N=N':=by
 have e:M=M':=Int.le_antisymm (Int.le_of_dvd h'.pos (h.le _ h'.dv)) (Int.le_of_dvd h.pos (h'.le _ h.dv))
 subst e
 refine⟨rfl,?_⟩
 have z:M∣N-N':=h.le _ λp hp=>by
  have:=Int.dvd_sub (h.al p hp) (h'.al p hp)
  rwa [show N-p.2-(N' - p.2)=N-N' by omega] at this
 have w:=Int.emod_emod_of_dvd
 have:=(Int.emod_eq_emod_iff_emod_sub_eq_zero (m:=N) (n:=M) (k:=N')).mpr (Int.emod_eq_zero_of_dvd z)
 rwa [Int.emod_eq_of_lt h.x0 h.x1,Int.emod_eq_of_lt h'.x0 h'.x1] at this
end Crt
namespace Num
def Al (n x y:Int):Prop:=n∣x-y
theorem Al.refl (n x:Int):Al n x x:=⟨0,by omega⟩
theorem Al.symm {n x y:Int} (h:Al n x y):Al n y x:=by
 have:=(Int.dvd_neg).mpr h
 rwa [show -(x-y)=y-x by omega] at this
theorem Al.trans {n x y z:Int} (h:Al n x y) (h':Al n y z):Al n x z:=by
 have:=Int.dvd_add h h'
 rwa [show x-y+(y-z)=x-z by omega] at this
theorem Al.mul {n x y u v:Int} (h:Al n x y) (h':Al n u v):Al n (x*u) (y*v):=by
 have h1:n∣(x-y)*u:=Int.dvd_mul_of_dvd_left h
 have h2:n∣y*(u-v):=Int.dvd_mul_of_dvd_right h'
 have:=Int.dvd_add h1 h2
 rwa [show (x-y)*u+y*(u-v)=x*u-y*v by rw [Int.sub_mul,Int.mul_sub];omega] at this
theorem Al.pow {n x y:Int} (h:Al n x y):∀ k:Nat,Al n (x^k) (y^k)
 | 0=>by rw [Int.pow_zero,Int.pow_zero];exact Al.refl _ _
 | k+1=>by rw [Int.pow_succ,Int.pow_succ];exact (Al.pow h k).mul h
theorem Al.iff {n x y:Int}:Al n x y↔x%n=y%n:=Pw.vG.symm
theorem Al.rest (n x:Int):Al n (x%n) x:=Al.iff.mpr (Int.emod_emod_of_dvd x (Int.dvd_refl n))
def Co (a n:Int):Prop:=∃ u v:Int,u*a+v*n=1
theorem Co.dvd {a n b:Int} (h:Co a n) (hd:n∣a*b):n∣b:=by
 obtain⟨u,v,e⟩:=h
 have h1:n∣u*(a*b):=Int.dvd_mul_of_dvd_right hd
 have h2:n∣(v*b)*n:=⟨v*b,Int.mul_comm _ _⟩
 have:=Int.dvd_add h1 h2
 have e2:u*(a*b)+v*b*n=(u*a+v*n)*b:=by
  rw [Int.add_mul,Int.mul_assoc u a b,Int.mul_assoc v n b,Int.mul_comm n b,Int.mul_assoc v b n]
 rw [e2,e,Int.one_mul] at this
 exact this
theorem Co.cancel {a n x y:Int} (h:Co a n) (e:Al n (a*x) (a*y)):Al n x y:=by
 refine h.dvd ?_
 rw [Int.mul_sub]
 exact e
theorem Co.mul {a b n:Int} (h:Co a n) (h':Co b n):Co (a*b) n:=by
 obtain⟨u,v,e⟩:=h
 obtain⟨u',v',e'⟩:=h'
 refine⟨u*u',u*a*v'+v*(u'*b+v'*n),?_⟩
 have:(u*a+v*n)*(u'*b+v'*n)=1:=by rw [e,e'];rfl
 grind
theorem Co.pow {a n:Int} (h:Co a n):∀ k:Nat,Co (a^k) n
 | 0=>⟨1,0,by rw [Int.pow_zero];simp⟩
 | k+1=>by rw [Int.pow_succ];exact (Co.pow h k).mul h
theorem Co.yt {a b n:Int} (h:Co a n) (e:Al n a b):Co b n:=by
 obtain⟨u,v,e1⟩:=h
 obtain⟨c,hc⟩:=e
 refine⟨u,v+u*c,?_⟩
 have:b=a-n*c:=by omega
 rw [this]
 grind
theorem bD {n a:Int} {d k:Nat} (h:Al n (a^d) 1):Al n (a^(d*k)) 1:=by
 rw [Pw.pow_mul]
 have:=h.pow k
 rwa [Pw.one_pow] at this
structure Ord (n a:Int) (m:Nat):Prop where
 pos:0<m
 one:Al n (a^m) 1
 dv:∀ j:Nat,Al n (a^j) 1->m∣j
theorem pow_mod {n a:Int} {m j:Nat} (h:Al n (a^m) 1) (hj:Al n (a^j) 1):Al n (a^(j%m)) 1:=by
 have e:a^j=a^(m*(j/m))*a^(j%m):=by rw [<- Pw.pow_add,Nat.div_add_mod]
 rw [e] at hj
 have h1:=(bD (k:=j/m) h).mul (Al.refl n (a^(j%m)))
 rw [Int.one_mul] at h1
 exact h1.symm.trans hj
theorem jM {n a:Int} {m:Nat} (pos:0<m) (one:Al n (a^m) 1) (no:∀ j,0<j->j<m->¬Al n (a^j) 1):Ord n a m:=by
 refine⟨pos,one,λj hj=>?_⟩
 have h:=pow_mod one hj
 rcases Nat.eq_zero_or_pos (j%m) with z | z
 ·exact Nat.dvd_of_mod_eq_zero z
 ·exact absurd h (no _ z (Nat.mod_lt _ pos))
theorem qf {P:Nat->Prop}:∀ N:Nat,P N->∃ m,P m/\∀ j,j<m->¬P j:=by
 intro N
 induction N using Nat.strongRecOn with
 | ind N ih =>
  intro h
  by_cases z:∃ j,j<N/\P j
  ·obtain⟨j,hj,pj⟩:=z
   exact ih j hj pj
  ·exact⟨N,h,λj hj pj=>z ⟨j,hj,pj⟩⟩
theorem qF {n a:Int} {N:Nat} (pos:0<N) (h:Al n (a^N) 1):∃ m,Ord n a m/\m<=N:=by
 obtain⟨m,⟨m0,m1⟩,no⟩:=qf (P:=λj=>0<j/\Al n (a^j) 1) N ⟨pos,h⟩
 refine⟨m,jM m0 m1 λj j0 jm z=>no j jm ⟨j0,z⟩,?_⟩
 by_cases z:m<=N
 ·exact z
 ·exact absurd ⟨pos,h⟩ (no N (by omega))
theorem wJ:∀(n:Nat) (l:List Nat),l.Nodup->(∀ x∈l,x<n)->l.length<=n:=by
 intro n
 induction n with
 | zero =>
  intro l _ h
  cases l with
  | nil=>exact Nat.le_refl _
  | cons x r=>exact absurd (h x (by simp)) (by omega)
 | succ n ih =>
  intro l nd h
  by_cases c:n∈l
  ·have h1:=ih (l.erase n) (nd.erase n) λx hx=>by
    have hx':=List.mem_of_mem_erase hx
    have ne:x≠n:=λz=>by
     subst z
     exact absurd hx (List.Nodup.not_mem_erase nd)
    have:=h x hx'
    omega
   rw [List.length_erase_of_mem c] at h1
   omega
  ·have h1:=ih l nd λx hx=>by
    have:=h x hx
    have ne:x≠n:=λz=>c (z▸hx)
    omega
   omega
end Num
namespace Num
structure Pm (p:Int):Prop where
 two:2<=p
 no:∀ d:Int,2<=d->d<p->¬d∣p
theorem Pm.co {p a:Int} (h:Pm p) (ha:¬p∣a):Co a p:=by
 have h2:=h.two
 have r0:=Int.emod_nonneg a (show p≠0 by omega)
 have r1:=Int.emod_lt_of_pos a (show 0<p by omega)
 have rn:a%p≠0:=λz=>ha (Int.dvd_of_emod_eq_zero z)
 obtain⟨g,G⟩:=Crt.xH (a:=a%p) (b:=p) (by omega) (by omega)
 have gl:=Int.le_of_dvd (show 0<a%p by omega) G.da
 have g1:g=1:=by
  have g0:=G.pos
  rcases (by omega:g=1∨2<=g) with z | z
  ·exact z
  ·exact absurd G.db (h.no g z (by omega))
 obtain⟨u,v,e⟩:=G.lin
 rw [g1] at e
 exact Co.yt ⟨u,v,e⟩ (Al.rest p a)
theorem Pm.or {p a b:Int} (h:Pm p) (hd:p∣a*b) (ha:¬p∣a):p∣b:=(h.co ha).dvd hd
def H:Int->List Int->Int->Int
 | acc,[],_=>acc
 | acc,c::cs,x=>H (acc*x+c) cs x
theorem oC {f:Nat->Nat} {n:Nat} (h:∀ i j,i<j->j<n->f i≠f j):((List.range n).map f).Nodup:=by
 show List.Pairwise _ _
 rw [List.pairwise_map]
 exact List.Pairwise.imp_of_mem (R:=(·<·)) (λ{a b} ha hb hab=>h a b hab (List.mem_range.mp hb)) List.pairwise_lt_range
theorem rest_eq {p x y:Int} (hp:0<p) (e:(x%p).toNat=(y%p).toNat):Al p x y:=by
 have h1:=Int.emod_nonneg x (show p≠0 by omega)
 have h2:=Int.emod_nonneg y (show p≠0 by omega)
 exact Al.iff.mpr (by omega)
theorem back {n a:Int} (hn:2<=n) (c:Co a n):∃ d:Nat,0<d/\(d:Int)<=n/\Al n (a^d) 1:=by
 by_cases z:∃ i j:Nat,i<j/\j<n.toNat+1/\Al n (a^i) (a^j)
 ·obtain⟨i,j,ij,jn,e⟩:=z
  refine⟨j-i,by omega,by omega,?_⟩
  have e1:a^j=a^i*a^(j-i):=by rw [<- Pw.pow_add];congr 1;omega
  rw [e1] at e
  have e2:Al n (a^i*1) (a^i*a^(j-i)):=by rw [Int.mul_one];exact e
  exact ((c.pow i).cancel e2).symm
 ·exfalso
  have nd:=oC (f:=λi=>(a^i%n).toNat) (n:=n.toNat+1) λi j ij jn e=>z ⟨i,j,ij,jn,rest_eq (by omega) e⟩
  have:=wJ n.toNat _ nd λx hx=>by
   obtain⟨i,_,rfl⟩:=List.mem_map.mp hx
   have h1:=Int.emod_nonneg (a^i) (show n≠0 by omega)
   have h2:=Int.emod_lt_of_pos (a^i) (show 0<n by omega)
   show (a^i%n).toNat<n.toNat
   omega
  rw [List.length_map,List.length_range] at this
  omega
theorem Ord.mul {n a b:Int} {k m:Nat} (ha:Ord n a k) (hb:Ord n b m) (ca:Co a n) (cb:Co b n) (co:Nat.Coprime k m):Ord n (a*b) (k*m):=by
 refine⟨Nat.mul_pos ha.pos hb.pos,?_,λj hj=>?_⟩
 ·rw [Pw.mul_pow]
  have h1:=bD (k:=m) ha.one
  have h2:=bD (k:=k) hb.one
  rw [Nat.mul_comm m k] at h2
  exact h1.mul h2
 ·rw [Pw.mul_pow] at hj
  have d1:k∣j:=by
   have e:=hj.pow m
   rw [Pw.one_pow,Pw.mul_pow,<- Pw.pow_mul,<- Pw.pow_mul] at e
   have h2:=bD (k:=j) hb.one
   rw [Nat.mul_comm m j] at h2
   have e2:Al n (a^(j*m)) 1:=by
    have:=(Al.refl n (a^(j*m))).mul h2.symm
    rw [Int.mul_one] at this
    exact this.trans e
   exact Nat.Coprime.dvd_of_dvd_mul_right co (ha.dv _ e2)
  have d2:m∣j:=by
   have e:=hj.pow k
   rw [Pw.one_pow,Pw.mul_pow,<- Pw.pow_mul,<- Pw.pow_mul] at e
   have h2:=bD (k:=j) ha.one
   rw [Nat.mul_comm k j] at h2
   have e2:Al n (b^(j*k)) 1:=by
    have:=h2.symm.mul (Al.refl n (b^(j*k)))
    rw [Int.one_mul] at this
    exact this.trans e
   exact Nat.Coprime.dvd_of_dvd_mul_right co.symm (hb.dv _ e2)
  exact Nat.Coprime.mul_dvd_of_dvd_of_dvd co d1 d2
end Num
namespace Num
def Nm (q:Nat):Prop:=2<=q/\∀ d,2<=d->d<q->¬d∣q
theorem Nm.co {q m:Nat} (h:Nm q) (hm:¬q∣m):Nat.Coprime q m:=by
 have hg:=Nat.gcd_dvd_left q m
 have g0:0<Nat.gcd q m:=Nat.gcd_pos_of_pos_left m (by have:=h.1;omega)
 have gl:=Nat.le_of_dvd (by have:=h.1;omega) hg
 rcases (by omega:Nat.gcd q m=1∨(2<=Nat.gcd q m/\Nat.gcd q m<q)∨Nat.gcd q m=q) with z | ⟨z1,z2⟩ | z
 ·exact z
 ·exact absurd hg (h.2 _ z1 z2)
 ·exact absurd (z▸Nat.gcd_dvd_right q m) hm
theorem ud {q:Nat} (h:Nm q):∀(k d:Nat),d∣q^(k+1)->¬d∣q^k->d=q^(k+1):=by
 intro k
 induction k with
 | zero =>
  intro d h1 h2
  rw [Nat.zero_add,Nat.pow_one] at h1 ⊢
  rw [Nat.pow_zero] at h2
  have q2:=h.1
  have d0:0<d:=Nat.pos_of_dvd_of_pos h1 (by omega)
  have dl:=Nat.le_of_dvd (by omega) h1
  rcases (by omega:d=1∨(2<=d/\d<q)∨d=q) with z | ⟨z1,z2⟩ | z
  ·exact absurd (z▸Nat.dvd_refl 1) h2
  ·exact absurd h1 (h.2 d z1 z2)
  ·exact z
 | succ k ih =>
  intro d h1 h2
  by_cases c:q∣d
  ·obtain⟨t,ht⟩:=c
   have q0:0<q:=by have:=h.1;omega
   rw [ht,Nat.pow_succ,Nat.mul_comm (q^(k+1)) q] at h1
   rw [ht,Nat.pow_succ,Nat.mul_comm (q^k) q] at h2
   have e1:=Nat.dvd_of_mul_dvd_mul_left q0 h1
   have e2:¬t∣q^k:=λz=>h2 (Nat.mul_dvd_mul_left q z)
   rw [ht,ih t e1 e2,Nat.pow_succ q (k+1),Nat.mul_comm]
  ·have co:Nat.Coprime (q^(k+1+1)) d:=Nat.Coprime.pow_left _ (h.co c)
   have:d∣1:=by
    have:=Nat.dvd_gcd h1 (Nat.dvd_refl d)
    rwa [co] at this
   exact absurd (Nat.dvd_trans this (Nat.one_dvd _)) h2
section
variable {p:Int} {L:Nat}
structure Ex (p:Int) (L:Nat):Prop where
 pos:0<L
 all:∀ a:Int,¬p∣a->Al p (a^L) 1
 no:∀ j,0<j->j<L->∃ a:Int,¬p∣a/\¬Al p (a^j) 1
end
end Num
namespace Num
theorem Co.wq {n a:Int} {m:Nat} (h:Al n (a^(m+1)) 1):Co a n:=by
 obtain⟨c,hc⟩:=h
 refine⟨a^m,-c,?_⟩
 rw [Int.pow_succ] at hc
 rw [Int.neg_mul,Int.mul_comm c n]
 omega
end Num
namespace Num
theorem qR {n r:Int} (h:Ld.hU n r):Pm r:=⟨h.two,λd d2 dr hd=>h.no d d2 dr (Int.dvd_trans hd h.dv)⟩
def dD:List (Int × Int)->Int
 | []=>1
 | p::r=>p.1^p.2.toNat*dD r
theorem iz:∀(ps:List (Int × Int)) (p:Int × Int),dD (ps++[p])=dD ps*p.1^p.2.toNat
 | [],p=>by show p.1^_*1=1*_;omega
 | q::r,p=>by
  show q.1^q.2.toNat*dD (r++[p])=q.1^q.2.toNat*dD r*_
  rw [iz r p,Int.mul_assoc]
structure Part (n:Int) (ps:List (Int × Int)):Prop where
 ok:∀ p∈ps,Pm p.1/\1<=p.2/\p.2<=30
 rise:ps.Pairwise λa b=>a.1<b.1
 prod:dD ps=n
theorem ck {q:Int} (h:0<q):∀ k:Nat,0<q^k
 | 0=>by rw [Int.pow_zero];decide
 | k+1=>by rw [Int.pow_succ];exact Int.mul_pos (ck h k) h
theorem two_pow_le {q:Int} (h:2<=q):∀ k:Nat,(2:Int)^k<=q^k
 | 0=>by rw [Int.pow_zero,Int.pow_zero];exact Int.le_refl _
 | k+1=>by
  rw [Int.pow_succ,Int.pow_succ]
  exact Int.mul_le_mul (two_pow_le h k) h (by decide) (Int.le_of_lt (ck (by omega) k))
theorem two_le:∀{k:Nat},(2:Int)^k<=10^9->k<=29:=by
 intro k h
 by_cases c:k<=29
 ·exact c
 ·exfalso
  have e:k=30+(k-30):=by omega
  rw [e,Pw.pow_add] at h
  have:=ck (show (0:Int)<2 by decide) (k-30)
  have h2:=Int.mul_le_mul_of_nonneg_left (show (1:Int)<=2^(k-30) by omega) (show (0:Int)<=2^30 by decide)
  have:(2:Int)^30=1073741824:=by decide
  omega
structure Way (n:Int) (ps:List (Int × Int)) (left prime:Int):Prop where
 ok:∀ p∈ps,Pm p.1/\1<=p.2/\p.2<=30
 rise:ps.Pairwise λa b=>a.1<b.1
 prod:dD ps*left=n
 pos:1<=left
 inv:Ld.Inv left prime
 le:∀ p∈ps,p.1<=prime
 gone:ps=[]∨¬prime∣left
 two:(2:Int)^ps.length*left<=n
theorem Way.start {n:Int} (h:1<=n):Way n [] n 2:=⟨λ_ z=>by simp at z,List.Pairwise.nil,by show 1*n=n;omega,h,⟨by decide,.inl rfl,λd d0 d1=>by omega⟩,λ_ z=>by simp at z,.inl rfl,by rw [List.length_nil,Int.pow_zero];omega⟩
theorem Way.step {n left prime r left':Int} {ps:List (Int × Int)} {k:Nat} (w:Way n ps left prime) (hn:n<=10^9) (hl:1<left) (h:Ld.hU left r) (e:left=r^k*left') (l0:1<=left') (hk:1<=k) (hg:¬r∣left'):Way n (ps++[(r,(k:Int))]) left' r:=by
 have r2:=h.two
 have pm:=qR h
 have rp:prime<=r:=by
  rcases (by omega:prime<=r∨r<prime) with z | z
  ·exact z
  ·exact absurd h.dv (w.inv.no r r2 z)
 have rk:=ck (show 0<r by omega) k
 have k2:=two_pow_le r2 k
 have kl:(2:Int)^k<=left:=by
  have:=Int.mul_le_mul k2 l0 (by decide) (Int.le_of_lt rk)
  rw [Int.mul_one] at this
  omega
 have ln:left<=n:=by
  have z:=w.two
  have p0:=ck (show (0:Int)<2 by decide) ps.length
  have:=Int.mul_le_mul_of_nonneg_right (show (1:Int)<=2^ps.length by omega) (show 0<=left by omega)
  omega
 have k29:=two_le (k:=k) (by omega)
 refine⟨λp hp=>?_,?_,?_,l0,?_,λp hp=>?_,.inr hg,?_⟩
 ·rcases List.mem_append.mp hp with z | z
  ·exact w.ok p z
  ·rw [List.mem_singleton.mp z]
   exact⟨pm,by show (1:Int)<=k;omega,by show (k:Int)<=30;omega⟩
 ·refine List.pairwise_append.mpr ⟨w.rise,List.pairwise_singleton _ _,λa ha b hb=>?_⟩
  rw [List.mem_singleton.mp hb]
  show a.1<r
  have:=w.le a ha
  rcases w.gone with z | z
  ·rw [z] at ha;simp at ha
  ·have:prime≠r:=λy=>z (y▸h.dv)
   omega
 ·rw [iz,<- w.prod,e]
  show dD ps*r^((k:Int).toNat)*left'=_
  rw [Int.toNat_natCast,Int.mul_assoc]
 ·refine⟨r2,?_,λd d0 d1 hd=>h.no d d0 d1 (by rw [e];exact Int.dvd_mul_of_dvd_right hd)⟩
  rcases (by omega:r=2∨2<r) with z | z
  ·exact .inl z
  ·refine .inr ?_
   rcases (by omega:r%2=1∨r%2=0) with y | y
   ·exact y
   ·exact absurd (Int.dvd_of_emod_eq_zero y) (pm.no 2 (by decide) z)
 ·rcases List.mem_append.mp hp with z | z
  ·have:=w.le p z;omega
  ·rw [List.mem_singleton.mp z];exact Int.le_refl _
 ·rw [List.length_append,List.length_singleton,Pw.pow_add,Int.pow_succ,Int.pow_zero,Int.one_mul,Int.mul_assoc]
  refine Int.le_trans (Int.mul_le_mul_of_nonneg_left ?_ (Int.le_of_lt (ck (by decide) _))) w.two
  rw [e]
  obtain⟨k',rfl⟩:∃ k',k=k'+1:=⟨k-1,by omega⟩
  have p0:=ck (show 0<r by omega) k'
  have h1:r<=r^(k'+1):=by
   rw [Int.pow_succ]
   have:=Int.mul_le_mul_of_nonneg_right (show 1<=r^k' by omega) (show 0<=r by omega)
   omega
  exact Int.mul_le_mul_of_nonneg_right (show 2<=r^(k'+1) by omega) (show 0<=left' by omega)
theorem Way.len {n left prime:Int} {ps:List (Int × Int)} (w:Way n ps left prime) (hn:n<=10^9):ps.length<=29:=by
 refine two_le ?_
 have z:=w.two
 have p0:=ck (show (0:Int)<2 by decide) ps.length
 have:=Int.mul_le_mul_of_nonneg_left w.pos (Int.le_of_lt p0)
 omega
end Num
namespace Num
open PySem
theorem vb {p:Int} (h:Pm p):Nm p.toNat:=⟨by have:=h.two;omega,λd d2 dp hd=>h.no d (by omega) (by omega) (by
 have:=Int.natCast_dvd_natCast.mpr hd
 rwa [show (p.toNat:Int)=p by have:=h.two;omega] at this)⟩
theorem qS {p q:Int} (hp:Pm p) (hq:Pm q):∀ k:Nat,q∣p^k->q=p
 | 0,h=>by
  rw [Int.pow_zero] at h
  have:=Int.le_of_dvd (by decide) h
  have:=hq.two
  omega
 | k+1,h=>by
  rw [Int.pow_succ] at h
  by_cases c:q∣p^k
  ·exact qS hp hq k c
  ·have d:=hq.or h c
   have l:=Int.le_of_dvd (by have:=hp.two;omega) d
   rcases (by omega:q<p∨q=p) with z | z
   ·exact absurd d (hp.no q hq.two z)
   ·exact z
theorem kD {q:Int} (hq:Pm q):∀{ps:List (Int × Int)},(∀ p∈ps,Pm p.1)->q∣dD ps->∃ p∈ps,p.1=q
 | [],_,h=>by
  have:=Int.le_of_dvd (by decide) (show q∣1 from h)
  have:=hq.two
  omega
 | a::r,hp,h=>by
  by_cases c:q∣a.1^a.2.toNat
  ·exact⟨a,by simp,(qS (hp a (by simp)) hq _ c).symm⟩
  ·obtain⟨p,h1,h2⟩:=kD hq (λp z=>hp p (List.mem_cons_of_mem _ z)) (hq.or h c)
   exact⟨p,List.mem_cons_of_mem _ h1,h2⟩
structure LF (p g:Int):Prop where
 one:1<=g
 lt:g<p
 ord:Ord p g (p-1).toNat
 no:∀ a:Int,1<=a->a<g->¬Ord p a (p-1).toNat
def rowsOf (ps:List (Int × Int)) (ds:Nat->PyData):List PyData:=(List.range ps.length).map λi=>.tuple [ds i,.int (ps.getD i (0,0)).2]
inductive z8:Int->PyData->Prop
 | mk (p g:Int) (ps:List (Int × Int)) (ds:Nat->PyData):Pm p->p<=10^9->LF p g->Part (p-1) ps->ps.length<=29->(∀ i q k,ps[i]?=some (q,k)->z8 q (ds i))->z8 p (.tuple [.int p,.int g,.tuple (rowsOf ps ds)])
end Num
namespace L2
open PySem PySem.Spec PyProof.Rows
def AF:PyData->String
 | .none => "NoneType"
 | .bool _ => "bool"
 | .int _ => "int"
 | .str _ => "str"
 | .list _ => "list"
 | .tuple _ => "tuple"
 | .dict _ => "dict"
def v3:PyData->Bool
 | .bool _=>true
 | _=>false
def Ad:PyData->Bool
 | .tuple _=>true
 | _=>false
def Ac:PyData->Bool
 | .list _=>true
 | _=>false
section
variable {X:Cx} {K:PySem.W.Frag}
def iA (K:PySem.W.Frag):List V->Hp->VK->Prop:=λxs H Q=>∃ d x n b,xs=[x,.ty n]/\dv K H d x/\PySem.W.kitOne K (.type (AF d)) (.type n)=some b/\Q (.bl b) H
theorem bg:bS X (.builtin "isinstance") (iA X.K):=by
 intro pins s σ H xs us Q I r h
 obtain⟨d,x,n,b,rfl,hd,ek,q⟩:=h
 obtain⟨u,w',rfl,rx,rc⟩:=vals2 r
 have e:w'=.type n:=rc
 subst e
 have fin:∀ tk,∃ v' H',Inv X pins σ H' { s with toks:=tk }/\RelV v' (.bool b)/\Q v' H':=λtk=>⟨.bl b,H,I.tok _,rfl,q⟩
 cases d with
 | none=>cases hd;exact d7 I rx eg.aQ ek fin
 | bool y=>cases hd;exact d7 I rx (eg.bl _) ek fin
 | int y=>cases hd;exact d7 I rx (eg.int _) ek fin
 | str y=>cases hd;exact d7 I rx (eg.str _) ek fin
 | list ds =>
  obtain⟨p,ys,rfl,h,t⟩:=hd
  cases rx
  obtain⟨its,rr,pl,_⟩:=I.list h
  obtain⟨o,h1,h2,_⟩:=pl.isList
  exact PySem.W.kia_one PySem.W.kitx_list I.dC ⟨o,h1,h2⟩ ek (λz=>nomatch z) fin
 | tuple ds =>
  obtain⟨p,ys,rfl,h,t⟩:=hd
  cases rx
  obtain⟨its,rr,pl,_⟩:=I.tuple h
  obtain⟨o,h1,h2,_⟩:=pl
  exact PySem.W.kia_one PySem.W.kitx_tuple I.dC ⟨o,h1,h2⟩ ek (λz=>nomatch z) fin
 | dict _=>exact hd.elim
theorem ku {H:Hp} {d:PyData} {x:V} {Q:VK} (h:dv K H d x) (q:Q (.bl (v3 d)) H):iA K [x,.ty "bool"] H Q:=by
 refine⟨d,x,"bool",_,rfl,h,?_,q⟩
 cases d<;>first | exact h.elim | with_unfolding_all rfl
theorem bF {H:Hp} {d:PyData} {x:V} {Q:VK} (h:dv K H d x) (q:Q (.bl (Ad d)) H):iA K [x,.ty "tuple"] H Q:=by
 refine⟨d,x,"tuple",_,rfl,h,?_,q⟩
 cases d<;>first | exact h.elim | with_unfolding_all rfl
theorem bM {H:Hp} {d:PyData} {x:V} {Q:VK} (h:dv K H d x) (q:Q (.bl (Ac d)) H):iA K [x,.ty "list"] H Q:=by
 refine⟨d,x,"list",_,rfl,h,?_,q⟩
 cases d<;>first | exact h.elim | with_unfolding_all rfl
end
def x5 (i:Int) (n:Nat):List V:=(List.range n).map fun(k:Nat)=>V.int (i+(k:Int))
def AD (ta:TA):TE:=λσ H Q=>ta σ H λvs H1=>∃ i j:Int,vs=[.int i,.int j]/\(-(2^62)<=i/\i<2^62 /\ -(2^62)<=j/\j<2^62)/\j-i<=10^6/\∀ l,H1 l=none->Q (.ref l) (upd H1 l (.lst (x5 i (j-i).toNat)))
variable {X:Cx}
section
variable {X:Cx} {K:PySem.W.Frag}
end
section
variable {κ:Type} [DecidableEq κ]
def fO (kvs:List (κ × V)) (k:κ):Option V:=(kvs.find? λkv=>decide (kv.1=k)).map (·.2)
def putK (kvs:List (κ × V)) (k:κ) (v:V):List (κ × V) :=
 if (kvs.any λkv=>decide (kv.1=k))=true then kvs.map (λkv=>if kv.1=k then (kv.1,v) else kv) else kvs++[(k,v)]
def xX (kvs:List (κ × V)) (k:κ):List (κ × V):=kvs.filter λkv=>decide (kv.1≠k)
theorem iG {p:κ × V} {r:List (κ × V)} {k:κ} (e:p.1=k):fO (p::r) k=some p.2:=by simp [fO,List.find?_cons,e]
theorem iF {p:κ × V} {r:List (κ × V)} {k:κ} (e:¬p.1=k):fO (p::r) k=fO r k:=by simp [fO,List.find?_cons,e]
theorem kT (k:κ):∀ kvs:List (κ × V),(kvs.any λkv=>decide (kv.1=k))=(fO kvs k).isSome
 | []=>rfl
 | p::r=>by
  rw [List.any_cons]
  by_cases e:p.1=k
  ·simp only [iG e,decide_eq_true e,Bool.true_or,Option.isSome_some]
  ·rw [iF e,decide_eq_false e,Bool.false_or];exact kT k r
theorem dR (kvs:List (κ × V)) (k:κ) (v:V):(putK kvs k v).length<=kvs.length+1:=by
 unfold putK
 split
 ·rw [List.length_map];omega
 ·rw [List.length_append,List.length_cons,List.length_nil];omega
theorem dO.ot {o:Option V} {u:Option Value} (r:dO o u):o.isSome=u.isSome:=by
 cases o with
 | none=>cases u with
  | none=>rfl
  | some _=>exact (show False from r).elim
 | some _=>cases u with
  | none=>exact (show False from r).elim
  | some _=>rfl
theorem dO.getD {o:Option V} {u:Option Value} {d:V} {d':Value} (r:dO o u) (rd:RelV d d'):RelV (o.getD d) (u.getD d'):=by
 cases o with
 | none=>cases u with
  | none=>exact rd
  | some _=>exact (show False from r).elim
 | some _=>cases u with
  | none=>exact (show False from r).elim
  | some _=>exact r
theorem KV.val {kvs:List (κ × V)} {vs:List (κ × Value)} (r:KV kvs vs) (k:κ):dO (fO kvs k) (valueAt vs k):=by
 unfold KV at r
 induction r with
 | nil=>exact True.intro
 | @cons p q ps qs h t ih =>
  obtain⟨h1,h2⟩:=h
  by_cases e:p.1=k
  ·have e':q.1=k:=h1.symm.trans e
   have b:valueAt (q::qs) k=some q.2:=by simp [valueAt,List.find?_cons,e']
   rw [iG e,b];exact h2
  ·have e':¬q.1=k:=λz=>e (h1.trans z)
   have b:valueAt (q::qs) k=valueAt qs k:=by simp [valueAt,List.find?_cons,e']
   rw [iF e,b];exact ih
theorem KV.any {kvs:List (κ × V)} {vs:List (κ × Value)} (r:KV kvs vs) (k:κ):(kvs.any λkv=>decide (kv.1=k))=vs.any λkv=>decide (kv.1=k):=by
 unfold KV at r
 induction r with
 | nil=>rfl
 | cons h t ih=>rw [List.any_cons,List.any_cons,ih,h.1]
theorem KV.wX {kvs:List (κ × V)} {vs:List (κ × Value)} (r:KV kvs vs) (k:κ) {y:V} {u:Value} (ry:RelV y u) :
  KV (kvs.map λkv=>if kv.1=k then (kv.1,y) else kv) (vs.map λkv=>if kv.1=k then (kv.1,u) else kv):=by
 unfold KV at r ⊢
 induction r with
 | nil=>exact .nil
 | @cons p q ps qs h t ih =>
  rw [List.map_cons,List.map_cons]
  refine .cons ?_ ih
  obtain⟨h1,h2⟩:=h
  by_cases e:p.1=k
  ·rw [if_pos e,if_pos (h1.symm.trans e)];exact⟨h1,ry⟩
  ·rw [if_neg e,if_neg (λz=>e (h1.trans z))];exact⟨h1,h2⟩
theorem KV.put {kvs:List (κ × V)} {vs:List (κ × Value)} (r:KV kvs vs) (k:κ) {y:V} {u:Value} (ry:RelV y u):KV (putK kvs k y) (stored vs k u):=by
 unfold putK stored
 rw [r.any k]
 by_cases e:(vs.any λkv=>decide (kv.1=k))=true
 ·rw [if_pos e,if_pos e];exact r.wX k ry
 ·rw [if_neg e,if_neg e];exact Paired.snoc r ⟨rfl,ry⟩
theorem KV.keys {kvs:List (κ × V)} {vs:List (κ × Value)} (r:KV kvs vs):kvs.map (·.1)=vs.map (·.1):=by
 unfold KV at r
 induction r with
 | nil=>rfl
 | cons h t ih=>rw [List.map_cons,List.map_cons,ih,h.1]
theorem KV.length {kvs:List (κ × V)} {vs:List (κ × Value)} (r:KV kvs vs):kvs.length=vs.length:=Paired.length r
end
theorem mJ {P:Program} {w:World} {k:Key} {u:Value} (r:RelV (kV k) u):(bc P w).is k u=true:=by
 cases k with
 | inl i=>obtain⟨t,e⟩:=(show ∃ t,u=Value.int i t from r);subst e;exact kA P w i t
 | inr x=>obtain⟨t,e⟩:=(show ∃ t,u=Value.str x t from r);subst e;exact kB P w x t
theorem je {P:Program} {w:World}:∀{ks:List Key} {us:List Value},Vals (ks.map kV) us->ItemsAre (bc P w) ks us
 | [],_,r=>by rw [List.map_nil] at r;cases r;exact .nil
 | k::ks,_,r=>by
  rw [List.map_cons] at r
  cases r with
  | cons h t=>exact .cons (mJ h) (je t)
abbrev KT (H:Hp):List (List Key × V)->List (List Key × Addr × Value)->Prop:=Paired λp q=>p.1=q.1/\H q.2.1=some (.tup (p.1.map kV))/\RelV p.2 q.2.2
theorem KT.val {H:Hp} {kvs:List (List Key × V)} {xs:List (List Key × Addr × Value)} (r:KT H kvs xs) (k:List Key):dO (fO kvs k) ((atKey xs k).map (·.2)):=by
 induction r with
 | nil=>exact True.intro
 | @cons p q ps qs h t ih =>
  obtain⟨h1,_,h2⟩:=h
  by_cases e:p.1=k
  ·have e':q.1=k:=h1.symm.trans e
   have b:atKey (q::qs) k=some q.2:=by simp [atKey,List.find?_cons,e']
   rw [iG e,b];exact h2
  ·have e':¬q.1=k:=λz=>e (h1.trans z)
   have b:atKey (q::qs) k=atKey qs k:=by simp [atKey,List.find?_cons,e']
   rw [iF e,b];exact ih
theorem KT.wX {H:Hp} {kvs:List (List Key × V)} {xs:List (List Key × Addr × Value)} (r:KT H kvs xs) (k:List Key) {y:V} {u:Value} (ry:RelV y u) :
  KT H (kvs.map λkv=>if kv.1=k then (kv.1,y) else kv) (xs.map (putAt k u)):=by
 induction r with
 | nil=>exact .nil
 | @cons p q ps qs h t ih =>
  rw [List.map_cons,List.map_cons]
  refine .cons ?_ ih
  obtain⟨h1,h2,h3⟩:=h
  unfold putAt
  by_cases e:p.1=k
  ·rw [if_pos e,if_pos (h1.symm.trans e)];exact⟨h1,h2,ry⟩
  ·rw [if_neg e,if_neg (λz=>e (h1.trans z))];exact⟨h1,h2,h3⟩
theorem KT.put {H:Hp} {kvs:List (List Key × V)} {xs:List (List Key × Addr × Value)} (r:KT H kvs xs) (k:List Key) {b:Addr} {y:V} {u:Value} (hb:H b=some (.tup (k.map kV))) (ry:RelV y u) :
  KT H (putK kvs k y) (storedH xs k b u):=by
 have e:(kvs.any λkv=>decide (kv.1=k))=(atKey xs k).isSome:=by
  rw [kT,(r.val k).ot,Option.isSome_map]
 unfold putK storedH
 rw [e]
 by_cases q:(atKey xs k).isSome=true
 ·rw [if_pos q,if_pos q];exact r.wX k ry
 ·rw [if_neg q,if_neg q];exact Paired.snoc r ⟨rfl,hb,ry⟩
theorem KT.keeps {H H':Hp} {kvs:List (List Key × V)} {xs:List (List Key × Addr × Value)} (r:KT H kvs xs) (ht:∀ b ys,H b=some (.tup ys)->H' b=some (.tup ys)):KT H' kvs xs :=
 Paired.wj r λ_ _ z=>⟨z.1,ht _ _ z.2.1,z.2.2⟩
section
variable {P:Program} {w:World} {H:Hp} {h:Heap} {a:Addr}
theorem vf {u:HO} (ok:dB P w H h) (e:Rd H a u):aS P w H h a u:=e.ok ok
theorem pJ {kvs:List (Key × V)} (ok:dB P w H h) (e:Rd H a (.dK kvs)):kvs.length<=sizeLine/\(a==sysModules)=false/\∃ vs,KV kvs vs/\h.DictOf (bc P w) a vs :=
 show aS P w H h a (.dK kvs) from vf ok e
theorem uU {kvs:List (Key × V)} (ok:dB P w H h) (e:H a=some (.dK kvs)):kvs.length<=sizeLine/\(a==sysModules)=false/\∃ vs,KV kvs vs/\h.DictOf (bc P w) a vs:=pJ ok (.inl e)
theorem lH {ks:List Key} (ok:dB P w H h) (e:H a=some (.tup (ks.map kV))):(tupleKind (bc P w)).is h ks a:=by
 obtain⟨_,its,r,o,h1,h2,n,h3⟩:=(show aS P w H h a (.tup (ks.map kV)) from ok a _ e)
 exact⟨o,its.toArray,n,h1,h2,h3,by simpa using je r⟩
theorem pL {kvs:List (List Key × V)} (ok:dB P w H h) (e:Rd H a (.dT kvs)):kvs.length<=sizeLine/\(a==sysModules)=false /\
  ∃ xs,KT H kvs xs/\h.DictOfH (tupleKind (bc P w)) a xs:=by
 obtain⟨z,y,xs,r,o,es,ep,h1,h2,h3,h4,h5⟩:=(show aS P w H h a (.dT kvs) from vf ok e)
 refine⟨z,y,xs,r,o,es,ep,h1,h2,h3,h4,λx hx=>?_,h5⟩
 have all:∀{l:List (List Key × V)} {m:List (List Key × Addr × Value)},KT H l m->∀ x∈m,(tupleKind (bc P w)).is h x.1 x.2.1:=by
  intro l m q
  induction q with
  | nil=>intro x hx;exact nomatch hx
  | @cons p q ps qs hq t ih =>
   intro x hx
   rcases List.mem_cons.mp hx with e | hx
   ·subst e
    exact lH ok (by rw [<- hq.1];exact hq.2.1)
   ·exact ih x hx
 exact all r x hx
theorem xY {kvs:List (List Key × V)} (ok:dB P w H h) (e:H a=some (.dT kvs)):kvs.length<=sizeLine/\(a==sysModules)=false /\
  ∃ xs,KT H kvs xs/\h.DictOfH (tupleKind (bc P w)) a xs:=pL ok (.inl e)
end
def eQ (H:Hp) (a:Addr) (y:V) (r:Option V):Prop :=
 (∃ kvs k,Rd H a (.dK kvs)/\y=kV k/\r=fO kvs k)∨∃ kvs k b,Rd H a (.dT kvs)/\y=.ref b/\H b=some (.tup (k.map kV))/\r=fO kvs k
def j7 (H:Hp) (a:Addr) (y v:V) (H':Hp):Prop :=
 (∃ kvs k,H a=some (.dK kvs)/\y=kV k/\kvs.length<sizeLine/\H'=upd H a (.dK (putK kvs k v))) ∨
 ∃ kvs k b,H a=some (.dT kvs)/\y=.ref b/\H b=some (.tup (k.map kV))/\kvs.length<sizeLine/\H'=upd H a (.dT (putK kvs k v))
theorem eQ.k {H:Hp} {a:Addr} {kvs:List (Key × V)} {k:Key} (e:H a=some (.dK kvs)):eQ H a (kV k) (fO kvs k):=.inl ⟨kvs,k,.inl e,rfl,rfl⟩
theorem eQ.t {H:Hp} {a b:Addr} {kvs:List (List Key × V)} {k:List Key} (e:H a=some (.dT kvs)) (eb:H b=some (.tup (k.map kV))):eQ H a (.ref b) (fO kvs k):=.inr ⟨kvs,k,b,.inl e,rfl,eb,rfl⟩
theorem j7.k {H:Hp} {a:Addr} {kvs:List (Key × V)} {k:Key} {v:V} (e:H a=some (.dK kvs)) (hl:kvs.length<sizeLine):j7 H a (kV k) v (upd H a (.dK (putK kvs k v))):=.inl ⟨kvs,k,e,rfl,hl,rfl⟩
theorem j7.t {H:Hp} {a b:Addr} {kvs:List (List Key × V)} {k:List Key} {v:V} (e:H a=some (.dT kvs)) (eb:H b=some (.tup (k.map kV))) (hl:kvs.length<sizeLine) :
  j7 H a (.ref b) v (upd H a (.dT (putK kvs k v))):=.inr ⟨kvs,k,b,e,rfl,eb,hl,rfl⟩
section
variable {X:Cx} {pins:List (Addr × Obj)} {σ:St} {H:Hp} {s:Shared} {a:Addr} {y v:V} {u r:Value} {o:Option V} {A:Around} {E:Value->Shared->Prop}
theorem Inv.big (I:Inv X pins σ H s):sysModules<s.heap.objs.size:=by
 have h:mainGlobals<s.heap.objs.size:=(I.mod.glob.keeps I.bk).lt
 exact Nat.lt_trans (by decide) h
theorem nY {Q:Value->Shared->Prop} (hu:A.units+1<cLine) (I:Inv X pins σ H s) (g:eQ H a y (some v)) (ry:RelV y u) (h:∀ w' s',Inv X pins σ H s'->RelV v w'->Q w' s') :
  wpAny (model X.prog X.w) A (getItem (.ref a) u) Q E s:=by
 rcases g with⟨kvs,k,e,ey,l⟩|⟨kvs,k,b,e,ey,eb,l⟩
 ·subst ey
  obtain⟨z,hd,vs,rel,dd⟩:=pJ I.hok e
  obtain⟨w',hw,rw'⟩:=dO.some_of (v:=v) (o:=valueAt vs k) (by rw [l];exact rel.val k)
  exact wpAny_getItem_of (mJ ry) dd.mapOf hw (h w' _ (I.tok _) rw')
 ·subst ey
  cases (show u=Value.ref b from ry)
  obtain⟨z,hd,xs,rel,dd⟩:=pL I.hok e
  obtain⟨w',hw,rw'⟩:=dO.some_of (v:=v) (o:=(atKey xs k).map (·.2)) (by rw [l];exact rel.val k)
  obtain⟨p,hp,hp2⟩:=Option.map_eq_some_iff.mp hw
  refine wpAny_getItem_heap (tupleKind_room_in1 hu) (lH I.hok eb) dd hp ?_
  rw [hp2]
  exact h w' _ (I.tok _) rw'
theorem jE {h':Heap} {t':Nat} {ob:HO} (I:Inv X pins σ H s) (mu:xJ (H a)) (hs:Heap.SameBut a s.heap h') (he:∃ q,h'.get? a=some q) (new:aS X.prog X.w (upd H a ob) h' a ob) :
  Inv X pins σ (upd H a ob) { s with heap:=h',toks:=t' } :=
 I.write (x:=a) (e:=a) mu (.inl rfl) (λb q hb z=>(hs.2 b hb).trans z) he new
theorem pI {P:Program} {w:World} {H':Hp} {h':Heap} {kvs:List (Key × V)} {vs:List (Key × Value)} (z:kvs.length<=sizeLine) (hd:(a==sysModules)=false) (rel:KV kvs vs) (dd:h'.DictOf (bc P w) a vs) :
  aS P w H' h' a (.dK kvs):=⟨z,hd,vs,rel,dd⟩
theorem nZ {H':Hp} {Q:Unit->Shared->Prop} (hu:A.units+1<cLine) (I:Inv X pins σ H s) (g:j7 H a y v H') (ry:RelV y u) (rv:RelV v r) (h:∀ s',Inv X pins σ H' s'->Q () s') :
  wpAny (model X.prog X.w) A (setItem (.ref a) u r) Q E s:=by
 rcases g with⟨kvs,k,e,ey,l,eH⟩|⟨kvs,k,b,e,ey,eb,l,eH⟩
 ·subst ey eH
  obtain⟨z,hd,vs,rel,dd⟩:=uU I.hok e
  have hz:vs.length<=sizeLine:=by rw [<- rel.length];exact z
  have hl:(putK kvs k v).length<=sizeLine:=by have:=dR kvs k v;omega
  refine wpAny_setItem_pairs (hsz:=hz) (mJ ry) dd λh' dd' hs=>h _ ?_
  have he:∃ q,h'.get? a=some q:=let ⟨q,_,_,hq,_⟩:=dd';⟨q,hq⟩
  exact jE I (by rw [e];exact True.intro) hs he (pI hl hd (rel.put k rv) dd')
 ·subst ey eH
  cases (show u=Value.ref b from ry)
  obtain⟨z,hd,xs,rel,dd⟩:=xY I.hok e
  have hz:xs.length<=sizeLine:=by rw [<- Paired.length rel];exact z
  have hl:(putK kvs k v).length<=sizeLine:=by have:=dR kvs k v;omega
  refine wpAny_setItem_heap (hsz:=hz) (tupleKind_room_in1 hu) (lH I.hok eb) dd λh' dd' hs=>h _ ?_
  obtain⟨q,es,ep,hq,h2,h3,h4,_,h5⟩:=dd'
  refine jE I (by rw [e];exact True.intro) hs ⟨q,hq⟩ ⟨hl,hd,_,(rel.put k eb rv).keeps λc ys ec=>?_,q,es,ep,hq,h2,h3,h4,h5⟩
  rw [ao (ji ec e (λz=>nomatch z))]
  exact ec
end
section
variable {X:Cx} {pins:List (Addr × Obj)} {σ:St} {H:Hp} {s:Shared} {a:Addr} {kvs:List (Key × V)} {k:Key} {u:Value} {A:Around} {E:Value->Shared->Prop}
end
def xK (i:Expr):Prop:=∀ ov iv,subscripted i false ov iv=operate [ov,iv] (getItem ov iv)
theorem uD {prog:Program} {w:World} {A:Around} {E:Value->Shared->Prop} {s:Shared} {env:Env} {value slice:Expr} {pos:Pos} {T id:String} {Q:Value->Shared->Prop}
  (hl:typeLookup (.type T) "__getitem__"=pure (some (.builtin id))) (hs:xK slice)
  (h:wpAny (model prog w) A (eval value env) (λo s₁=>wpAny (model prog w) A (eval slice env) (λi s₂=>s₂.TypeIs o T/\wpAny (model prog w) A (getItem o i) Q E s₂) E s₁) E s) :
  wpAny (model prog w) A (eval (.Subscript value slice pos) env) Q E s:=by
 refine Subscript_ (wpAny_mono h (λo s₁ h₁=>wpAny_mono h₁ (λi s₂ h₂=>?_) λ_ _ x=>x) λ_ _ x=>x)
 obtain⟨hT,h₂⟩:=h₂
 unfold subscriptTail
 refine wpAny_bind ?_
 rw [getitemInPython_of_ne hT.not_modules]
 refine wpAny_bind (wpAny_specialOf hT hl ?_)
 have fin:wpAny (model prog w) A (subscripted slice false o i) (λr s₃=>wpAny (model prog w) A (letTemporaryGo value o r >>= λ_=>pure r) Q E s₃) E s₂:=by
  rw [hs o i]
  exact wpAny_operating (wpAny_mono h₂ (λr s₃ h₃=>wpAny_bind (wpAny_letTemporaryGo (wpAny_pure h₃))) λ_ _ x=>x)
 first
  | exact wpAny_pure (wpAny_bind fin)
  | exact wpAny_bind (wpAny_pure (wpAny_bind fin))
  | exact wpAny_bind fin
theorem kj {X:Cx} {pins:List (Addr × Obj)} {σ:St} {H:Hp} {s:Shared} {a:Addr} {y:V} {o:Option V} (I:Inv X pins σ H s) (g:eQ H a y o):s.TypeIs (.ref a) "dict":=by
 rcases g with⟨kvs,k,e,_,_⟩|⟨kvs,k,b,e,_,_,_⟩
 ·obtain⟨_,_,vs,_,dd⟩:=pJ I.hok e
  exact dd.typeIs
 ·obtain⟨_,_,xs,_,dd⟩:=pL I.hok e
  exact dd.typeIs
def vm (td ty:TE):TE:=λσ H Q=>td σ H λx H1=>ty σ H1 λy H2=>∃ a v,x=.ref a/\eQ H2 a y (some v)/\Q v H2
def zH (ty td:TE):TE:=λσ H Q=>ty σ H λy H1=>td σ H1 λx H2=>∃ a o,x=.ref a/\eQ H2 a y o/\Q (.bl o.isSome) H2
def uE (ty td:TE):TE:=λσ H Q=>ty σ H λy H1=>td σ H1 λx H2=>∃ a o,x=.ref a/\eQ H2 a y o/\Q (.bl (!o.isSome)) H2
def vg (td ty tv:TE):TS:=λD σ H=>tv σ H λv H1=>td σ H1 λx H2=>ty σ H2 λy H3=>∃ a H4,x=.ref a/\j7 H3 a y v H4/\D.nx σ H4
section
variable {X:Cx} {o i e value:Expr} {pos pos' tpos:Pos} {td ty tv:TE}
theorem fC (hu:X.A.units+1<cLine) (ho:PE X o td) (hi:PE X i ty) (hs:xK i):PE X (.Subscript o i pos) (vm td ty):=by
 intro pins s σ H Q I h
 refine uD PySem.F.slot_dict_getitem.lookup hs (aR (ho pins s σ H _ I h) λu s1 ⟨x,H1,I1,rx,q1⟩=>aR (hi pins s1 σ H1 _ I1 q1) λiv s2 ⟨y,H2,I2,ry,a,v,ex,g,q2⟩=>?_)
 subst ex
 obtain rfl:u=Value.ref a:=rx
 exact⟨kj I2 g,nY hu I2 g ry λw' s3 I3 rw'=>⟨v,H2,I3,rw',q2⟩⟩
theorem jN (hu:X.A.units+1<cLine) (ho:PE X o td) (hi:PE X i ty) (hv:PE X value tv) (hs:swapsWith value (some (.Subscript o i pos')) pos.line X.env=pure false) :
  PS X (.Assign [.Subscript o i pos'] value pos) (vg td ty tv):=by
 intro pins s σ H D I h
 refine wpAny_Assign_Subscript (aR (hv pins s σ H _ I h) λr s1 ⟨v,H1,I1,rv,q1⟩=>aR (ho pins s1 σ H1 _ I1 q1) λu s2 ⟨x,H2,I2,rx,q2⟩=>aR (hi pins s2 σ H2 _ I2 q2) λiv s3 ⟨y,H3,I3,ry,a,H4,ex,g,q3⟩=>?_) hs
 subst ex
 obtain rfl:u=Value.ref a:=rx
 exact nZ hu I3 g ry rv λs4 I4=>⟨σ,H4,I4,q3⟩
end
theorem pH {P:Program} {w:World} {H:Hp} (h:Heap) (hb:sysModules<h.objs.size):aS P w H (h.push { cls:=.type "dict",data:=.dict #[] }) h.objs.size (.dK []) :=
 ⟨Nat.zero_le _,beq_eq_false_iff_ne.mpr (Ne.symm (Nat.ne_of_lt hb)),[],.nil,Heap.DictOf.new h⟩
def xf:TE:=λ_ H Q=>∀ p,H p=none->Q (.ref p) (upd H p (.dK []))
def xg:TE:=λ_ H Q=>∀ p,H p=none->Q (.ref p) (upd H p (.dT []))
section
variable {X:Cx} {pos:Pos}
end
def jX:List (TE × TE)->St->Hp->(List (V × V)->Hp->Prop)->Prop
 | [],_,H,Q=>Q [] H
 | (tk,tv)::r,σ,H,Q=>tk σ H λx H1=>tv σ H1 λy H2=>jX r σ H2 λps H3=>Q ((x,y)::ps) H3
abbrev VV:List (V × V)->List (Value × Value)->Prop:=Paired λp q=>RelV p.1 q.1/\RelV p.2 q.2
def yX (X:Cx) (pos:Pos) (keys:List (Option Expr)) (values:List Expr) (trs:List (TE × TE)):Prop :=
 ∀(pins:List (Addr × Obj)) (s:Shared) (σ:St) (H:Hp) (Q:List (V × V)->Hp->Prop),Inv X pins σ H s->jX trs σ H Q ->
  wpAny (model X.prog X.w) X.A (evalPairs (pairTrees keys values X.env pos)) (λvs s'=>∃ ps H',Inv X pins σ H' s'/\VV ps vs/\Q ps H') X.xe s
theorem ue {X:Cx} {pos:Pos}:yX X pos [] [] []:=λpins s σ H Q I h=>pairTrees_nil_walk ⟨[],H,I,.nil,h⟩
theorem iy {X:Cx} {pos:Pos} {k v:Expr} {ks:List (Option Expr)} {vs:List Expr} {tk tv:TE} {trs:List (TE × TE)} (hk:PE X k tk) (hv:PE X v tv) (hr:yX X pos ks vs trs) :
  yX X pos (some k::ks) (v::vs) ((tk,tv)::trs):=λpins s σ H Q I h =>
 pairTrees_cons_walk (aR (hk pins s σ H _ I h) λu s1 ⟨x,H1,I1,rx,q1⟩=>aR (hv pins s1 σ H1 _ I1 q1) λw2 s2 ⟨y,H2,I2,ry,q2⟩ =>
  aR (hr pins s2 σ H2 _ I2 q2) λws s3 ⟨ps,H3,I3,rel,q3⟩=>⟨(x,y)::ps,H3,I3,.cons ⟨rx,ry⟩ rel,q3⟩)
def iq (kvs more:List (Key × V)):List (Key × V):=more.foldl (λacc kv=>putK acc kv.1 kv.2) kvs
theorem KV.merge:∀{more:List (Key × V)} {rs:List (Key × Value)} {kvs:List (Key × V)} {vs:List (Key × Value)},KV more rs->KV kvs vs->KV (iq kvs more) (merged vs rs):=by
 intro more rs kvs vs r
 unfold KV at r
 induction r generalizing kvs vs with
 | nil=>intro q;exact q
 | @cons p q ps qs h t ih =>
  intro r0
  have e:KV (putK kvs p.1 p.2) (stored vs q.1 q.2):=by
   have:=r0.put p.1 h.2
   rw [<- h.1];exact this
  exact ih e
theorem eC:∀(more kvs:List (Key × V)),(iq kvs more).length<=kvs.length+more.length
 | [],kvs=>by show kvs.length<=kvs.length+0;omega
 | p::r,kvs=>by
  have h1:=eC r (putK kvs p.1 p.2)
  have h2:=dR kvs p.1 p.2
  show (iq (putK kvs p.1 p.2) r).length<=_
  rw [List.length_cons];omega
theorem hX {P:Program} {w:World}:∀{kvs:List (Key × V)} {ws:List (Value × Value)},VV (kvs.map λkv=>(kV kv.1,kv.2)) ws->∃ rs,Carries (bc P w) ws rs/\KV kvs rs
 | [],_,r=>by rw [List.map_nil] at r;cases r;exact⟨[],True.intro,.nil⟩
 | p::kvs,_,r=>by
  rw [List.map_cons] at r
  cases r with
  | @cons a b as bs h t =>
   obtain⟨rs,c,q⟩:=hX (P:=P) (w:=w) t
   obtain⟨b1,b2⟩:=b
   exact⟨(p.1,b2)::rs,⟨mJ h.1,rfl,c⟩,.cons ⟨rfl,h.2⟩ q⟩
def vn (trs:List (TE × TE)):TE:=λσ H Q=>∀ p,H p=none->jX trs σ (upd H p (.dK [])) λps H2=>H2 p=some (.dK [])/\∃ kvs:List (Key × V),ps=kvs.map (λkv=>(kV kv.1,kv.2))/\kvs.length<=15/\Q (.ref p) (upd H2 p (.dK (iq [] kvs)))
theorem tT {X:Cx} {pos:Pos} {keys:List (Option Expr)} {values:List Expr} {trs:List (TE × TE)} (h:yX X pos keys values trs) (hall:keys.all (·.isSome)=true) (hl:keys.length=values.length) (h0:keys≠[])
  (h15:keys.length<=15):PE X (.Dict keys values pos) (vn trs):=by
 intro pins s σ H Q I q
 have hn:=I.hok.fresh (Nat.le_refl s.heap.objs.size)
 have I1:=I.laid (a:=s.heap.objs.size) (o:=.dK []) (h':=s.heap.push { cls:=.type "dict",data:=.dict #[] }) (t':=s.toks) (λ_ _ q=>Heap.get?_push_of_some _ q) (Nat.le_refl _) (pH s.heap I.big)
 refine wpAny_Dict_walk (knd:=bc X.prog X.w) hall hl h0 h15 (aR (h pins _ σ _ _ I1 (q _ hn)) λws s2 ⟨ps,H2,I2,rel,e,kvs,ep,lk,q2⟩=>?_)
 subst ep
 obtain⟨rs,c,rk⟩:=hX (P:=X.prog) (w:=X.w) rel
 obtain⟨z,hd,vs0,r0,dd⟩:=uU I2.hok e
 cases r0
 refine⟨rs,c,dd,λh' dd' hs=>⟨.ref s.heap.objs.size,_,?_,rfl,q2⟩⟩
 have hz:(iq [] kvs).length<=sizeLine:=by
  have h1:=eC kvs []
  rw [List.length_nil] at h1
  rw [sizeLine_eq];omega
 have he:∃ q,h'.get? s.heap.objs.size=some q:=let ⟨q,_,_,hq,_⟩:=dd';⟨q,hq⟩
 exact jE I2 (by rw [e];exact True.intro) hs he (pI hz hd (rk.merge .nil) dd')
structure M1 (X:Cx) (o:Expr) (m:Str) (apos:Pos) (e:Expr) (cpos:Pos):Prop where
 base:attributeBase o m X.env (eval o X.env)=eval o X.env
 few:((backTo cpos (starEach [e] X.env)).all (λx=>!x.1) && (backToKw cpos (keywordEach [] X.env)).all (λx=>x.1.isSome)
  && decide (([e]:List Expr).length+([]:List Keyword).length+(if ([]:List Keyword).isEmpty then 0 else 1)<30))=true
 line:(apos.endLine==cpos.line)=true
 trees:backTo cpos (starEach [e] X.env)=[(false,eval e X.env)]
structure M2 (X:Cx) (o:Expr) (m:Str) (apos:Pos) (e f:Expr) (cpos:Pos):Prop where
 base:attributeBase o m X.env (eval o X.env)=eval o X.env
 few:((backTo cpos (starEach [e,f] X.env)).all (λx=>!x.1) && (backToKw cpos (keywordEach [] X.env)).all (λx=>x.1.isSome)
  && decide (([e,f]:List Expr).length+([]:List Keyword).length+(if ([]:List Keyword).isEmpty then 0 else 1)<30))=true
 line:(apos.endLine==cpos.line)=true
 trees:backTo cpos (starEach [e,f] X.env)=[(false,eval e X.env),(false,eval f X.env)]
def Ao (H:Hp) (a:Addr):Prop:=(∃ kvs,Rd H a (.dK kvs))∨∃ kvs,Rd H a (.dT kvs)
section
variable {X:Cx} {pins:List (Addr × Obj)} {σ:St} {H:Hp} {s:Shared} {a:Addr} {y d:V} {u r:Value} {o:Option V} {A:Around} {E:Value->Shared->Prop}
end
section
variable {X:Cx} {o e f:Expr} {apos cpos:Pos} {td ty tx:TE}
end
section
variable {X:Cx} {pins:List (Addr × Obj)} {σ:St} {H:Hp} {s:Shared} {a:Addr} {kvs:List (Key × V)} {A:Around} {E:Value->Shared->Prop}
end
section
variable {X:Cx} {pins:List (Addr × Obj)} {σ:St} {H:Hp} {s:Shared} {a:Addr} {y:V} {u:Value} {A:Around} {E:Value->Shared->Prop}
end
def xE (l:Int) (b:Bool):HO:=.dK [(Sum.inr "left",.int l),(Sum.inr "free",.bl b)]
def yu (l:Int) (b:Bool):Prop:=b=true∨(0<=l/\l<2147483647)
def Up (p:Addr) (b:Bool) (H H':Hp):Prop:=∃ l,yu l b/\H'=upd H p (xE l b)
theorem oY {H:Hp} {p:Addr} {o o':HO}:upd (upd H p o) p o'=upd H p o':=by
 funext c
 by_cases e:c=p
 ·subst e;rw [aj,aj]
 ·rw [ao e,ao e,ao e]
theorem Up.trans {p:Addr} {b:Bool} {H H1 H2:Hp} (h:Up p b H H1) (h':Up p b H1 H2):Up p b H H2:=by
 obtain⟨l,_,rfl⟩:=h
 obtain⟨l',k',rfl⟩:=h'
 exact⟨l',k',oY⟩
theorem Up.at {p:Addr} {b:Bool} {H H1:Hp} (h:Up p b H H1):∃ l,yu l b/\H1 p=some (xE l b):=by
 obtain⟨l,k,rfl⟩:=h
 exact⟨l,k,aj⟩
theorem Up.ne {p q:Addr} {b:Bool} {H H1:Hp} (h:Up p b H H1) (n:q≠p):H1 q=H q:=by
 obtain⟨l,k,rfl⟩:=h
 exact ao n
def Us (p:Addr) (b:Bool) (H H':Hp):Prop:=(∃ l,yu l b/\H' p=some (xE l b))/\∀ q o,q≠p->H q=some o->H' q=some o
theorem Up.us {p:Addr} {b:Bool} {H H':Hp} (h:Up p b H H'):Us p b H H':=⟨h.at,λq o n e=>by rw [h.ne n];exact e⟩
theorem Us.trans {p:Addr} {b:Bool} {H H1 H2:Hp} (h:Us p b H H1) (h':Us p b H1 H2):Us p b H H2:=⟨h'.1,λq o n e=>h'.2 q o n (h.2 q o n e)⟩
theorem Us.refl {p:Addr} {b:Bool} {H:Hp} {l:Int} (h:H p=some (xE l b)) (k:yu l b):Us p b H H:=⟨⟨l,k,h⟩,λ_ _ _ e=>e⟩
theorem Us.free {p q:Addr} {b:Bool} {H H1:Hp} (h:Us p b H H1) (f:H1 q=none):H q=none:=by
 cases e:H q with
 | none=>rfl
 | some o =>
  by_cases n:q=p
  ·subst n
   obtain⟨l,_,z⟩:=h.1
   rw [z] at f;cases f
  ·rw [h.2 q o n e] at f;cases f
theorem Us.set {p q:Addr} {b:Bool} {H H1:Hp} {o:HO} (h:Us p b H H1) (f:H q=none) (n:q≠p):Us p b H (upd H1 q o):=by
 obtain⟨⟨l,k,e⟩,s⟩:=h
 exact⟨⟨l,k,by rw [ao (Ne.symm n)];exact e⟩,λr u n er=>by rw [ao (λz=>by rw [z,f] at er;cases er)];exact s r u n er⟩
section
variable {K:PySem.W.Frag} {H H':Hp}
theorem br.eB {a:Addr} {xs:List V} (k:∀ a xs,Rd H a (.tup xs)->Rd H' a (.tup xs)) (h:br K H a xs):br K H' a xs:=h.imp (λz=>k _ _ z) id
mutual
theorem dv.eB (k:∀ a xs,Rd H a (.tup xs)->Rd H' a (.tup xs)):∀(d:PyData) {v:V},lO d=true->dv K H d v->dv K H' d v
 | .none,_,_,h=>h
 | .bool _,_,_,h=>h
 | .int _,_,_,h=>h
 | .str _,_,_,h=>h
 | .list ds,_,z,_=>by cases z
 | .tuple ds,_,z,⟨q,xs,e,h,t⟩=>⟨q,xs,e,h.eB k,aZ.eB k ds z t⟩
 | .dict _,_,_,h=>h.elim
theorem aZ.eB (k:∀ a xs,Rd H a (.tup xs)->Rd H' a (.tup xs)):∀(ds:List PyData) {xs:List V},cR ds=true->aZ K H ds xs->aZ K H' ds xs
 | [],_,_,h=>h
 | d::ds,_,z,⟨x,r,e,h,t⟩=>by
  have z':lO d=true/\cR ds=true:=by simpa [cR] using z
  exact⟨x,r,e,dv.eB k d z'.1 h,aZ.eB k ds z'.2 t⟩
end
theorem aZ.set:∀{ds:List PyData} {us:List V} (i:Nat) {d:PyData} {v:V},aZ K H ds us->dv K H d v->aZ K H (ds.set i d) (us.set i v)
 | [],_,_,_,_,h,_=>by cases h;exact rfl
 | e::ds,_,0,_,_,⟨x,r,ex,h,t⟩,hv=>by subst ex;exact⟨_,_,rfl,hv,t⟩
 | e::ds,_,i+1,_,_,⟨x,r,ex,h,t⟩,hv=>by subst ex;exact⟨_,_,rfl,h,aZ.set i t hv⟩
theorem Us.eB {p:Addr} {b:Bool} {l:Int} (h:Us p b H H') (hp:H p=some (xE l b)):∀ a xs,Rd H a (.tup xs)->Rd H' a (.tup xs):=by
 intro a xs z
 rcases z with z | ⟨o,z⟩
 ·exact .inl (h.2 _ _ (λe=>by rw [e,hp] at z;cases z) z)
 ·exact .inr ⟨o,h.2 _ _ (λe=>by rw [e,hp] at z;cases z) z⟩
end
theorem Us.ref {p:Addr} {b:Bool} {H H1:Hp} (h:Us p b H H1):∃ l,yu l b/\H1 p=some (xE l b):=h.1
theorem jZ (it t:Addr) (i:Nat) (items:Array Value) (x:Value) (hx:items[i]?=some x):Meets (Builtin.«tuple_iterator.__next__» ⟨[.ref it],[]⟩)
  (λ_ R s=>s.heap.IsTupleIter it t i/\s.heap.IsTuple t items/\∀ h',h'.IsTupleIter it t (i+1)->Heap.SameBut it s.heap h'->R (.ok (.ret x)) { s with heap:=h' }) :=
 .of_wp λprog w A R s h=>by
  obtain⟨⟨o,e,c,d⟩,⟨o2,e2,c2,n2,d2⟩,q⟩:=h
  have hx':items[(i:Int).toNat]?=some x:=by simpa using hx
  wp_walk using wpAny_field (i:=0) (x:=Value.ref t) e d rfl,wpAny_field (i:=1) (x:=Value.int i 0) e d rfl,wpAny_seqItems e2 d2
  rw [hx']
  refine wpAny_bind (wpAny_setField e d (show 1<2 by decide) ?_)
  obtain⟨oc,od,odt,os⟩:=o
  cases c
  cases d
  wp_walk
  refine⟨x,rfl,q _ ⟨_,Heap.get?_update_self _ e rfl,rfl,?_⟩ (Heap.SameBut.update ..)⟩
  show Data.fields _=_
  simp [rawInt]
theorem kS (it t:Addr) (i:Nat) (items:Array Value) (hx:items[i]?=none):Meets (Builtin.«tuple_iterator.__next__» ⟨[.ref it],[]⟩)
  (λA R s=>A.handled=none/\s.heap.IsTupleIter it t i/\s.heap.IsTuple t items/\∀ h' e,Heap.ExtBut it s.heap h'->(∃ o,h'.get? e=some o/\o.cls=.type "StopIteration")->R (.error (.ref e)) { s with heap:=h' }) :=
 .of_wp λprog w A R s h=>by
  obtain⟨hn,⟨o,e,c,d⟩,⟨o2,e2,c2,n2,d2⟩,q⟩:=h
  have hx':items[(i:Int).toNat]?=none:=by simpa using hx
  wp_walk using wpAny_field (i:=0) (x:=Value.ref t) e d rfl,wpAny_field (i:=1) (x:=Value.int i 0) e d rfl,wpAny_seqItems e2 d2
  rw [hx']
  wp_walk using wpAny_setField e d (show 0<2 by decide)
  refine wpAny_raiseNew_none hn (q _ _ (λb o hb e=>Heap.get?_push_of_some _ (Heap.get?_push_of_some _ ((Heap.get?_update_other _ _ (Ne.symm hb)).trans e))) ⟨_,Heap.get?_push_size _ rfl,rfl⟩)
section
variable {prog:Program} {w:World} {A:Around} {E:Value->Shared->Prop} {s:Shared} {it t:Addr} {i:Nat} {items:Array Value} {Q:Value->Shared->Prop}
theorem gJ {x:Value} (h1:s.heap.IsTupleIter it t i) (h2:s.heap.IsTuple t items) (hx:items[i]?=some x) (q:∀ h',h'.IsTupleIter it t (i+1)->Heap.SameBut it s.heap h'->Q x { s with heap:=h' }) :
  wpAny (model prog w) A (Builtin.SmallTypes.nextOf (.ref it)) Q E s:=by
 have ty:s.TypeIs (.ref it) "tuple_iterator":=by obtain⟨o,e,c,_⟩:=h1;exact⟨o,e,c⟩
 unfold Builtin.SmallTypes.nextOf
 refine wpAny_bind (wpAny_callSpecial?_slot ty slot_tupleiter_next (call_meets slot_tupleiter_next ty entry_tupleiter_next (args_tupleiter_next _) (jZ it t i items x hx) ⟨h1,h2,λh' a b=>?_⟩))
 exact wpAny_pure (q h' a b)
theorem iu (hn:A.handled=none) (h1:s.heap.IsTupleIter it t i) (h2:s.heap.IsTuple t items) (hx:items[i]?=none) (q:∀ h' e,Heap.ExtBut it s.heap h'->(∃ o,h'.get? e=some o/\o.cls=.type "StopIteration")->E (.ref e) { s with heap:=h' }) :
  wpAny (model prog w) A (Builtin.SmallTypes.nextOf (.ref it)) Q E s:=by
 have ty:s.TypeIs (.ref it) "tuple_iterator":=by obtain⟨o,e,c,_⟩:=h1;exact⟨o,e,c⟩
 unfold Builtin.SmallTypes.nextOf
 exact wpAny_bind (wpAny_callSpecial?_slot ty slot_tupleiter_next (call_meets slot_tupleiter_next ty entry_tupleiter_next (args_tupleiter_next _) (kS it t i items hx) ⟨hn,h1,h2,λh' e a b=>q h' e a b⟩))
end
inductive Sd
 | l
 | t
def Sd.It:Sd->Heap->Addr->Addr->Nat->Prop
 | .l=>Heap.IsListIter
 | .t=>Heap.IsTupleIter
def Sd.Sq:Sd->Heap->Addr->Array Value->Prop
 | .l=>Heap.IsList
 | .t=>Heap.IsTuple
def Sd.io (k:Sd) (a:Addr):Obj:=match k with
 | .l=>{ cls:=.type "list_iterator",data:=.fields #[.ref a,.int 0 0] }
 | .t=>{ cls:=.type "tuple_iterator",data:=.fields #[.ref a,.int 0 0] }
theorem Sd.It.at {k:Sd} {h h':Heap} {it a:Addr} {i:Nat} (x:k.It h it a i) (e:∀ o,h.get? it=some o->h'.get? it=some o):k.It h' it a i:=by
 cases k<;>(obtain⟨o,e1,r⟩:=x;exact⟨o,e o e1,r⟩)
theorem Sd.It.there {k:Sd} {h:Heap} {it a:Addr} {i:Nat} (x:k.It h it a i):∃ o,h.get? it=some o/\∀ v,o.data≠.cell v:=by
 cases k<;>(obtain⟨o,e1,_,d⟩:=x;exact⟨o,e1,λv z=>by rw [d] at z;cases z⟩)
theorem Sd.Sq.at {k:Sd} {h h':Heap} {a:Addr} {xs:Array Value} (x:k.Sq h a xs) (e:∀ o,h.get? a=some o->h'.get? a=some o):k.Sq h' a xs:=by
 cases k<;>(obtain⟨o,e1,r⟩:=x;exact⟨o,e o e1,r⟩)
theorem Sd.Sq.lt {k:Sd} {h:Heap} {a:Addr} {xs:Array Value} (x:k.Sq h a xs):a<h.objs.size:=by
 cases k<;>(obtain⟨o,e1,r⟩:=x;exact Heap.lt_size e1)
theorem Sd.start (k:Sd) {h:Heap} {it a:Addr} (e:h.get? it=some (k.io a)):k.It h it a 0:=by
 cases k<;>exact⟨_,e,rfl,rfl⟩
section
variable {prog:Program} {w:World} {A:Around} {E:Value->Shared->Prop} {s:Shared} {it a:Addr} {i:Nat} {xs:Array Value} {Q:Value->Shared->Prop} {k:Sd}
theorem Sd.item {x:Value} (h1:k.It s.heap it a i) (h2:k.Sq s.heap a xs) (hx:xs[i]?=some x) (q:∀ h',k.It h' it a (i+1)->Heap.SameBut it s.heap h'->Q x { s with heap:=h' }) :
  wpAny (model prog w) A (Builtin.SmallTypes.nextOf (.ref it)) Q E s:=by
 cases k
 ·exact wpAny_nextOf_list_item h1 h2 hx q
 ·exact gJ h1 h2 hx q
theorem Sd.fin (hn:A.handled=none) (h1:k.It s.heap it a i) (h2:k.Sq s.heap a xs) (hx:xs[i]?=none) (q:∀ h' e,Heap.ExtBut it s.heap h'->(∃ o,h'.get? e=some o/\o.cls=.type "StopIteration")->E (.ref e) { s with heap:=h' }) :
  wpAny (model prog w) A (Builtin.SmallTypes.nextOf (.ref it)) Q E s:=by
 cases k
 ·exact wpAny_nextOf_list_end hn h1 h2 hx q
 ·exact iu hn h1 h2 hx q
theorem Sd.iter (h2:k.Sq s.heap a xs) (q:Q (.ref s.heap.objs.size) { s with heap:=s.heap.push (k.io a) }):wpAny (model prog w) A (pyIter (.ref a)) Q E s:=by
 cases k
 ·exact wpAny_pyIter_list h2 q
 ·exact wpAny_pyIter_tuple h2 q
end
theorem uN (k1 k2:Sd) (l1 l2:Addr) (xs ys:Array Value):Meets (Builtin.«zip.__new__» ⟨[.type "zip",.ref l1,.ref l2],[]⟩)
  (λ_ R s=>k1.Sq s.heap l1 xs/\k2.Sq s.heap l2 ys/\∀ h',IsZip h' (s.heap.objs.size+4) (s.heap.objs.size+2) (s.heap.objs.size+3) .none->IsPair h' (s.heap.objs.size+2) (.ref s.heap.objs.size) (.ref (s.heap.objs.size+1)) ->
   IsPair h' (s.heap.objs.size+3) .none .none->k1.It h' s.heap.objs.size l1 0->k2.It h' (s.heap.objs.size+1) l2 0->(∀ c o,s.heap.get? c=some o->h'.get? c=some o)->R (.ok (.ret (.ref (s.heap.objs.size+4)))) { s with heap:=h' }) :=
 .of_wp λprog w A R s h=>by
  obtain⟨h1,h2,q⟩:=h
  have f1:=sub_zip
  have h2':k2.Sq (s.heap.push (k1.io l1)) l2 ys:=h2.at λo e=>Heap.get?_push_of_some _ e
  wp_walk using Sd.iter h1,Sd.iter (s:={ s with heap:=s.heap.push (k1.io l1) }) h2'
  refine⟨_,rfl,?_⟩
  have e5:((((s.heap.push (k1.io l1)).push (k2.io l2)).push { cls:=.type "tuple",data:=.seq #[.ref s.heap.objs.size,.ref (s.heap.push (k1.io l1)).objs.size] }).push { cls:=.type "tuple",data:=.seq #[.none,.none] }).objs.size=s.heap.objs.size+4:=by simp only [Heap.size_push]
  have e4:(((s.heap.push (k1.io l1)).push (k2.io l2)).push { cls:=.type "tuple",data:=.seq #[.ref s.heap.objs.size,.ref (s.heap.push (k1.io l1)).objs.size] }).objs.size=s.heap.objs.size+3:=by simp only [Heap.size_push]
  have e3:((s.heap.push (k1.io l1)).push (k2.io l2)).objs.size=s.heap.objs.size+2:=by simp only [Heap.size_push]
  have e2:(s.heap.push (k1.io l1)).objs.size=s.heap.objs.size+1:=by simp only [Heap.size_push]
  show R (.ok (.ret (.ref ((((s.heap.push (k1.io l1)).push (k2.io l2)).push { cls:=.type "tuple",data:=.seq #[.ref s.heap.objs.size,.ref (s.heap.push (k1.io l1)).objs.size] }).push { cls:=.type "tuple",data:=.seq #[.none,.none] }).objs.size))) { s with heap:=((((s.heap.push (k1.io l1)).push (k2.io l2)).push { cls:=.type "tuple",data:=.seq #[.ref s.heap.objs.size,.ref (s.heap.push (k1.io l1)).objs.size] }).push { cls:=.type "tuple",data:=.seq #[.none,.none] }).push { cls:=.type "zip",data:=.fields #[.none,.bool false,.bool false,.ref ((s.heap.push (k1.io l1)).push (k2.io l2)).objs.size,.ref (((s.heap.push (k1.io l1)).push (k2.io l2)).push { cls:=.type "tuple",data:=.seq #[.ref s.heap.objs.size,.ref (s.heap.push (k1.io l1)).objs.size] }).objs.size] } }
  have g0:(s.heap.push (k1.io l1)).get? s.heap.objs.size=some (k1.io l1):=Heap.get?_push_size _ (by cases k1<;>rfl)
  have g1:((s.heap.push (k1.io l1)).push (k2.io l2)).get? (s.heap.objs.size+1)=some (k2.io l2):=by rw [<- e2];exact Heap.get?_push_size _ (by cases k2<;>rfl)
  rw [e5,e4,e3,e2]
  refine q _ ?_ ?_ ?_ (k1.start (Heap.get?_push_of_some _ (Heap.get?_push_of_some _ (Heap.get?_push_of_some _ (Heap.get?_push_of_some _ g0))))) (k2.start (Heap.get?_push_of_some _ (Heap.get?_push_of_some _ (Heap.get?_push_of_some _ g1)))) λc o e=>Heap.get?_push_of_some _ (Heap.get?_push_of_some _ (Heap.get?_push_of_some _ (Heap.get?_push_of_some _ (Heap.get?_push_of_some _ e))))
  ·exact (show _=_ from by
    have:=Heap.get?_push_size (((((s.heap.push (k1.io l1)).push (k2.io l2)).push { cls:=.type "tuple",data:=.seq #[.ref s.heap.objs.size,.ref (s.heap.objs.size+1)] }).push { cls:=.type "tuple",data:=.seq #[.none,.none] })) (o:={ cls:=.type "zip",data:=.fields #[.none,.bool false,.bool false,.ref (s.heap.objs.size+2),.ref (s.heap.objs.size+3)] }) rfl
    simp only [Heap.size_push] at this
    exact this)
  ·refine Heap.get?_push_of_some _ (Heap.get?_push_of_some _ ?_)
   have:=Heap.get?_push_size ((s.heap.push (k1.io l1)).push (k2.io l2)) (o:={ cls:=.type "tuple",data:=.seq #[.ref s.heap.objs.size,.ref (s.heap.objs.size+1)] }) rfl
   simp only [Heap.size_push] at this
   exact this
  ·refine Heap.get?_push_of_some _ ?_
   have:=Heap.get?_push_size (((s.heap.push (k1.io l1)).push (k2.io l2)).push { cls:=.type "tuple",data:=.seq #[.ref s.heap.objs.size,.ref (s.heap.objs.size+1)] }) (o:={ cls:=.type "tuple",data:=.seq #[.none,.none] }) rfl
   simp only [Heap.size_push] at this
   exact this
theorem rX (k1 k2:Sd) (z TI TO i1 i2 l1 l2:Addr) (ap:ZipApart z TI TO i1 i2 l1 l2) (n1 n2:Nat) (xs ys:Array Value) (x y a b:Value) (hx:xs[n1]?=some x) (hy:ys[n2]?=some y):Meets (Builtin.«zip.__next__» ⟨[.ref z],[]⟩)
  (λ_ R s=>IsZip s.heap z TI TO .none/\IsPair s.heap TI (.ref i1) (.ref i2)/\IsPair s.heap TO a b/\k1.It s.heap i1 l1 n1/\k2.It s.heap i2 l2 n2/\k1.Sq s.heap l1 xs/\k2.Sq s.heap l2 ys /\
   ∀ h',IsZip h' z TI TO (rawInt s.heap.objs.size)->IsPair h' TO x y->k1.It h' i1 l1 (n1+1)->k2.It h' i2 l2 (n2+1)->IsPair h' s.heap.objs.size x y ->
    (∀ c o,c≠z->c≠TO->c≠i1->c≠i2->s.heap.get? c=some o->h'.get? c=some o)->R (.ok (.ret (.ref s.heap.objs.size))) { s with heap:=h' }) :=
 .of_wp λprog w A R s h=>by
  obtain⟨hz,hTI,hTO,j1,j2,q1,q2,q⟩:=h
  wp_walk using wpAny_field (i:=2) (x:=Value.bool false) hz rfl rfl,wpAny_field (i:=3) (x:=Value.ref TI) hz rfl rfl,wpAny_field (i:=0) (x:=Value.none) hz rfl rfl,wpAny_field (i:=4) (x:=Value.ref TO) hz rfl rfl,wpAny_seqItems hTI rfl,wpAny_setField_rec hz (show 0<5 by decide)
  intro ha za sa
  have ka:∀ c o,c≠z->s.heap.get? c=some o->ha.get? c=some o:=λc o hc e=>(sa.2 c hc).trans e
  have j1a:=j1.at (h':=ha) λo e=>ka i1 o ap.i1z e
  have q1a:=q1.at (h':=ha) λo e=>ka l1 o ap.l1z e
  wp_walk using wpAny_onRaise,Sd.item (s:={ s with heap:=ha }) j1a q1a hx
  intro hb jb sb
  have kb:∀ c o,c≠z->c≠i1->s.heap.get? c=some o->hb.get? c=some o:=λc o h1 h2 e=>(sb.2 c h2).trans (ka c o h1 e)
  have TOb:IsPair hb TO a b:=kb TO _ ap.TOz ap.TOi1 hTO
  wp_walk using wpAny_seqItems TOb rfl,wpAny_updateSeq_pair (s:={ s with heap:=hb }) TOb
  intro hc TOc' sc
  have TOc:IsPair hc TO x b:=TOc'
  have kc:∀ c o,c≠z->c≠i1->c≠TO->s.heap.get? c=some o->hc.get? c=some o:=λc o h1 h2 h3 e=>(sc.2 c h3).trans (kb c o h1 h2 e)
  have zc:hc.get? z=some { cls:=.type "zip",data:=.fields #[.ellipsis,.bool false,.bool false,.ref TI,.ref TO] }:=(sc.2 z (Ne.symm ap.TOz)).trans ((sb.2 z (Ne.symm ap.i1z)).trans za)
  have j1c:=jb.at (h':=hc) λo e=>(sc.2 i1 (Ne.symm ap.TOi1)).trans e
  have j2c:=j2.at (h':=hc) λo e=>kc i2 o ap.i2z (Ne.symm ap.i12) (Ne.symm ap.TOi2) e
  have q2c:=q2.at (h':=hc) λo e=>kc l2 o ap.l2z ap.l2i1 ap.l2TO e
  wp_walk using wpAny_letGo,wpAny_onRaise,Sd.item (s:={ s with heap:=hc }) j2c q2c hy
  intro hd jd sd
  have TOd:IsPair hd TO x b:=(sd.2 TO ap.TOi2).trans TOc
  have zd:=(sd.2 z (Ne.symm ap.i2z)).trans zc
  wp_walk using wpAny_seqItems TOd rfl,wpAny_updateSeq_pair (s:={ s with heap:=hd }) TOd
  intro he TOe' se
  have TOe:IsPair he TO x y:=TOe'
  have ze:=(se.2 z (Ne.symm ap.TOz)).trans zd
  wp_walk using wpAny_letGo,wpAny_seqItems TOe rfl
  have sz:he.objs.size=s.heap.objs.size:=se.1.trans (sd.1.trans (sc.1.trans (sb.1.trans sa.1)))
  have zn:z≠he.objs.size:=Nat.ne_of_lt (Heap.lt_size ze)
  have zf:(he.push { cls:=.type "tuple",data:=.seq #[x,y] }).get? z=some { cls:=.type "zip",data:=.fields #[.ellipsis,.bool false,.bool false,.ref TI,.ref TO] }:=Heap.get?_push_of_some _ ze
  have ke:∀ c o,c≠z->he.get? c=some o->(((he.push { cls:=.type "tuple",data:=.seq #[x,y] }).update z (Obj.mapFields λx=>x.setIfInBounds 0 (rawInt ↑he.objs.size))).update z (Obj.mapFields λx=>x.setIfInBounds 1 (Value.bool false))).get? c=some o:=λc o hc e=>(Heap.get?_update_other _ _ (Ne.symm hc)).trans ((Heap.get?_update_other _ _ (Ne.symm hc)).trans (Heap.get?_push_of_some _ e))
  have g1:=Heap.get?_update_self (Obj.mapFields λx=>x.setIfInBounds 0 (rawInt ↑he.objs.size)) zf rfl
  have g2:=Heap.get?_update_self (Obj.mapFields λx=>x.setIfInBounds 1 (Value.bool false)) g1 rfl
  have gn:(((he.push { cls:=.type "tuple",data:=.seq #[x,y] }).update z (Obj.mapFields λx=>x.setIfInBounds 0 (rawInt ↑he.objs.size))).update z (Obj.mapFields λx=>x.setIfInBounds 1 (Value.bool false))).get? he.objs.size=some { cls:=.type "tuple",data:=.seq #[x,y] }:=(Heap.get?_update_other _ _ zn).trans ((Heap.get?_update_other _ _ zn).trans (Heap.get?_push_size _ rfl))
  refine⟨_,rfl,?_⟩
  show R (.ok (.ret (.ref he.objs.size))) { s with heap:=(((he.push { cls:=.type "tuple",data:=.seq #[x,y] }).update z (Obj.mapFields λx=>x.setIfInBounds 0 (rawInt ↑he.objs.size))).update z (Obj.mapFields λx=>x.setIfInBounds 1 (Value.bool false))) }
  generalize (((he.push { cls:=.type "tuple",data:=.seq #[x,y] }).update z (Obj.mapFields λx=>x.setIfInBounds 0 (rawInt ↑he.objs.size))).update z (Obj.mapFields λx=>x.setIfInBounds 1 (Value.bool false)))=hf at *
  rw [sz]
  refine q hf (by rw [<- sz];exact g2) (ke TO _ ap.TOz TOe) (j1c.at λo e=>ke i1 o ap.i1z ((se.2 i1 (Ne.symm ap.TOi1)).trans ((sd.2 i1 ap.i12).trans e))) (jd.at λo e=>ke i2 o ap.i2z ((se.2 i2 (Ne.symm ap.TOi2)).trans e)) (by rw [<- sz];exact gn) λc o h1 h2 h3 h4 e=>ke c o h1 ((se.2 c h2).trans ((sd.2 c h4).trans (kc c o h1 h3 h2 e)))
theorem rW (k1:Sd) (z TI TO i1 i2 l1:Addr) (i1z:i1≠z) (l1z:l1≠z) (n1:Nat) (xs:Array Value) (a b:Value) (hx:xs[n1]?=none):Meets (Builtin.«zip.__next__» ⟨[.ref z],[]⟩)
  (λA R s=>A.handled=none/\IsZip s.heap z TI TO .none/\IsPair s.heap TI (.ref i1) (.ref i2)/\IsPair s.heap TO a b/\k1.It s.heap i1 l1 n1/\k1.Sq s.heap l1 xs /\
   ∀ h' e,(∀ c o,c≠z->c≠i1->s.heap.get? c=some o->h'.get? c=some o)->(∃ o,h'.get? e=some o/\o.cls=.type "StopIteration")->R (.error (.ref e)) { s with heap:=h' }) :=
 .of_wp λprog w A R s h=>by
  obtain⟨hn,hz,hTI,hTO,j1,q1,q⟩:=h
  wp_walk using wpAny_field (i:=2) (x:=Value.bool false) hz rfl rfl,wpAny_field (i:=3) (x:=Value.ref TI) hz rfl rfl,wpAny_field (i:=0) (x:=Value.none) hz rfl rfl,wpAny_field (i:=4) (x:=Value.ref TO) hz rfl rfl,wpAny_seqItems hTI rfl,wpAny_setField_rec hz (show 0<5 by decide)
  intro ha za sa
  have ka:∀ c o,c≠z->s.heap.get? c=some o->ha.get? c=some o:=λc o hc e=>(sa.2 c hc).trans e
  have j1a:=j1.at (h':=ha) λo e=>ka i1 o i1z e
  have q1a:=q1.at (h':=ha) λo e=>ka l1 o l1z e
  wp_walk using wpAny_onRaise,Sd.fin (A:=A.in1) (s:={ s with heap:=ha }) hn j1a q1a hx
  intro hb e kb oe
  have zb:=kb z _ (Ne.symm i1z) za
  refine wpAny_setField_rec (s:={ s with heap:=hb }) zb (show 0<5 by decide) λhc zc sc=>?_
  obtain⟨o,eo,co⟩:=oe
  have ez:e≠z:=λx=>by
   subst x
   rw [zb] at eo
   cases eo
   injection co with x
   exact absurd x (by decide)
  exact q hc e (λc o h1 h2 x=>(sc.2 c h1).trans (kb c o h2 (ka c o h1 x))) ⟨o,(sc.2 e ez).trans eo,co⟩
section
variable {prog:Program} {w:World} {A:Around} {E:Value->Shared->Prop} {s:Shared}
theorem jr {it:Addr} {T id:String} {Q:Option Value->Shared->Prop} (ty:s.TypeIs (.ref it) T) (sl:Slot T "__next__" id)
  (h:wpAny (model prog w) A (call (.builtin id) [.ref it]) (λv s'=>Q (some v) s') (λe s'=>(∃ x o,e=.ref x/\s'.heap.get? x=some o/\o.cls=.type "StopIteration")/\Q none s') s):wpAny (model prog w) A (pyNext (.ref it)) Q E s:=by
 unfold pyNext
 refine wpAny_bind (wpAny_attempt (wpAny_callSpecial?_slot ty sl (wpAny_mono h (λv s' q=>wpAny_pure q) λe s' q=>?_)))
 obtain⟨⟨x,o,rfl,eo,co⟩,q⟩:=q
 refine wpAny_bind (wpAny_isInstance (T := "StopIteration") (b:=true) ⟨o,eo,co⟩ ?_ ?_)
 ·with_unfolding_all rfl
 ·rw [if_pos rfl]
  exact wpAny_pure q
theorem px {k1 k2:Sd} {l1 l2:Addr} {xs ys:Array Value} {Q:Value->Shared->Prop} (h1:k1.Sq s.heap l1 xs) (h2:k2.Sq s.heap l2 ys)
  (q:∀ h',IsZip h' (s.heap.objs.size+4) (s.heap.objs.size+2) (s.heap.objs.size+3) .none->IsPair h' (s.heap.objs.size+2) (.ref s.heap.objs.size) (.ref (s.heap.objs.size+1)) ->
   IsPair h' (s.heap.objs.size+3) .none .none->k1.It h' s.heap.objs.size l1 0->k2.It h' (s.heap.objs.size+1) l2 0->(∀ c o,s.heap.get? c=some o->h'.get? c=some o)->Q (.ref (s.heap.objs.size+4)) { s with heap:=h' }) :
  wpAny (model prog w) A (call (.type "zip") [.ref l1,.ref l2]) Q E s :=
 callType_new F.called_zip (by decide) (F.typeCall_zip_2 _ _) (F.newCall_zip_2 _ _) (λobj=>F.args_object_init_3 _ _ _) F.entry_zip_new (uN k1 k2 l1 l2 xs ys) ⟨h1,h2,λh' z a b c d e=>⟨⟨_,z,rfl⟩,q h' z a b c d e⟩⟩
theorem iS {k1 k2:Sd} {z TI TO i1 i2 l1 l2:Addr} {n1 n2:Nat} {xs ys:Array Value} {x y a b:Value} {Q:Option Value->Shared->Prop} (ap:ZipApart z TI TO i1 i2 l1 l2) (hz:IsZip s.heap z TI TO .none) (hTI:IsPair s.heap TI (.ref i1) (.ref i2)) (hTO:IsPair s.heap TO a b)
  (j1:k1.It s.heap i1 l1 n1) (j2:k2.It s.heap i2 l2 n2) (q1:k1.Sq s.heap l1 xs) (q2:k2.Sq s.heap l2 ys) (hx:xs[n1]?=some x) (hy:ys[n2]?=some y)
  (q:∀ h',IsZip h' z TI TO (rawInt s.heap.objs.size)->IsPair h' TO x y->k1.It h' i1 l1 (n1+1)->k2.It h' i2 l2 (n2+1)->IsPair h' s.heap.objs.size x y ->
    (∀ c o,c≠z->c≠TO->c≠i1->c≠i2->s.heap.get? c=some o->h'.get? c=some o)->Q (some (.ref s.heap.objs.size)) { s with heap:=h' }):wpAny (model prog w) A (pyNext (.ref z)) Q E s :=
 jr ⟨_,hz,rfl⟩ F.slot_zip_next (call_meets F.slot_zip_next ⟨_,hz,rfl⟩ F.entry_zip_next (F.args_zip_next_1 _) (rX k1 k2 z TI TO i1 i2 l1 l2 ap n1 n2 xs ys x y a b hx hy) ⟨hz,hTI,hTO,j1,j2,q1,q2,λh' a b c d e f=>q h' a b c d e f⟩)
theorem jK {k1:Sd} {z TI TO i1 i2 l1:Addr} {n1:Nat} {xs:Array Value} {a b:Value} {Q:Option Value->Shared->Prop} (hn:A.handled=none) (i1z:i1≠z) (l1z:l1≠z) (hz:IsZip s.heap z TI TO .none) (hTI:IsPair s.heap TI (.ref i1) (.ref i2)) (hTO:IsPair s.heap TO a b)
  (j1:k1.It s.heap i1 l1 n1) (q1:k1.Sq s.heap l1 xs) (hx:xs[n1]?=none)
  (q:∀ h',(∀ c o,c≠z->c≠i1->s.heap.get? c=some o->h'.get? c=some o)->Q none { s with heap:=h' }):wpAny (model prog w) A (pyNext (.ref z)) Q E s :=
 jr ⟨_,hz,rfl⟩ F.slot_zip_next (call_meets F.slot_zip_next ⟨_,hz,rfl⟩ F.entry_zip_next (F.args_zip_next_1 _) (rW k1 z TI TO i1 i2 l1 i1z l1z n1 xs a b hx) ⟨hn,hz,hTI,hTO,j1,q1,λh' e k ⟨o,eo,co⟩=>⟨⟨e,o,rfl,eo,co⟩,q h' k⟩⟩)
end
def hV (k:Sd) (K:PySem.W.Frag) (H:Hp) (a:Addr) (xs:List V):Prop:=match k with
 | .l=>aP K H a xs
 | .t=>br K H a xs
theorem Inv.yH {X:Cx} {pins:List (Addr × Obj)} {σ:St} {H:Hp} {s:Shared} {k:Sd} {a:Addr} {xs:List V} (I:Inv X pins σ H s) (h:hV k X.K H a xs):∃ its:List Value,Vals xs its/\k.Sq s.heap a its.toArray:=by
 cases k
 ·obtain⟨its,r,p,_⟩:=I.list h
  exact⟨its,r,p.isList⟩
 ·obtain⟨its,r,p,_⟩:=I.tuple h
  exact⟨its,r,p⟩
theorem Inv.nr {X:Cx} {pins:List (Addr × Obj)} {σ:St} {H:Hp} {s:Shared} {k:Sd} {a:Addr} {xs ys:List V} (I:Inv X pins σ H s) (h:hV k X.K H a xs) (h':hV k X.K H a ys):xs=ys:=by
 cases k
 ·exact I.ky h h'
 ·exact I.jv h h'
def xI (k1 k2:Sd) (K:PySem.W.Frag) (a b:Addr):It :=
 ⟨λi H=>∃ xs ys x y,hV k1 K H a xs/\hV k2 K H b ys/\xs[i]?=some x/\ys[i]?=some y,λi H x H'=>∃ p u v,H p=none/\x=.ref p/\(∀ xs,hV k1 K H a xs->xs[i]?=some u)/\(∀ ys,hV k2 K H b ys->ys[i]?=some v)/\H'=upd H p (.tup [u,v]),
  λi H=>∃ xs,hV k1 K H a xs/\xs.length<=i⟩
theorem rS {P:Program} {w:World} {K:PySem.W.Frag} {elts:List Expr} {x1} {pos:Pos} {k1 k2:Sd} {a b z TI TO i1 i2:Addr} (ap:ZipApart z TI TO i1 i2 a b):Turn P w K (.Tuple elts x1 pos) (xI k1 k2 K a b) [z,TI,TO,i1,i2] z (λi h=>IsZip h z TI TO .none/\IsPair h TI (.ref i1) (.ref i2)/\(∃ u v,IsPair h TO u v)/\k1.It h i1 a i/\k2.It h i2 b i) where
 mem:=by simp
 obj:=λi h st c hc=>by
  obtain⟨h1,h2,⟨u,v,h3⟩,h4,h5⟩:=st
  simp only [List.mem_cons,List.not_mem_nil,or_false] at hc
  rcases hc with rfl | rfl | rfl | rfl | rfl
  ·exact⟨_,h1,λv z=>by cases z⟩
  ·exact⟨_,h2,λv z=>by cases z⟩
  ·exact⟨_,h3,λv z=>by cases z⟩
  ·exact h4.there
  ·exact h5.there
 keep:=λi h h' st k=>by
  obtain⟨h1,h2,⟨u,v,h3⟩,h4,h5⟩:=st
  exact⟨k z (by simp) _ h1,k TI (by simp) _ h2,⟨u,v,k TO (by simp) _ h3⟩,h4.at λo x=>k i1 (by simp) o x,h5.at λo x=>k i2 (by simp) o x⟩
 item:=by
  intro X hP hw hK hc i pins s σ H E I hf st hg
  subst hP hw hK
  obtain⟨xs,ys,x,y,hq1,hq2,hx,hy⟩:=hg
  obtain⟨its1,rv1,p1⟩:=I.yH hq1
  obtain⟨its2,rv2,p2⟩:=I.yH hq2
  obtain⟨u,hu,ru⟩:=rv1.get hx
  obtain⟨v,hv,rv⟩:=rv2.get hy
  obtain⟨h1,h2,⟨u0,v0,h3⟩,h4,h5⟩:=st
  refine iS ap h1 h2 h3 h4 h5 p1 p2 (x:=u) (y:=v) (by simpa using hu) (by simpa using hv) λh' z' TO' j1 j2 hT hk=>?_
  refine⟨_,rfl,?_⟩
  have fT:H s.heap.objs.size=none:=I.hok.fresh (Nat.le_refl _)
  refine wpAny_letOwnedTupleGo_zip z' λh'' z2 s2=>?_
  have hke:∀ c o,c∉[z,TI,TO,i1,i2]->s.heap.get? c=some o->h''.get? c=some o:=λc o hc q=>by
   simp only [List.mem_cons,List.not_mem_nil,or_false,not_or] at hc
   exact (s2.2 c hc.1).trans (hk c o hc.1 hc.2.2.1 hc.2.2.2.1 hc.2.2.2.2 q)
  have I1:Inv X pins σ H { s with heap:=h'',toks:=s.toks }:=I.nE hke hf
  have nz:∀ c∈[z,TI,TO,i1,i2],c≠s.heap.objs.size:=λc hc e=>by
   have:∃ o,s.heap.get? c=some o:=by
    simp only [List.mem_cons,List.not_mem_nil,or_false] at hc
    rcases hc with rfl | rfl | rfl | rfl | rfl
    ·exact⟨_,h1⟩
    ·exact⟨_,h2⟩
    ·exact⟨_,h3⟩
    ·obtain⟨o,e,_⟩:=h4.there;exact⟨o,e⟩
    ·obtain⟨o,e,_⟩:=h5.there;exact⟨o,e⟩
   obtain⟨o,eo⟩:=this
   exact Nat.ne_of_lt (Heap.lt_size eo) e
  have hT2:h''.get? s.heap.objs.size=some { cls:=.type "tuple",data:=.seq #[u,v] }:=(s2.2 _ (Ne.symm (nz z (by simp)))).trans hT
  refine⟨.ref s.heap.objs.size,upd H s.heap.objs.size (.tup [x,y]),?_,rfl,⟨_,x,y,fT,rfl,λzs hz=>by rw [I.nr hz hq1];exact hx,λzs hz=>by rw [I.nr hz hq2];exact hy,rfl⟩,
   ⟨z2,(s2.2 TI ap.TIz).trans (hk TI _ ap.TIz ap.TITO ap.TIi1 ap.TIi2 h2),⟨_,_,(s2.2 TO ap.TOz).trans TO'⟩,j1.at λo q=>(s2.2 i1 ap.i1z).trans q,j2.at λo q=>(s2.2 i2 ap.i2z).trans q⟩,λc hc=>?_⟩
  ·exact I1.adopt (T:=s.heap.objs.size) (o:=.tup [x,y]) (I.og (Nat.le_refl _) fT) ⟨by show 2<=sizeLine;decide,[u,v],.cons ru (.cons rv .nil),⟨_,hT2,rfl,_,rfl⟩⟩
  ·rw [ao (nz c hc)]
   exact (hf c hc).1
 done:=by
  intro X hP hw hK hc i pins s σ H E I hf st hg
  subst hP hw hK
  obtain⟨xs,hq,hx⟩:=hg
  obtain⟨its,rv,p⟩:=I.yH hq
  have hl:=rv.length
  obtain⟨h1,h2,⟨u0,v0,h3⟩,h4,h5⟩:=st
  exact jK (I.ok.hd hc) ap.i1z ap.l1z h1 h2 h3 h4 p (by simp;omega) λh' eb=>⟨rfl,I.nE (t':=s.toks) (ch:=[z,i1]) (λc o hc q=>by
   simp only [List.mem_cons,List.not_mem_nil,or_false,not_or] at hc
   exact eb c o hc.1 hc.2 q) (λc hc=>hf c (by
    simp only [List.mem_cons,List.not_mem_nil,or_false] at hc
    rcases hc with rfl | rfl<;>simp))⟩
 self:=λ_ _ _ _ _ st h=>wpAny_pyIter_zip st.1 h
def zr (k1 k2:Sd) (K:PySem.W.Frag) (ta:TA):TI:=λσ H R=>ta σ H λvs H1=>∃ a b,vs=[.ref a,.ref b]/\(∃ xs,hV k1 K H1 a xs)/\(∃ ys,hV k2 K H1 b ys)/\R (xI k1 k2 K a b) H1
theorem nQ:bootBuiltins "zip"=some (.type "zip"):=by decide +kernel
theorem nX {K:PySem.W.Frag} {k1 k2:Sd} {a b:Addr} {xs ys:List V} {js:List (Option Nat)} {g:TG} {tt:TT} {te:TE} {σ:St} {Q:VK} {H1:Hp} (Pv:Nat->List V->Hp->Prop) (h0:Pv 0 [] H1) (hxy:xs.length=ys.length) (hx:xs.length<=sizeLine) (hl:∀ i zs H,i<=xs.length->Pv i zs H->hV k1 K H a xs/\hV k2 K H b ys/\zs.length<=i)
  (hs:∀ i x y zs H p,xs[i]?=some x->ys[i]?=some y->Pv i zs H->H p=none->g (.ref p) (cy js σ) (upd H p (.tup [x,y])) λσ2 H2=>bB (cy js σ) σ2/\tt σ2 H2 λc H3=>if c=true then te σ2 H3 λv H4=>Pv (i+1) (zs++[v]) H4 else Pv (i+1) zs H3)
  (hd:∀ zs H p,Pv xs.length zs H->H p=none->Q (.ref p) (upd H p (.lst zs))):gY (xI k1 k2 K a b) js g tt te σ Q H1:=by
 refine⟨λi m zs H=>m=xs.length-i/\i<=xs.length/\Pv i zs H,⟨xs.length,by simp,Nat.zero_le _,h0⟩,?_⟩
 rintro i m zs H ⟨rfl,hi,p⟩
 obtain⟨q,q',hy⟩:=hl i zs H hi p
 by_cases hlt:i<xs.length
 ·refine .inr ⟨⟨xs,ys,xs[i],ys[i],q,q',by simp [hlt],by simp⟩,by omega,Pv (i+1),λys' H' p'=>⟨xs.length-(i+1),by omega,rfl,hlt,p'⟩,λx H' y=>?_⟩
  obtain⟨pt,u,v,f,e1,e2,e3,e4⟩:=y
  subst e1 e4
  exact hs i u v zs _ pt (e2 xs q) (e3 ys q') p f
 ·have e:i=xs.length:=by omega
  subst e
  exact .inl ⟨⟨xs,q,Nat.le_refl _⟩,by omega,λp' hp'=>hd zs H p' p hp'⟩
end L2
namespace Num
theorem wD {p x y:Int} {m:Nat} (h:Al p x y) (o:Ord p x m):Ord p y m:=⟨o.pos,(h.pow m).symm.trans o.one,λj z=>o.dv j ((h.pow j).trans z)⟩
def eN:List (Int × Int)->Nat
 | []=>1
 | p::r=>p.1.toNat^p.2.toNat*eN r
theorem gb:∀ a b:List (Int × Int),eN (a++b)=eN a*eN b
 | [],b=>by simp [eN]
 | p::r,b=>by
  show p.1.toNat^p.2.toNat*eN (r++b)=p.1.toNat^p.2.toNat*eN r*eN b
  rw [gb r b,Nat.mul_assoc]
theorem mz:∀ a:List (Int × Int),(∀ p∈a,Pm p.1)->(eN a:Int)=dD a
 | [],_=>rfl
 | p::r,h=>by
  have t:=(h p (List.mem_cons_self ..)).two
  show ((p.1.toNat^p.2.toNat*eN r:Nat):Int)=p.1^p.2.toNat*dD r
  rw [Int.natCast_mul,Int.natCast_pow,mz r λx z=>h x (List.mem_cons_of_mem _ z),show (p.1.toNat:Int)=p.1 by omega]
theorem lz:∀ a:List (Int × Int),(∀ p∈a,Pm p.1)->0<eN a
 | [],_=>Nat.one_pos
 | p::r,h=>by
  have t:=(h p (List.mem_cons_self ..)).two
  exact Nat.mul_pos (Nat.pow_pos (by omega)) (lz r λx z=>h x (List.mem_cons_of_mem _ z))
theorem vO {q m:Nat} (h:Nm q) (hm:¬q∣m) (k:Nat):Nat.Coprime (q^k) m:=Nat.Coprime.pow_left k (h.co hm)
theorem xZ {q:Int} (hq:Pm q) {b:List (Int × Int)} (hb:∀ p∈b,Pm p.1) (ne:∀ p∈b,p.1≠q):¬q.toNat∣eN b:=λz=>by
 have t:=hq.two
 have:q∣dD b:=by
  rw [<- mz b hb]
  have:=Int.natCast_dvd_natCast.mpr z
  rwa [show (q.toNat:Int)=q by omega] at this
 obtain⟨p,hp,e⟩:=kD hq hb this
 exact ne p hp e
theorem uV {b:List (Int × Int)} (hb:∀ p∈b,Pm p.1):∀ a:List (Int × Int),(∀ p∈a,Pm p.1)->(∀ x∈a,∀ y∈b,y.1≠x.1)->Nat.Coprime (eN a) (eN b)
 | [],_,_=>Nat.coprime_one_left _
 | p::r,h,ne=>by
  have hp:=h p (List.mem_cons_self ..)
  exact Nat.Coprime.mul_left (vO (vb hp) (xZ hp hb (ne p (List.mem_cons_self ..))) _) (uV hb r (λx z=>h x (List.mem_cons_of_mem _ z)) λx z=>ne x (List.mem_cons_of_mem _ z))
theorem tP {n a:Int} {q t:Nat} (hq:Nm q) (h:Al n (a^q^t) 1) (no:∀ j,j<t->¬Al n (a^q^j) 1):Ord n a (q^t):=by
 have q2:=hq.1
 obtain⟨m,o,_⟩:=qF (N:=q^t) (Nat.pow_pos (by omega)) h
 have d:=o.dv _ h
 cases t with
 | zero =>
  have:m=1:=Nat.eq_one_of_dvd_one (by simpa using d)
  rw [this] at o
  simpa using o
 | succ k =>
  have:m=q^(k+1):=ud hq k m d λz=>no k (Nat.lt_succ_self _) (by
   obtain⟨c,hc⟩:=z
   rw [hc]
   exact bD o.one)
  rw [<- this]
  exact o
theorem cV {a:Int} {x y:Nat}:(a^x)^y=a^(x*y):=by rw [Int.pow_mul]
theorem lT {n a:Int} {M1 M2 E1 E2:Nat} (co:Nat.Coprime M1 M2) (p1:0<M1) (p2:0<M2) (h:Al n (a^(M1*M2)) 1) (o1:Ord n (a^M2) E1) (o2:Ord n (a^M1) E2):Ord n a (E1*E2):=by
 have d1:E1∣M1:=o1.dv M1 (by rw [cV,Nat.mul_comm];exact h)
 have d2:E2∣M2:=o2.dv M2 (by rw [cV];exact h)
 obtain⟨c1,hc1⟩:=d1
 obtain⟨c2,hc2⟩:=d2
 obtain⟨e,o,_⟩:=qF (Nat.mul_pos p1 p2) h
 have x1:e∣M2*E1:=o.dv _ (by rw [<- cV];exact o1.one)
 have x2:e∣M1*E2:=o.dv _ (by rw [<- cV];exact o2.one)
 have cc:Nat.Coprime c2 c1:=by
  have:Nat.Coprime c1 c2:=Nat.Coprime.coprime_dvd_left ⟨E1,by rw [hc1,Nat.mul_comm]⟩ (Nat.Coprime.coprime_dvd_right ⟨E2,by rw [hc2,Nat.mul_comm]⟩ co)
  exact this.symm
 have x3:e∣E1*E2:=by
  have:=Nat.dvd_gcd x1 x2
  rw [show M2*E1=E1*E2*c2 by rw [hc2];rw [Nat.mul_comm (E2*c2) E1,Nat.mul_assoc],show M1*E2=E1*E2*c1 by rw [hc1];rw [Nat.mul_assoc,Nat.mul_comm c1 E2,Nat.mul_assoc],Nat.gcd_mul_left,cc.gcd_eq_one,Nat.mul_one] at this
  exact this
 have ce:Nat.Coprime E1 E2:=Nat.Coprime.coprime_dvd_left ⟨c1,hc1⟩ (Nat.Coprime.coprime_dvd_right ⟨c2,hc2⟩ co)
 refine⟨Nat.mul_pos o1.pos o2.pos,?_,λj hj=>?_⟩
 ·obtain⟨c,hc⟩:=x3
  rw [hc]
  exact bD o.one
 ·refine ce.mul_dvd_of_dvd_of_dvd (o1.dv j ?_) (o2.dv j ?_)
  ·rw [cV,Nat.mul_comm,<- cV]
   have:=hj.pow M2
   rwa [Int.one_pow] at this
  ·rw [cV,Nat.mul_comm,<- cV]
   have:=hj.pow M1
   rwa [Int.one_pow] at this
structure TO (n a:Int) (ps:List (Int × Int)) (ts:List Int):Prop where
 len:ts.length=ps.length
 nn:∀ t∈ts,0<=t
 ord:Ord n a (eN ((ps.map (·.1)).zip ts))
theorem TO.al {n a b:Int} {ps:List (Int × Int)} {ts:List Int} (h:TO n a ps ts) (e:Al n a b):TO n b ps ts:=⟨h.len,h.nn,wD e h.ord⟩
theorem TO.none {n a:Int} (h:Al n a 1):TO n a [] []:=⟨rfl,λ_ z=>by simp at z,⟨Nat.one_pos,by show Al n (a^1) 1;rw [Int.pow_one];exact h,λj _=>Nat.one_dvd j⟩⟩
theorem TO.one {n a q k:Int} {t:Nat} (hq:Pm q) (h:Al n (a^q.toNat^t) 1) (no:∀ j,j<t->¬Al n (a^q.toNat^j) 1):TO n a [(q,k)] [(t:Int)]:=by
 refine⟨rfl,λx z=>?_,?_⟩
 ·rw [List.mem_singleton.mp z];omega
 ·show Ord n a (q.toNat^(t:Int).toNat*1)
  rw [Nat.mul_one,Int.toNat_natCast]
  exact tP (vb hq) h no
theorem TO.two {n a:Int} {as bs:List (Int × Int)} {ts us:List Int} (ha:∀ p∈as,Pm p.1) (hb:∀ p∈bs,Pm p.1) (ne:∀ x∈as,∀ y∈bs,y.1≠x.1) (h:Al n (a^eN (as++bs)) 1) (h1:TO n (a^eN bs) as ts) (h2:TO n (a^eN as) bs us):TO n a (as++bs) (ts++us):=by
 refine⟨by rw [List.length_append,List.length_append,h1.len,h2.len],λt z=>(List.mem_append.mp z).elim (h1.nn t) (h2.nn t),?_⟩
 rw [List.map_append,List.zip_append (by rw [List.length_map,h1.len]),gb]
 rw [gb] at h
 exact lT (uV hb as ha ne) (lz as ha) (lz bs hb) h h1.ord h2.ord
end Num
namespace L2
open PySem PySem.Spec PyProof.Rows
section
variable {prog:Program} {w:World} {A:Around} {E:Value->Shared->Prop} {s:Shared}
end
def y9 (K:PySem.W.Frag) (a:Addr):It :=
 ⟨λi H=>∃ xs x,br K H a xs/\xs[i]?=some x,λi H x H'=>∃ p v,H p=none/\x=.ref p/\(∀ xs,br K H a xs->xs[i]?=some v)/\H'=upd H p (.tup [.int i,v]),λi H=>∃ xs,br K H a xs/\xs.length<=i⟩
def vX (K:PySem.W.Frag) (ta:TA):TI:=λσ H R=>ta σ H λvs H1=>∃ a,vs=[.ref a]/\(∃ xs,br K H1 a xs)/\R (y9 K a) H1
def uY (K:PySem.W.Frag) (ta:TA):TI:=λσ H R=>ta σ H λvs H1=>∃ a b k1 k2,vs=[.ref a,.ref b]/\(∃ xs,hV k1 K H1 a xs)/\(∃ ys,hV k2 K H1 b ys)/\R (xI k1 k2 K a b) H1
theorem uc {X:Cx} {elts:List Expr} {x1} {tpos:Pos} {a b:Expr} {ta:TA} {p pos:Pos} (hg:Gl X "zip") (hm:X.mg "zip"=none) (ha:PA X [a,b] ta) (hs:starEach [a,b] X.env=[(false,eval a X.env),(false,eval b X.env)]:=by rfl) (hs2:starEach [b] X.env=[(false,eval b X.env)]:=by rfl) :
  PI X (.Tuple elts x1 tpos) (.Call (.Name "zip" p) [a,b] [] pos) (uY X.K ta):=by
 intro pins s σ H R I h
 refine Call_ (ik I hg hm nQ (PyProof.Rows.callWith_type1 (aR (ha pos pins s σ H _ I h) λus s1 ⟨vs,H1,I1,r1,q1⟩=>?_) (by rw [hs,hs2]) (by rw [hs2];rfl)))
 obtain⟨a',b',k1,k2,e,⟨xs,hq1⟩,⟨ys,hq2⟩,q⟩:=q1
 subst e
 cases r1 with
 | cons r rr =>
  cases rr with
  | cons r' rr' =>
   cases rr'
   cases r
   cases r'
   obtain⟨its1,rv1,p1⟩:=I1.yH hq1
   obtain⟨its2,rv2,p2⟩:=I1.yH hq2
   refine px p1 p2 λh' hz hTI hTO j1 j2 hk=>?_
   refine wpAny_pyIter_zip hz ?_
   have I2:Inv X pins σ H1 { s1 with heap:=h' }:=I1.kept (t':=s1.toks) hk
   refine⟨_,[s1.heap.objs.size+4,s1.heap.objs.size+2,s1.heap.objs.size+3,s1.heap.objs.size,s1.heap.objs.size+1],_,_,H1,rfl,I2,rS (PyProof.Rows.zipApart_new p1.lt p2.lt),⟨hz,hTI,⟨_,_,hTO⟩,j1,j2⟩,λc hc=>?_,q⟩
   simp only [List.mem_cons,List.not_mem_nil,or_false] at hc
   rcases hc with rfl | rfl | rfl | rfl | rfl<;>exact I1.og (by omega) (I1.hok.fresh (by omega))
end L2
namespace L2
open PySem PySem.Spec PyProof.Rows PySem.W
end L2
namespace L2
open PySem PySem.Spec PyProof.Rows
end L2
namespace L2
open PySem PySem.Spec PyProof.Rows PySem.W
section
variable {prog:Program} {w:World} {A:Around} {E:Value->Shared->Prop} {K:PySem.W.Frag} {h:Heap} {g:Array GenState} {d:Drawn} {t:Nat} {os:OsState} {x C B:Addr}
end
section
variable {X:Cx} {pins:List (Addr × Obj)} {σ:St} {H:Hp} {s:Shared} {x:Addr}
end
section
variable {X:Cx} {B:Addr} {n:Option Nat} {hd:ExceptHandler} {ts:TS}
variable {B2:Addr} {n2:Option Nat} {hd2:ExceptHandler} {ts2:TS}
def yR (K:PySem.W.Frag) (B:Addr) (n:Option Nat) (B2:Addr) (n2:Option Nat) (sp:Sp) (ta:TA) (put:V->St->St) (ts ts2:TS):TS:=λD σ H=>ta σ H λvs H1=>sp vs H1 (λv H2=>D.nx (put v σ) H2)
 (λcv xo H2=>∃ C x dd,cv=.ref C/\xo=some x/\H2 x=some (XO x C dd)/\a0 K C/\((mroIn K C (.ref B)=some true/\ts (gC n D) (kr n x σ) H2)∨(mroIn K C (.ref B)=some false/\mroIn K C (.ref B2)=some true/\ts2 (gC n2 D) (kr n2 x σ) H2)))
variable {k:Nat} {f:Str} {ps:List Str} {sp:Sp} {e:Expr} {es:List Expr} {t:TA} {p cpos epos pos:Pos}
end
namespace HT
section
variable {prog:Program} {w:World} {A:Around} {E:Value->Shared->Prop} {s:Shared}
end
end HT
end L2
namespace L2
open PySem PySem.Spec PyProof.Rows PySem.W
namespace Tsl
open _root_.HT
section
variable {prog:Program} {w:World} {A:Around} {E:Value->Shared->Prop} {s:Shared}
end
end Tsl
section
variable {X:Cx} {e k:Expr} {te:TE} {tk:TO} {p2 pos:Pos}
end
end L2
namespace L2
open PySem PySem.Spec PyProof.Rows
section
variable {prog:Program} {w:World} {K:Type} [DecidableEq K] {knd:HeapKind prog w K} {A:Around} {E:Value->Shared->Prop} {s:Shared}
end
end L2
namespace L2
open PySem PySem.Spec PyProof.Rows PySem.W
section
variable {P:Program} {w:World} {A:Around} {E:Value->Shared->Prop} {s:Shared} {d:Addr} {es:Array DictEntry} {ep:Nat}
end
section
variable {X:Cx} {pins:List (Addr × Obj)} {σ:St} {H:Hp} {s:Shared} {A:Around} {E:Value->Shared->Prop}
def xh (td ty:TE):TE:=λσ H Q=>td σ H λx H1=>∃ a,x=.ref a/\Ao H1 a/\ty σ H1 λy H2=>∃ kvs k b v,H2 a=some (.dT kvs)/\y=.ref b/\H2 b=some (.tup (k.map kV))/\fO kvs k=some v/\Q v (upd H2 a (.dT (xX kvs k)))
end
section
variable {P:Program} {w:World} {K:PySem.W.Frag} {mg:Str->Option Value} {base:Heap} {CX:eP} {k:Nat} {C:Addr} {m qual x:Str} {ps:List Str} {sp:Sp} {st:Stmt}
structure yV (P:Program) (w:World) (K:PySem.W.Frag) (mg:Str->Option Value) (base:Heap) (CX:eP) (k:Nat) (C:Addr) (m:Str) (ps:List Str) (sp:Sp):Prop where
 ex:∃ f fd,Meth K C m f/\cp P w K mg base CX k f fd ps sp/\Binds K fd ps []
variable {X:Cx} {E:XK} {o e:Expr} {es:List Expr} {ta:TE} {t:TA} {p apos pos:Pos}
structure An (K:PySem.W.Frag) (x qual:Str) (st:Stmt) (f:Addr) (fd:FuncData) (ds:Array Value):Prop where
 ex:∃(oc:Value) (od:Option Addr) (T:Addr) (o:Obj) (n:Nat) (kV doc pm:Value) (an:Option Addr) (cdv ct:Value) (osl:Array (Option Value)),
  fd=fnOf x qual (aV st) (aG st) (ai st) (.ref T) kV doc pm an cdv ct/\K.lookup f=some ⟨oc,od,.func fd,osl⟩/\codeIn K cdv qual=true/\K.lookup T=some o/\o.data=.seq ds n
 kp:keepIn K (.ref f)=true
end
end L2
namespace L2
open PySem PySem.Spec PyProof.Rows
def Ag (q:Nat):Nat->Nat->Nat
 | 0,m=>m
 | f+1,m=>if q<=m*m then m else Ag q f (m+1)
def rt (q:Nat):Nat:=Ag q q 0
def zQ (p w:Int) (m:Nat):List (Key × V):=(List.range m).map λi:Nat=>(Sum.inl (w^i%p),V.int (i:Int))
end L2
namespace Num
theorem Ord.co {n a:Int} {m:Nat} (o:Ord n a m):Co a n:=by
 obtain⟨k,hk⟩:∃ k,m=k+1:=⟨m-1,by have:=o.pos;omega⟩
 exact Co.wq (m:=k) (by rw [<- hk];exact o.one)
end Num
namespace L2
open PySem PySem.Spec PyProof.Rows
def o9 (a d:Addr) (H H':Hp):Prop:=∀ b o,b≠a->b≠d->H b=some o->H' b=some o
theorem o9.refl {a d:Addr} {H:Hp}:o9 a d H H:=λ_ _ _ _ e=>e
theorem o9.trans {a d:Addr} {H H1 H2:Hp} (h:o9 a d H H1) (h':o9 a d H1 H2):o9 a d H H2:=λb o x y e=>h' b o x y (h b o x y e)
theorem o9.of {a d:Addr} {H H':Hp} (h:aF H H'):o9 a d H H':=λb o _ _ e=>h b o e
structure KH where
 a:Addr
 dx:Addr
 d:Addr
 most:Int
 c:Int
 ks:List (Int × Int × Int)
def k3 (x:Int × Int × Int):List Key:=[.inl x.1,.inl x.2.1,.inl x.2.2]
def AA (k:KH):List (Str × V):=[("most",.int k.most),("counted",.int k.c),("laid",.ref k.d)]
def KTab (H:Hp) (x:Int × Int × Int) (v:V):Prop:=∃ t,v=.ref t/\H t=some (.dK (zQ x.1 x.2.2 (rt x.2.1.toNat)))
structure zh (H:Hp) (k:KH) (kvs:List (List Key × V)):Prop where
 dict:H k.d=some (.dT kvs)
 keys:kvs.map (·.1)=k.ks.map k3
 nd:k.ks.Nodup
 tab:∀ x v,fO kvs (k3 x)=some v->KTab H x v
structure iL (C:Addr) (k:KH) (H:Hp):Prop where
 ins:H k.a=some (.ins C k.dx (AA k))
 ex:∃ kvs,zh H k kvs
 m0:0<=k.most
 m1:k.most<=10^6
section
variable {C:Addr} {k:KH} {H H':Hp} {kvs:List (List Key × V)}
theorem zh.len (h:zh H k kvs):kvs.length=k.ks.length:=by have:=congrArg List.length h.keys;simpa using this
theorem iL.ne (h:iL C k H):k.a≠k.d:=by
 obtain⟨kvs,z⟩:=h.ex
 exact ji h.ins z.dict (by intro z;cases z)
theorem iL.apart (h:iL C k H) {b:Addr} {o:HO} (e:H b=some o) (h1:∀ C dx fs,o≠.ins C dx fs) (h2:∀ kvs,o≠.dT kvs):b≠k.a/\b≠k.d:=by
 obtain⟨kvs,z⟩:=h.ex
 exact⟨ji e h.ins (h1 _ _ _),ji e z.dict (h2 _)⟩
theorem iL.keep (h:iL C k H) (bt:o9 k.a k.d H H') {b:Addr} {o:HO} (e:H b=some o) (h1:∀ C dx fs,o≠.ins C dx fs:=by intro _ _ _ z;cases z) (h2:∀ kvs,o≠.dT kvs:=by intro _ z;cases z):H' b=some o :=
 let ⟨x,y⟩:=h.apart e h1 h2;bt b o x y e
theorem iL.eB (h:iL C k H) (bt:o9 k.a k.d H H'):∀ a xs,Rd H a (.tup xs)->Rd H' a (.tup xs):=by
 intro a xs z
 rcases z with z | ⟨o,z⟩
 ·exact .inl (h.keep bt z)
 ·exact .inr ⟨o,h.keep bt z⟩
theorem iL.dv {K:PySem.W.Frag} (h:iL C k H) (bt:o9 k.a k.d H H') {d:PyData} {v:V} (nl:lO d=true) (x:dv K H d v):dv K H' d v:=dv.eB (h.eB bt) d nl x
end
def wR:V->List V->Hp->VK->Prop:=λx vs H Q=>∃ l xs y,x=.ref l/\vs=[y]/\H l=some (.lst xs)/\b9 y=true/\xs.all b9=true/\Q (.int (xs.countP λz=>kn z y:Nat)) H
theorem ja {x:V}:∀{xs:List V} {us:List Value},Vals xs us->xs.all b9=true->us.countP (iO x)=xs.countP λy=>kn y x
 | _,_,.nil,_=>rfl
 | y::xs,u::us,.cons r t,f=>by
  rw [List.all_cons,Bool.and_eq_true] at f
  rw [List.countP_cons,List.countP_cons,jF r f.1,ja t f.2]
theorem qi {X:Cx}:yW X "list.count" wR:=by
 intro pins s σ H x vs v us Q I rx rv h
 obtain⟨l,xs,y,rfl,rfl,hH,fy,fx,q⟩:=h
 cases rx
 obtain⟨u,rfl,ru⟩:=rv.one
 obtain⟨z,its,n,r,hl,e⟩:=I.oz hH
 refine call_meets F.slot_list_count ⟨_,e,rfl⟩ F.entry_list_count (F.args_list_count_2 _ _) (SeqAt.list_countAt l its.toArray n none #[] u (iO y)) ⟨e,λw hw=>cG ru fy r fx w (by simpa using hw),?_⟩
 rw [show its.toArray.toList=its from rfl,ja r fx]
 exact⟨.int _,H,I.tok _,⟨_,rfl⟩,q⟩
def wU:V->List V->Hp->VK->Prop:=λx vs H Q=>∃ l xs y,∃ j:Nat,x=.ref l/\vs=[y]/\H l=some (.lst xs)/\b9 y=true/\xs.all b9=true/\(∃ z,xs[j]?=some z/\kn z y=true)/\(∀ i z,i<j->xs[i]?=some z->kn z y=false)/\Q (.int j) H
theorem vH {xs:List V} {i:Nat} {z:V} (f:xs.all b9=true) (h:xs[i]?=some z):b9 z=true:=List.all_eq_true.mp f z (List.mem_of_getElem? h)
theorem qj {X:Cx}:yW X "list.index" wU:=by
 intro pins s σ H x vs v us Q I rx rv h
 obtain⟨l,xs,y,j,rfl,rfl,hH,fy,fx,⟨z1,hz1,hz2⟩,no,q⟩:=h
 cases rx
 obtain⟨u,rfl,ru⟩:=rv.one
 obtain⟨z,its,n,r,hl,e⟩:=I.oz hH
 have hj:j<its.length:=by rw [<- r.length];exact (List.getElem?_eq_some_iff.mp hz1).1
 have hs:its.length<=sizeLine:=by rw [<- r.length];exact z
 have at_:∀ i (hi:i<its.length) w,xs[i]?=some w->iO y its[i]=kn w y:=λi hi w hw=>by
  obtain⟨u',e1,e2⟩:=r.get hw
  rw [List.getElem?_eq_getElem hi] at e1
  cases e1
  exact jF e2 (vH fx hw)
 refine call_meets F.slot_list_index ⟨_,e,rfl⟩ F.entry_list_index (F.args_list_index_2 _ _) (SeqAt.list_indexAt l its.toArray n none #[] u (iO y) j (by simpa using hj) (by rw [sizeLine_eq] at hs;omega) ?_ ?_) ⟨e,λw hw=>cG ru fy r fx w (by simpa using hw),⟨.int j,H,I.tok _,⟨_,rfl⟩,q⟩⟩
 ·show iO y its[j]=true
  rw [at_ j hj z1 hz1]
  exact hz2
 ·intro i hi hlt
  have hi':i<its.length:=by simpa using hi
  show iO y its[i]=false
  have hx:i<xs.length:=by rw [r.length];exact hi'
  rw [at_ i hi' _ (List.getElem?_eq_getElem hx)]
  exact no i _ hlt (List.getElem?_eq_getElem hx)
section
variable {K:PySem.W.Frag} {H H':Hp}
mutual
theorem dv.ig (kt:∀ a xs,br K H a xs->br K H' a xs) (kl:∀ a xs,aP K H a xs->aP K H' a xs):∀(d:PyData) {v:V},dv K H d v->dv K H' d v
 | .none,_,h=>h
 | .bool _,_,h=>h
 | .int _,_,h=>h
 | .str _,_,h=>h
 | .list ds,_,⟨q,xs,e,h,t⟩=>⟨q,xs,e,kl _ _ h,aZ.ig kt kl ds t⟩
 | .tuple ds,_,⟨q,xs,e,h,t⟩=>⟨q,xs,e,kt _ _ h,aZ.ig kt kl ds t⟩
 | .dict _,_,h=>h.elim
theorem aZ.ig (kt:∀ a xs,br K H a xs->br K H' a xs) (kl:∀ a xs,aP K H a xs->aP K H' a xs):∀(ds:List PyData) {xs:List V},aZ K H ds xs->aZ K H' ds xs
 | [],_,h=>h
 | d::ds,_,⟨x,r,e,h,t⟩=>⟨x,r,e,dv.ig kt kl d h,aZ.ig kt kl ds t⟩
end
mutual
def gd:PyData->Prop
 | .none=>True
 | .bool _=>True
 | .int i => -(10^90)<=i/\i<=10^90
 | .str x=>PyData.canLay0 (.str x)=true
 | .list ds=>lC ds
 | .tuple ds=>lC ds
 | _=>False
def lC:List PyData->Prop
 | []=>True
 | d::ds=>gd d/\lC ds
end
theorem gP:∀{ds:List PyData},lC ds↔∀ d∈ds,gd d
 | []=>⟨λ_ d h=>(List.not_mem_nil h).elim,λ_=>by simp only [lC]⟩
 | d::ds=>by
  simp only [lC]
  rw [gP,List.forall_mem_cons]
mutual
theorem gd.lay:∀(d:PyData),gd d->d.canLay0=true
 | .none,_=>rfl
 | .bool _,_=>rfl
 | .int _,_=>rfl
 | .str x,h=>by simp only [gd] at h;exact h
 | .list ds,h=>by simp only [gd] at h;simp only [PyData.canLay0];exact lC.lay ds h
 | .tuple ds,h=>by simp only [gd] at h;simp only [PyData.canLay0];exact lC.lay ds h
 | .dict _,h=>by simp only [gd] at h
theorem lC.lay:∀(ds:List PyData),lC ds->PyData.canLayAll0 ds=true
 | [],_=>rfl
 | d::ds,h=>by
  simp only [lC] at h
  simp only [PyData.canLayAll0]
  rw [gd.lay d h.1,lC.lay ds h.2]
  rfl
end
def GV (K:PySem.W.Frag) (H:Hp) (x:V):Prop:=∃ d,dv K H d x/\gd d
def j8 (K:PySem.W.Frag) (H:Hp) (xs:List V):Prop:=∃ ds,aZ K H ds xs/\lC ds
theorem GV.keep (kt:∀ a xs,br K H a xs->br K H' a xs) (kl:∀ a xs,aP K H a xs->aP K H' a xs) {x:V} (h:GV K H x):GV K H' x:=by
 obtain⟨d,h1,h2⟩:=h
 exact⟨d,dv.ig kt kl d h1,h2⟩
theorem j8.keep (kt:∀ a xs,br K H a xs->br K H' a xs) (kl:∀ a xs,aP K H a xs->aP K H' a xs) {xs:List V} (h:j8 K H xs):j8 K H' xs:=by
 obtain⟨d,h1,h2⟩:=h
 exact⟨d,aZ.ig kt kl d h1,h2⟩
theorem j8.nil:j8 K H []:=⟨[],rfl,by simp only [lC]⟩
theorem j8.cons {x:V} {xs:List V} (h:GV K H x) (g:j8 K H xs):j8 K H (x::xs):=by
 obtain⟨d,h1,h2⟩:=h
 obtain⟨ds,g1,g2⟩:=g
 exact⟨d::ds,⟨x,xs,rfl,h1,g1⟩,by simp only [lC];exact⟨h2,g2⟩⟩
theorem j8.all {xs:List V} (h:j8 K H xs):∀ x∈xs,GV K H x:=by
 obtain⟨ds,h1,h2⟩:=h
 intro x hx
 obtain⟨i,hi,e⟩:=List.mem_iff_getElem.mp hx
 have hx':xs[i]?=some x:=by rw [<- e];exact List.getElem?_eq_getElem hi
 obtain⟨d,e1,hv⟩:=h1.get hx'
 exact⟨d,hv,gP.mp h2 d (List.mem_of_getElem? e1)⟩
theorem j8.of:∀{xs:List V},(∀ x∈xs,GV K H x)->j8 K H xs
 | [],_=>j8.nil
 | x::xs,h=>j8.cons (h x (List.mem_cons_self ..)) (j8.of λy hy=>h y (List.mem_cons_of_mem _ hy))
theorem GV.tup {p:Addr} {xs:List V} (hS:br K H p xs) (h:j8 K H xs):GV K H (.ref p):=by
 obtain⟨ds,h1,h2⟩:=h
 exact⟨.tuple ds,⟨p,xs,rfl,hS,h1⟩,by simp only [gd];exact h2⟩
theorem GV.lst {p:Addr} {xs:List V} (hS:aP K H p xs) (h:j8 K H xs):GV K H (.ref p):=by
 obtain⟨ds,h1,h2⟩:=h
 exact⟨.list ds,⟨p,xs,rfl,hS,h1⟩,by simp only [gd];exact h2⟩
theorem GV.int {i:Int} (h0:-(10^90)<=i) (h1:i<=10^90):GV K H (.int i):=⟨.int i,rfl,by simp only [gd];exact⟨h0,h1⟩⟩
theorem GV.aQ:GV K H .aQ:=⟨.none,rfl,by simp only [gd]⟩
theorem GV.bl {b:Bool}:GV K H (.bl b):=⟨.bool b,rfl,by simp only [gd]⟩
theorem GV.str {x:Str} (h:PyData.canLay0 (.str x)=true):GV K H (.str x):=⟨.str x,rfl,by simp only [gd];exact h⟩
end
section
variable {X:Cx}
end
structure Z0 (d:PyData):Prop where
 g:gd d
 s:d.showable=true
 n:d.hasDict=false
 dp:d.depth<=3
 ln:d.shown.length<=100
def gz:Nat->PyData->Prop
 | 0,d=>Z0 d
 | n+1,d=>gz n d∨∃ ds,(d=.list ds∨d=.tuple ds)/\ds.length<=54/\∀ e∈ds,gz n e
def zl:Nat->Nat
 | 0=>100
 | n+1=>54*(zl n+2)+3
theorem gz.up {n:Nat} {d:PyData} (h:gz n d):gz (n+1) d:=.inl h
theorem gz.gd:∀{n:Nat} {d:PyData},gz n d->L2.gd d
 | 0,_,h=>Z0.g h
 | n+1,_,h=>by
  rcases h with h | ⟨ds,rfl | rfl,_,h⟩
  ·exact gz.gd h
  ·simp only [L2.gd];exact gP.mpr λd hd=>gz.gd (h d hd)
  ·simp only [L2.gd];exact gP.mpr λd hd=>gz.gd (h d hd)
mutual
def si (K:PySem.W.Frag) (H:Hp):PyData->V->Prop
 | .none,v=>v=.aQ
 | .bool b,v=>v=.bl b
 | .int i,v=>v=.int i
 | .str x,v=>v=.str x
 | .list ds,v=>∃ p xs,v=.ref p/\H p=some (.lst xs)/\dJ K H ds xs
 | .tuple ds,v=>∃ p xs,v=.ref p/\br K H p xs/\dJ K H ds xs
 | .dict _,_=>False
def dJ (K:PySem.W.Frag) (H:Hp):List PyData->List V->Prop
 | [],xs=>xs=[]
 | d::ds,xs=>∃ x r,xs=x::r/\si K H d x/\dJ K H ds r
end
section
variable {K:PySem.W.Frag} {H H':Hp}
mutual
theorem si.dv:∀{d:PyData} {v:V},si K H d v->L2.dv K H d v
 | .none,_,h=>h
 | .bool _,_,h=>h
 | .int _,_,h=>h
 | .str _,_,h=>h
 | .list ds,_,⟨p,xs,e,h1,h2⟩=>⟨p,xs,e,aP.of h1,dJ.aZ h2⟩
 | .tuple ds,_,⟨p,xs,e,h1,h2⟩=>⟨p,xs,e,h1,dJ.aZ h2⟩
 | .dict _,_,h=>h.elim
theorem dJ.aZ:∀{ds:List PyData} {xs:List V},dJ K H ds xs->L2.aZ K H ds xs
 | [],_,h=>h
 | d::ds,_,⟨x,r,e,h1,h2⟩=>⟨x,r,e,si.dv h1,dJ.aZ h2⟩
end
mutual
theorem si.keep (kt:∀ a xs,br K H a xs->br K H' a xs) (kl:∀(a:Addr) (xs:List V),H a=some (.lst xs)->H' a=some (.lst xs)):∀{d:PyData} {v:V},si K H d v->si K H' d v
 | .none,_,h=>h
 | .bool _,_,h=>h
 | .int _,_,h=>h
 | .str _,_,h=>h
 | .list ds,_,⟨p,xs,e,h1,h2⟩=>⟨p,xs,e,kl _ _ h1,dJ.keep kt kl h2⟩
 | .tuple ds,_,⟨p,xs,e,h1,h2⟩=>⟨p,xs,e,kt _ _ h1,dJ.keep kt kl h2⟩
 | .dict _,_,h=>h.elim
theorem dJ.keep (kt:∀ a xs,br K H a xs->br K H' a xs) (kl:∀(a:Addr) (xs:List V),H a=some (.lst xs)->H' a=some (.lst xs)):∀{ds:List PyData} {xs:List V},dJ K H ds xs->dJ K H' ds xs
 | [],_,h=>h
 | d::ds,_,⟨x,r,e,h1,h2⟩=>⟨x,r,e,si.keep kt kl h1,dJ.keep kt kl h2⟩
end
theorem dJ.get:∀{ds:List PyData} {xs:List V} {i:Nat} {x:V},dJ K H ds xs->xs[i]?=some x->∃ d,ds[i]?=some d/\si K H d x
 | [],_,i,x,h,e=>by cases h;simp at e
 | d::ds,_,0,x,⟨y,r,h0,h1,h2⟩,e=>by
  subst h0
  cases e
  exact⟨d,rfl,h1⟩
 | d::ds,_,i+1,x,⟨y,r,h0,h1,h2⟩,e=>by
  subst h0
  exact dJ.get (ds:=ds) (i:=i) h2 (by simpa using e)
end
def GZ (K:PySem.W.Frag) (n:Nat) (H:Hp) (x:V):Prop:=∃ d,si K H d x/\gz n d
def eR (K:PySem.W.Frag) (n:Nat) (H:Hp) (xs:List V):Prop:=∃ ds,dJ K H ds xs/\∀ d∈ds,gz n d
section
variable {K:PySem.W.Frag} {n:Nat} {H H':Hp}
theorem GZ.up {x:V} (h:GZ K n H x):GZ K (n+1) H x:=by
 obtain⟨d,h1,h2⟩:=h
 exact⟨d,h1,h2.up⟩
theorem GZ.keep (kt:∀ a xs,br K H a xs->br K H' a xs) (kl:∀(a:Addr) (xs:List V),H a=some (.lst xs)->H' a=some (.lst xs)) {x:V} (h:GZ K n H x):GZ K n H' x:=by
 obtain⟨d,h1,h2⟩:=h
 exact⟨d,h1.keep kt kl,h2⟩
theorem eR.keep (kt:∀ a xs,br K H a xs->br K H' a xs) (kl:∀(a:Addr) (xs:List V),H a=some (.lst xs)->H' a=some (.lst xs)) {xs:List V} (h:eR K n H xs):eR K n H' xs:=by
 obtain⟨d,h1,h2⟩:=h
 exact⟨d,h1.keep kt kl,h2⟩
theorem eR.nil:eR K n H []:=⟨[],rfl,by simp⟩
theorem eR.cons {x:V} {xs:List V} (h:GZ K n H x) (g:eR K n H xs):eR K n H (x::xs):=by
 obtain⟨d,h1,h2⟩:=h
 obtain⟨ds,g1,g2⟩:=g
 exact⟨d::ds,⟨x,xs,rfl,h1,g1⟩,λe he=>(List.mem_cons.mp he).elim (λz=>z▸h2) (g2 e)⟩
theorem eR.all {xs:List V} (h:eR K n H xs):∀ x∈xs,GZ K n H x:=by
 obtain⟨ds,h1,h2⟩:=h
 intro x hx
 obtain⟨i,hi,e⟩:=List.mem_iff_getElem.mp hx
 have hx':xs[i]?=some x:=by rw [<- e];exact List.getElem?_eq_getElem hi
 obtain⟨d,e1,hv⟩:=h1.get hx'
 exact⟨d,hv,h2 d (List.mem_of_getElem? e1)⟩
theorem eR.of:∀{xs:List V},(∀ x∈xs,GZ K n H x)->eR K n H xs
 | [],_=>eR.nil
 | x::xs,h=>eR.cons (h x (List.mem_cons_self ..)) (eR.of λy hy=>h y (List.mem_cons_of_mem _ hy))
theorem eR.up {xs:List V} (h:eR K n H xs):eR K (n+1) H xs:=eR.of λx hx=>(h.all x hx).up
theorem eR.len {xs:List V} {ds:List PyData} (h:L2.aZ K H ds xs):ds.length=xs.length:=by
 induction ds generalizing xs with
 | nil=>cases h;rfl
 | cons d ds ih =>
  obtain⟨x,r,rfl,_,h2⟩:=h
  rw [List.length_cons,List.length_cons,ih h2]
theorem GZ.tup {p:Addr} {xs:List V} (hS:br K H p xs) (l:xs.length<=54) (h:eR K n H xs):GZ K (n+1) H (.ref p):=by
 obtain⟨ds,h1,h2⟩:=h
 exact⟨.tuple ds,⟨p,xs,rfl,hS,h1⟩,.inr ⟨ds,.inr rfl,by rw [eR.len h1.aZ];exact l,h2⟩⟩
theorem GZ.lst {p:Addr} {xs:List V} (hS:H p=some (.lst xs)) (l:xs.length<=54) (h:eR K n H xs):GZ K (n+1) H (.ref p):=by
 obtain⟨ds,h1,h2⟩:=h
 exact⟨.list ds,⟨p,xs,rfl,hS,h1⟩,.inr ⟨ds,.inl rfl,by rw [eR.len h1.aZ];exact l,h2⟩⟩
theorem xy {i:Int} (h0:-(10^90)<=i) (h1:i<=10^90):Z0 (.int i):=by
 have hb:i.natAbs<10^91:=by
  have e:(10:Nat)^91=10*10^90:=by decide
  have e1:((10^90:Nat):Int)=10^90:=by decide
  omega
 refine⟨by simp only [gd];exact⟨h0,h1⟩,?_,rfl,by simp only [PyData.depth];omega,?_⟩
 ·simp only [PyData.showable,decide_eq_true_eq]
  by_cases z:i.natAbs=0
  ·rw [z];decide
  ·rw [Nat.log2_lt z]
   exact Nat.lt_trans hb (by decide +kernel)
 ·show (Str.ofString (toString i)).length<=100
  rw [PySem.ofString_length]
  exact Nat.le_trans (int_text_length_le10 (by decide) hb) (by decide)
theorem GZ.int {i:Int} (h0:-(10^90)<=i) (h1:i<=10^90):GZ K 0 H (.int i):=⟨.int i,rfl,xy h0 h1⟩
theorem GZ.aQ:GZ K 0 H .aQ:=⟨.none,rfl,by simp only [gd],rfl,rfl,by decide,by decide +kernel⟩
theorem GZ.bl {b:Bool}:GZ K 0 H (.bl b):=⟨.bool b,rfl,by simp only [gd],rfl,rfl,by simp only [PyData.depth];omega,by cases b<;>decide +kernel⟩
theorem GZ.str {x:Str} (h:PyData.canLay0 (.str x)=true) (l:(reprText x).length<=100):GZ K 0 H (.str x):=⟨.str x,rfl,by simp only [gd];exact h,rfl,rfl,by simp only [PyData.depth];omega,l⟩
theorem gz.le {m:Nat}:∀{n:Nat} {d:PyData},m<=n->gz m d->gz n d
 | 0,_,l,h=>by
  obtain rfl:m=0:=by omega
  exact h
 | n+1,_,l,h=>by
  rcases (by omega:m=n+1∨m<=n) with rfl | z
  ·exact h
  ·exact (gz.le z h).up
theorem GZ.le {m n:Nat} {H:Hp} {x:V} (h:GZ K m H x) (l:m<=n):GZ K n H x:=by
 obtain⟨d,h1,h2⟩:=h
 exact⟨d,h1,h2.le l⟩
end
def zE:V->Option Int->Option Int->Hp->VK->Prop:=λx lo hi H Q=>∃ z:Str,x=.str z/\z.length<=sizeLine/\Q (.str (Txt.slice z lo hi)) H
theorem part_of {v:Value} {lo:Option Int} (h:IsPart v lo):∃ l:Option (Int × Tok),v=partValue l/\l.map (·.1)=lo:=by
 cases h with
 | none=>exact⟨none,rfl,rfl⟩
 | int i t=>exact⟨some (i,t),rfl,rfl⟩
theorem e7 {X:Cx}:vD X zE:=by
 intro pins s σ H x v vl vu lo hi sl Q I rx hs pl pu h
 obtain⟨z,rfl,hz,q⟩:=h
 obtain⟨t,rfl⟩:=rx
 obtain⟨l,rfl,rfl⟩:=part_of pl
 obtain⟨u,rfl,rfl⟩:=part_of pu
 obtain⟨o,h1,h2,h3⟩:=hs
 refine⟨"str",_,F.slot_str_getitem.lookup,typeIs_str _ _ _,wpAny_getItem_str_slice (l:=l) (u:=u) (st:=none) ⟨o,h1,h2,h3⟩ rfl ?_⟩
 refine post_val_or_str ⟨Nat.le_trans (Txt.slice_le z _ _) hz,λt' k=>⟨.str (Txt.slice z (l.map (·.1)) (u.map (·.1))),H,I.kept (t':=k) λ_ _ w=>w,⟨t',rfl⟩,q⟩⟩
def rJoin (K:PySem.W.Frag):V->List V->Hp->VK->Prop:=λx xs H Q=>∃(sep:Str) (a:Addr) (ts:List Str),x=.str sep/\xs=[.ref a]/\aP K H a (ts.map V.str)/\JoinOk sep ts=true/\Q (.str (Txt.join sep ts)) H
theorem nt:∀{ts:List Str} {us:List Value},Vals (ts.map V.str) us->∃ l:List (Str × Tok),us=strValues l/\l.map (·.1)=ts
 | [],us,h=>by
  cases h
  exact⟨[],rfl,rfl⟩
 | t::ts,us,h=>by
  cases h with
  | cons r h =>
   obtain⟨k,rfl⟩:=r
   obtain⟨l,rfl,rfl⟩:=nt h
   exact⟨(t,k)::l,rfl,rfl⟩
theorem tH {X:Cx}:rY X "str.join" (rJoin X.K):=by
 intro pins s σ H x xs v us Q I rx r h
 obtain⟨sep,a,ts,rfl,rfl,hl,ok,q⟩:=h
 obtain⟨t,rfl⟩:=rx
 obtain⟨u,rfl,ru⟩:=vals1 r
 cases ru
 obtain⟨its,rv,pl,hz⟩:=I.list hl
 obtain⟨l,rfl,e⟩:=nt rv
 exact SC.join pl.isList e ok λt' k=>⟨.str (Txt.join sep ts),H,I.kept (t':=k) λ_ _ w=>w,⟨t',rfl⟩,q⟩
def yA:List V->Hp->VK->Prop:=λxs H Q=>∃(x:Str) (n:Int),xs=[.str x]/\intText? x=some n/\x.length<=640/\Q (.int n) H
theorem i8 {X:Cx}:bS X (.type "int") yA:=by
 intro pins s σ H xs us Q I r h
 obtain⟨x,n,rfl,hn,hl,q⟩:=h
 obtain⟨u,rfl,ru⟩:=vals1 r
 obtain⟨t,rfl⟩:=ru
 exact PySem.W.KIN.call_text hn hl ⟨.int n,H,I.kept (t':=s.toks+1) λ_ _ w=>w,⟨_,rfl⟩,q⟩
def yB:R2:=λx y H Q=>∃(z:Str) (n:Int),x=.str z/\y=.int n/\MulOk z n/\Q (.str (Txt.mul z n)) H
theorem gQ {X:Cx}:ff X (binaryOp .Mult) yB:=by
 intro pins s σ H x y v u Q I rx ry h
 obtain⟨z,n,rfl,rfl,ok,q⟩:=h
 obtain⟨t,rfl⟩:=rx
 obtain⟨t2,rfl⟩:=ry
 exact SB.mul ok λt' k=>⟨.str (Txt.mul z n),H,I.kept (t':=k) λ_ _ w=>w,⟨t',rfl⟩,q⟩
def Az:PyData->Bool
 | .str _=>true
 | _=>false
theorem boot_str:bootBuiltins "str"=some (.type "str"):=by rfl
theorem nP:bootBuiltins "str"=some (.type "str"):=by rfl
theorem jJ {K:PySem.W.Frag} {H:Hp} {d:PyData} {x:V} {Q:VK} (h:dv K H d x) (q:Q (.bl (Az d)) H):iA K [x,.ty "str"] H Q:=by
 refine⟨d,x,"str",_,rfl,h,?_,q⟩
 cases d<;>first | exact h.elim | with_unfolding_all rfl
def vY (K:PySem.W.Frag) (tl:TE):TI:=λσ H R=>mG K tl σ H R∨vZ K tl σ H R
theorem wH {X:Cx} {tg l:Expr} {tl:TE} (hl:PE X l tl):PI X tg l (vY X.K tl):=by
 intro pins s σ H R I h
 rcases h with h | h
 ·exact ub hl pins s σ H R I h
 ·exact wI hl pins s σ H R I h
def zU (k:Sd) (K:PySem.W.Frag) (a:Addr):It:=match k with
 | .l=>uQ K a
 | .t=>yU K a
theorem pX {K:PySem.W.Frag} {i:Nat} {σ:St} {H:Hp} {R:It->Hp->Prop} {a:Addr} {k:Sd} {xs:List V} (e:σ[i]?=some (some (.ref a))) (h:hV k K H a xs) (r:R (zU k K a) H):vY K (gL i) σ H R:=by
 cases k
 ·exact .inl ⟨.ref a,e,a,rfl,⟨xs,h⟩,r⟩
 ·exact .inr ⟨.ref a,e,a,rfl,⟨xs,h⟩,r⟩
theorem nV {K:PySem.W.Frag} {k:Sd} {a:Addr} {xs:List V} {js:List (Option Nat)} {g:TG} {tt:TT} {te:TE} {σ:St} {Q:VK} {H1:Hp} (Pv:Nat->List V->Hp->Prop) (h0:Pv 0 [] H1) (hx:xs.length<=sizeLine) (hl:∀ i ys H,i<=xs.length->Pv i ys H->hV k K H a xs/\ys.length<=i)
  (hs:∀ i x ys H,xs[i]?=some x->Pv i ys H->g x (cy js σ) H λσ2 H2=>bB (cy js σ) σ2/\tt σ2 H2 λb H3=>if b=true then te σ2 H3 λv H4=>Pv (i+1) (ys++[v]) H4 else Pv (i+1) ys H3)
  (hd:∀ ys H p,Pv xs.length ys H->H p=none->Q (.ref p) (upd H p (.lst ys))):gY (zU k K a) js g tt te σ Q H1:=by
 cases k
 ·exact lu Pv h0 hx hl hs hd
 ·exact nW Pv h0 hx hl hs hd
def yD:List V->Hp->VK->Prop:=λxs H Q=>(∃ i,xs=[.int i]/\i.natAbs.log2<1920/\Q (.str (toString i)) H)∨∃ x,xs=[.str x]/\Q (.str x) H
theorem nS {X:Cx}:bS X (.type "str") yD:=by
 intro pins s σ H xs us Q I r h
 rcases h with h | ⟨x,rfl,q⟩
 ·exact jz pins s σ H xs us Q I r h
 ·obtain⟨u,rfl,ru⟩:=vals1 r
  obtain⟨t,rfl⟩:=ru
  exact PySem.P.str_of_str ⟨.str x,H,I,⟨t,rfl⟩,q⟩
end L2
namespace L2
open PySem PySem.Spec PyProof.Rows PySem.W
section
variable {prog:Program} {w:World} {A:Around} {E:Value->Shared->Prop} {s:Shared} {K:PySem.W.Frag} {x C:Addr} {name:Str} {v:Value} {cd:ClassData}
theorem pR {vs:Array Value} {sl:Array (Option Value)} {dx:Addr} {m:Str->Option Value} {f0:Str} {Q:Unit->Shared->Prop} (X:K.In s.heap) (hx:s.heap.get? x=some ⟨.ref C,some dx,.fields vs,sl⟩) (hd:s.heap.Ns1 dx m) (hw:PySem.Within m [f0]) (hne:dx≠x) (hc:clsIn K C=some cd) (hm:bj cd.mro=true) (hh:cd.hasDict=true)
  (hs:findIn K (.ref C) "__setattr__"=some (some (.builtin "object.__setattr__"))) (hn:findIn K (.ref C) name=some none)
  (h:∀ h',h'.get? x=some ⟨.ref C,some dx,.fields vs,sl⟩->h'.Ns1 dx (λy=>if y=name then some v else m y)->(∀ b ob,b≠dx->s.heap.get? b=some ob->h'.get? b=some ob)->Q () { s with heap:=h',toks:=s.toks+2 }) :
  wpAny (model prog w) A (setAttr (.ref x) name v) Q E s:=by
 obtain⟨oD0,es0,ep0,gD0,hdd0,rest0⟩:=id hd
 have I:PySem.W.InstAt s.heap x ⟨.ref C,some dx,.fields vs,sl⟩ C (some oD0):=⟨hx,rfl,rfl,gD0⟩
 obtain⟨m1,m2,m3⟩:=d4 hm
 refine PySem.W.set_plain X I hs ?_
 have SF:=PySem.F.store_object
 have sub:Looks (model prog w) s.heap (isInstance (.ref x) (.type "object")) true:=I.type.andThen (looks_mroIn X (by unfold mroIn;rw [hc,Option.bind_some,if_neg (by rw [m3];decide),m1]))
 refine codeAny_call_builtin SF.slot.plain SF.entry (@check_slot (model prog w) _ _ { s with toks:=s.toks+1 } "object.__setattr__" "object" "__setattr__" (.ref x) [.str name s.toks,v] [] _ SF.kind SF.split sub (SF.args (.ref x) (.str name s.toks) v) ?_)
 have L1:Looks (model prog w) s.heap (mroOf (.ref C)) cd.mro:=(looks_clsIn X hc).andThen .now
 rw [osa_eq,refuse_eq]
 refine wpAny_bind (wpAny_bind (Looks.here (s:={ s with toks:=s.toks+1 }) I.type (wpAny_bind (Looks.here (s:={ s with toks:=s.toks+1 }) L1 ?_))))
 rw [eZ _ hm]
 refine wpAny_pure (wpAny_bind (Looks.here (s:={ s with toks:=s.toks+1 }) I.type (wpAny_bind (Looks.here (s:={ s with toks:=s.toks+1 }) (looks_findIn X hn) (wpAny_bind (wpAny_pure ?_))))))
 show wpAny _ _ (Builtin.ObjectAttr.storeInOwnDict (.ref x) (.ref C) (.str name s.toks) name v false) _ _ _
 refine wpAny_bind (wpAny_pure (wpAny_bind (wpAny_bind (wpAny_loadPart hx ?_))))
 refine wpAny_bind (Looks.here (s:={ s with toks:=s.toks+1 }) (looks_clsIn X hc) ?_)
 rw [hh]
 refine wpAny_pure ?_
 show wpAny _ _ (Builtin.ObjectAttr.storeInDict dx (.str name s.toks) name v) _ _ _
 refine wpAny_bind (wpAny_pure (wpAny_bind ?_))
 refine wpAny_nsSet1 (s:={ s with toks:=s.toks+1 }) hd λh' hn2 hs2=>?_
 have hw2:PySem.Within (λy=>if y=name then some v else m y) [name,f0]:=λy hy=>by
  by_cases z:y=name
  ·rw [z];exact List.mem_cons_self
  ·have hy:m y≠none:=by simpa [z] using hy
   exact List.mem_cons_of_mem _ (hw y hy)
 obtain⟨oD,esD,epD,hoD,hdD,hcD⟩:=hn2.count hw2
 refine wpAny_bind (wpAny_lookBehind hoD (by rw [hdD];exact pastItsLine_dict (Nat.le_trans hcD (by show 2<=sizeLine+1;decide))) ?_)
 exact wpAny_pure (h h' ((hs2.2 _ (Ne.symm hne)).trans hx) hn2 λb ob hb e=>(hs2.2 b hb).trans e)
end
def wZ (K:PySem.W.Frag) (ta tv:TE) (g:Str):TS:=λD σ H=>tv σ H λy H1=>ta σ H1 λxv H2=>∃ x C dx f0 v0,xv=.ref x/\H2 x=some (XN x C (some dx))/\H2 dx=some (.xd [(f0,v0)])/\a0 K C/\findIn K (.ref C) g=some none /\
 D.nx σ (upd H2 dx (.xd [(g,y),(f0,v0)]))
section
variable {X:Cx} {o value:Expr} {f:Str} {pos pos':Pos} {ta tv:TE}
theorem qV (ha:PE X o ta) (hv:PE X value tv) (hs:swapsWith value (some (.Attribute o f pos')) pos.line X.env=pure false:=by rfl):PS X (.Assign [.Attribute o f pos'] value pos) (wZ X.K ta tv f):=by
 intro pins s σ H D I h
 refine plainObj_wpAny_Assign_Attribute (aR (hv pins s σ H _ I h) λu s1 ⟨y,H1,I1,ry,q⟩=>aR (ha pins s1 σ H1 _ I1 q) λov s2 ⟨xv,H2,I2,rx,x,C,dx,f0,v0,ex,hx,hdx,c,hf,q2⟩=>?_) hs
 subst ex
 obtain rfl:ov=Value.ref x:=rx
 obtain⟨t,sl,hg⟩:=XN.get I2.hok hx
 obtain⟨mA,hn,hr⟩:=(show aS X.prog X.w H2 s2.heap dx (.xd [(f0,v0)]) from I2.hok dx _ hdx)
 obtain⟨cd,hc,hm,hh⟩:=c.cls
 have hne:dx≠x:=λz=>by rw [z,hx] at hdx;cases hdx
 have hw:PySem.Within mA [f0]:=λk hk=>by
  by_cases e:k=f0
  ·rw [e];exact List.mem_cons_self
  ·have e':(k==f0)=false:=by simpa using e
   have:=hr k
   rw [List.lookup_cons,e'] at this
   cases z:mA k with
   | none=>exact absurd z hk
   | some _=>rw [z] at this;exact False.elim this
 refine pR I2.dC hg hn hw hne hc hm hh c.sa hf λh' g1 g2 g3=>?_
 refine⟨σ,upd H2 dx (.xd [(f,y),(f0,v0)]),I2.un ⟨λb o q n _ _=>g3 b o (λz=>by rw [z,hdx] at n;cases n) q,λb o q n _ _=>⟨o.slots,g3 b o (λz=>by rw [z,hdx] at n;cases n) q⟩,λb o q n _=>?_,λb o q _=>?_,λb xs q=>?_,λb o xs q=>?_,λb ps q=>?_⟩ ?_,q2⟩
 ·rw [ao (λz=>by rw [z,hdx] at n;cases n)];exact n
 ·by_cases z:b=dx
  ·obtain⟨od,_,_,e,_⟩:=g2
   exact⟨_,by rw [z];exact e⟩
  ·exact⟨o,g3 b o z q⟩
 ·rw [ao (λz=>by rw [z,hdx] at q;cases q)];exact q
 ·rw [ao (λz=>by rw [z,hdx] at q;cases q)];exact q
 ·exact⟨#[],by rw [ao (λz=>by rw [z,hdx] at q;cases q),q];simp⟩
 ·intro b o q
  by_cases z2:b=dx
  ·subst z2
   rw [aj] at q
   cases q
   refine⟨_,g2,λk=>?_⟩
   show dO (List.lookup k [(f,y),(f0,v0)]) (if k=f then some u else mA k)
   by_cases e:k=f
   ·subst e
    rw [if_pos rfl,List.lookup_cons,beq_self_eq_true]
    exact ry
   ·have e':(k==f)=false:=by simpa using e
    rw [if_neg e,List.lookup_cons,e']
    exact hr k
  ·rw [ao z2] at q
   refine (I2.hok b o q).gy (λc' u' hc' r=>g3 c' u' (λz3=>?_) r) (λc' r=>?_) λc' xs r=>?_
   ·rcases hc' with e | e
    ·exact z2 (e.symm.trans z3)
    ·rw [z3,hdx] at e;cases e
   ·rw [ao (λz3=>by rw [z3,hdx] at r;cases r)];exact r
   ·rw [ao (λz3=>by rw [z3,hdx] at r;cases r)];exact r
end
theorem zR {H:Hp} {x dx:Addr} {a b:HO} {c:HO} (ne:dx≠x):upd (upd (upd H dx a) x c) dx b=upd (upd H dx b) x c:=by
 funext z
 unfold upd
 by_cases h1:z=dx
 ·rw [if_pos h1,h1,if_neg ne,if_pos rfl]
 ·rw [if_neg h1]
  by_cases h2:z=x
  ·rw [if_pos h2,if_pos h2]
  ·rw [if_neg h2,if_neg h2,if_neg h1,if_neg h1]
def jU (K:PySem.W.Frag) (f g:Str):Sp:=λvs H Q _=>∃ x C v u,vs=[.ref x,v,u]/\H x=some (XN x C none)/\a0 K C/\findIn K (.ref C) f=some none/\findIn K (.ref C) g=some none /\
 ∀ dx,H dx=none->dx≠x->Q .aQ (upd (upd H dx (.xd [(g,u),(f,v)])) x (XN x C (some dx)))
theorem pW {P:Program} {w:World} {K:PySem.W.Frag} {mg:Str->Option Value} {base:Heap} {qual f g p p':Str} {st:Stmt} {fi:Addr} {fd:FuncData} {p1 p2 p3 p4 q1 q2 q3 q4:Pos} (F:pd K "__init__" qual st fi fd) (S:az ["self",p,p'] ["self",p,p'] (ai st))
  (hb:aG st=[.Assign [.Attribute (.Name "self" p1) f p2] (.Name p p3) p4,.Assign [.Attribute (.Name "self" q1) g q2] (.Name p' q3) q4]) (h1:(ai st).names.lookup ("self":Str)=some .local) (h2:(ai st).names.lookup p=some .local) (h3:(ai st).names.lookup p'=some .local) (hd:(p==("__debug__":Str))=false) (hcd:(p==("__classdict__":Str))=false) (hd':(p'==("__debug__":Str))=false) (hcd':(p'==("__classdict__":Str))=false)
  (sw:∀ env:Env,swapsWith (.Name p p3) (some (.Attribute (.Name "self" p1) f p2)) p4.line env=pure false) (sw':∀ env:Env,swapsWith (.Name p' q3) (some (.Attribute (.Name "self" q1) g q2)) q4.line env=pure false):cp P w K mg base ba 1 fi fd ["self",p,p'] (jU K f g):=by
 refine F.ok S (λvs H Q E h=>?_) (λcdv A outer s H vs Q E hr h=>?_)
 ·obtain⟨x,C,v,u,rfl,_⟩:=h
  rfl
 ·obtain⟨x,C,v,u,rfl,hx,c,hf,hg,q⟩:=h
  rw [hb]
  refine⟨_,af (mW (eW (i:=0) rfl (.inl h1) (by decide) (by decide)) (eW (i:=1) rfl (.inl h2) hd hcd) (sw _)) (ak (qV (eW (i:=0) rfl (.inl h1) (by decide) (by decide)) (eW (i:=2) rfl (.inl h3) hd' hcd') (sw' _))),?_⟩
  refine⟨v,rfl,.ref x,rfl,x,C,rfl,hx,c,hf,λdx n ne=>?_⟩
  refine⟨u,rfl,.ref x,rfl,x,C,dx,f,v,rfl,aj,by rw [ao ne,aj],c,hg,?_⟩
  rw [zR ne]
  exact q dx n ne
structure nN (P:Program) (w:World) (K:PySem.W.Frag) (mg:Str->Option Value) (base:Heap) (x:Str) (C:Addr) (f g:Str):Prop where
 mkd:nO K C
 cls:a0 K C
 at_:mg x=some (.ref C)
 nof:findIn K (.ref C) f=some none
 nog:findIn K (.ref C) g=some none
 ex:∃ fi fd p p',findIn K (.ref C) "__init__"=some (some (.ref fi))/\isFn K (.ref fi)=true/\cp P w K mg base ba 1 fi fd ["self",p,p'] (jU K f g)/\Binds K fd ["self",p,p'] []
def yS (C:Addr) (f g:Str) (t:TA):TE:=λσ H Q=>t σ H λvs H1=>∃ v u,vs=[v,u]/\∀ x dx,H1 x=none->H1 dx=none->dx≠x->Q (.ref x) (upd (upd (upd H1 x (XN x C none)) dx (.xd [(g,u),(f,v)])) x (XN x C (some dx)))
section
variable {X:Cx} {C:Addr} {f g x:Str} {pos np:Pos} {e e':Expr} {t:TA}
theorem lU (c:nN X.prog X.w X.K X.mg X.base x C f g) (hr:bq 2 X.A) (hg:Gl X x) (ha:PA X [e,e'] t) (hdb:(x==("__debug__":Str))=false:=by decide)
  (he:starEach [e,e'] X.env=(false,eval e X.env)::starEach [e'] X.env:=by rfl) (hpl:(backTo pos (starEach [e'] X.env)).any (·.1)=false:=by rfl):PE X (.Call (.Name x np) [e,e'] [] pos) (yS C f g t):=by
 obtain⟨fi,fd,p,p',hi,fn,F,hb⟩:=c.ex
 have M:=c.mkd
 intro pins s σ H Q I h
 refine wpAny_Call_Name_kw (cS I hg c.at_ ?_ hdb)
 refine PySem.W.callWith_K (h₀:=X.base) I.ok.mod.kin M.kp (aR (ha pos pins s σ H _ I h) λus s1 ⟨vs,H1,I1,r,q⟩=>⟨I1.dC,?_⟩) he hpl
 obtain⟨v,v',rfl,q⟩:=q
 obtain⟨u,u',rfl,ru,ru'⟩:=vals2 r
 obtain⟨nm,qn,Nn,bs,bm,hdct,sn,sub,ab,col,dd,k0,k1,k2,k3,k5,hk,hB,hA,hN⟩:=M.obj
 have I2:=Inv.newExc (C:=C) I1 [u,u']
 have n1:H1 (s1.heap.objs.size+1)=none:=I1.hok.fresh (Nat.le_succ _)
 have r2:Vals [V.ref (s1.heap.objs.size+1),v,v'] [Value.ref (s1.heap.objs.size+1),u,u']:=.cons rfl (.cons ru (.cons ru' .nil))
 have hq:jU X.K f g [V.ref (s1.heap.objs.size+1),v,v'] (upd H1 (s1.heap.objs.size+1) (XN (s1.heap.objs.size+1) C none)) (λz H3=>z=.aQ/\Q (.ref (s1.heap.objs.size+1)) H3) E0 :=
  ⟨_,C,v,v',rfl,aj,c.cls,c.nof,c.nog,λdx hd hne=>⟨rfl,q _ dx n1 (by rw [ao hne] at hd;exact hd) hne⟩⟩
 obtain⟨hh,g,d,tk,os⟩:=s1
 refine pQ (K:=X.K) I1.dC hB hA hN (I1.dC _ _ hk) (by show 2<=sizeLine;decide) hi (bind_fn I1.dC _ (beq_iff_eq.mp fn)) ?_
 refine codeAny_mono (F.run _ X.stack _ _ ⟨[Value.ref (hh.objs.size+1),u,u'],[]⟩ [Value.ref (hh.objs.size+1),u,u'] _ _ E0 (hr.make C [u,u'] []) (I2.pN.make C [u,u'] []) (by have:=hb _ [Value.ref (hh.objs.size+1),u,u'] I2.dC rfl;rwa [List.append_nil] at this) r2 hq) λr s' hq'=>?_
 cases r with
 | error e=>exact False.elim hq'
 | ok fl =>
  cases fl with
  | ret u' =>
   obtain⟨v',H',I3,rv,ev,q3⟩:=I2.after hq'
   subst ev
   exact⟨rv,⟨V.ref (hh.objs.size+1),H',I3,rfl,q3⟩⟩
  | next=>exact False.elim hq'
  | brk=>exact False.elim hq'
  | cont=>exact False.elim hq'
end
structure mj (qual f g p p':Str) (st:Stmt):Prop where
 S:az ["self",p,p'] ["self",p,p'] (ai st)
 hb:∃ p1 p2 p3 p4 q1 q2 q3 q4,aG st=[.Assign [.Attribute (.Name "self" p1) f p2] (.Name p p3) p4,.Assign [.Attribute (.Name "self" q1) g q2] (.Name p' q3) q4]/\(∀ env:Env,swapsWith (.Name p p3) (some (.Attribute (.Name "self" p1) f p2)) p4.line env=pure false)/\(∀ env:Env,swapsWith (.Name p' q3) (some (.Attribute (.Name "self" q1) g q2)) q4.line env=pure false)
 h1:(ai st).names.lookup ("self":Str)=some .local
 h2:(ai st).names.lookup p=some .local
 h3:(ai st).names.lookup p'=some .local
 hd:(p==("__debug__":Str))=false
 hcd:(p==("__classdict__":Str))=false
 hd':(p'==("__debug__":Str))=false
 hcd':(p'==("__classdict__":Str))=false
 bd:∀(kV doc pm:Value) (an:Option Addr) (cdv ct:Value) (us:List Value),us.length=3->bindArgs (PySem.W.fnOf "__init__" qual (aV st) (aG st) (ai st) .none kV doc pm an cdv ct) ⟨us,[]⟩=pure ((["self",p,p']:List Str).zip us)
section
variable {K:PySem.W.Frag} {mg:Str->Option Value} {x f g p p' qual:Str} {C fi:Addr}
theorem uL {st:Stmt} {oc:Value} {od an:Option Addr} {osl:Array (Option Value)} {kV doc pm cdv ct:Value} (I:mj qual f g p p' st) (a:mg x=some (.ref C)) (M:nO K C) (c:a0 K C) (nof:findIn K (.ref C) f=some none) (nog:findIn K (.ref C) g=some none)
  (ini:findIn K (.ref C) "__init__"=some (some (.ref fi))) (fn:isFn K (.ref fi)=true) (l:K.lookup fi=some ⟨oc,od,.func (PySem.W.fnOf "__init__" qual (aV st) (aG st) (ai st) .none kV doc pm an cdv ct),osl⟩) (cc:codeIn K cdv qual=true) (kk:keepIn K (.ref fi)=true) :
  ∀(P:Program) (w:World) (base:Heap),nN P w K mg base x C f g:=λP w base=>by
 obtain⟨p1,p2,p3,p4,q1,q2,q3,q4,hb,sw,sw'⟩:=I.hb
 have F:=lB l cc kk
 exact⟨M,c,a,nof,nog,fi,_,p,p',ini,fn,pW F I.S hb I.h1 I.h2 I.h3 I.hd I.hcd I.hd' I.hcd' sw sw',F.binds I.bd⟩
end
theorem gu {M:Model} {Γ:PySem.Ctx} {p:Pos} {t:Sem Fin} {fs:List Frame} {s s':Shared} {e:End} (h:Runs M Γ p t fs s e s'):s.toks<=s'.toks:=by
 induction h with
 | done=>exact Nat.le_refl _
 | raise=>exact Nat.le_refl _
 | yield=>exact Nat.le_refl _
 | again _ _ ih=>exact ih
 | rule _ ih=>exact ih
 | «at» _ ih=>exact ih
 | load _ _ ih=>exact ih
 | update _ _ ih=>exact ih
 | loadIfAlive _ ih=>exact ih
 | point _ ih=>exact ih
 | alloc _ ih=>exact ih
 | fresh _ ih=>exact Nat.le_of_succ_le ih
 | ask _ ih=>exact ih
 | choose _ _ ih=>exact ih
 | os _ ih=>exact ih
 | handled _ ih=>exact ih
 | genState _ _ ih=>exact ih
 | stack _ ih=>exact ih
 | thread _ ih=>exact ih
 | newGen _ ih=>exact ih
 | call _ _ i1 i2=>exact Nat.le_trans i1 i2
 | callSusp _ ih=>exact ih
 | resumeFresh _ _ _ _ i1 i2=>exact Nat.le_trans i1 i2
 | resumeSuspended _ _ _ _ i1 i2=>exact Nat.le_trans i1 i2
 | resumeJustStarted _ _ _ ih=>exact ih
 | resumeThrowFresh _ _ ih=>exact ih
 | resumeRunning _ _ ih=>exact ih
 | resumeFinished _ _ ih=>exact ih
 | segRet _ _ i1 i2=>exact Nat.le_trans i1 i2
 | segGen _ _ i1 i2=>exact Nat.le_trans i1 i2
 | segSuspOut _ _ ih=>exact ih
 | segSuspGen _ _ _ _ i1 i2=>exact Nat.le_trans i1 i2
theorem mf {M:Model} {Γ:PySem.Ctx} {p:Pos} {g:Nat} {r:Resume} {s s':Shared} {res:GenResult} (h:Wakes M Γ p g r s res s'):s.toks<=s'.toks:=by
 unfold Wakes at h
 split at h
 ·exact h.elim
 ·split at h
  ·obtain⟨e₁,s₁,h1,_,_,rfl⟩:=h
   have:=gu h1;exact this
  ·obtain⟨_,rfl⟩:=h
   exact Nat.le_refl _
  ·obtain⟨_,rfl⟩:=h
   exact Nat.le_refl _
 ·obtain⟨e₁,s₁,h1,_,_,rfl⟩:=h
  have:=gu h1;exact this
 ·obtain⟨_,rfl⟩:=h
  exact Nat.le_refl _
 ·obtain⟨_,rfl⟩:=h
  exact Nat.le_refl _
theorem wp_toks {α:Type} {M:Model} {Γ:PySem.Ctx} (n:Nat) (t:Sem α):∀(Q:α->Pos->Shared->Prop) (E:Value->Pos->Shared->Prop) (p:Pos) (s:Shared),n<=s.toks->Sem.wp M Γ t Q E p s ->
  Sem.wp M Γ t (λa p' s'=>n<=s'.toks/\Q a p' s') (λe p' s'=>n<=s'.toks/\E e p' s') p s:=by
 induction t with
 | pure a=>exact λQ E p s hn h=>⟨hn,h⟩
 | raise e=>exact λQ E p s hn h=>⟨hn,h⟩
 | call c hd g l k ih =>
  intro Q E p s hn h
  rw [Sem.wp] at h ⊢
  obtain⟨r,s1,h1,h2⟩:=h
  exact⟨r,s1,h1,ih r Q E p s1 (Nat.le_trans hn (gu h1)) h2⟩
 | resume g r l k ih =>
  intro Q E p s hn h
  rw [Sem.wp] at h ⊢
  obtain⟨res,s1,h1,h2⟩:=h
  exact⟨res,s1,h1,ih res Q E p s1 (Nat.le_trans hn (mf h1)) h2⟩
 | fresh k ih =>
  intro Q E p s hn h
  rw [Sem.wp] at h ⊢
  exact ih _ Q E p _ (Nat.le_succ_of_le hn) h
 | load a part k ih =>
  intro Q E p s hn h
  rw [Sem.wp] at h ⊢
  obtain⟨o,h1,h2⟩:=h
  exact⟨o,h1,ih o Q E p s hn h2⟩
 | genState g k ih =>
  intro Q E p s hn h
  rw [Sem.wp] at h ⊢
  obtain⟨o,h1,h2⟩:=h
  exact⟨o,h1,ih _ Q E p s hn h2⟩
 | update a part f k ih =>
  intro Q E p s hn h
  rw [Sem.wp] at h ⊢
  exact⟨h.1,ih _ Q E p _ hn h.2⟩
 | choose src m k ih =>
  intro Q E p s hn h
  rw [Sem.wp] at h ⊢
  exact⟨h.1,ih _ Q E p _ hn h.2⟩
 | _ =>
  intro Q E p s hn h
  rw [Sem.wp] at h ⊢
  first
   | exact h
   | exact h.elim
   | (rename_i ih;exact ih _ Q E _ _ hn h)
theorem wpAny_toks {α:Type} {M:Model} {A:Around} {t:Sem α} {Q:α->Shared->Prop} {E:Value->Shared->Prop} {s:Shared} (n:Nat) (hn:n<=s.toks) (h:wpAny M A t Q E s):wpAny M A t (λa s'=>n<=s'.toks/\Q a s') (λe s'=>n<=s'.toks/\E e s') s :=
 λΓ p g=>wp_toks n t _ _ p s hn (h Γ p g)
open Builtin Builtin.Str
def wW:V->List V->Hp->VK->Prop:=λx xs H Q=>∃ z:Str,x=.str z/\xs=[]/\z.length<sizeLine/\∀ a,H a=none->Q (.ref a) (upd H a (.lst ((Txt.words z).map V.str)))
theorem kU:∀(l:List (Str × Tok)),Vals ((l.map (·.1)).map V.str) (strValues l)
 | []=>.nil
 | (x,t)::l=>.cons ⟨t,rfl⟩ (kU l)
theorem qm {X:Cx}:rY X "str.split" wW:=by
 intro pins s σ H x xs v us Q I rx r h
 obtain⟨z,rfl,rfl,hz,q⟩:=h
 obtain⟨t,rfl⟩:=rx
 cases r
 have ww:=StrLaws.words_weight z
 have sw:=StrLaws.sw_weight z
 have hn:(spaceWords z (z.length+1)).length<=sizeLine:=Nat.le_trans (StrLaws.len_le_wsum _) (Nat.le_trans sw.1 hz)
 have hw:((Txt.words z).map V.str).length<=sizeLine:=by
  rw [List.length_map]
  have:(Txt.words z).length<=z.length+1:=by omega
  exact Nat.le_trans this hz
 have fin:∀(l:List (Str × Tok)) (k:Nat),l.map (·.1)=Txt.words z->EP X pins σ Q (.ref s.heap.objs.size) { s with heap:=s.heap.push { cls:=.type "list",data:=.seq (strValues l).toArray },toks:=k }:=λl k e=>by
  refine⟨.ref s.heap.objs.size,upd H s.heap.objs.size (.lst ((Txt.words z).map V.str)),I.laid (t':=k) (λb u w=>Heap.get?_push_of_some _ w) (Nat.le_refl _) ⟨hw,strValues l,0,?_,Heap.get?_push_size _ rfl⟩,rfl,q _ (I.hok.fresh (Nat.le_refl _))⟩
  rw [<- e]
  exact kU l
 refine call_meets F.slot_str_split (typeIs_str _ _ _) F.entry_str_split (F.args_str_split_1 _) (meets_str_split_space z t (Nat.le_of_lt hz) hn) ?_
 cases hw:spaceWords z (z.length+1)==[(0,z.length)]
 ·simp only [Bool.false_eq_true,if_false]
  rw [strsFrom_eq]
  exact fin (numbered s.toks (PySem.wordsOf z)) _ ((numbered_texts _ _).trans (if_neg (ne_true_of_eq_false hw)).symm)
 ·simp only [if_true]
  exact fin [(z,t)] s.toks (if_pos hw).symm
def rZ (X:Cx) (e:Expr) (te:TE):Prop:=∀(pins:List (Addr × Obj)) (s:Shared) (σ:St) (H:Hp) (Q:VK),0<s.toks->Inv X pins σ H s->te σ H Q->wpAny (model X.prog X.w) X.A (eval e X.env) (EP X pins σ Q) X.xe s
theorem PE.t {X:Cx} {e:Expr} {te:TE} (h:PE X e te):rZ X e te:=λpins s σ H Q _ I q=>h pins s σ H Q I q
theorem xq {α:Type} {M:Model} {A:Around} {t:Sem α} {Q Q':α->Shared->Prop} {E:Value->Shared->Prop} {s:Shared} (hk:0<s.toks) (h:wpAny M A t Q E s) (f:∀ a s',0<s'.toks->Q a s'->Q' a s'):wpAny M A t Q' E s :=
 wpAny_mono (wpAny_toks 1 hk h) (λa s' q=>f a s' q.1 q.2) λ_ _ q=>q.2
def vv (y z:Str) (to:TE):TE:=λσ H Q=>to σ H λx H1=>∃ t:Str,x=.str t/\t.length+(t.length+1)*z.length<=16777216/\Q (.str (Txt.replace t y z)) H1
theorem kG {X:Cx} {o:Expr} {y z:Str} {to:TE} {j1 j2:Nat} {p1 p2 apos cpos:Pos} (ho:rZ X o to) (hyz:(y==z)=false)
  (hbase:attributeBase o "replace" X.env (eval o X.env)=eval o X.env:=by rfl)
  (hfew:((backTo cpos (starEach [.Constant (.str y) j1 p1,.Constant (.str z) j2 p2] X.env)).all (λx=>!x.1) && (backToKw cpos (keywordEach [] X.env)).all (λx=>x.1.isSome)
   && decide (([.Constant (.str y) j1 p1,.Constant (.str z) j2 p2]:List Expr).length+([]:List Keyword).length+(if ([]:List Keyword).isEmpty then 0 else 1)<30))=true:=by rfl)
  (hline:(apos.endLine==cpos.line)=true:=by rfl) (hs:starEach [.Constant (.str y) j1 p1,.Constant (.str z) j2 p2] X.env=(false,eval (.Constant (.str y) j1 p1) X.env)::starEach [.Constant (.str z) j2 p2] X.env:=by rfl)
  (hs2:starEach [.Constant (.str z) j2 p2] X.env=(false,eval (.Constant (.str z) j2 p2) X.env)::starEach [] X.env:=by rfl)
  (hplain:(backTo cpos (starEach [.Constant (.str z) j2 p2] X.env)).any (·.1)=false:=by rfl) :
  rZ X (.Call (.Attribute o "replace" apos) [.Constant (.str y) j1 p1,.Constant (.str z) j2 p2] [] cpos) (vv y z to):=by
 intro pins s σ H Q hk I h
 refine wpAny_Call_method_late hbase hfew hline rfl (xq hk (ho pins s σ H _ hk I h) λv s1 hk1 ⟨x,H1,I1,r1,t,ex,hb,q⟩=>?_)
 subst ex
 obtain⟨tk,rfl⟩:=r1
 refine⟨"str",_,F.plainAttrs_str,F.slot_str_replace,F.type_str_replace,typeIs_str _ _ _,(λ_ e=>nomatch e),?_⟩
 rw [hs]
 refine Calls.callWith_builtin (by show (false || (backTo cpos (starEach [.Constant (.str z) j2 p2] X.env)).any (·.1))=false;rw [hplain]<;>rfl) (Calls.evalArgs_plain ?_)
 show wpAny _ _ (spliced ((false,eval (.Constant (.str y) j1 p1) X.env)::backTo cpos (starEach [.Constant (.str z) j2 p2] X.env))) _ _ s1
 rw [hs2]
 refine Calls.spliced_cons (Calls.Constant_str (k:=j1) (pos:=p1) (Calls.spliced_cons (Calls.Constant_str (k:=j2) (pos:=p2) (Calls.spliced_nil ?_))))
 refine SC.replace (u:=s1.toks) (v:=s1.toks+1) (Nat.pos_iff_ne_zero.mp hk1) (Nat.succ_ne_zero _) (Nat.ne_of_lt (Nat.lt_succ_self _)) hyz hb λt' k=>?_
 exact⟨.str (Txt.replace t y z),H1,I1.kept (t':=k) λ_ _ w=>w,⟨t',rfl⟩,q⟩
def zY (X:Cx) (es:List Expr) (t:TA):Prop :=
 ∀(pos:Pos) (pins:List (Addr × Obj)) (s:Shared) (σ:St) (H:Hp) (Q:List V->Hp->Prop),0<s.toks->Inv X pins σ H s->t σ H Q->wpAny (model X.prog X.w) X.A (spliced (backTo pos (starEach es X.env))) (AP X pins σ Q) X.xe s
def sx (X:Cx) (st:Stmt) (t:TS):Prop :=
 ∀(pins:List (Addr × Obj)) (s:Shared) (σ:St) (H:Hp) (D:Ends),0<s.toks->Inv X pins σ H s->t D σ H->wpAny (model X.prog X.w) X.A (exec st X.env) (SP X pins D) X.xe s
def fY (X:Cx) (st:List Stmt) (t:TS):Prop :=
 ∀(pins:List (Addr × Obj)) (s:Shared) (σ:St) (H:Hp) (D:Ends),0<s.toks->Inv X pins σ H s->t D σ H->wpAny (model X.prog X.w) X.A (execs st X.env) (SP X pins D) X.xe s
def zZ (X:Cx) (tg iter:Expr) (wi:TI):Prop :=
 ∀(pins:List (Addr × Obj)) (s:Shared) (σ:St) (H:Hp) (R:It->Hp->Prop),0<s.toks->Inv X pins σ H s->wi σ H R ->
  wpAny (model X.prog X.w) X.A (eval iter X.env) (λv s1=>wpAny (model X.prog X.w) X.A (pyIter v) (xP X pins σ tg R) X.xe s1) X.xe s
def xN (X:Cx) (e:Expr) (te:TE):Prop:=∀(pins:List (Addr × Obj)) (s:Shared) (σ:St) (H:Hp) (Q:VK),Inv X pins σ H s->te σ H Q->wpAny (model X.prog X.w) X.A (eval e X.env) (λu s'=>0<s'.toks/\EP X pins σ Q u s') X.xe s
def xM (X:Cx) (es:List Expr) (t:TA):Prop :=
 ∀(pos:Pos) (pins:List (Addr × Obj)) (s:Shared) (σ:St) (H:Hp) (Q:List V->Hp->Prop),Inv X pins σ H s->t σ H Q->wpAny (model X.prog X.w) X.A (spliced (backTo pos (starEach es X.env))) (λus s'=>0<s'.toks/\AP X pins σ Q us s') X.xe s
def z7 (X:Cx) (st:Stmt) (t:TS):Prop :=
 ∀(pins:List (Addr × Obj)) (s:Shared) (σ:St) (H:Hp) (D:Ends),Inv X pins σ H s->t D σ H->wpAny (model X.prog X.w) X.A (exec st X.env) (λf s'=>0<s'.toks/\SP X pins D f s') X.xe s
section
variable {X:Cx} {st:Stmt} {rest:List Stmt} {t u:TS} {e o:Expr} {es:List Expr} {te to:TE} {ta:TA} {pos:Pos} {tg:Expr}
theorem zz (h:PS X st t):sx X st t:=λpins s σ H D _ I q=>h pins s σ H D I q
theorem qW (h:fU X rest t):fY X rest t:=λpins s σ H D _ I q=>h pins s σ H D I q
theorem fY.iJ (h:fY X.iJ rest t):fY X rest t:=λpins s σ H D hk I hw =>
 wpAny_mono (h pins s σ H D hk (I.fe _) hw) (λ_ _ q=>q.bZ) λ_ _ z=>False.elim z
theorem gq (h1:sx X st t) (h2:fY X rest u):fY X (st::rest) (bY t u):=by
 intro pins s σ H D hk I h
 refine wpAny_execs_cons (xq hk (h1 pins s σ H { D with nx:=u D } hk I h) λf s1 hk1 q=>?_)
 cases f with
 | next =>
  obtain⟨σ',H',I',q⟩:=q
  exact h2 pins s1 σ' H' D hk1 I' q
 | ret v=>exact q
 | brk=>exact q
 | cont=>exact q
theorem qX (h1:sx X st t):fY X [st] t:=by
 intro pins s σ H D hk I h
 refine wpAny_execs_cons (aR (h1 pins s σ H D hk I h) λf s1 q=>?_)
 cases f with
 | next=>exact wpAny_execs_nil q
 | ret v=>exact q
 | brk=>exact q
 | cont=>exact q
theorem lW (h1:sx X st t) (h2:fU X rest u):fY X (st::rest) (bY t u):=gq h1 (qW h2)
theorem oQ (h1:z7 X st t) (h2:fY X rest u):fU X (st::rest) (bY t u):=by
 intro pins s σ H D I h
 refine wpAny_execs_cons (aR (h1 pins s σ H { D with nx:=u D } I h) λf s1 q=>?_)
 cases f with
 | next =>
  obtain⟨hk1,σ',H',I',q⟩:=q
  exact h2 pins s1 σ' H' D hk1 I' q
 | ret v=>exact q.2
 | brk=>exact q.2
 | cont=>exact q.2
theorem wK {c:Expr} {a b:List Stmt} {tc:TT} (hc:PT X c tc) (ha:fY X a t) (hb:fY X b u):sx X (.If c a b pos) (uG tc t u):=by
 intro pins s σ H D hk I h
 refine wpAny_If (xq hk (hc pins s σ H _ I h) λd s1 hk1 ⟨H1,I1,q1⟩=>?_)
 cases d with
 | true=>exact ha pins s1 σ H1 D hk1 I1 q1
 | false=>exact hb pins s1 σ H1 D hk1 I1 q1
theorem uf (h:sx X st t):sx X st (yK t):=by
 intro pins s σ H D hk I ⟨R,hw,hR⟩
 refine aR (h pins s σ H _ hk I hw) λf s' q=>?_
 cases f with
 | next=>obtain⟨σ',H',I',r⟩:=q;exact⟨σ',H',I',hR _ _ r⟩
 | brk=>exact q
 | cont=>exact q
 | ret u=>exact q
theorem ui {i:Nat} {x:Str} {pos':Pos} (hN:X.N.Nodup) (hi:X.N[i]?=some x) (hx:Loc X.env.scope x) (he:rZ X e te) (hs:swapsWith e (some (.Name x pos')) pos.line X.env=pure false:=by rfl) (hf:X.fn x=true∨X.env.scope.names.lookup x=some .local:=by first | exact .inl rfl | exact .inr rfl | assumption) :
  sx X (.Assign [.Name x pos'] e pos) (l7 te (dQ i)):=by
 intro pins s σ H D hk I h
 refine wpAny_Assign_Name (aR (he pins s σ H _ hk I h) λv s1 ⟨y,H1,I1,r1,q1⟩=>?_) hs
 exact cK I1 hN hi hx r1 (λs2 I2=>⟨_,H1,I2,q1⟩) hf
theorem uh {i:Nat} {x:Str} {pos':Pos} (hN:X.N.Nodup) (hi:X.N[i]?=some x) (hx:Loc X.env.scope x) (he:xN X e te) (hs:swapsWith e (some (.Name x pos')) pos.line X.env=pure false:=by rfl) (hf:X.fn x=true∨X.env.scope.names.lookup x=some .local:=by first | exact .inl rfl | exact .inr rfl | assumption) :
  z7 X (.Assign [.Name x pos'] e pos) (l7 te (dQ i)):=by
 intro pins s σ H D I h
 refine wpAny_Assign_Name (aR (he pins s σ H _ I h) λv s1 ⟨hk1,y,H1,I1,r1,q1⟩=>?_) hs
 exact xq hk1 (cK I1 hN hi hx r1 (Q:=λ_ s2=>SP X pins D .next s2) (λs2 I2=>⟨_,H1,I2,q1⟩) hf) λ_ s2 hk2 q=>⟨hk2,q⟩
theorem tU {i j}:xN X (.Constant (.int i) j pos) (tC (.int i)):=λ_ s _ H _ I h=>wpAny_Constant_int ⟨Nat.succ_pos _,.int i,H,I.tok _,⟨_,rfl⟩,h⟩
theorem jq (ha:xN X e te) (hr:PA X es ta) (hs:starEach (e::es) X.env=(false,eval e X.env)::starEach es X.env:=by rfl):xM X (e::es) (cL te ta):=by
 intro pos pins s σ H Q I h
 rw [hs]
 show wpAny _ _ (spliced ((false,eval e X.env)::backTo pos (starEach es X.env))) _ _ s
 refine Calls.spliced_cons (aR (ha pins s σ H _ I h) λu s1 ⟨hk1,x,H1,I1,r1,q1⟩=>?_)
 exact xq hk1 (hr pos pins s1 σ H1 _ I1 q1) λus s2 hk2 ⟨xs,H2,I2,r2,q2⟩=>⟨hk2,x::xs,H2,I2,.cons r1 r2,q2⟩
theorem oM (ha:PE X e te) (hr:xM X es ta) (hs:starEach (e::es) X.env=(false,eval e X.env)::starEach es X.env:=by rfl):xM X (e::es) (cL te ta):=by
 intro pos pins s σ H Q I h
 rw [hs]
 show wpAny _ _ (spliced ((false,eval e X.env)::backTo pos (starEach es X.env))) _ _ s
 refine Calls.spliced_cons (aR (ha pins s σ H _ I h) λu s1 ⟨x,H1,I1,r1,q1⟩=>?_)
 exact aR (hr pos pins s1 σ H1 _ I1 q1) λus s2 ⟨hk2,xs,H2,I2,r2,q2⟩=>⟨hk2,x::xs,H2,I2,.cons r1 r2,q2⟩
theorem tX {x1} (h:xM X es ta):xN X (.Tuple es x1 pos) (rL ta):=by
 intro pins s σ H Q I hq
 refine wpAny_Tuple_spliced (aR (h pos pins s σ H _ I hq) λus s1 ⟨hk,xs,H1,I1,r,z,q⟩=>⟨by rw [<- r.length];exact z,?_⟩)
 have hf:H1 s1.heap.objs.size=none:=I1.hok.fresh (Nat.le_refl _)
 refine⟨hk,.ref s1.heap.objs.size,upd H1 s1.heap.objs.size (.tup xs),I1.laid (t':=s1.toks) (λb u e=>Heap.get?_push_of_some _ e) (Nat.le_refl _) ?_,rfl,q _ hf⟩
 exact⟨z,us,r,⟨_,Heap.get?_push_size _ rfl,rfl,_,rfl⟩⟩
theorem tV (h:xM X es ta):xN X (.List es pos) (uH ta):=by
 intro pins s σ H Q I hq
 refine wpAny_List_spliced (aR (h pos pins s σ H _ I hq) λus s1 ⟨hk,xs,H1,I1,r,z,q⟩=>⟨by rw [<- r.length];exact z,?_⟩)
 have hf:H1 s1.heap.objs.size=none:=I1.hok.fresh (Nat.le_refl _)
 refine⟨hk,.ref s1.heap.objs.size,upd H1 s1.heap.objs.size (.lst xs),I1.laid (t':=s1.toks) (λb u e=>Heap.get?_push_of_some _ e) (Nat.le_refl _) ?_,rfl,q _ hf⟩
 exact⟨z,us,0,r,Heap.get?_push_size _ rfl⟩
theorem qG (ha:rZ X e te) (hr:PA X es ta) (hs:starEach (e::es) X.env=(false,eval e X.env)::starEach es X.env:=by rfl):zY X (e::es) (cL te ta):=by
 intro pos pins s σ H Q hk I h
 rw [hs]
 show wpAny _ _ (spliced ((false,eval e X.env)::backTo pos (starEach es X.env))) _ _ s
 refine Calls.spliced_cons (aR (ha pins s σ H _ hk I h) λu s1 ⟨x,H1,I1,r1,q1⟩=>?_)
 exact aR (hr pos pins s1 σ H1 _ I1 q1) λus s2 ⟨xs,H2,I2,r2,q2⟩=>⟨x::xs,H2,I2,.cons r1 r2,q2⟩
theorem tW (h:zY X es ta):rZ X (.List es pos) (uH ta):=by
 intro pins s σ H Q hk I hq
 refine wpAny_List_spliced (aR (h pos pins s σ H _ hk I hq) λus s1 ⟨xs,H1,I1,r,z,q⟩=>⟨by rw [<- r.length];exact z,?_⟩)
 have hf:H1 s1.heap.objs.size=none:=I1.hok.fresh (Nat.le_refl _)
 refine⟨.ref s1.heap.objs.size,upd H1 s1.heap.objs.size (.lst xs),I1.laid (t':=s1.toks) (λb u e=>Heap.get?_push_of_some _ e) (Nat.le_refl _) ?_,rfl,q _ hf⟩
 exact⟨z,us,0,r,Heap.get?_push_size _ rfl⟩
theorem qQ {l:Expr} {tl:TE} (hl:rZ X l tl):zZ X tg l (mG X.K tl):=by
 intro pins s σ H R hk I h
 refine aR (hl pins s σ H _ hk I h) λv s1 ⟨x,H1,I1,r1,q1⟩=>?_
 obtain⟨a,e,⟨xs,hq⟩,q⟩:=q1
 subst e
 cases r1
 obtain⟨its,rv,p,hz⟩:=I1.list hq
 refine wpAny_pyIter_list p.isList ?_
 refine⟨s1.heap.objs.size,[s1.heap.objs.size],_,_,H1,rfl,I1.kept (t':=s1.toks) λb o e=>Heap.get?_push_of_some _ e,jw a _,⟨_,Heap.get?_push_size _ rfl,rfl,rfl⟩,λb hb=>?_,q⟩
 have e:b=s1.heap.objs.size:=by simpa using hb
 subst e
 exact I1.og (Nat.le_refl _) (I1.hok.fresh (Nat.le_refl _))
theorem tR {name:Str} {apos cpos:Pos} {T id:String} {r:V->List V->Hp->VK->Prop} (pa:PlainAttrs T) (slot:Slot T name id) (hty:typeOf (.builtin id)=pure (.type "method_descriptor")) (hm:rY X id r) (ho:rZ X o to)
  (hbase:attributeBase o name X.env (eval o X.env)=eval o X.env:=by rfl) (hline:(apos.endLine==cpos.line)=true:=by rfl):rZ X (.Call (.Attribute o name apos) [] [] cpos) (xc X.K T r to):=by
 intro pins s σ H Q hk I h
 refine wpAny_Call_method0_late hbase hline (aR (ho pins s σ H _ hk I h) λv s1 ⟨x,H1,I1,r1,ty,q1⟩=>?_)
 obtain⟨h1,h2⟩:=me I1 r1 ty
 exact⟨T,id,pa,slot,hty,h1,h2,Calls.callWith_builtin rfl (PySem.evalArgs_none (hm pins s1 σ H1 x [] v [] Q I1 r1 .nil q1))⟩
theorem ug {iter:Expr} {body:List Stmt} {wi:TI} {g:TG} {tb:TS} {pos:Pos} (hp:PassesOwn (model X.prog X.w) X.A X.env X.xe) (hc:X.calm=true) (hi:zZ X tg iter wi) (hg:PG X tg g) (hb:fU X body tb)
  (hs:∀ x,foldedSetIterable iter X.env x=pure x:=by intro _;rfl):sx X (.For tg iter body [] pos) (xi wi g tb):=by
 intro pins s σ H D hk I h
 refine wpAny_For (aR (hi pins s σ H _ hk I h) λv s1 h1=>aR h1 λitv s2 h2=>?_) hs
 obtain⟨it,fp,tn,J,H2,e,I2,T,st2,f2,W,⟨m0,w0⟩,turn⟩:=h2
 subst e
 have stat:∀{H':Hp},(∀ b∈fp,H' b=none)->∀ b∈fp,iK X pins H' b:=λhn b hb=>⟨hn b hb,(f2 b hb).2⟩
 refine codeAny_forLoop_any (λn s'=>∃ i σ' H',Inv X pins σ' H' s'/\tn i s'.heap/\(∀ b∈fp,H' b=none)/\W i n σ' H') ?_ m0 ⟨0,σ,H2,I2,st2,λb hb=>(f2 b hb).1,w0⟩
 rintro n s3 ⟨i,σ3,H3,I3,st3,fr3,w3⟩
 rcases turn i n σ3 H3 w3 with⟨stop,qn⟩|⟨go,N,hN,step⟩
 ·refine wpAny_passesOwn hp (aR (T.done X rfl rfl rfl hc i pins s3 σ3 H3 X.xe I3 (stat fr3) st3 stop) λr s4 ⟨hr,I4⟩=>?_)
  subst hr
  exact wpAny_execs_nil ⟨σ3,H3,I4,qn⟩
 ·refine wpAny_passesOwn hp (aR (T.item X rfl rfl rfl hc i pins s3 σ3 H3 X.xe I3 (stat fr3) st3 go) λr s4 ⟨u,hr,h4⟩=>?_)
  subst hr
  refine wpAny_passesOwn hp (aR h4 λ_ s5 ⟨x,H5,I5,r5,y5,st5,fr5⟩=>?_)
  have I5':=I5.pinned (stat fr5) (T.obj _ _ st5)
  refine wpAny_passesOwn hp (aR (hg _ s5 σ3 H5 x u _ I5' r5 (step x H5 y5)) λ_ s6 ⟨σ6,H6,I6,q6⟩=>?_)
  refine wpAny_passesOwn hp (aR (hb _ s6 σ6 H6 _ I6 q6) λf s7 q7=>?_)
  have again:∀{σ7:St} {H7:Hp},Inv X (pins++eY fp s5.heap) σ7 H7 s7->N σ7 H7->∃ m,m<n/\∃ i σ' H',Inv X pins σ' H' s7/\tn i s7.heap/\(∀ b∈fp,H' b=none)/\W i m σ' H':=λ{σ7 H7} I7 n7=>by
   obtain⟨m',hm,w7⟩:=hN σ7 H7 n7
   refine⟨m',hm,i+1,σ7,H7,I7.cM,T.keep _ _ _ st5 λb hb o e=>(I7.pin (b,o) (List.mem_append_right _ (List.mem_append_right _ (bW hb e)))).1,λb hb=>?_,w7⟩
   obtain⟨o,e,d⟩:=T.obj _ _ st5 b hb
   exact (I7.pin (b,o) (List.mem_append_right _ (List.mem_append_right _ (bW hb e)))).2.1
  cases f with
  | next=>obtain⟨σ7,H7,I7,n7⟩:=q7;exact again I7 n7
  | cont=>obtain⟨σ7,H7,I7,n7⟩:=q7;exact again I7 n7
  | brk=>obtain⟨σ7,H7,I7,q7⟩:=q7;exact⟨σ7,H7,I7.cM,q7⟩
  | ret v=>obtain⟨x7,σ7,H7,I7,r7,q7⟩:=q7;exact⟨x7,σ7,H7,I7.cM,r7,q7⟩
end
structure uP (P:Program) (w:World) (K:PySem.W.Frag) (mg:Str->Option Value) (base:Heap) (CX:eP) (k:Nat) (f:Addr) (fd:FuncData) (ps:List Str) (sp:Sp):Prop where
 len:∀ vs H Q E,sp vs H Q E->vs.length=ps.length
 run:∀(A:Around) (outer:List Env) (s:Shared) (H:Hp) (args:Args) (us:List Value) (vs:List V) (Q:VK) (E:XK),0<s.toks->bq k A->hJ P w K mg base A outer s H->BindsTo s fd args (ps.zip us)->Vals vs us->sp vs H Q E ->
  codeAny (model P w) A (.call (.ref f) args) (CR CX outer P w H s Q E) s
section
variable {P:Program} {w:World} {K:PySem.W.Frag} {mg:Str->Option Value} {base:Heap} {CX:eP} {k:Nat} {f:Addr} {x:Str} {N ps:List Str} {sp:Sp}
theorem vT {name qual:Str} {params:Arguments} {body:List Stmt} {scope:Scope} {dV kV doc pm cdv ct oc:Value} {an od:Option Addr}
  {osl:Array (Option Value)} (lk:K.lookup f=some ⟨oc,od,.func (PySem.W.fnOf name qual params body scope dV kV doc pm an cdv ct),osl⟩) (hcd:PySem.W.codeIn K cdv qual=true) (S:az N ps scope)
  (len:∀ vs H Q E,sp vs H Q E->vs.length=ps.length)
  (hbody:∀(A:Around) (outer:List Env) (s:Shared) (H:Hp) (vs:List V) (Q:VK) (E:XK),bq k (A.deeper (envOfC qual scope s.heap.objs.size f cdv))->sp vs H Q E ->
   ∃ t,fY (cQ CX P w K mg base N qual scope f cdv A outer s H E) body t/\t { nx:=λ_ H'=>Q .aQ H',rt:=Q } (start N vs) H) :
  uP P w K mg base CX (k+1) f (PySem.W.fnOf name qual params body scope dV kV doc pm an cdv ct) ps sp:=by
 refine⟨len,λA outer s H args us vs Q E hk hr e0 hb r hsp=>?_⟩
 have hl:=len _ _ _ _ hsp
 have KX:K.In s.heap:=e0.mod.kin.keeps λb o e=>(e0.bs b o e).1
 have lim:s.heap.NoLimit:=e0.mod.nolimit.keeps λb o e=>(e0.bs b o e).1
 have hkind:∀ y∈ps.zip us,scope.names.lookup y.1=some .local∨(scope.names.lookup y.1=some .cell/\((cellsFrom (s.heap.objs.size+1) scope.names []).lookup y.1).isSome=true):=fun⟨n,v⟩ hy=>by
  rcases S.par n (List.of_mem_zip hy).1 with q | q
  ·exact .inl q
  ·exact .inr ⟨q,PySem.W.cellsFrom_some _ _ _ (.inl q)⟩
 refine codeAny_call_function hr.depth (KX _ _ lk) rfl S.co S.gen rfl (PySem.W.codeRec_of KX hcd) (hb _ _ _ _ ?_)
 refine xq hk (wpAny_newFunctionEnv_cells S.kind hkind λenv he s1 x=>And.intro he x) λenv s1 hk1 ⟨he,x⟩=>?_
 subst he
 refine⟨lim.keeps x.toInCall.keep,codeAny_func ?_⟩
 obtain⟨t,ht,hq⟩:=hbody A outer s H vs Q E (hr.deeper _) hsp
 have I:Inv (cQ CX P w K mg base N qual scope f cdv A outer s H E) [] (start N vs) H s1:=gf S hr.hd e0 hl r x
 refine wpAny_mono (ht [] s1 (start N vs) H _ hk1 I hq) (λfl s' hs=>?_) λe s' hs=>hs
 have fin:∀{σ':St} {H':Hp} {v:V} {u:Value},Inv (cQ CX P w K mg base N qual scope f cdv A outer s H E) [] σ' H' s'->RelV v u->Q v H'->CE outer P w H s Q u s' :=
  λ{σ' H' v u} J rv q=>⟨v,H',J.os,J.bare,J.base,J.hok,rv,q⟩
 cases fl with
 | ret u =>
  obtain⟨v,σ',H',J,rv,q⟩:=hs
  exact fin J rv q
 | next =>
  obtain⟨σ',H',J,q⟩:=hs
  exact fin (v:=V.aQ) (u:=Value.none) J rfl q
 | brk =>
  obtain⟨_,_,_,q⟩:=hs
  exact False.elim q
 | cont =>
  obtain⟨_,_,_,q⟩:=hs
  exact False.elim q
structure gM (P:Program) (w:World) (K:PySem.W.Frag) (mg:Str->Option Value) (base:Heap) (CX:eP) (k:Nat) (x:Str) (ps:List Str) (sp:Sp):Prop where
 ex:∃ f fd,uP P w K mg base CX k f fd ps sp/\mg x=some (.ref f)/\PySem.W.keepIn K (.ref f)=true/\Binds K fd ps []
theorem lg {st:Stmt} (D:aC K mg x st)
  (hb:∀(kV doc pm:Value) (an:Option Addr) (cdv ct:Value) (us:List Value),us.length=ps.length->bindArgs (PySem.W.fnOf x x (aV st) (aG st) (ai st) .none kV doc pm an cdv ct) ⟨us,[]⟩=pure (ps.zip us))
  (S:az N ps (ai st)) (len:∀ vs H Q E,sp vs H Q E->vs.length=ps.length)
  (hbody:∀(f:Addr) (cdv:Value) (A:Around) (outer:List Env) (s:Shared) (H:Hp) (vs:List V) (Q:VK) (E:XK),bq k (A.deeper (envOfC x (ai st) s.heap.objs.size f cdv))->sp vs H Q E ->
   ∃ t,fY (cQ ba P w K mg base N x (ai st) f cdv A outer s H E).iJ (aG st) t/\t { nx:=λ_ H'=>Q .aQ H',rt:=Q } (start N vs) H):gM P w K mg base ba (k+1) x ps sp:=by
 obtain⟨f,fd,F,hm⟩:=D
 have b:=F.binds hb
 have kp:=F.kp
 obtain⟨oc,od,kV,doc,pm,an,cdv,ct,osl,rfl,lk,hcd⟩:=F.ex
 refine⟨f,_,vT lk hcd S len λA outer s H vs Q E hr hsp=>?_,hm,kp,b⟩
 obtain⟨t,h,q⟩:=hbody f cdv A outer s H vs Q E hr hsp
 exact⟨t,h.iJ,q⟩
end
section
variable {X:Cx} {CX:eP} {k:Nat} {f:Addr} {fd:FuncData} {ps:List Str} {sp:Sp} {E:XK} {x:Str} {p pos:Pos} {e:Expr} {es:List Expr} {t:TA}
theorem qP (C:gM X.prog X.w X.K X.mg X.base CX k x ps sp) (hr:bq k X.A) (hg:Gl X x) (hx:Passes CX X E)
  (ha:PA X (e::es) t) (hdb:(x==("__debug__":Str))=false:=by decide) (he:starEach (e::es) X.env=(false,eval e X.env)::starEach es X.env:=by rfl) (hpl:(backTo pos (starEach es X.env)).any (·.1)=false:=by rfl) :
  rZ X (.Call (.Name x p) (e::es) [] pos) (dI sp [] E t):=by
 obtain⟨f,fd,F,hm,hk0,hb⟩:=C.ex
 intro pins s σ H Q hk I h
 refine wpAny_Call_Name_kw (cS I hg hm ?_ hdb)
 refine PySem.W.callWith_K (h₀:=X.base) I.ok.mod.kin hk0 (xq hk (ha pos pins s σ H _ I h) λus s1 hk1 ⟨vs,H1,I1,r,q⟩=>⟨I1.dC,?_⟩) he hpl
 have q:sp (vs++[]) H1 Q E:=q
 rw [List.append_nil] at q
 have hl:(us++[]).length=ps.length:=by rw [List.append_nil,<- r.length];exact F.len _ _ _ _ q
 have bb:=hb s1 us I1.dC hl
 rw [List.append_nil] at bb
 refine wpAny_call (codeAny_mono (F.run X.A X.stack s1 H1 ⟨us,[]⟩ us vs Q E hk1 hr I1.pN bb r q) λr s' hq=>?_)
 cases r with
 | error e=>exact hx pins σ H1 s1 e s' I1 hq
 | ok fl =>
  cases fl with
  | ret u=>exact I1.after hq
  | next=>exact False.elim hq
  | brk=>exact False.elim hq
  | cont=>exact False.elim hq
theorem oO (C:Callee X.prog X.w X.K X.mg X.base CX k x ps sp) (hr:bq k X.A) (hg:Gl X x) (hx:Passes CX X E) (hdb:(x==("__debug__":Str))=false:=by decide):PE X (.Call (.Name x p) [] [] pos) (dI sp [] E iV):=by
 obtain⟨f,fd,F,hm,hk0,hb⟩:=C.ex
 exact qN F hr hg hm hk0 hb .nil hx hdb
end
end L2
namespace L2
open PySem PySem.Spec PyProof.Rows
structure dP (k:Nat) (A:Around):Prop where
 dp:A.depth+3*k+5<recursionLimit
 un:A.units+16*k+200<cLine
theorem dP.mono {j k:Nat} {A:Around} (r:dP k A) (h:j<=k):dP j A:=⟨by have:=r.dp;omega,by have:=r.un;omega⟩
theorem dP.deeper {k:Nat} {A:Around} (r:dP (k+1) A) (env:Env):dP k (A.deeper env) :=
 ⟨by have:=r.dp;show A.depth+1+3*k+5<_;omega,by have:=r.un;show A.units+3+16*k+200<_;omega⟩
theorem bq.zt {k:Nat} {A:Around} (r:bq k A) (o:Option Value):dP k (A.mark o):=⟨r.dp,r.un⟩
def ki (CX:eP) (P:Program) (w:World) (K:PySem.W.Frag) (mg:Str->Option Value) (base:Heap) (N:List Str) (qual:Str) (scope:Scope) (f:Addr) (cd:Value) (A:Around) (outer:List Env) (s:Shared) (H:Hp) (E:XK):Cx :=
 { cQ CX P w K mg base N qual scope f cd A outer s H E with calm:=false }
section
variable {CX:eP} {P:Program} {w:World} {K:PySem.W.Frag} {mg:Str->Option Value} {base:Heap} {k:Nat} {f:Addr} {fd:FuncData} {N ps:List Str} {sp:Sp}
theorem lF {qual:Str} {scope:Scope} {cd:Value} {A:Around} {outer:List Env} {s s1:Shared} {H:Hp} {E:XK} {us:List Value} {vs:List V}
  (S:az N ps scope) (e0:hJ P w K mg base A outer s H) (hl:vs.length=ps.length) (r:Vals vs us)
  (x:InCallC s s.heap.objs.size (bindL (envOfC qual scope s.heap.objs.size f cd).kindOf (ps.zip us) λ_=>none) (cellsFrom (s.heap.objs.size+1) scope.names []) (bindC (envOfC qual scope s.heap.objs.size f cd).kindOf (ps.zip us) λ_=>none) s1) :
  Inv (ki CX P w K mg base N qual scope f cd A outer s H E) [] (start N vs) H s1:=by
 have e1:hJ P w K mg base { A with handled:=none } outer s H:=⟨e0.frames,e0.mod,e0.bs,e0.bsz,e0.eT,e0.frf,e0.hok,e0.bare⟩
 have I:=gf (CX:=CX) (f:=f) (cd:=cd) (qual:=qual) (E:=E) S rfl e1 hl r x
 exact⟨⟨I.ok.mod,I.ok.kind,I.ok.glob,I.ok.blt,I.ok.above,I.ok.inj,I.ok.has,I.ok.cab,λz=>absurd (show false=true from z) (by decide),I.ok.frames,I.ok.stk,I.ok.exf,I.ok.bs,I.ok.bsz,I.ok.noex,I.ok.exfs,I.ok.eT,I.ok.frf⟩,I.os,I.bare,I.base,I.loc,I.cell,I.free,I.freeC,I.pin,I.hok,I.len⟩
structure uO (P:Program) (w:World) (K:PySem.W.Frag) (mg:Str->Option Value) (base:Heap) (CX:eP) (k:Nat) (f:Addr) (fd:FuncData) (ps:List Str) (sp:Sp):Prop where
 len:∀ vs H Q E,sp vs H Q E->vs.length=ps.length
 run:∀(A:Around) (outer:List Env) (s:Shared) (H:Hp) (args:Args) (us:List Value) (vs:List V) (Q:VK) (E:XK),dP k A->hJ P w K mg base A outer s H->BindsTo s fd args (ps.zip us)->Vals vs us->sp vs H Q E ->
  codeAny (model P w) A (.call (.ref f) args) (CR CX outer P w H s Q E) s
theorem vS {name qual:Str} {params:Arguments} {body:List Stmt} {scope:Scope} {dV kV doc pm cdv ct oc:Value} {an od:Option Addr}
  {osl:Array (Option Value)} (lk:K.lookup f=some ⟨oc,od,.func (PySem.W.fnOf name qual params body scope dV kV doc pm an cdv ct),osl⟩) (hcd:PySem.W.codeIn K cdv qual=true) (S:az N ps scope)
  (len:∀ vs H Q E,sp vs H Q E->vs.length=ps.length)
  (hbody:∀(A:Around) (outer:List Env) (s:Shared) (H:Hp) (vs:List V) (Q:VK) (E:XK),dP k (A.deeper (envOfC qual scope s.heap.objs.size f cdv))->sp vs H Q E ->
   ∃ t,fU (ki CX P w K mg base N qual scope f cdv A outer s H E) body t/\t { nx:=λ_ H'=>Q .aQ H',rt:=Q } (start N vs) H) :
  uO P w K mg base CX (k+1) f (PySem.W.fnOf name qual params body scope dV kV doc pm an cdv ct) ps sp:=by
 refine⟨len,λA outer s H args us vs Q E hr e0 hb r hsp=>?_⟩
 have hl:=len _ _ _ _ hsp
 have KX:K.In s.heap:=e0.mod.kin.keeps λb o e=>(e0.bs b o e).1
 have lim:s.heap.NoLimit:=e0.mod.nolimit.keeps λb o e=>(e0.bs b o e).1
 have hkind:∀ y∈ps.zip us,scope.names.lookup y.1=some .local∨(scope.names.lookup y.1=some .cell/\((cellsFrom (s.heap.objs.size+1) scope.names []).lookup y.1).isSome=true):=fun⟨n,v⟩ hy=>by
  rcases S.par n (List.of_mem_zip hy).1 with q | q
  ·exact .inl q
  ·exact .inr ⟨q,PySem.W.cellsFrom_some _ _ _ (.inl q)⟩
 have hdp:A.depth<recursionLimit:=by have:=hr.dp;omega
 refine codeAny_call_function hdp (KX _ _ lk) rfl S.co S.gen rfl (PySem.W.codeRec_of KX hcd) (hb _ _ _ _ ?_)
 refine wpAny_newFunctionEnv_cells S.kind hkind λenv he s1 x=>?_
 subst he
 refine⟨lim.keeps x.toInCall.keep,codeAny_func ?_⟩
 obtain⟨t,ht,hq⟩:=hbody A outer s H vs Q E (hr.deeper _) hsp
 have I:Inv (ki CX P w K mg base N qual scope f cdv A outer s H E) [] (start N vs) H s1:=lF S e0 hl r x
 refine wpAny_mono (ht [] s1 (start N vs) H _ I hq) (λfl s' hs=>?_) λe s' hs=>hs
 have fin:∀{σ':St} {H':Hp} {v:V} {u:Value},Inv (ki CX P w K mg base N qual scope f cdv A outer s H E) [] σ' H' s'->RelV v u->Q v H'->CE outer P w H s Q u s' :=
  λ{σ' H' v u} J rv q=>⟨v,H',J.os,J.bare,J.base,J.hok,rv,q⟩
 cases fl with
 | ret u =>
  obtain⟨v,σ',H',J,rv,q⟩:=hs
  exact fin J rv q
 | next =>
  obtain⟨σ',H',J,q⟩:=hs
  exact fin (v:=V.aQ) (u:=Value.none) J rfl q
 | brk =>
  obtain⟨_,_,_,q⟩:=hs
  exact False.elim q
 | cont =>
  obtain⟨_,_,_,q⟩:=hs
  exact False.elim q
structure dZ (P:Program) (w:World) (K:PySem.W.Frag) (mg:Str->Option Value) (base:Heap) (CX:eP) (k:Nat) (x:Str) (ps:List Str) (sp:Sp):Prop where
 ex:∃ f fd,uO P w K mg base CX k f fd ps sp/\mg x=some (.ref f)/\PySem.W.keepIn K (.ref f)=true/\Binds K fd ps []
theorem lb {st:Stmt} {x:Str} (D:aC K mg x st)
  (hb:∀(kV doc pm:Value) (an:Option Addr) (cdv ct:Value) (us:List Value),us.length=ps.length->bindArgs (PySem.W.fnOf x x (aV st) (aG st) (ai st) .none kV doc pm an cdv ct) ⟨us,[]⟩=pure (ps.zip us))
  (S:az N ps (ai st)) (len:∀ vs H Q E,sp vs H Q E->vs.length=ps.length)
  (hbody:∀(f:Addr) (cdv:Value) (A:Around) (outer:List Env) (s:Shared) (H:Hp) (vs:List V) (Q:VK) (E:XK),dP k (A.deeper (envOfC x (ai st) s.heap.objs.size f cdv))->sp vs H Q E ->
   ∃ t,fU (ki ba P w K mg base N x (ai st) f cdv A outer s H E).iJ (aG st) t/\t { nx:=λ_ H'=>Q .aQ H',rt:=Q } (start N vs) H):dZ P w K mg base ba (k+1) x ps sp:=by
 obtain⟨f,fd,F,hm⟩:=D
 have b:=F.binds hb
 have kp:=F.kp
 obtain⟨oc,od,kV,doc,pm,an,cdv,ct,osl,rfl,lk,hcd⟩:=F.ex
 refine⟨f,_,vS lk hcd S len λA outer s H vs Q E hr hsp=>?_,hm,kp,b⟩
 obtain⟨t,h,q⟩:=hbody f cdv A outer s H vs Q E hr hsp
 exact⟨t,h.iJ,q⟩
theorem qO {X:Cx} {E:XK} {e:Expr} {es:List Expr} {t:TA} {p pos:Pos} {x:Str} (D:dZ X.prog X.w X.K X.mg X.base CX k x ps sp) (hr:dP k X.A) (hg:Gl X x) (hx:Passes CX X E)
  (ha:PA X (e::es) t) (hdb:(x==("__debug__":Str))=false:=by decide) (he:starEach (e::es) X.env=(false,eval e X.env)::starEach es X.env:=by rfl) (hpl:(backTo pos (starEach es X.env)).any (·.1)=false:=by rfl) :
  PE X (.Call (.Name x p) (e::es) [] pos) (dI sp [] E t):=by
 obtain⟨f,fd,F,hm,hk,hb⟩:=D.ex
 intro pins s σ H Q I h
 refine wpAny_Call_Name_kw (cS I hg hm ?_ hdb)
 refine PySem.W.callWith_K (h₀:=X.base) I.ok.mod.kin hk (aR (ha pos pins s σ H _ I h) λus s1 ⟨vs,H1,I1,r,q⟩=>⟨I1.dC,?_⟩) he hpl
 replace q:sp (vs++[]) H1 Q E:=q
 rw [List.append_nil] at q
 have hl:us.length=ps.length:=by rw [<- r.length];exact F.len _ _ _ _ q
 have hb':=hb s1 us I1.dC (by rw [List.append_nil];exact hl)
 rw [List.append_nil] at hb'
 refine wpAny_call (codeAny_mono (F.run X.A X.stack s1 H1 ⟨us,[]⟩ us vs Q E hr I1.pN hb' r q) λr s' hq=>?_)
 cases r with
 | error e=>exact hx pins σ H1 s1 e s' I1 hq
 | ok fl =>
  cases fl with
  | ret u=>exact I1.after hq
  | next=>exact False.elim hq
  | brk=>exact False.elim hq
  | cont=>exact False.elim hq
end
end L2
namespace L2
open PySem PySem.Spec PyProof.Rows PySem.W
def vw (K:PySem.W.Frag) (B:Addr) (n:Option Nat) (sp:Sp) (ta:TA) (g:TG) (ts:TS):TS:=λD σ H=>ta σ H λvs H1=>sp vs H1 (λv H2=>g v σ H2 D.nx)
 (λcv xo H2=>∃ C x dd,cv=.ref C/\xo=some x/\H2 x=some (XO x C dd)/\a0 K C/\mroIn K C (.ref B)=some true/\ts (gC n D) (kr n x σ) H2)
section
variable {X:Cx} {B:Addr} {n:Option Nat} {hd:ExceptHandler} {ts:TS} {k:Nat} {f:Str} {ps:List Str} {sp:Sp} {e tg:Expr} {es:List Expr} {t:TA} {g:TG} {p cpos epos pos:Pos}
theorem uj (Cl:Callee X.prog X.w X.K X.mg X.base (kX X.prog X.w) k f ps sp) (hr:bq k X.A) (hg:Gl X f) (hst:X.stack=X.env::X.outer) (hfr:X.env.frame=some X.env.locals) (ht:PG X.iJ tg g) (ha:PA X.iJ (e::es) t) (hh:PH X n B hd ts)
  (hdb:(f==("__debug__":Str))=false:=by decide) (he:starEach (e::es) X.env=(false,eval e X.env)::starEach es X.env:=by rfl) (hpl:(backTo cpos (starEach es X.env)).any (·.1)=false:=by rfl)
  (hs:swapsWithSole [tg] (.Call (.Name f p) (e::es) [] cpos) epos.line X.env=pure false:=by rfl) (hw:swappedStores [tg] (.Call (.Name f p) (e::es) [] cpos) X.env=pure none:=by rfl)
  (h1:(assignEach [tg] X.env).map (·.2)=[assign tg X.env]:=by rfl) :
  PS X (.Try [.Assign [tg] (.Call (.Name f p) (e::es) [] cpos) epos] [hd] [] [] pos) (vw X.K B n sp t g ts):=by
 intro pins s σ H D I h
 obtain⟨fn,fd,F,hm,hk,hb⟩:=Cl.ex
 refine wpAny_Try_except (wpAny_execs_cons (wpAny_Assign_stores (wpAny_mono (vM F hr hg hm hk hb ha I h hdb he hpl) (λv s1 ⟨y,H1,I1,r1,q1⟩=>?_) λev s' ⟨H1,s1,I1,hq⟩=>?_) hs hw))
 ·rw [h1]
  exact wpAny_mono (ht pins s1 σ H1 y v _ (I1.fe _) r1 q1) (λ_ s2 ⟨σ',H',I',q⟩=>wpAny_execs_nil (wpAny_execs_nil ⟨σ',H',I'.bZ,q⟩)) λ_ _ z=>False.elim z
 ·exact vN hst hfr hh I1 hq λC x H' ⟨C',x',dd,e1,e2,_,c1,c2,c3⟩=>by cases e1;cases e2;exact⟨c1,c2,c3⟩
end
section
variable {CX:eP} {P:Program} {w:World} {K:PySem.W.Frag} {mg:Str->Option Value} {base:Heap} {k:Nat} {x:Str} {ps:List Str} {sp:Sp}
theorem dZ.calm (C:dZ P w K mg base CX k x ps sp):Callee P w K mg base CX k x ps sp:=by
 obtain⟨f,fd,F,a,b,c⟩:=C.ex
 exact⟨f,fd,⟨F.len,λA outer s H args us vs Q E hr=>F.run A outer s H args us vs Q E ⟨hr.dp,hr.un⟩⟩,a,b,c⟩
end
end L2
set_option maxHeartbeats 8000000
namespace K
open PySem PySem.Spec PyProof.Rows L2
def top (i:Nat):Stmt:=PySem.Challenge.pw_rootprime_k79_texts_of_no_thing.main.body.getD i (.Pass ⟨0,0,0,0⟩)
theorem mK {us:List Value} (h:us.length=1):∃ a,us=[a]:=match us,h with | [a],_=>⟨a,rfl⟩
theorem u4 {us:List Value} (h:us.length=2):∃ a b,us=[a,b]:=match us,h with | [a,b],_=>⟨a,b,rfl⟩
theorem u5 {us:List Value} (h:us.length=3):∃ a b c,us=[a,b,c]:=match us,h with | [a,b,c],_=>⟨a,b,c,rfl⟩
theorem u6 {us:List Value} (h:us.length=4):∃ a b c d,us=[a,b,c,d]:=match us,h with | [a,b,c,d],_=>⟨a,b,c,d,rfl⟩
theorem u7 {us:List Value} (h:us.length=5):∃ a b c d e,us=[a,b,c,d,e]:=match us,h with | [a,b,c,d,e],_=>⟨a,b,c,d,e,rfl⟩
theorem u9 {us:List Value} (h:us.length=6):∃ a b c d e f,us=[a,b,c,d,e,f]:=match us,h with | [a,b,c,d,e,f],_=>⟨a,b,c,d,e,f,rfl⟩
theorem gU {N P:List Str} {sc:Scope} (a:sc.kind=.function:=by exact rfl) (b:sc.isCoroutine=false:=by exact rfl) (c:sc.isGenerator=false:=by exact rfl) (d:N.Nodup:=by decide +kernel) (e:N.take P.length=P:=by exact rfl) (f:∀ x∈P,sc.names.lookup x=some .local∨sc.names.lookup x=some .cell:=by decide +kernel) (g:∀ y∈sc.names,y.2≠.free:=by decide +kernel):az N P sc:=⟨a,b,c,d,e,f,g⟩
theorem gN {F:PySem.W.Frag} {mg:Str->Option Value} {x:Str} {h:Heap} {f:Addr} {st:Stmt} {oc:Value} {od an:Option Addr} {osl:Array (Option Value)} {kV doc pm cdv ct:Value} (X:F.In h) (G:h.Ns mainGlobals mg) (a:PySem.W.nsIn F mainGlobals x=some (some (.ref f)):=by k_is) (l:F.lookup f=some ⟨oc,od,.func (PySem.W.fnOf x x (aV st) (aG st) (ai st) .none kV doc pm an cdv ct),osl⟩:=by k_is) (c:PySem.W.codeIn F cdv x=true:=by k_is) (kk:PySem.W.keepIn F (.ref f)=true:=by k_is):aC (fX X) mg x st:=pF X G a l c kk
theorem Aa {X:Cx} {N':List Str} {js:List (Option Nat)} {scope:Scope} {cl:List (Str × Addr)} (clos:closureFor scope X.env=pure cl) (kind:scope.kind=.function) (nocell:∀ y∈scope.names,y.2=.cell->scope.names.lookup y.1=some .cell/\∀ p∈js.zip N',p.1.isSome=true->p.2≠y.1:=by decide +kernel) (names:∀ y∈scope.names,y.2=.local->scope.names.lookup y.1=some .local:=by decide +kernel) (sub:AllIn X.env cl:=by repeat (first | exact True.intro | refine⟨rfl,?_⟩)) (has:fV cl scope.names:=by repeat (first | exact True.intro | refine⟨rfl,?_⟩ | refine⟨True.intro,?_⟩)) (j:fh X scope cl js N':=by repeat (first | exact True.intro | refine⟨⟨rfl,rfl,.inl rfl,.inl rfl⟩,?_⟩)):gZ X N' js scope cl:=vP clos kind nocell names sub has j
theorem bI {X:Cx} {pos:Pos} {i:Nat} {x:Str} {e:Expr} {te:TE} {pos':Pos} (hN:X.N.Nodup) (he:PE X e te) (hi:X.N[i]?=some x:=by exact rfl) (hx:Loc X.env.scope x:=by exact Or.inl rfl) (hs:swapsWith e (some (.Name x pos')) pos.line X.env=pure false:=by rfl) (hf:X.fn x=true∨X.env.scope.names.lookup x=some .local:=by first | exact .inl rfl | exact .inr rfl | assumption):PS X (.Assign [.Name x pos'] e pos) (l7 te (dQ i)):=wL hN hi hx he hs hf
theorem cm {X:Cx} {CX:eP} {k n:Nat} {x:Str} {ps:List Str} {sp:Sp} {E:XK} {e:Expr} {es:List Expr} {t:TA} {p pos:Pos} (C:Callee X.prog X.w X.K X.mg X.base CX k x ps sp) (hr:bq n X.A) (hx:Passes CX X E) (ha:PA X (e::es) t) (hm:k<=n:=by decide) (hg:Gl X x:=by exact rfl) (hdb:(x==("__debug__":Str))=false:=by decide) (he:starEach (e::es) X.env=(false,eval e X.env)::starEach es X.env:=by rfl) (hpl:(backTo pos (starEach es X.env)).any (·.1)=false:=by rfl):PE X (.Call (.Name x p) (e::es) [] pos) (dI sp [] E t):=cg C (hr.mono hm) hg hx ha hdb he hpl
theorem cO {P:Program} {w:World} {F:PySem.W.Frag} {mg:Str->Option Value} {base:Heap} {k:Nat} {x:Str} {ps:List Str} {sp:Sp} {st:Stmt} {N:List Str} (D:aC F mg x st) (S:az N ps (ai st))
  (hbody:∀(f:Addr) (cdv:Value) (A:Around) (outer:List Env) (s:Shared) (H:Hp) (vs:List V) (Q:VK) (E:XK),bq k (A.deeper (envOfC x (ai st) s.heap.objs.size f cdv))->sp vs H Q E->∃ t,fU (cQ ba P w F mg base N x (ai st) f cdv A outer s H E).iJ (aG st) t/\t { nx:=λ_ H'=>Q .aQ H',rt:=Q } (start N vs) H)
  (hb:∀(kV doc pm:Value) (an:Option Addr) (cdv ct:Value) (us:List Value),us.length=ps.length->bindArgs (PySem.W.fnOf x x (aV st) (aG st) (ai st) .none kV doc pm an cdv ct) ⟨us,[]⟩=pure (ps.zip us):=by
    intro _ _ _ _ _ _ us hl
    first | (obtain⟨_,rfl⟩:=mK hl;exact rfl) | (obtain⟨_,_,rfl⟩:=u4 hl;exact rfl) | (obtain⟨_,_,_,rfl⟩:=u5 hl;exact rfl) | (obtain⟨_,_,_,_,rfl⟩:=u6 hl;exact rfl) | (obtain⟨_,_,_,_,_,rfl⟩:=u7 hl;exact rfl) | (obtain⟨_,_,_,_,_,_,rfl⟩:=u9 hl;exact rfl))
  (len:∀ vs H Q E,sp vs H Q E->vs.length=ps.length:=by
    intro _ _ _ _ h
    first | (obtain⟨_,rfl,_⟩:=h;rfl) | (obtain⟨_,_,rfl,_⟩:=h;rfl) | (obtain⟨_,_,_,rfl,_⟩:=h;rfl) | (obtain⟨_,_,_,_,rfl,_⟩:=h;rfl) | (obtain⟨_,_,_,_,_,rfl,_⟩:=h;rfl) | (obtain⟨_,_,_,_,_,_,rfl,_⟩:=h;rfl) | (obtain⟨_,_,_,_,_,_,_,rfl,_⟩:=h;rfl) | (obtain⟨_,_,_,_,_,_,_,_,rfl,_⟩:=h;rfl) | (obtain⟨_,_,_,_,_,_,_,_,_,rfl,_⟩:=h;rfl) | (obtain⟨_,_,_,_,_,_,_,_,_,_,rfl,_⟩:=h;rfl) | (obtain⟨_,_,_,_,_,_,_,_,_,_,_,rfl,_⟩:=h;rfl) | (obtain⟨_,_,_,_,_,_,_,_,_,_,_,_,rfl,_⟩:=h;rfl) | (obtain⟨_,_,_,_,_,_,_,_,_,_,_,_,_,rfl,_⟩:=h;rfl) | (obtain⟨_,_,_,_,_,_,_,_,_,_,_,_,_,_,rfl,_⟩:=h;rfl) | (obtain⟨_,_,_,_,_,_,_,_,_,_,_,_,_,_,_,rfl,_⟩:=h;rfl)):Callee P w F mg base ba (k+1) x ps sp:=i9 D hb S len hbody
theorem cX {P:Program} {w:World} {F:PySem.W.Frag} {mg:Str->Option Value} {base:Heap} {k:Nat} {x:Str} {ps:List Str} {sp:Sp} {st:Stmt} {N:List Str} (D:aC F mg x st) (S:az N ps (ai st))
  (hbody:∀(f:Addr) (cdv:Value) (A:Around) (outer:List Env) (s:Shared) (H:Hp) (vs:List V) (Q:VK) (E:XK),bq k (A.deeper (envOfC x (ai st) s.heap.objs.size f cdv))->sp vs H Q E->∃ t,fU (cQ (kX P w) P w F mg base N x (ai st) f cdv A outer s H E) (aG st) t/\t { nx:=λ_ H'=>Q .aQ H',rt:=Q } (start N vs) H)
  (hb:∀(kV doc pm:Value) (an:Option Addr) (cdv ct:Value) (us:List Value),us.length=ps.length->bindArgs (PySem.W.fnOf x x (aV st) (aG st) (ai st) .none kV doc pm an cdv ct) ⟨us,[]⟩=pure (ps.zip us):=by
    intro _ _ _ _ _ _ us hl
    first | (obtain⟨_,rfl⟩:=mK hl;exact rfl) | (obtain⟨_,_,rfl⟩:=u4 hl;exact rfl) | (obtain⟨_,_,_,rfl⟩:=u5 hl;exact rfl) | (obtain⟨_,_,_,_,rfl⟩:=u6 hl;exact rfl) | (obtain⟨_,_,_,_,_,rfl⟩:=u7 hl;exact rfl) | (obtain⟨_,_,_,_,_,_,rfl⟩:=u9 hl;exact rfl))
  (len:∀ vs H Q E,sp vs H Q E->vs.length=ps.length:=by
    intro _ _ _ _ h
    first | (obtain⟨_,rfl,_⟩:=h;rfl) | (obtain⟨_,_,rfl,_⟩:=h;rfl) | (obtain⟨_,_,_,rfl,_⟩:=h;rfl) | (obtain⟨_,_,_,_,rfl,_⟩:=h;rfl) | (obtain⟨_,_,_,_,_,rfl,_⟩:=h;rfl) | (obtain⟨_,_,_,_,_,_,rfl,_⟩:=h;rfl) | (obtain⟨_,_,_,_,_,_,_,rfl,_⟩:=h;rfl) | (obtain⟨_,_,_,_,_,_,_,_,rfl,_⟩:=h;rfl) | (obtain⟨_,_,_,_,_,_,_,_,_,rfl,_⟩:=h;rfl) | (obtain⟨_,_,_,_,_,_,_,_,_,_,rfl,_⟩:=h;rfl) | (obtain⟨_,_,_,_,_,_,_,_,_,_,_,rfl,_⟩:=h;rfl) | (obtain⟨_,_,_,_,_,_,_,_,_,_,_,_,rfl,_⟩:=h;rfl) | (obtain⟨_,_,_,_,_,_,_,_,_,_,_,_,_,rfl,_⟩:=h;rfl) | (obtain⟨_,_,_,_,_,_,_,_,_,_,_,_,_,_,rfl,_⟩:=h;rfl) | (obtain⟨_,_,_,_,_,_,_,_,_,_,_,_,_,_,_,rfl,_⟩:=h;rfl)):Callee P w F mg base (kX P w) (k+1) x ps sp:=lh D hb S len hbody
end K
local macro_rules | `(tactic| k_data) => `(tactic| (iterate 2 ((try dsimp only [L2.bY, L2.zK, L2.yP, L2.cL, L2.iV, L2.zG, L2.gL, L2.tC, L2.xk, L2.rI, L2.ve, L2.rU, L2.Am, L2.rK, L2.l7, L2.dQ, L2.xm, L2.yQ, L2.rL, L2.uH, L2.zJ, L2.uG, L2.vp, L2.yI, L2.Aj, L2.yN, L2.vk, L2.yO, L2.vq, L2.tB, L2.yJ, L2.vo, L2.mF, L2.vU, L2.dI, L2.uF, L2.xj, L2.uX, L2.yb, L2.yc, L2.mG, L2.vZ, L2.Ak, L2.zL, L2.vt, L2.nA, L2.ny, L2.zB, L2.Af, L2.Ah, L2.xc, L2.AD, L2.x9, L2.vm, L2.vg, L2.vn, L2.jX, L2.ya, L2.vX, L2.zr, L2.uY, L2.rJ, L2.zP, L2.yS, L2.zO, L2.zN, L2.zM, L2.yR, L2.kr, L2.gC, L2.yM, L2.yL, L2.zI, L2.zF, L2.um, L2.zH, L2.uE, L2.xh, L2.xg, L2.xf, L2.vv, L2.vw, List.getElem?_cons_zero, List.getElem?_cons_succ, List.set_cons_zero, List.set_cons_succ, List.nil_append, List.cons_append, L2.xG, L2.Ay, L2.xW]); (try simp only [Option.some.injEq, exists_eq_left', exists_and_left, List.cons.injEq, L2.V.int.injEq, L2.V.bl.injEq, and_true, true_and, and_assoc, decide_eq_true_eq, List.append_nil, Int.reduceToNat, Int.reducePow, Int.reduceLT, Int.reduceLE, Int.reduceNeg, Int.zero_add, Nat.reducePow, Nat.reduceLT, Int.reduceAdd, Int.reduceSub, Int.reduceMul, L2.V.ref.injEq, L2.aX, L2.rQ, exists_eq_left, exists_eq', exists_eq, exists_const, L2.uu, L2.uq, L2.uv, L2.uw, L2.ux, L2.ur, L2.uy, reduceIte, reduceCtorEq, Bool.not_eq_true', decide_eq_false_iff_not, Int.reduceAbs, Bool.not_true, Bool.not_false, if_true, Bool.false_eq_true, if_false]))))
namespace K
open PySem PySem.Spec PyProof.Rows L2
section
variable {P:Program} {w:World} {K:PySem.W.Frag} {mg:Str->Option Value} {base:Heap}
theorem vK {i:Int} (h:(decide (i.natAbs<10^250))=true):Bd i:=Nat.lt_of_lt_of_le (of_decide_eq_true h) pk
def nB (l:Addr) (i j:Int):HO:=.dK [(Sum.inr "cells",.ref l),(Sum.inr "spot",.int i),(Sum.inr "left",.int j)]
def Tp (p:Addr) (n:Nat) (H:Hp):Prop:=∃(l:Addr) (i j:Int) (ns:List Int),H p=some (nB l i j)/\H l=some (.lst (ns.map V.int))/\ns.length<=63/\0<=i/\i<=n
def Off (p:Addr) (H H':Hp):Prop:=∀ b,b≠p->H' b=H b
def dk (p:Addr) (H H':Hp):Prop:=∀ b o,b≠p->H b=some o->H' b=some o
theorem Off.cf {p:Addr} {H H':Hp} (h:Off p H H'):dk p H H':=λb o n e=>by rw [h b n];exact e
theorem dk.trans {p:Addr} {H H1 H2:Hp} (h:dk p H H1) (h':dk p H1 H2):dk p H H2:=λb o n e=>h' b o n (h b o n e)
theorem Off.trans {p:Addr} {H H1 H2:Hp} (h:Off p H H1) (h':Off p H1 H2):Off p H H2:=λb n=>(h' b n).trans (h b n)
theorem dk.of {p:Addr} {H H':Hp} (h:aF H H'):dk p H H':=λb o _ e=>h b o e
theorem Off.xu {p:Addr} {H:Hp} {o:HO}:Off p H (upd H p o):=λb n=>ao n
theorem Tp.ne {p b:Addr} {n:Nat} {H:Hp} {o:HO} (h:Tp p n H) (e:H b=some o) (z:∀ kvs,o≠.dK kvs):b≠p:=by
 obtain⟨l,i,j,ns,a,_⟩:=h
 exact ji e a (z _)
theorem mQ:∀{L:List V},(∀ x∈L,∃ c,x=V.int c)->∃ ns:List Int,L=ns.map V.int
 | [],_=>⟨[],rfl⟩
 | x::L,h=>by
  obtain⟨c,e⟩:=h x (List.mem_cons_self ..)
  obtain⟨ns,z⟩:=mQ (L:=L) λy hy=>h y (List.mem_cons_of_mem _ hy)
  exact⟨c::ns,by rw [e,z];rfl⟩
theorem pB {ns:List Int} {lo hi:Option Int}:∃ ns':List Int,ly (ns.map V.int) lo hi=ns'.map V.int/\ns'.length<=ns.length:=by
 obtain⟨ns',e⟩:=mQ (L:=ly (ns.map V.int) lo hi) λx hx=>by
  unfold ly at hx
  obtain⟨c,_,e⟩:=List.mem_map.mp (List.mem_of_mem_drop (List.mem_of_mem_take hx))
  exact⟨c,e.symm⟩
 refine⟨ns',e,?_⟩
 have:=gB (ns.map V.int) lo hi
 rw [e,List.length_map,List.length_map] at this
 exact this
theorem fI:az ["_law_script"] ["_law_script"] (ai (top 27)):=gU
section
variable {H:Hp} {p l:Addr} {i j i' j':Int}
theorem jY (h:H p=some (nB l i j)):eQ H p (.str "left") (some (.int j)):=eQ.k (k:=Sum.inr "left") h
theorem uI (h:H p=some (nB l i j)):eQ H p (.str "spot") (some (.int i)):=eQ.k (k:=Sum.inr "spot") h
theorem rO (h:H p=some (nB l i j)):eQ H p (.str "cells") (some (.ref l)):=eQ.k (k:=Sum.inr "cells") h
theorem kR (h:H p=some (nB l i j)):j7 H p (.str "left") (.int j') (upd H p (nB l i j')):=.inl ⟨_,Sum.inr "left",h,rfl,by show 3<sizeLine;decide,rfl⟩
theorem rP (h:H p=some (nB l i j)):j7 H p (.str "spot") (.int i') (upd H p (nB l i' j)):=.inl ⟨_,Sum.inr "spot",h,rfl,by show 3<sizeLine;decide,rfl⟩
end
theorem fF:az ["_law_tape_here","_law_many","_law_found","_law_spot","_law_cells","_law_cell","_law_seed"] ["_law_tape_here","_law_many"] (ai (top 28)):=gU
end
end K
namespace L2
open PySem PySem.Spec PyProof.Rows
theorem pZ {X:Cx} (K:PySem.W.Frag) (h:X.K=K):vz X (qZ K):=h▸aW
theorem tZ {X:Cx} {pos:Pos} {es:List Expr} {k:Nat} {t:uR} {n:Nat} (K:PySem.W.Frag) (e:X.K=K) (hc:X.calm=true) (h:xO X es t)
  (hn:(assignEach es X.env).length=n:=by rfl) (hst:(assignEach es X.env).findIdx? (·.1)=none:=by rfl):PG X (.Tuple es k pos) (sV K n t):=e▸wG hc h hn hst
end L2
namespace K
open PySem PySem.Spec PyProof.Rows L2
section
variable {P:Program} {w:World} {K:PySem.W.Frag} {mg:Str->Option Value} {base:Heap}
def S (l:List Nat):Str:=⟨l.toArray⟩
theorem j9 (l:List Nat):(S l).cps.toList=l:=rfl
theorem aL (l:List Nat):(S l).length=l.length:=rfl
theorem kd (x:Str):x=S x.cps.toList:=by cases x;rfl
theorem iX (l m:List Nat):S l++S m=S (l++m):=by
 show (⟨l.toArray++m.toArray⟩:Str)=⟨(l++m).toArray⟩
 simp
theorem ph {l m:List Nat} (h:S l=S m):l=m:=by
 have:=congrArg (λx:Str=>x.cps.toList) h
 exact this
theorem pf {l:List Nat} {i:Nat}:(S l).cps[i]?=l[i]?:=by
 show l.toArray[i]?=l[i]?
 simp
theorem uZ {l:List Nat} {a:Nat}:∀{c:Nat},a+c<=l.length->((List.range c).map λk=>a+k).filterMap ((S l).cps[·]?)=(l.drop a).take c
 | 0,_=>by simp
 | c+1,h=>by
  have hl:a+c<l.length:=by omega
  rw [List.range_succ,List.map_append,List.filterMap_append,uZ (by omega),List.take_add_one]
  congr 1
  simp only [List.map_cons,List.map_nil,List.filterMap_cons,List.filterMap_nil,List.getElem?_drop]
  rw [pf,List.getElem?_eq_getElem hl]
  rfl
theorem idx_eq {i j n:Nat}:Builtin.Str.strSliceIndices (some (i:Int)) (some (j:Int)) 1 n=(List.range (min j n-min i n)).map λk=>min i n+k:=by
 unfold Builtin.Str.strSliceIndices sliceRange
 simp only [show (1:Int) > 0 by decide,if_true,if_neg (show ¬(i:Int)<0 by omega),if_neg (show ¬(j:Int)<0 by omega)]
 have e1:max 0 (min (i:Int) n)=((min i n:Nat):Int):=by omega
 have e2:max 0 (min (j:Int) n)=((min j n:Nat):Int):=by omega
 rw [e1,e2]
 have e3:(if ((min i n:Nat):Int)<((min j n:Nat):Int) then (((min j n:Nat):Int)-((min i n:Nat):Int)+1-1)/1 else 0).toNat=min j n-min i n:=by
  split
  ·rw [Int.ediv_one];omega
  ·simp;omega
 rw [e3]
 refine List.map_congr_left λk _=>?_
 omega
theorem gW {l:List Nat} {i j:Nat}:Txt.slice (S l) (some (i:Int)) (some (j:Int))=S ((l.drop i).take (j-i)):=by
 have key:(l.drop (min i l.length)).take (min j l.length-min i l.length)=(l.drop i).take (j-i):=by
  rcases Nat.lt_or_ge i l.length with h | h
  ·rw [Nat.min_eq_left (Nat.le_of_lt h)]
   rcases Nat.lt_or_ge j l.length with h2 | h2
   ·rw [Nat.min_eq_left (Nat.le_of_lt h2)]
   ·rw [Nat.min_eq_right h2,List.take_of_length_le (by rw [List.length_drop];omega),List.take_of_length_le (by rw [List.length_drop];omega)]
  ·rw [Nat.min_eq_right h,List.drop_length,List.drop_of_length_le h]
   simp
 unfold Txt.slice
 rw [aL,idx_eq]
 split
 ·rename_i h
  simp only [beq_self_eq_true,Bool.true_and,beq_iff_eq,List.length_map,List.length_range] at h
  rw [<- key]
  have:min i l.length=0/\min j l.length=l.length∨l.length=0:=by omega
  rcases this with⟨h1,h2⟩ | h1
  ·rw [h1,h2,List.drop_zero,Nat.sub_zero,List.take_length]
  ·have:l=[]:=List.length_eq_zero_iff.mp h1
   subst this
   simp
 ·rw [uZ (by omega),key]
  rfl
def run (sg:List Nat):Nat->List Nat->Nat
 | 0,_=>0
 | _+1,[]=>0
 | m+1,c::r=>if c∈sg then run sg m r+1 else 0
theorem cI {sg:List Nat}:∀{m:Nat} {r:List Nat},run sg m r<=m/\run sg m r<=r.length
 | 0,r=>⟨Nat.le_refl _,Nat.zero_le _⟩
 | m+1,[]=>⟨Nat.zero_le _,Nat.zero_le _⟩
 | m+1,c::r=>by
  have:=cI (sg:=sg) (m:=m) (r:=r)
  unfold run
  split
  ·exact⟨by omega,by rw [List.length_cons];omega⟩
  ·exact⟨Nat.zero_le _,Nat.zero_le _⟩
theorem rh {sg:List Nat}:∀{k m:Nat} {r:List Nat},k<=run sg m r->run sg m r=k+run sg (m-k) (r.drop k)
 | 0,m,r,_=>by simp
 | k+1,0,r,h=>by simp [run] at h
 | k+1,m+1,[],h=>by simp [run] at h
 | k+1,m+1,c::r,h=>by
  have e:run sg (m+1) (c::r)=if c∈sg then run sg m r+1 else 0:=rfl
  rw [e] at h ⊢
  by_cases hc:c∈sg
  ·rw [if_pos hc] at h ⊢
   have:=rh (sg:=sg) (k:=k) (m:=m) (r:=r) (by omega)
   rw [List.drop_succ_cons,Nat.add_sub_add_right]
   omega
  ·rw [if_neg hc] at h
   omega
def rC:Sp:=λvs H Q _=>∃(l sg:List Nat) (i m:Nat),vs=[.str (S l),.int i,.str (S sg),.int m]/\i<=l.length/\l.length<=10^6/\Q (.int ((i+run sg m (l.drop i):Nat):Int)) H
theorem iD:az ["text","at","signs","most","end"] ["text","at","signs","most"] (ai (top 15)):=gU
theorem wy (D:aC K mg "run_end" (top 15)) (n_len:mg "len"=none):Callee P w K mg base ba 1 "run_end" ["text","at","signs","most"] rC:=by
 refine cO D iD (λf cdv A outer s H vs Q E hr h=>?_)
 obtain⟨l,sg,i,m,rfl,il,l6,q⟩:=h
 have nd:=iD.nd
 refine⟨_,(af (bI (i:=4) nd (pv 1)) (af (kL PassesOwn.never (PW.pt (bO (ar fv (pv 4) (aw aT rfl n_len PySem.boot_len (aa (pv 0) ae)) (au _)) (bO (ar fv (ay cH (pv 4) (pv 1)) (pv 3) (au _)) (cD (ar cE (bC (pv 0) (pv 4) (λ_ _=>rfl)) (pv 2) (by with_unfolding_all rfl)))))) (ak (qU (i:=4) nd rfl (Or.inl rfl) ag (u1 mH)))) (ak (aB (pv 4))))),?_⟩
 show bY _ _ _ [some (.str (S l)),some (.int i),some (.str (S sg)),some (.int m),none] H
 k_data
 refine kW (α:=Nat) (λk=>[some (.str (S l)),some (.int (i:Int)),some (.str (S sg)),some (.int (m:Int)),some (.int ((i+k:Nat):Int))]) (λk H'=>H'=H/\k<=run sg m (l.drop i)) (λk=>l.length-k) 0 rfl ⟨rfl,Nat.zero_le _⟩ ?_
 rintro k H' ⟨rfl,hk⟩
 replace hk:k<=run sg m (l.drop i):=hk
 k_data
 have sz:l.length<=sizeLine:=Nat.le_trans l6 (by decide)
 have rl:=cI (sg:=sg) (m:=m) (r:=l.drop i)
 rw [List.length_drop] at rl
 have ra:=rh hk
 rw [List.drop_drop] at ra
 refine⟨_,rfl,sz,?_⟩
 have done:run sg (m-k) (l.drop (i+k))=0->Q (V.int ((i+k:Nat):Int)) H':=λz=>by
  rw [z,Nat.add_zero] at ra
  rw [ra] at q
  exact q
 refine aM (λc1=>?_) (λc1=>done ?_)
 rotate_left
 ·rw [aL] at c1
  rw [List.drop_of_length_le (by omega)]
  cases m-k<;>rfl
 rw [aL] at c1
 refine aM (λc2=>?_) (λc2=>done ?_)
 rotate_left
 ·rw [show m-k=0 by omega]
  rfl
 have hl:i+k<l.length:=by omega
 obtain⟨m',hm⟩:∃ m',m-k=m'+1:=⟨m-k-1,by omega⟩
 have hd:l.drop (i+k)=l[i+k]::l.drop (i+k+1):=List.drop_eq_getElem_cons hl
 refine⟨_,rfl,by omega,by omega,by rw [aL];omega,l[i+k],by rw [Int.toNat_natCast,pf];exact List.getElem?_eq_getElem hl,?_⟩
 have fo:=PySem.StrLaws.found_one (S sg) l[i+k]
 rw [j9] at fo
 refine⟨_,rfl,_,rfl,?_⟩
 refine aM (λc3=>?_) (λc3=>done ?_)
 rotate_left
 ·rw [hm,hd]
  show (if l[i+k]∈sg then _ else 0)=0
  rw [if_neg λz=>c3 (by rw [decide_eq_true z] at fo;simpa using fo)]
 replace c3:l[i+k]∈sg:=by
  rw [c3] at fo
  simpa using fo
 refine⟨_,λ_ _ z=>z,k+1,?_,rfl,?_,?_⟩
 ·rw [show ((i+(k+1):Nat):Int)=((i+k:Nat):Int)+1 by omega]
 ·have e:run sg (m-k) (l.drop (i+k))=run sg m' (l.drop (i+k+1))+1:=by
   rw [hm,hd]
   show (if l[i+k]∈sg then _ else 0)=_
   rw [if_pos c3]
  show k+1<=run sg m (l.drop i)
  omega
 ·show l.length-(k+1)<l.length-k
  omega
def bJ:List Nat:=[48,49,50,51,52,53,54,55,56,57]
def b0:List Nat:=[97,98,99,100,101,102,103,104,105,106,107,108,109,110,111,112,113,114,115,116,117,118,119,120,121,122]
def sh:List Nat:=[45,40,41,32]
theorem uT:Str.ofString "0123456789"=S bJ:=by decide +kernel
theorem mN:Str.ofString "abcdefghijklmnopqrstuvwxyz"=S b0:=by decide +kernel
theorem xU:Str.ofString "-() "=S sh:=by decide +kernel
theorem qg:Str.ofString "-"=S [45]:=by decide +kernel
theorem xA:Str.ofString "0"=S [48]:=by decide +kernel
def aJ (r:List Nat):Nat:=if r.head?=some 45 then (if r.tail.head?=some 48 then 0 else if run bJ 60 r.tail=0 then 0 else run bJ 60 r.tail+1) else if r.head?=some 48 then 1 else run bJ 60 r
theorem take1 {r:List Nat} {c:Nat}:V.str (S (r.take 1))=V.str (S [c])↔r.head?=some c:=by
 constructor
 ·intro h
  have h:=ph (V.str.inj h)
  cases r with
  | nil=>cases h
  | cons x xs=>cases h;rfl
 ·intro h
  cases r with
  | nil=>cases h
  | cons x xs=>cases h;rfl
theorem lZ {l:List Nat} {i:Nat}:Txt.slice (S l) (some (i:Int)) (some ((i:Int)+1))=S ((l.drop i).take 1):=by
 rw [show (i:Int)+1=((i+1:Nat):Int) by omega,gW,show i+1-i=1 by omega]
theorem oF {r:List Nat}:aJ r<=r.length:=by
 have h1:=(cI (sg:=bJ) (m:=60) (r:=r)).2
 have h2:=(cI (sg:=bJ) (m:=60) (r:=r.tail)).2
 unfold aJ
 rw [List.length_tail] at h2
 split
 ·split
  ·omega
  ·split
   ·omega
   ·omega
 ·split
  ·cases r with
   | nil=>simp at *
   | cons x xs=>simp
  ·omega
def kO:Sp:=λvs H Q _=>∃(l:List Nat) (i:Nat),vs=[.str (S l),.int i]/\i<=l.length/\l.length<=10^6/\Q (.int ((i+aJ (l.drop i):Nat):Int)) H
theorem eL:az ["text","at","first","end"] ["text","at"] (ai (top 16)):=gU
theorem oH (D:aC K mg "number_end" (top 16)) (c_run_end:Callee P w K mg base ba 1 "run_end" ["text","at","signs","most"] rC) (g_FIGURES:∃ t,mg "FIGURES"=some (.str "0123456789" t)) (g_MOST_FIGURES:∃ t,mg "MOST_FIGURES"=some (.int 60 t)):Callee P w K mg base ba 2 "number_end" ["text","at"] kO:=by
 refine cO D eL (λf cdv A outer s H vs Q E hr h=>?_)
 obtain⟨l,i,rfl,il,l6,q⟩:=h
 obtain⟨t1,g_FIGURES⟩:=g_FIGURES
 obtain⟨t2,g_MOST_FIGURES⟩:=g_MOST_FIGURES
 have nd:=eL.nd
 refine⟨_,(af (bI (i:=2) nd (cj (ar aI (bN e7 (pv 0) (bH (pv 1)) (bH (ay aY (pv 1) ag))) aq (au _)) (ay aY (pv 1) ag) (pv 1))) (af (aH (ar aI (bN e7 (pv 0) (bH (pv 2)) (bH (ay aY (pv 2) ag))) aq (au _)) (ak (aB (cj (ar aI (pv 2) (pv 1) (au _)) (ay aY (pv 1) ag) (pv 1)))) aE) (af (bI (i:=3) nd (cm c_run_end hr aD (aa (pv 0) (aa (pv 2) (aa (bf (v:=.str "0123456789") rfl g_FIGURES ⟨_,rfl⟩) (aa (bf (v:=.int 60) rfl g_MOST_FIGURES ⟨_,rfl⟩) ae)))))) (ak (aB (cj (ar eF (pv 3) (pv 2) (au _)) (pv 3) (pv 1))))))),?_⟩
 show bY _ _ _ [some (.str (S l)),some (.int i),none,none] H
 have sz:l.length<=sizeLine:=Nat.le_trans l6 (by decide)
 k_data
 refine⟨_,rfl,sz,rfl,?_⟩
 rw [lZ,qg]
 refine aM (λc1=>?_) (λc1=>?_)
 ·rw [take1] at c1
  have hne:l.drop i≠[]:=λz=>by rw [z] at c1;cases c1
  have il':i<l.length:=by
   rcases Nat.lt_or_ge i l.length with z | z
   ·exact z
   ·exact absurd (List.drop_of_length_le z) hne
  have et:(l.drop i).tail=l.drop (i+1):=by rw [List.tail_drop]
  have en:aJ (l.drop i)=if (l.drop (i+1)).head?=some 48 then 0 else if run bJ 60 (l.drop (i+1))=0 then 0 else run bJ 60 (l.drop (i+1))+1:=by
   unfold aJ
   rw [if_pos c1,et]
  refine⟨_,rfl,sz,rfl,?_⟩
  rw [show (i:Int)+1=((i+1:Nat):Int) by omega,lZ,xA]
  refine aM (λc2=>?_) (λc2=>?_)
  ·rw [take1] at c2
   rw [if_neg (by omega)]
   rw [en,if_pos c2,Nat.add_zero] at q
   exact q
  ·rw [take1] at c2
   rw [if_neg c2] at en
   rw [uT]
   refine⟨l,bJ,i+1,60,rfl,by omega,l6,_,rfl,?_⟩
   refine aM (λc3=>?_) (λc3=>?_)
   ·rw [if_neg (by omega)] at en
    rw [en] at q
    rw [show i+1+run bJ 60 (l.drop (i+1))=i+(run bJ 60 (l.drop (i+1))+1) by omega]
    exact q
   ·rw [if_pos (by omega)] at en
    rw [en,Nat.add_zero] at q
    exact q
 ·rw [take1] at c1
  have en:aJ (l.drop i)=if (l.drop i).head?=some 48 then 1 else run bJ 60 (l.drop i):=by
   unfold aJ
   rw [if_neg c1]
  refine⟨_,rfl,sz,rfl,?_⟩
  rw [lZ,xA]
  refine aM (λc2=>?_) (λc2=>?_)
  ·rw [take1] at c2
   rw [en,if_pos c2] at q
   exact q
  ·rw [take1] at c2
   rw [en,if_neg c2] at q
   rw [uT]
   refine⟨l,bJ,i,60,rfl,il,l6,_,rfl,?_⟩
   refine aM (λc3=>q) (λc3=>?_)
   rw [show run bJ 60 (l.drop i)=0 by omega,Nat.add_zero] at q
   exact q
def aA (r:List Nat):Nat:=if aJ r=0 then (if run b0 8 r=0 then run sh 1 r else run b0 8 r) else aJ r
def pc (r:List Nat):List Nat:=r.take (aA r)
theorem fA {r:List Nat}:aA r<=r.length:=by
 have h1:=(cI (sg:=b0) (m:=8) (r:=r)).2
 have h2:=(cI (sg:=sh) (m:=1) (r:=r)).2
 have h3:=oF (r:=r)
 unfold aA
 split
 ·split<;>omega
 ·omega
def nc:Sp:=λvs H Q _=>∃(l:List Nat) (i:Nat),vs=[.str (S l),.int i]/\i<=l.length/\l.length<=10^6/\Q (.str (S (pc (l.drop i)))) H
def zX (H0:Hp) (l:List Nat) (i k:Nat) (σ':L2.St) (H':Hp):Prop:=H'=H0/\σ'=[some (.str (S l)),some (.int (i:Int)),some (.int ((i+k:Nat):Int))]
theorem gF:az ["text","at","end"] ["text","at"] (ai (top 22)):=gU
theorem qv (D:aC K mg "piece_at" (top 22)) (c_run_end:Callee P w K mg base ba 1 "run_end" ["text","at","signs","most"] rC) (c_number_end:Callee P w K mg base ba 2 "number_end" ["text","at"] kO) (g_LETTERS:∃ t,mg "LETTERS"=some (.str "abcdefghijklmnopqrstuvwxyz" t)) (g_MOST_LETTERS:∃ t,mg "MOST_LETTERS"=some (.int 8 t)):Callee P w K mg base ba 3 "piece_at" ["text","at"] nc:=by
 refine cO D gF (λf cdv A outer s H vs Q E hr h=>?_)
 obtain⟨l,i,rfl,il,l6,q⟩:=h
 obtain⟨t1,g_LETTERS⟩:=g_LETTERS
 obtain⟨t2,g_MOST_LETTERS⟩:=g_MOST_LETTERS
 have nd:=gF.nd
 refine⟨_,(af (bI (i:=2) nd (cm c_number_end hr aD (aa (pv 0) (aa (pv 1) ae)))) (af (gj (aH (ar aI (pv 2) (pv 1) (au _)) (ak (bI (i:=2) nd (cm c_run_end hr aD (aa (pv 0) (aa (pv 1) (aa (bf (v:=.str "abcdefghijklmnopqrstuvwxyz") rfl g_LETTERS ⟨_,rfl⟩) (aa (bf (v:=.int 8) rfl g_MOST_LETTERS ⟨_,rfl⟩) ae))))))) aE)) (af (gj (aH (ar aI (pv 2) (pv 1) (au _)) (ak (bI (i:=2) nd (cm c_run_end hr aD (aa (pv 0) (aa (pv 1) (aa aq (aa ag ae))))))) aE)) (ak (aB (bN e7 (pv 0) (bH (pv 1)) (bH (pv 2)))))))),?_⟩
 show bY _ _ _ [some (.str (S l)),some (.int i),none] H
 have sz:l.length<=sizeLine:=Nat.le_trans l6 (by decide)
 k_data
 refine⟨l,i,rfl,il,l6,?_⟩
 refine⟨λσ' H'=>zX H l i (if aJ (l.drop i)=0 then run b0 8 (l.drop i) else aJ (l.drop i)) σ' H',?_,?_⟩
 ·k_data
  refine aM (λc=>?_) (λc=>?_)
  ·rw [mN]
   refine⟨l,b0,i,8,rfl,il,l6,rfl,?_⟩
   rw [if_pos (by omega)]
  ·refine⟨rfl,?_⟩
   rw [if_neg (by omega)]
 rintro σ' H' ⟨rfl,rfl⟩
 refine⟨λσ' H''=>zX H' l i (aA (l.drop i)) σ' H'',?_,?_⟩
 ·k_data
  refine aM (λc=>?_) (λc=>?_)
  ·rw [xU]
   refine⟨l,sh,i,1,rfl,il,l6,rfl,?_⟩
   unfold aA
   have c':(if aJ (l.drop i)=0 then run b0 8 (l.drop i) else aJ (l.drop i))=0:=by omega
   by_cases z:aJ (l.drop i)=0
   ·rw [if_pos z] at c' ⊢
    rw [if_pos c']
   ·rw [if_neg z] at c'
    exact absurd c' z
  ·refine⟨rfl,?_⟩
   unfold aA
   have c':(if aJ (l.drop i)=0 then run b0 8 (l.drop i) else aJ (l.drop i))≠0:=by omega
   by_cases z:aJ (l.drop i)=0
   ·rw [if_pos z] at c'
    rw [if_pos z,if_pos z,if_neg c']
   ·rw [if_neg z,if_neg z]
 rintro σ' H'' ⟨rfl,rfl⟩
 k_data
 refine⟨_,rfl,sz,?_⟩
 rw [gW,show i+aA (l.drop i)-i=aA (l.drop i) by omega]
 exact q
theorem oK:Str.ofString "("=S [40]:=by decide +kernel
theorem nU:Str.ofString ")"=S [41]:=by decide +kernel
theorem vL:Str.ofString " "=S [32]:=by decide +kernel
theorem vQ:Str.ofString ""=S []:=by decide +kernel
def ms (ah p:List Nat) (d:Nat):Bool:=if p=[] then false else if p=[41] then decide (0<d) && decide (ah≠[32]) else if p=[32] then decide (0<d) && decide (ah≠[40]/\ah≠[32]) else decide (ah=[]∨ah=[40]∨ah=[32]) && decide (p≠[40]∨d<80)
theorem iM {a b:List Nat}:V.str (S a)=V.str (S b)↔a=b:=⟨λh=>ph (V.str.inj h),λh=>by rw [h]⟩
theorem zi {a b:List Nat}:S a=S b↔a=b:=⟨ph,λh=>by rw [h]⟩
def vi:Sp:=λvs H Q _=>∃(ah p:List Nat) (d:Nat),vs=[.str (S ah),.str (S p),.int d]/\∀ H',aF H H'->Q (.bl (ms ah p d)) H'
theorem fL:az ["ahead","piece","depth"] ["ahead","piece","depth"] (ai (top 23)):=gU
theorem wu (D:aC K mg "may_stand" (top 23)) (g_DEEPEST:∃ t,mg "DEEPEST"=some (.int 80 t)):Callee P w K mg base ba 1 "may_stand" ["ahead","piece","depth"] vi:=by
 refine cO D fL (λf cdv A outer s H vs Q E hr h=>?_)
 obtain⟨ah,p,d,rfl,q⟩:=h
 obtain⟨t1,g_DEEPEST⟩:=g_DEEPEST
 have nd:=fL.nd
 refine⟨_,(af (aH (ar aI (pv 1) aq (au _)) (ak (aB fB)) aE) (af (aH (ar aI (pv 1) aq (au _)) (ak (aB (ix (a9 eF (pv 2) ag (au _)) (gi (a9 jo (pv 0) aq (au _)))))) aE) (af (aH (ar aI (pv 1) aq (au _)) (ak (aB (ix (a9 eF (pv 2) ag (au _)) (gi (a9 jL (pv 0) (df (aa aq (aa aq ae))) (by with_unfolding_all rfl)))))) aE) (ak (aB (ix (a9 gh (pv 0) (df (aa aq (aa aq (aa aq ae)))) (by with_unfolding_all rfl)) (gi (yx (a9 jo (pv 1) aq (au _)) (gi (a9 fv (pv 2) (bf (v:=.int 80) rfl g_DEEPEST ⟨_,rfl⟩) (au _))))))))))),?_⟩
 show bY _ _ _ [some (.str (S ah)),some (.str (S p)),some (.int d)] H
 k_data
 simp only [vQ,nU,vL,oK,iM]
 have qq:∀ b H',aF H H'->b=ms ah p d->Q (.bl b) H':=λb H' s' e=>e▸q H' s'
 refine aM (λc0=>?_) (λc0=>?_)
 ·refine qq _ _ (aF.refl _) ?_
  unfold ms
  rw [if_pos c0]
 refine aM (λc1=>?_) (λc1=>?_)
 ·have e:ms ah p d=(decide (0<d) && decide (ah≠[32])):=by
   unfold ms
   rw [if_neg c0,if_pos c1]
  refine aM (λc=>?_) (λc=>?_)
  ·refine qq _ _ (aF.refl _) ?_
   rw [e,decide_eq_true (show 0<d by omega),Bool.true_and]
   simp
  ·refine qq _ _ (aF.refl _) ?_
   rw [e,decide_eq_false (show ¬0<d by omega),Bool.false_and]
 refine aM (λc2=>?_) (λc2=>?_)
 ·have e:ms ah p d=(decide (0<d) && decide (ah≠[40]/\ah≠[32])):=by
   unfold ms
   rw [if_neg c0,if_neg c1,if_pos c2]
  refine aM (λc=>?_) (λc=>?_)
  ·refine⟨by show 2<=sizeLine;decide,λa1 h1=>?_⟩
   have s1:=av (o:=.tup [V.str (S [40]),V.str (S [32])]) h1
   refine⟨a1,_,rfl,.inr (br.of aj),rfl,rfl,qq _ _ s1 ?_⟩
   rw [e,decide_eq_true (show 0<d by omega),Bool.true_and,Bool.eq_iff_iff]
   simp [sW,kn,zi]
   exact⟨fun⟨z,y⟩=>⟨λh=>z h.symm,λh=>y h.symm⟩,fun⟨z,y⟩=>⟨λh=>z h.symm,λh=>y h.symm⟩⟩
  ·refine qq _ _ (aF.refl _) ?_
   rw [e,decide_eq_false (show ¬0<d by omega),Bool.false_and]
 ·have e:ms ah p d=(decide (ah=[]∨ah=[40]∨ah=[32]) && decide (p≠[40]∨d<80)):=by
   unfold ms
   rw [if_neg c0,if_neg c1,if_neg c2]
  refine⟨by show 3<=sizeLine;decide,λa1 h1=>?_⟩
  have s1:=av (o:=.tup [V.str (S []),V.str (S [40]),V.str (S [32])]) h1
  refine⟨a1,_,rfl,.inr (br.of aj),rfl,rfl,_,rfl,?_⟩
  have ei:sW (V.str (S ah)) [V.str (S []),V.str (S [40]),V.str (S [32])]=decide (ah=[]∨ah=[40]∨ah=[32]):=by
   rw [Bool.eq_iff_iff]
   simp [sW,kn,zi]
   exact⟨λz=>z.imp id (λy=>y.imp Eq.symm Eq.symm),λz=>z.imp id (λy=>y.imp Eq.symm Eq.symm)⟩
  refine aM (λc=>?_) (λc=>?_)
  ·have c':sW (V.str (S ah)) [V.str (S []),V.str (S [40]),V.str (S [32])]=true:=c
   rw [<- ei,c',Bool.true_and] at e
   refine aM (λc3=>qq _ _ s1 ?_) (λc3=>qq _ _ s1 ?_)
   ·rw [e,decide_eq_true (.inl c3)]
   ·have c3:p=[40]:=Classical.byContradiction c3
    rw [e,Bool.eq_iff_iff,decide_eq_true_eq,decide_eq_true_eq,c3]
    constructor
    ·exact λz=>.inr (by omega)
    ·exact λz=>z.elim (λy=>absurd rfl y) λy=>by omega
  ·have c':sW (V.str (S ah)) [V.str (S []),V.str (S [40]),V.str (S [32])]=false:=by
    rw [<- Bool.not_eq_true];exact c
   refine qq _ _ s1 ?_
   rw [e,<- ei,c',Bool.false_and]
def val (p:List Nat):PyData:=if p=[45] then .none else if p.headD 0∈b0 then .str (S p) else .int ((intText? (S p)).getD 0)
def yY (p:List Nat):Prop:=p≠[]/\(p=[45]∨p.headD 0∈b0∨(p.length<=100/\∃ n,intText? (S p)=some n))
def nk (K:PySem.W.Frag):Sp:=λvs H Q _=>∃ p:List Nat,vs=[.str (S p)]/\yY p/\∀ v,dv K H (val p) v->Q v H
theorem gG:az ["piece"] ["piece"] (ai (top 25)):=gU
theorem wz (D:aC K mg "value_of" (top 25)) (g_LETTERS:∃ t,mg "LETTERS"=some (.str "abcdefghijklmnopqrstuvwxyz" t)) (n_int:mg "int"=none):Callee P w K mg base ba 1 "value_of" ["piece"] (nk K):=by
 refine cO D gG (λf cdv A outer s H vs Q E hr h=>?_)
 obtain⟨p,rfl,ok,q⟩:=h
 obtain⟨t1,g_LETTERS⟩:=g_LETTERS
 have nd:=gG.nd
 refine⟨_,(af (aH (ar aI (pv 0) aq (au _)) (ak (aB de)) aE) (ak (aB (cj (ar cE (bC (pv 0) ag (λ_ _=>rfl)) (bf (v:=.str "abcdefghijklmnopqrstuvwxyz") rfl g_LETTERS ⟨_,rfl⟩) (by with_unfolding_all rfl)) (pv 0) (bo i8 rfl n_int L2.boot_int (aa (pv 0) ae)))))),?_⟩
 show bY _ _ _ [some (.str (S p))] H
 k_data
 simp only [qg,iM]
 refine aM (λc=>q _ ?_) (λc=>?_)
 ·unfold val
  rw [if_pos c]
  exact rfl
 obtain⟨ne,ok⟩:=ok
 obtain⟨x,r,rfl⟩:∃ x r,p=x::r:=by
  cases p with
  | nil=>exact absurd rfl ne
  | cons x r=>exact⟨x,r,rfl⟩
 refine⟨_,rfl,by rw [aL,List.length_cons];omega,x,rfl,_,rfl,_,rfl,?_⟩
 have fo:=PySem.StrLaws.found_one (S b0) x
 rw [j9] at fo
 rw [mN]
 refine aM (λc3=>q _ ?_) (λc3=>?_)
 ·rw [c3] at fo
  unfold val
  rw [if_neg c,if_pos (by simpa using fo)]
  exact rfl
 ·have nl:x∉b0:=λz=>c3 (by rw [decide_eq_true z] at fo;simpa using fo)
  rcases ok with z | z | ⟨l1,n,hn⟩
  ·exact absurd z c
  ·exact absurd z nl
  ·refine⟨S (x::r),n,rfl,hn,by rw [aL];omega,q _ ?_⟩
   unfold val
   rw [if_neg c,if_neg (show ¬(x::r).headD 0∈b0 from nl),hn]
   exact rfl
structure iN (K:PySem.W.Frag) (H:Hp) (op:Addr) (ls:List Addr) (st:List (List PyData)):Prop where
 top:H op=some (.lst (ls.map V.ref))
 len:ls.length=st.length
 nd:(op::ls).Nodup
 it:∀(i:Nat) (l:Addr) (ds:List PyData),ls[i]?=some l->st[i]?=some ds->∃ vs,H l=some (.lst vs)/\aZ K H ds vs
 nl:∀ ds∈st,cR ds=true
 few:st.length<=100
 sm:∀ ds∈st,ds.length<=10^6
def put (st:List (List PyData)) (p:List Nat):List (List PyData) :=
 if p=[40] then st++[[]] else if p=[41] then (st.dropLast).dropLast++[(st.dropLast).getLast?.getD []++[.tuple (st.getLast?.getD [])]] else if p=[32] then st else st.dropLast++[st.getLast?.getD []++[val p]]
theorem nF {p:List Nat}:lO (val p)=true:=by
 unfold val
 split
 ·rfl
 ·split<;>rfl
theorem qo {a b:List PyData}:cR (a++b)=(cR a && cR b):=by
 induction a with
 | nil=>simp [cR]
 | cons x xs ih=>simp [cR,ih,Bool.and_assoc]
theorem iN.app {H:Hp} {op l:Addr} {ls:List Addr} {st:List (List PyData)} {ds:List PyData} {vs:List V} {d:PyData} {v:V} (h:iN K H op (ls++[l]) (st++[ds])) (hl:H l=some (.lst vs)) (hd:dv K H d v) (nd:lO d=true) (sz:ds.length<10^6):iN K (upd H l (.lst (vs++[v]))) op (ls++[l]) (st++[ds++[d]]):=by
 have nd0:=h.nd
 have ol:op≠l:=λz=>by
  rw [List.nodup_cons] at nd0
  exact nd0.1 (by rw [z];simp)
 have sb:SameBut l H (upd H l (.lst (vs++[v]))):=λb o nb e=>by rw [ao nb];exact e
 have ll:ls.length=st.length:=by
  have:=h.len
  rw [List.length_append,List.length_append,List.length_singleton,List.length_singleton] at this
  omega
 have nld:cR ds=true:=h.nl ds (by simp)
 refine⟨by rw [ao ol];exact h.top,by rw [List.length_append,List.length_append,ll];rfl,h.nd,λi l' ds' e1 e2=>?_,λds' h'=>?_,?_,λds' h'=>?_⟩
 ·rcases Nat.lt_or_ge i ls.length with z | z
  ·rw [List.getElem?_append_left z] at e1
   rw [List.getElem?_append_left (by omega)] at e2
   obtain⟨vs',a1,a2⟩:=h.it i l' ds' (by rw [List.getElem?_append_left z];exact e1) (by rw [List.getElem?_append_left (by omega)];exact e2)
   have nl':l'≠l:=λz'=>by
    rw [List.nodup_cons] at nd0
    have:=(List.nodup_append.mp nd0.2).2.2 l' (List.mem_of_getElem? e1) l (by simp)
    exact this z'
   exact⟨vs',by rw [ao nl'];exact a1,aZ.but hl sb ds' (h.nl ds' (List.mem_append_left _ (List.mem_of_getElem? e2))) a2⟩
  ·have i0:i=ls.length:=by
    have:=(List.getElem?_eq_some_iff.mp e1).1
    rw [List.length_append,List.length_singleton] at this
    omega
   subst i0
   rw [List.getElem?_append_right (Nat.le_refl _),Nat.sub_self] at e1
   rw [List.getElem?_append_right (by omega),show ls.length-st.length=0 by omega] at e2
   cases e1
   cases e2
   obtain⟨vs',a1,a2⟩:=h.it ls.length l ds (by rw [List.getElem?_append_right (Nat.le_refl _),Nat.sub_self];rfl) (by rw [List.getElem?_append_right (by omega),show ls.length-st.length=0 by omega];rfl)
   rw [hl] at a1
   cases a1
   exact⟨_,aj,(aZ.but hl sb ds nld a2).append ⟨v,[],rfl,dv.but hl sb d nd hd,rfl⟩⟩
 ·rcases List.mem_append.mp h' with z | z
  ·exact h.nl ds' (List.mem_append_left _ z)
  ·cases List.mem_singleton.mp z
   rw [qo,nld]
   simp [cR,nd]
 ·have:=h.few
  rw [List.length_append,List.length_singleton] at this ⊢
  exact this
 ·rcases List.mem_append.mp h' with z | z
  ·exact h.sm ds' (List.mem_append_left _ z)
  ·cases List.mem_singleton.mp z
   rw [List.length_append,List.length_singleton]
   omega
theorem iN.same {H H':Hp} {op:Addr} {ls:List Addr} {st:List (List PyData)} (h:iN K H op ls st) (s:aF H H'):iN K H' op ls st :=
 ⟨s _ _ h.top,h.len,h.nd,λi l ds e1 e2=>by
  obtain⟨vs,a1,a2⟩:=h.it i l ds e1 e2
  exact⟨vs,s _ _ a1,aZ.same s _ a2⟩,h.nl,h.few,h.sm⟩
theorem iN.ne {H:Hp} {op l:Addr} {ls:List Addr} {st:List (List PyData)} (h:iN K H op ls st) (hl:l∈ls):l≠op:=λz=>by
 have:=h.nd
 rw [List.nodup_cons] at this
 exact this.1 (z▸hl)
theorem iN.pop {H:Hp} {op l:Addr} {ls:List Addr} {st:List (List PyData)} {ds:List PyData} (h:iN K H op (ls++[l]) (st++[ds])):iN K (upd H op (.lst (ls.map V.ref))) op ls st:=by
 have nd0:=h.nd
 have sb:SameBut op H (upd H op (.lst (ls.map V.ref))):=λb o nb e=>by rw [ao nb];exact e
 have ll:ls.length=st.length:=by
  have:=h.len
  rw [List.length_append,List.length_append,List.length_singleton,List.length_singleton] at this
  omega
 refine⟨aj,ll,?_,λi l' ds' e1 e2=>?_,λds' h'=>h.nl ds' (List.mem_append_left _ h'),?_,λds' h'=>h.sm ds' (List.mem_append_left _ h')⟩
 ·rw [<- List.cons_append] at nd0
  exact (List.nodup_append.mp nd0).1
 ·have z1:=(List.getElem?_eq_some_iff.mp e1).1
  have z2:=(List.getElem?_eq_some_iff.mp e2).1
  obtain⟨vs,a1,a2⟩:=h.it i l' ds' (by rw [List.getElem?_append_left z1];exact e1) (by rw [List.getElem?_append_left z2];exact e2)
  have hne:=h.ne (List.mem_append_left _ (List.mem_of_getElem? e1))
  exact⟨vs,by rw [ao hne];exact a1,aZ.but h.top sb ds' (h.nl ds' (List.mem_append_left _ (List.mem_of_getElem? e2))) a2⟩
 ·have:=h.few
  rw [List.length_append,List.length_singleton] at this
  omega
theorem iN.push {H:Hp} {op n:Addr} {ls:List Addr} {st:List (List PyData)} (h:iN K H op ls st) (f:H n=none) (l9:st.length<100):iN K (upd (upd H n (.lst [])) op (.lst (ls.map V.ref++[V.ref n]))) op (ls++[n]) (st++[[]]):=by
 have nd0:=h.nd
 have s1:=av (o:=.lst []) f
 have on:n≠op:=λz=>by rw [z,h.top] at f;cases f
 have nin:n∉ls:=λz=>by
  obtain⟨i,hi,e⟩:=List.mem_iff_getElem.mp z
  have e1:ls[i]?=some n:=by rw [<- e];exact List.getElem?_eq_getElem hi
  obtain⟨vs,a1,_⟩:=h.it i n (st[i]'(by have:=h.len;omega)) e1 (List.getElem?_eq_getElem _)
  rw [f] at a1
  cases a1
 have t1:=s1 _ _ h.top
 have sb:SameBut op (upd H n (.lst [])) (upd (upd H n (.lst [])) op (.lst (ls.map V.ref++[V.ref n]))):=λb o nb e=>by rw [ao nb];exact e
 refine⟨by rw [aj,List.map_append];rfl,by rw [List.length_append,List.length_append,h.len];rfl,?_,λi l' ds' e1 e2=>?_,λds' h'=>?_,by rw [List.length_append,List.length_singleton];omega,λds' h'=>?_⟩
 ·rw [List.nodup_cons] at nd0 ⊢
  refine⟨λz=>?_,List.nodup_append.mpr ⟨nd0.2,by simp,λa ha b hb=>?_⟩⟩
  ·rcases List.mem_append.mp z with y | y
   ·exact nd0.1 y
   ·exact on (List.mem_singleton.mp y).symm
  ·cases List.mem_singleton.mp hb
   exact λz=>nin (z▸ha)
 ·rcases Nat.lt_or_ge i ls.length with z | z
  ·have ll:=h.len
   rw [List.getElem?_append_left z] at e1
   rw [List.getElem?_append_left (by omega)] at e2
   obtain⟨vs,a1,a2⟩:=h.it i l' ds' e1 e2
   have hne:=h.ne (List.mem_of_getElem? e1)
   exact⟨vs,by rw [ao hne];exact s1 _ _ a1,aZ.but t1 sb ds' (h.nl ds' (List.mem_of_getElem? e2)) (aZ.same s1 _ a2)⟩
  ·have ll:=h.len
   have i0:i=ls.length:=by
    have:=(List.getElem?_eq_some_iff.mp e1).1
    rw [List.length_append,List.length_singleton] at this
    omega
   subst i0
   rw [List.getElem?_append_right (Nat.le_refl _),Nat.sub_self] at e1
   rw [List.getElem?_append_right (by omega),show ls.length-st.length=0 by omega] at e2
   cases e1
   cases e2
   exact⟨[],by rw [ao on,aj],rfl⟩
 ·rcases List.mem_append.mp h' with z | z
  ·exact h.nl ds' z
  ·cases List.mem_singleton.mp z
   rfl
 ·rcases List.mem_append.mp h' with z | z
  ·exact h.sm ds' z
  ·cases List.mem_singleton.mp z
   decide
theorem bz {α:Type} {l:List α} (h:1<=l.length):∃ a x,l=a++[x]:=by
 rcases List.eq_nil_or_concat l with z | ⟨a,x,z⟩
 ·subst z;simp at h
 ·exact⟨a,x,by rw [z,List.concat_eq_append]⟩
def vj (K:PySem.W.Frag):Sp:=λvs H Q _=>∃(op:Addr) (ls:List Addr) (st:List (List PyData)) (p:List Nat),vs=[.ref op,.str (S p)]/\iN K H op ls st/\1<=st.length/\st.length<=90/\(p=[41]->2<=st.length)/\(p≠[40]->p≠[41]->p≠[32]->yY p)/\(∀ ds∈st,ds.length<10^6)/\∀ ls' H',iN K H' op ls' (put st p)->(∀ b o,b∉op::ls->H b=some o->H' b=some o)->(∀ b∈ls',b∈ls∨H b=none)->Q .aQ H'
theorem eO:az ["opened","piece","things"] ["opened","piece"] (ai (top 24)):=gU
theorem wx (D:aC K mg "put_behind" (top 24)) (c_value_of:Callee P w K mg base ba 1 "value_of" ["piece"] (nk K)) (n_tuple:mg "tuple"=none):Callee P w K mg base ba 2 "put_behind" ["opened","piece"] (vj K):=by
 refine cO D eO (λf cdv A outer s H vs Q E hr h=>?_)
 obtain⟨op,ls,st,p,rfl,sk,s1,s9,pc2,ok,sm,q⟩:=h
 have nd:=eO.nd
 refine⟨_,(ak (aH (ar aI (pv 1) aq (au _)) (ak (cW (eG PySem.F.plainAttrs_list PySem.F.slot_list_append PySem.F.type_list_append bX (pv 0) (aa (bA ae) ae)))) (ak (aH (ar aI (pv 1) aq (au _)) (af (bI (i:=2) nd (qM PySem.F.plainAttrs_list PySem.F.slot_list_pop PySem.F.type_list_pop ql (pv 0))) (ak (cW (eG PySem.F.plainAttrs_list PySem.F.slot_list_append PySem.F.type_list_append bX (bT aW (pv 0) (mV j4 ag) (λ_ _=>rfl)) (aa (bo dc rfl n_tuple L2.boot_tuple (aa (pv 2) ae)) ae))))) (ak (aH (ar jo (pv 1) aq (au _)) (ak (cW (eG PySem.F.plainAttrs_list PySem.F.slot_list_append PySem.F.type_list_append bX (bT aW (pv 0) (mV j4 ag) (λ_ _=>rfl)) (aa (cm c_value_of hr aD (aa (pv 1) ae)) ae)))) aE)))))),?_⟩
 show uG _ _ _ _ [some (.ref op),some (.str (S p)),none] H
 k_data
 simp only [oK,nU,vL,iM]
 refine aM (λc0=>?_) (λc0=>?_)
 ·subst c0
  refine⟨.inl ⟨rfl,_,aP.of sk.top⟩,by show 0<=sizeLine;decide,λn hn=>?_⟩
  have s1':=av (o:=.lst []) hn
  have lsz:ls.length<=100:=by have:=sk.len;have:=sk.few;omega
  refine⟨op,_,_,rfl,rfl,s1' _ _ sk.top,by rw [List.length_map];exact Nat.lt_of_le_of_lt lsz (by decide),?_⟩
  refine q (ls++[n]) _ (by unfold put;rw [if_pos rfl];exact sk.push hn (by omega)) (λb o nb e=>?_) λb hb=>?_
  ·rw [ao (λz=>nb (by rw [z];exact List.mem_cons_self))]
   exact s1' _ _ e
  ·rcases List.mem_append.mp hb with z | z
   ·exact .inl z
   ·rw [List.mem_singleton.mp z]
    exact .inr hn
 refine aM (λc1=>?_) (λc1=>?_)
 ·subst c1
  obtain⟨st1,ds,rfl⟩:=bz s1
  have p2:=pc2 rfl
  rw [List.length_append,List.length_singleton] at p2
  obtain⟨st0,ds1,rfl⟩:=bz (show 1<=st1.length by omega)
  have ll:=sk.len
  obtain⟨ls1,l,rfl⟩:=bz (l:=ls) (by rw [ll];exact s1)
  rw [List.length_append,List.length_append,List.length_singleton,List.length_singleton] at ll
  obtain⟨ls0,l1,rfl⟩:=bz (l:=ls1) (by omega)
  rw [List.length_append,List.length_append,List.length_singleton,List.length_singleton] at ll
  obtain⟨vs,a1,a2⟩:=sk.it (ls0.length+1) l ds (by rw [List.getElem?_append_right (by simp)];simp) (by rw [List.getElem?_append_right (by simp;omega)];simp [show ls0.length=st0.length by omega])
  have P:=sk.pop
  have lo:l≠op:=sk.ne (by simp)
  refine⟨.inl ⟨rfl,_,aP.of sk.top⟩,op,_,V.ref l,rfl,rfl,sk.top,by simp,?_⟩
  have ed:(((ls0++[l1])++[l]).map V.ref).dropLast=(ls0++[l1]).map V.ref:=by rw [List.map_append];exact List.dropLast_concat
  rw [ed]
  have b1:∀ b o,b≠op->H b=some o->upd H op (.lst ((ls0++[l1]).map V.ref)) b=some o:=λb o nb e=>by rw [ao nb];exact e
  have a1':=b1 _ _ lo a1
  have sb:SameBut op H (upd H op (.lst ((ls0++[l1]).map V.ref))):=λb o nb e=>b1 b o nb e
  have a2':=aZ.but sk.top sb ds (sk.nl ds (by simp)) a2
  generalize upd H op (.lst ((ls0++[l1]).map V.ref))=H1 at *
  obtain⟨vs1,c1',c2'⟩:=P.it ls0.length l1 ds1 (by simp) (by rw [List.getElem?_append_right (by omega)];simp [show ls0.length=st0.length by omega])
  refine⟨op,_,-1,V.ref l1,rfl,rfl,aP.of P.top,by rw [List.map_append];exact hW _ _,.inl ⟨rfl,_,aP.of c1'⟩,l,rfl,vs,.inl ⟨aP.of a1',λn hn=>?_⟩⟩
  have s2:=av (o:=.tup vs) hn
  have P2:=P.same s2
  have ht:dv K (upd H1 n (.tup vs)) (.tuple ds) (.ref n):=⟨n,vs,rfl,br.of aj,aZ.same s2 _ a2'⟩
  have c3:=s2 _ _ c1'
  have lv:vs1.length=ds1.length:=(eR.len c2').symm
  have sm1:=sm ds1 (by simp)
  refine⟨l1,_,_,rfl,rfl,c3,by rw [lv];exact Nat.lt_trans sm1 (by decide),?_⟩
  refine q (ls0++[l1]) _ ?_ (λb o nb e=>?_) λb hb=>.inl (List.mem_append_left _ hb)
  ·have e:put ((st0++[ds1])++[ds]) [41]=st0++[ds1++[.tuple ds]]:=by
    unfold put
    rw [if_neg (by decide),if_pos rfl,List.dropLast_concat,List.dropLast_concat]
    simp
   rw [e]
   exact P2.app c3 ht (by show cR ds=true;exact sk.nl ds (by simp)) sm1
  ·have n1:b≠op:=λz=>nb (by rw [z];exact List.mem_cons_self)
   have n2:b≠l1:=λz=>nb (by rw [z];simp)
   rw [ao n2]
   exact s2 _ _ (b1 _ _ n1 e)
 refine aM (λc2=>?_) (λc2=>?_)
 ·obtain⟨st0,ds,rfl⟩:=bz s1
  have ll:=sk.len
  obtain⟨ls0,l,rfl⟩:=bz (l:=ls) (by rw [ll];exact s1)
  rw [List.length_append,List.length_append,List.length_singleton,List.length_singleton] at ll
  obtain⟨vs,a1,a2⟩:=sk.it ls0.length l ds (by simp) (by rw [List.getElem?_append_right (by omega)];simp [show ls0.length=st0.length by omega])
  refine⟨op,_,-1,V.ref l,rfl,rfl,aP.of sk.top,by rw [List.map_append];exact hW _ _,.inl ⟨rfl,_,aP.of a1⟩,p,rfl,ok c0 c1 c2,λv hv=>?_⟩
  have lv:vs.length=ds.length:=(eR.len a2).symm
  have sm1:=sm ds (by simp)
  refine⟨l,_,_,rfl,rfl,a1,by rw [lv];exact Nat.lt_trans sm1 (by decide),?_⟩
  refine q (ls0++[l]) _ ?_ (λb o nb e=>?_) λb hb=>.inl hb
  ·have e:put (st0++[ds]) p=st0++[ds++[val p]]:=by
    unfold put
    rw [if_neg c0,if_neg c1,if_neg c2,List.dropLast_concat]
    simp
   rw [e]
   exact sk.app a1 hv nF sm1
  ·rw [ao (λz=>nb (by rw [z];simp))]
   exact e
 ·have c2:p=[32]:=Classical.byContradiction c2
  refine q ls H ?_ (λb o _ e=>e) λb hb=>.inl hb
  unfold put
  rw [if_neg c0,if_neg c1,if_pos c2]
  exact sk
theorem cY {sg:List Nat}:∀{m:Nat} {r:List Nat},∀ c∈r.take (run sg m r),c∈sg
 | 0,r,c,h=>by simp [run] at h
 | m+1,[],c,h=>by simp [run] at h
 | m+1,x::r,c,h=>by
  have e:run sg (m+1) (x::r)=if x∈sg then run sg m r+1 else 0:=rfl
  rw [e] at h
  by_cases hx:x∈sg
  ·rw [if_pos hx,List.take_succ_cons] at h
   rcases List.mem_cons.mp h with z | z
   ·rw [z];exact hx
   ·exact cY c z
  ·rw [if_neg hx] at h
   simp at h
theorem my {cs:List Nat} (h:∀ c∈cs,c∈bJ):PySem.NumText.AllDigits cs:=λc hc=>by
 have:=h c hc
 simp only [bJ,List.mem_cons,List.not_mem_nil,or_false] at this
 omega
theorem qH {r:List Nat} (ne:pc r≠[]) (h1:pc r≠[40]) (h2:pc r≠[41]) (h3:pc r≠[32]):yY (pc r):=by
 refine⟨ne,?_⟩
 have e:pc r=r.take (aA r):=rfl
 unfold aA at e
 by_cases z:aJ r=0
 ·rw [if_pos z] at e
  by_cases y:run b0 8 r=0
  ·rw [if_pos y] at e
   have l1:=(cI (sg:=sh) (m:=1) (r:=r)).1
   have all:=cY (sg:=sh) (m:=1) (r:=r)
   rw [<- e] at all
   have len:(pc r).length<=1:=by rw [e,List.length_take];omega
   obtain⟨c,hc⟩:∃ c,pc r=[c]:=by
    cases h:pc r with
    | nil=>exact absurd h ne
    | cons c cs =>
     rw [h] at len
     cases cs with
     | nil=>exact⟨c,rfl⟩
     | cons _ _=>simp at len
   have hm:=all c (by rw [hc];simp)
   rw [hc] at h1 h2 h3 ⊢
   simp only [sh,List.mem_cons,List.not_mem_nil,or_false] at hm
   rcases hm with rfl | rfl | rfl | rfl
   ·exact .inl rfl
   ·exact absurd rfl h1
   ·exact absurd rfl h2
   ·exact absurd rfl h3
  ·rw [if_neg y] at e
   refine .inr (.inl ?_)
   have all:=cY (sg:=b0) (m:=8) (r:=r)
   rw [<- e] at all
   cases h:pc r with
   | nil=>exact absurd h ne
   | cons c cs=>exact all c (by rw [h];simp)
 ·rw [if_neg z] at e
  refine .inr (.inr ?_)
  have len:(pc r).length<=61:=by
   have h1:=(cI (sg:=bJ) (m:=60) (r:=r)).1
   have h2:=(cI (sg:=bJ) (m:=60) (r:=r.tail)).1
   rw [e,List.length_take]
   unfold aJ
   split
   ·split
    ·omega
    ·split<;>omega
   ·split<;>omega
  refine⟨by omega,?_⟩
  have dig:∀ cs:List Nat,(∀ c∈cs,c∈bJ)->cs≠[]->cs.length<=100->∃ n,intText? (S cs)=some n:=λcs h1 h2 h3=>⟨_,PySem.intText_digits (x:=S cs) (my h1) h2 (by rw [aL];omega)⟩
  unfold aJ at e z
  by_cases c1:r.head?=some 45
  ·rw [if_pos c1] at e z
   by_cases c2:r.tail.head?=some 48
   ·rw [if_pos c2] at z
    exact absurd rfl z
   ·rw [if_neg c2] at e z
    by_cases c3:run bJ 60 r.tail=0
    ·rw [if_pos c3] at z
     exact absurd rfl z
    ·rw [if_neg c3] at e
     obtain⟨x,r',rfl⟩:∃ x r',r=x::r':=by
      cases r with
      | nil=>cases c1
      | cons x r'=>exact⟨x,r',rfl⟩
     cases c1
     rw [List.tail_cons] at e c3
     rw [e,List.take_succ_cons]
     have hne:r'.take (run bJ 60 r')≠[]:=λz'=>by
      have:=congrArg List.length z'
      rw [List.length_take,List.length_nil] at this
      have:=(cI (sg:=bJ) (m:=60) (r:=r')).2
      omega
     exact⟨_,PySem.intText_neg (x:=S (45::r'.take (run bJ 60 r'))) rfl (my cY) hne (by
      rw [aL,List.length_cons,List.length_take]
      have:=(cI (sg:=bJ) (m:=60) (r:=r')).1
      omega)⟩
  ·rw [if_neg c1] at e
   by_cases c2:r.head?=some 48
   ·rw [if_pos c2] at e
    obtain⟨x,r',rfl⟩:∃ x r',r=x::r':=by
     cases r with
     | nil=>cases c2
     | cons x r'=>exact⟨x,r',rfl⟩
    cases c2
    rw [e]
    exact dig [48] (by simp [bJ]) (by simp) (by simp)
   ·rw [if_neg c2] at e
    exact dig (pc r) (by rw [e];exact cY) ne (by omega)
theorem gS {st:List (List PyData)} {p:List Nat} (h:1<=st.length):(put st p).length=if p=[40] then st.length+1 else if p=[41] then (if st.length=1 then 1 else st.length-1) else st.length:=by
 unfold put
 split
 ·simp
 ·split
  ·simp
   split<;>omega
  ·split
   ·rfl
   ·simp
    omega
theorem mX {st:List (List PyData)} {p:List Nat} {i k:Nat} (h:∀ ds∈st,ds.length<=i) (hk:i<k):∀ ds∈put st p,ds.length<=k:=by
 have last:∀ st:List (List PyData),(∀ ds∈st,ds.length<=i)->(st.getLast?.getD []).length<=i:=λst h=>by
  cases e:st.getLast? with
  | none=>simp
  | some x=>exact h x (List.mem_of_getLast? e)
 have dl:∀ ds∈st.dropLast,ds.length<=i:=λds hd=>h ds ((List.dropLast_sublist _).subset hd)
 intro ds hd
 unfold put at hd
 split at hd
 ·rcases List.mem_append.mp hd with z | z
  ·have:=h ds z;omega
  ·cases List.mem_singleton.mp z;simp
 ·split at hd
  ·rcases List.mem_append.mp hd with z | z
   ·have:=dl ds ((List.dropLast_sublist _).subset z);omega
   ·cases List.mem_singleton.mp z
    have:=last _ dl
    rw [List.length_append,List.length_singleton]
    omega
  ·split at hd
   ·have:=h ds hd;omega
   ·rcases List.mem_append.mp hd with z | z
    ·have:=dl ds z;omega
    ·cases List.mem_singleton.mp z
     have:=last _ h
     rw [List.length_append,List.length_singleton]
     omega
def oZ:Nat->Nat->List Nat->List Nat->List (List PyData)->Option (Nat ⊕ PyData)
 | 0,_,_,_,_=>none
 | f+1,i,r,ah,st=>if r=[] then (if 1<st.length∨ah=[] then some (.inl i) else (st[0]?.bind λds=>ds[0]?).map .inr) else if ms ah (pc r) (st.length-1)=true then oZ f (i+aA r) (r.drop (aA r)) (pc r) (put st (pc r)) else some (.inl i)
structure z9 (K:PySem.W.Frag) (H0:Hp) (op:Addr) (l:List Nat) (d:Nat ⊕ PyData) (i:Nat) (ah:List Nat) (ls:List Addr) (st:List (List PyData)) (H:Hp):Prop where
 il:i<=l.length
 sk:iN K H op ls st
 sm:aF H0 H
 f0:H0 op=none
 fl:∀ b∈ls,H0 b=none
 s1:1<=st.length
 s8:st.length<=81
 few:∀ ds∈st,ds.length<=i
 go:∃ f,oZ f i (l.drop i) ah st=some d
def nh (K:PySem.W.Frag) (C:Addr):Sp:=λvs H Q E=>∃(l:List Nat) (f:Nat) (o:Nat ⊕ PyData),vs=[.str (S l)]/\l.length<=10^5/\oZ f 0 l [] [[]]=some o/\(∀ d,o=.inr d->∀ v H',aF H H'->dv K H' d v->lO d=true->Q v H') /\
 ∀ k,o=.inl k->∀ x dx H',aF H H'->H x=none->H' x=some (XO x C (some dx))->H' dx=some (.xd [("word",.int (k:Int)),("line",.int 0)])->E (.ref C) (some x) H'
theorem mY {H H2:Hp} {C:Addr} {f g:Str} {v u:V} {E:XK} (c:a0 K C) (sm:aF H H2) (q:∀ x dx H',aF H H'->H x=none->H' x=some (XO x C (some dx))->H' dx=some (.xd [(g,u),(f,v)])->E (.ref C) (some x) H'):∀ x dx:Addr,H2 x=none->H2 dx=none->dx≠x ->
  ∃ x1 x2,upd (upd (upd H2 x (XN x C none)) dx (HO.xd [(g,u),(f,v)])) x (XN x C (some dx)) x=some (XN x x1 x2)/\a0 K x1/\H x=none/\E (.ref x1) (some x) (upd (upd (upd (upd H2 x (XN x C none)) dx (HO.xd [(g,u),(f,v)])) x (XN x C (some dx))) x (XO x x1 x2)):=by
 intro x dx hx hdx ne
 have n0:H x=none:=sm.free hx
 refine⟨C,some dx,aj,c,n0,q x dx _ ?_ n0 aj ?_⟩
 ·intro b o e
  have e1:=sm _ _ e
  have bx:b≠x:=λy=>by rw [y,hx] at e1;cases e1
  have bd:b≠dx:=λy=>by rw [y,hdx] at e1;cases e1
  rw [ao bx,ao bx,ao bd,ao bx]
  exact e1
 ·rw [ao ne,ao ne,aj]
theorem mZ:az ["text","opened","ahead","at","piece"] ["text"] (ai (top 21)):=gU
theorem qw {C:Addr} (D:aC K mg "read" (top 21)) (x_NoText:nN P w K mg base "NoText" C "line" "word") (c_piece_at:Callee P w K mg base ba 3 "piece_at" ["text","at"] nc) (c_may_stand:Callee P w K mg base ba 1 "may_stand" ["ahead","piece","depth"] vi) (c_put_behind:Callee P w K mg base ba 2 "put_behind" ["opened","piece"] (vj K)) (n_len:mg "len"=none):Callee P w K mg base (kX P w) 4 "read" ["text"] (nh K C):=by
 refine cX D mZ (λf cdv A outer s H vs Q E hr h=>?_)
 obtain⟨l,F,d,rfl,l5,go,q,qE⟩:=h
 have nd:=mZ.nd
 refine⟨_,(af (bI (i:=1) nd (bA (aa (bA ae) ae))) (af (bI (i:=2) nd aq) (af (bI (i:=3) nd ag) (af (kL PassesOwn.leaving (ar fv (pv 3) (aw aT rfl n_len PySem.boot_len (aa (pv 0) ae)) (au _)) (af (bI (i:=4) nd (cm c_piece_at hr aD (aa (pv 0) (aa (pv 3) ae)))) (af (aH (lX (bp (cm c_may_stand hr aD (aa (pv 2) (aa (pv 4) (aa (ay cH (aw bU rfl n_len PySem.boot_len (aa (pv 1) ae)) ag) ae)))) (λ_=>rfl))) (ak (kK (lU x_NoText (hr.mono (by decide)) rfl (aa ag (aa (pv 3) ae))))) aE) (fU.iJ (af (cW (cm c_put_behind hr aD (aa (pv 1) (aa (pv 4) ae)))) (af (bI (i:=2) nd (pv 4)) (ak (qU (i:=3) nd rfl (Or.inl rfl) (aw aT rfl n_len PySem.boot_len (aa (pv 4) ae)) (u1 mH))))))))) (af (aH (PW.pt (fE (ar eF (aw bU rfl n_len PySem.boot_len (aa (pv 1) ae)) ag (au _)) (dy (ar aI (pv 2) aq (au _))))) (ak (kK (lU x_NoText (hr.mono (by decide)) rfl (aa ag (aa (aw aT rfl n_len PySem.boot_len (aa (pv 0) ae)) ae))))) aE) (fU.iJ (ak (aB (bT aW (bT aW (pv 1) ag (λ_ _=>rfl)) ag (λ_ _=>rfl)))))))))),?_⟩
 show bY _ _ _ [some (.str (S l)),none,none,none,none] H
 k_data
 refine⟨by show 0<=sizeLine;decide,λl0 h0=>⟨by show 1<=sizeLine;decide,λop hop=>?_⟩⟩
 have b1:=av (o:=.lst []) h0
 have b2:=av (o:=.lst [V.ref l0]) hop
 have ne:l0≠op:=λz=>by rw [z,aj] at hop;cases hop
 have o0:H op=none:=b1.free hop
 have el:upd (upd H l0 (.lst [])) op (.lst [V.ref l0]) l0=some (.lst []):=b2 _ _ aj
 have eo:upd (upd H l0 (.lst [])) op (.lst [V.ref l0]) op=some (.lst [V.ref l0]):=aj
 have sk0:iN K (upd (upd H l0 (.lst [])) op (.lst [V.ref l0])) op [l0] [[]]:=by
  refine⟨eo,rfl,?_,λi l' ds e1 e2=>?_,λds hd=>by cases List.mem_singleton.mp hd;rfl,by decide,λds hd=>by cases List.mem_singleton.mp hd;decide⟩
  ·rw [List.nodup_cons]
   exact⟨λz=>ne (List.mem_singleton.mp z).symm,by simp⟩
  ·cases i with
   | zero =>
    cases e1
    cases e2
    exact⟨[],el,rfl⟩
   | succ i=>simp at e1
 have sm0:=b1.trans b2
 generalize upd (upd H l0 (.lst [])) op (.lst [V.ref l0])=H1 at *
 have sz:l.length<=sizeLine:=Nat.le_trans l5 (by decide)
 rw [vQ]
 refine kW (α:=Nat × List Nat × Option V) (λx=>[some (.str (S l)),some (.ref op),some (.str (S x.2.1)),some (.int (x.1:Int)),x.2.2]) (λx H'=>∃ ls st,z9 K H op l d x.1 x.2.1 ls st H') (λx=>l.length-x.1) (0,[],none) rfl ⟨[l0],[[]],⟨Nat.zero_le _,sk0,sm0,o0,λb hb=>by cases List.mem_singleton.mp hb;exact h0,by decide,by decide,λds hd=>by cases List.mem_singleton.mp hd;exact Nat.zero_le _,F,go⟩⟩ ?_
 rintro⟨i,ah,o⟩ H' ⟨ls,st,I⟩
 replace I:z9 K H op l d i ah ls st H':=I
 obtain⟨f,go⟩:=I.go
 have ll:=I.sk.len
 have s1:=I.s1
 have s8:=I.s8
 have f':∃ f',f=f'+1:=by
  cases f with
  | zero=>cases go
  | succ f'=>exact⟨f',rfl⟩
 obtain⟨f',rfl⟩:=f'
 have go':(if l.drop i=[] then (if 1<st.length∨ah=[] then some (.inl i) else (st[0]?.bind λds=>ds[0]?).map .inr) else if ms ah (pc (l.drop i)) (st.length-1)=true then oZ f' (i+aA (l.drop i)) ((l.drop i).drop (aA (l.drop i))) (pc (l.drop i)) (put st (pc (l.drop i))) else some (.inl i))=some d:=go
 k_data
 refine⟨_,rfl,sz,?_⟩
 rw [aL]
 refine aM (λc=>?_) (λc=>?_)
 ·have il:i<l.length:=by omega
  have dn:l.drop i≠[]:=λz=>by
   have:=congrArg List.length z
   rw [List.length_drop,List.length_nil] at this
   omega
  rw [if_neg dn] at go'
  have pl:=fA (r:=l.drop i)
  have plen:(pc (l.drop i)).length=aA (l.drop i):=by
   show (List.take _ _).length=_
   rw [List.length_take]
   omega
  rw [List.length_drop] at pl
  refine⟨_,λ_ _ z=>z,?_⟩
  refine⟨l,i,rfl,I.il,by omega,?_⟩
  refine cT (aP.of I.sk.top) ⟨_,rfl,ah,pc (l.drop i),st.length-1,?_,λH2 s2=>⟨_,aX.mpr rfl,?_⟩⟩
  ·rw [List.length_map,ll,show ((st.length:Int)-1)=((st.length-1:Nat):Int) by omega]
  have smH:aF H H2:=I.sm.trans s2
  cases hms:ms ah (pc (l.drop i)) (st.length-1) with
  | false =>
   rw [if_pos (by decide)]
   rw [hms,if_neg (by decide)] at go'
   cases go'
   exact mY x_NoText.cls smH λx dx H' s h1 h2 h3=>qE _ rfl x dx H' s h1 h2 h3
  | true =>
  rw [if_neg (by decide)]
  rw [if_pos hms,List.drop_drop] at go'
  have pne:pc (l.drop i)≠[]:=λz=>by
   unfold ms at hms
   rw [if_pos z] at hms
   cases hms
  have ppos:0<aA (l.drop i):=by
   rw [<- plen]
   exact List.length_pos_iff.mpr pne
  have sk2:=I.sk.same s2
  have c41:pc (l.drop i)=[41]->2<=st.length:=λz=>by
   unfold ms at hms
   rw [if_neg pne,if_pos z,Bool.and_eq_true,decide_eq_true_eq] at hms
   omega
  have c40:pc (l.drop i)=[40]->st.length<=80:=λz=>by
   unfold ms at hms
   rw [if_neg pne,if_neg (by rw [z];decide),if_neg (by rw [z];decide),Bool.and_eq_true,decide_eq_true_eq,decide_eq_true_eq] at hms
   rcases hms.2 with y | y
   ·exact absurd z y
   ·omega
  refine⟨op,ls,st,_,rfl,sk2,s1,by omega,c41,qH pne,λds hd=>by have:=I.few ds hd;omega,λls' H3 sk3 k3 n3=>?_⟩
  refine⟨_,rfl,by rw [aL,plen];exact Nat.le_trans (show aA (l.drop i)<=l.length by omega) sz,(i+aA (l.drop i),pc (l.drop i),some (.str (S (pc (l.drop i))))),?_,⟨ls',put st (pc (l.drop i)),?_⟩,?_⟩
  ·rw [aL,plen]
   rfl
  ·have sm3:aF H H3:=λb o e=>by
    refine k3 b o (λz=>?_) (s2 _ _ (I.sm _ _ e))
    rcases List.mem_cons.mp z with y | y
    ·rw [y,I.f0] at e;cases e
    ·rw [I.fl b y] at e;cases e
   have pl2:=gS (p:=pc (l.drop i)) s1
   refine⟨by show i+aA (l.drop i)<=l.length;omega,sk3,sm3,I.f0,λb hb=>?_,?_,?_,mX I.few (by show i<i+aA (l.drop i);omega),f',go'⟩
   ·rcases n3 b hb with y | y
    ·exact I.fl b y
    ·cases e:H b with
     | none=>rfl
     | some o=>rw [s2 _ _ (I.sm _ _ e)] at y;cases y
   ·rw [pl2]
    split
    ·omega
    ·split
     ·split<;>omega
     ·omega
   ·rw [pl2]
    split
    ·rename_i z;have:=c40 z;omega
    ·split
     ·split<;>omega
     ·omega
  ·show l.length-(i+aA (l.drop i))<l.length-i
   omega
 ·have dn:l.drop i=[]:=List.drop_of_length_le (by omega)
  rw [if_pos dn] at go'
  have ei:i=l.length:=by have:=I.il;omega
  by_cases hn:1<st.length∨ah=[]
  ·rw [if_pos hn] at go'
   cases go'
   refine cT (aP.of I.sk.top) ⟨_,rfl,?_⟩
   have fin:∃ z,V.str (S l)=V.str z/\z.length<=sizeLine/\∀ x dx:Addr,H' x=none->H' dx=none->dx≠x ->
     ∃ x1 x2,upd (upd (upd H' x (XN x C none)) dx (HO.xd [("word",V.int (z.length:Int)),("line",V.int 0)])) x (XN x C (some dx)) x=some (XN x x1 x2)/\a0 K x1/\H x=none/\E (.ref x1) (some x) (upd (upd (upd (upd H' x (XN x C none)) dx (HO.xd [("word",V.int (z.length:Int)),("line",V.int 0)])) x (XN x C (some dx))) x (XO x x1 x2)) :=
    ⟨_,rfl,by rw [aL];exact sz,mY x_NoText.cls I.sm λx dx H' s h1 h2 h3=>qE _ rfl x dx H' s h1 h2 (by rw [h3,aL,ei])⟩
   refine aM (λc2=>fin) (λc2=>?_)
   simp only [iM]
   rw [if_pos (hn.resolve_left (by rw [List.length_map,ll] at c2;omega))]
   exact fin
  rw [if_neg hn] at go'
  obtain⟨ds,rfl⟩:∃ ds,st=[ds]:=by
   match st,s1,(show st.length<=1 by omega) with
   | [ds],_,_=>exact⟨ds,rfl⟩
  obtain⟨l1,rfl⟩:∃ l1,ls=[l1]:=by
   match ls,ll with
   | [l1],_=>exact⟨l1,rfl⟩
  obtain⟨vs,a1,a2⟩:=I.sk.it 0 l1 ds rfl rfl
  obtain⟨d0,hd,rfl⟩:=Option.map_eq_some_iff.mp go'
  have hd:ds[0]?=some d0:=hd
  obtain⟨d',r',rfl⟩:∃ d' r',ds=d'::r':=by
   cases ds with
   | nil=>cases hd
   | cons x y=>exact⟨x,y,rfl⟩
  cases hd
  obtain⟨v,vr,rfl,hv,_⟩:=a2
  have nl:=I.sk.nl _ List.mem_cons_self
  have nl':lO d0=true:=by
   have:lO d0=true/\cR r'=true:=by simpa [cR] using nl
   exact this.1
  refine cT (aP.of I.sk.top) ⟨_,rfl,?_⟩
  rw [if_neg (by show ¬(1:Int)<1;decide)]
  simp only [iM]
  rw [if_neg (λz=>hn (.inr z))]
  refine eU (aP.of I.sk.top) (by decide) (v:=V.ref l1) rfl ?_
  exact eU (aP.of a1) (by decide) (v:=v) rfl (q _ rfl v H' I.sm hv nl')
def cu:List Nat:=[115,116,97,114,116]
def eV:List Nat:=[102,105,114,115,116]
def mO:List Nat:=[109,105,110,117,115]
def iR:List Nat:=[110,117,109,98,101,114]
def j6:List Nat:=[119,111,114,100]
def lJ:List Nat:=[101,110,100]
theorem yn:Str.ofString "start"=S cu:=by decide +kernel
theorem yj:Str.ofString "first"=S eV:=by decide +kernel
theorem yk:Str.ofString "minus"=S mO:=by decide +kernel
theorem ym:Str.ofString "number"=S iR:=by decide +kernel
theorem yo:Str.ofString "word"=S j6:=by decide +kernel
theorem yi:Str.ofString "end"=S lJ:=by decide +kernel
theorem zp:Str.ofString " )"=S [32,41]:=by decide +kernel
theorem zq:Str.ofString "0123456789"=S bJ:=by decide +kernel
theorem zx:Str.ofString "abcdefghijklmnopqrstuvwxyz"=S b0:=by decide +kernel
def bK (c:Nat) (q:Nat × List Nat × Nat):Option (Nat × List Nat × Nat) :=
 if q.2.1=cu∨q.2.1=eV then
  if c=41/\q.2.1=eV then some (q.1-1,lJ,q.2.2)
  else if c=40/\q.1<80 then some (q.1+1,eV,q.2.2)
  else if c=45∨c=48 then some (q.1,if c=48 then lJ else mO,q.2.2)
  else if c∈bJ∨c∈b0 then some (q.1,if c∈bJ then iR else j6,1)
  else none
 else if q.2.1=mO/\c∈bJ/\c≠48 then some (q.1,iR,1)
 else if (q.2.1=iR/\c∈bJ/\q.2.2<60)∨(q.2.1=j6/\c∈b0/\q.2.2<8) then some (q.1,q.2.1,q.2.2+1)
 else if 0<q.1/\(c=32∨c=41) then some (if c=41 then q.1-1 else q.1,if c=41 then lJ else cu,q.2.2)
 else none
def dj:Nat->List Nat->Nat × List Nat × Nat->Option Nat
 | i,[],q=>if 0<q.1∨q.2.1=cu then some i else none
 | i,c::r,q=>match bK c q with
  | none=>some i
  | some q'=>dj (i+1) r q'
def xD:Option Nat->V
 | none=>.aQ
 | some k=>.int (k:Int)
def yG:Sp:=λvs H Q _=>∃ l:List Nat,vs=[.str (S l)]/\l.length<=10^5/\∀ H',aF H H'->Q (xD (dj 0 l (0,cu,0))) H'
structure zT (H0:Hp) (l:List Nat) (i:Nat) (q:Nat × List Nat × Nat) (H:Hp):Prop where
 sm:aF H0 H
 go:dj 0 l (0,cu,0)=dj i (l.drop i) q
 fi:q.2.1=eV->1<=q.1
 dl:q.1<=i
 ml:q.2.2<=i
theorem cw:az ["_law_text_here","_law_deep","_law_mode","_law_many","_law_at","_law_sign","_law_figure","_law_letter"] ["_law_text_here"] (ai (top 34)):=gU
theorem yv (D:aC K mg "_law_first_wrong" (top 34)) (n_len:mg "len"=none) (n_range:mg "range"=none) (n_int:mg "int"=none):Callee P w K mg base ba 1 "_law_first_wrong" ["_law_text_here"] yG:=by
 refine cO D cw (λf cdv A outer s H vs Q E hr h=>?_)
 obtain⟨l,rfl,l5,q⟩:=h
 have nd:=cw.nd
 refine⟨_,(af (bI (i:=1) nd ag) (af (bI (i:=2) nd aq) (af (bI (i:=3) nd ag) (af (gk PassesOwn.never rfl (cF rfl n_range (aa (aw aT rfl n_len PySem.boot_len (aa (pv 0) ae)) ae)) (b8 (i:=4) nd rfl (Or.inl rfl) (.inr rfl)) (af (bI (i:=5) nd (bC (pv 0) (pv 4) (λ_ _=>rfl))) (af (bI (i:=6) nd (a9 cE (pv 5) aq (by with_unfolding_all rfl))) (af (bI (i:=7) nd (a9 cE (pv 5) aq (by with_unfolding_all rfl))) (ak (aH (ar gh (pv 2) (df (aa aq (aa aq ae))) (by with_unfolding_all rfl)) (ak (aH (PW.pt (bO (ar aI (pv 5) aq (au _)) (cD (ar aI (pv 2) aq (au _))))) (af (bI (i:=1) nd (ay cH (pv 1) ag)) (ak (bI (i:=2) nd aq))) (ak (aH (PW.pt (bO (ar aI (pv 5) aq (au _)) (cD (ar fv (pv 1) ag (au _))))) (af (bI (i:=1) nd (ay aY (pv 1) ag)) (ak (bI (i:=2) nd aq))) (ak (aH (PW.pt (fE (ar aI (pv 5) aq (au _)) (dy (ar aI (pv 5) aq (au _))))) (ak (bI (i:=2) nd (bT aW (bA (aa aq (aa aq ae))) (bo dh rfl n_int L2.boot_int (aa (a9 aI (pv 5) aq (au _)) ae)) (λ_ _=>rfl)))) (ak (aH (PW.pt (fE (bp (pv 6) (λ_=>rfl)) (dy (bp (pv 7) (λ_=>rfl))))) (af (bI (i:=2) nd (bT aW (bA (aa aq (aa aq ae))) (bo dh rfl n_int L2.boot_int (aa (pv 6) ae)) (λ_ _=>rfl))) (ak (bI (i:=3) nd ag))) (ak (aB (pv 4))))))))))) (ak (aH (PW.pt (bO (ar aI (pv 2) aq (au _)) (bO (bp (pv 6) (λ_=>rfl)) (cD (ar jo (pv 5) aq (au _)))))) (af (bI (i:=2) nd aq) (ak (bI (i:=3) nd ag))) (ak (aH (PW.pt (fE (PW.pt (bO (ar aI (pv 2) aq (au _)) (bO (bp (pv 6) (λ_=>rfl)) (cD (ar fv (pv 3) ag (au _)))))) (dy (PW.pt (bO (ar aI (pv 2) aq (au _)) (bO (bp (pv 7) (λ_=>rfl)) (cD (ar fv (pv 3) ag (au _))))))))) (ak (bI (i:=3) nd (ay aY (pv 3) ag))) (ak (aH (PW.pt (bO (ar eF (pv 1) ag (au _)) (cD (ar cE (pv 5) aq (by with_unfolding_all rfl))))) (af (bI (i:=1) nd (ay cH (pv 1) (bo dh rfl n_int L2.boot_int (aa (a9 aI (pv 5) aq (au _)) ae)))) (ak (bI (i:=2) nd (bT aW (bA (aa aq (aa aq ae))) (bo dh rfl n_int L2.boot_int (aa (a9 aI (pv 5) aq (au _)) ae)) (λ_ _=>rfl))))) (ak (aB (pv 4))))))))))))))) (af (aH (PW.pt (fE (ar eF (pv 1) ag (au _)) (dy (ar aI (pv 2) aq (au _))))) (ak (aB (aw aT rfl n_len PySem.boot_len (aa (pv 0) ae)))) aE) (ak (aB de))))))),?_⟩
 show bY _ _ _ [some (.str (S l)),none,none,none,none,none,none,none] H
 k_data
 have sz:l.length<=sizeLine:=Nat.le_trans l5 (by decide)
 refine⟨_,rfl,sz,by rw [aL];omega,by rw [aL];omega,?_⟩
 rw [aL,Int.toNat_natCast]
 simp only [yn,yj,yk,ym,yo,yi,qg,xA,zp,zq,zx,oK,nU]
 refine bV (λi σ' H'=>∃ dp md mn o4 o5 o6 o7,σ'=[some (.str (S l)),some (.int ((dp:Nat):Int)),some (.str (S md)),some (.int ((mn:Nat):Int)),o4,o5,o6,o7]/\zT H l i (dp,md,mn) H') ⟨0,cu,0,_,_,_,_,rfl,⟨aF.refl _,rfl,λz=>absurd z (by decide),Nat.le_refl _,Nat.le_refl _⟩⟩ ?_ ?_
 ·rintro i σ' H' hi ⟨dp,md,mn,o4,o5,o6,o7,rfl,I⟩
  rw [Int.zero_add]
  have hd:l.drop i=l[i]::l.drop (i+1):=List.drop_eq_getElem_cons hi
  have fd:=PySem.StrLaws.found_one (S bJ) l[i]
  have fl:=PySem.StrLaws.found_one (S b0) l[i]
  have fb:=PySem.StrLaws.found_one (S [32,41]) l[i]
  rw [j9] at fd fl fb
  have go:=I.go
  rw [hd] at go
  have wrong:bK l[i] (dp,md,mn)=none->∀ H2,aF H' H2->Q (.int ((i:Nat):Int)) H2:=λz H2 s2=>by
   have:=q H2 (I.sm.trans s2)
   rw [go] at this
   unfold dj at this
   rw [z] at this
   exact this
  have right:∀ q',bK l[i] (dp,md,mn)=some q'->dj 0 l (0,cu,0)=dj (i+1) (l.drop (i+1)) q':=λq' z=>by
   rw [go]
   show (match bK l[i] (dp,md,mn) with | none=>some i | some q'=>dj (i+1) (l.drop (i+1)) q')=_
   rw [z]
  have at_:(S l).cps[i]?=some l[i]:=by rw [pf];exact List.getElem?_eq_getElem hi
  have fi:=I.fi
  have dl:=I.dl
  have ml:=I.ml
  generalize l[i]=c at *
  k_data
  have hS:∀ a:Nat,(V.str { cps:=#[c] }=V.str (S [a]))↔c=a:=λa=>by
   show V.str (S [c])=V.str (S [a])↔_
   rw [iM];simp
  have hdE:((Builtin.Str.occurrences (S bJ) { cps:=#[c] } 0 (S bJ).length 1).isEmpty=false)↔c∈bJ:=by
   rw [<- decide_eq_true_iff (p:=c∈bJ),<- fd];simp
  have hlE:((Builtin.Str.occurrences (S b0) { cps:=#[c] } 0 (S b0).length 1).isEmpty=false)↔c∈b0:=by
   rw [<- decide_eq_true_iff (p:=c∈b0),<- fl];simp
  have hbE:((Builtin.Str.occurrences (S [32,41]) { cps:=#[c] } 0 (S [32,41]).length 1).isEmpty=false)↔(c=32∨c=41):=by
   rw [show (c=32∨c=41)↔c∈[32,41] by simp,<- decide_eq_true_iff (p:=c∈[32,41]),<- fb];simp
  have e80:((dp:Int)<80)↔dp<80:=by omega
  have e60:((mn:Int)<60)↔mn<60:=by omega
  have e8:((mn:Int)<8)↔mn<8:=by omega
  have e0:((0:Int)<(dp:Int))↔0<dp:=by omega
  refine⟨_,rfl,by omega,by omega,by rw [aL];omega,c,by rw [Int.toNat_natCast];exact at_,_,rfl,_,rfl,_,rfl,_,rfl,by show 2<=sizeLine;decide,λp hp=>?_⟩
  refine⟨p,_,rfl,.inr (br.of aj),rfl,rfl,_,rfl,?_⟩
  have ei:sW (V.str (S md)) [V.str (S cu),V.str (S eV)]=decide (md=cu∨md=eV):=by
   rw [Bool.eq_iff_iff]
   simp [sW,kn,zi]
   exact⟨λh=>h.imp Eq.symm Eq.symm,λh=>h.imp Eq.symm Eq.symm⟩
  have s1:=av (o:=.tup [V.str (S cu),V.str (S eV)]) hp
  generalize upd H' p _=H1 at *
  simp only [ei,hS,iM,hdE,hlE,hbE,e80,e60,e8,e0,Bool.false_eq_true,if_false,decide_eq_true_eq]
  have fin:∀(dp':Nat) (md':List Nat) (mn':Nat) (H2:Hp),aF H1 H2->bK c (dp,md,mn)=some (dp',md',mn')->(md'=eV->1<=dp')->dp'<=i+1->mn'<=i+1->zT H l (i+1) (dp',md',mn') H2:=λdp' md' mn' H2 s2 z a b d=>⟨I.sm.trans (s1.trans s2),right _ z,a,b,d⟩
  have pick:∀(b:Prop) [Decidable b] (m0 m1:List Nat) (G:Addr->Prop) (R:V->Hp->Prop),(∀ H2,aF H1 H2->R (V.str (S (if b then m1 else m0))) H2) ->
    ([V.str (S m0),V.str (S m1)].length<=sizeLine/\∀ p,H1 p=none->(G p∨qZ K (V.ref p) (V.int (if b then 1 else 0)) (upd H1 p (HO.lst [V.str (S m0),V.str (S m1)])) R)):=λb _ m0 m1 G R hR=>by
   refine⟨by show 2<=sizeLine;decide,λp2 hp2=>.inr ?_⟩
   have hR:=hR _ (av (o:=.lst [V.str (S m0),V.str (S m1)]) hp2)
   by_cases hb:b
   ·rw [if_pos hb] at hR ⊢
    exact eU (aP.of aj) (by decide) (v:=V.str (S m1)) rfl hR
   ·rw [if_neg hb] at hR ⊢
    exact eU (aP.of aj) (by decide) (v:=V.str (S m0)) rfl hR
  have nEn:lJ≠eV:=by decide
  have nMi:mO≠eV:=by decide
  have nNu:iR≠eV:=by decide
  have nWo:j6≠eV:=by decide
  have nSt:cu≠eV:=by decide
  replace fi:md=eV->1<=dp:=fi
  replace dl:dp<=i:=dl
  replace ml:mn<=i:=ml
  clear right hdE hlE hS e80 e60 e8 e0 ei fd fl fb go hd q
  refine aM (λa=>?_) (λa=>?_)
  ·repeat' (refine aM (λ_=>?_) (λ_=>?_))
   all_goals first
    | exact wrong (by unfold bK;grind) _ s1
    | exact⟨dp-1,by grind,_,rfl,_,rfl,fin _ _ _ _ (aF.refl _) (by unfold bK;grind) (λz=>absurd z nEn) (by omega) (by omega)⟩
    | exact⟨dp+1,by omega,_,rfl,_,rfl,fin _ _ _ _ (aF.refl _) (by unfold bK;grind) (λz=>by omega) (by omega) (by omega)⟩
    | exact pick _ mO lJ _ _ λH2 s2=>⟨dp,rfl,_,rfl,_,rfl,fin _ _ _ _ s2 (by unfold bK;grind) (λz=>by grind) (by omega) (by omega)⟩
    | exact pick _ j6 iR _ _ λH2 s2=>⟨dp,rfl,_,rfl,1,rfl,fin _ _ _ _ s2 (by unfold bK;grind) (λz=>by grind) (by omega) (by omega)⟩
  ·repeat' (refine aM (λ_=>?_) (λ_=>?_))
   all_goals first
    | exact wrong (by unfold bK;grind) _ s1
    | exact⟨dp,rfl,_,rfl,1,rfl,fin _ _ _ _ (aF.refl _) (by unfold bK;grind) (λz=>by grind) (by omega) (by omega)⟩
    | exact⟨dp,rfl,_,rfl,mn+1,by omega,fin _ _ _ _ (aF.refl _) (by unfold bK;grind) (λz=>by grind) (by omega) (by omega)⟩
    | exact⟨_,rfl,_,rfl,aM (λcb=>.inr (pick (c=41) cu lJ _ _ λH2 s2=>⟨if c=41 then dp-1 else dp,by split<;>omega,_,rfl,mn,rfl,fin _ _ _ _ s2 (by have cb:=hbE.mp cb;clear hbE wrong fin pick;unfold bK;grind) (λz=>by clear hbE wrong fin pick;grind) (by split<;>omega) (by omega)⟩)) (λcb=>wrong (by have cb:=λz=>cb (hbE.mpr z);clear hbE wrong fin pick;unfold bK;grind) _ s1)⟩
 ·rintro σ' H' ⟨dp,md,mn,o4,o5,o6,o7,rfl,I⟩
  have hd:l.drop l.length=[]:=List.drop_of_length_le (Nat.le_refl _)
  have q':=q H' I.sm
  rw [I.go,hd] at q'
  unfold dj at q'
  k_data
  simp only [iM]
  have fin:0<dp∨md=cu->∃ z,V.str (S l)=V.str z/\z.length<=sizeLine/\Q (V.int (z.length:Int)) H':=λz=>⟨_,rfl,by rw [aL];exact sz,by rw [if_pos z] at q';exact q'⟩
  refine aM (λa=>fin (.inl (by omega))) λa=>aM (λb=>fin (.inr b)) λb=>?_
  rw [if_neg (λz=>z.elim (λz=>a (by show (0:Int)<(dp:Int);have z:0<dp:=z;omega)) b)] at q'
  exact q'
end
end K
namespace K
open PySem PySem.Spec PyProof.Rows L2
theorem cz {c:Nat}:c∈bJ↔48<=c/\c<=57:=by simp [bJ];omega
theorem cU {c:Nat}:c∈b0↔97<=c/\c<=122:=by simp [b0];omega
theorem fu {c:Nat}:c∈sh↔c=45∨c=40∨c=41∨c=32:=by simp [sh]
theorem dW {sg:List Nat} {c:Nat} {r:List Nat} {m:Nat} (h:c∉sg):run sg m (c::r)=0:=by
 cases m with
 | zero=>rfl
 | succ m =>
  show (if c∈sg then _ else 0)=0
  rw [if_neg h]
theorem rg {sg:List Nat} {c:Nat} {r:List Nat} (h:c∈sg):run sg 1 (c::r)=1:=by
 show (if c∈sg then run sg 0 r+1 else 0)=1
 rw [if_pos h]
 rfl
theorem bP {sg:List Nat} {c m:Nat} {r:List Nat} (h:c∈sg):run sg (m+1) (c::r)=run sg m r+1:=by
 show (if c∈sg then run sg m r+1 else 0)=_
 rw [if_pos h]
theorem jP {sg:List Nat}:∀{m:Nat} {r:List Nat} {c:Nat} {r':List Nat},r.drop (run sg m r)=c::r'->¬(c∈sg/\run sg m r<m)
 | 0,r,c,r',_,h=>absurd h.2 (Nat.not_lt_zero _)
 | m+1,[],c,r',e,h=>by simp at e
 | m+1,x::r,c,r',e,h=>by
  by_cases hx:x∈sg
  ·rw [bP hx] at e h
   exact jP (m:=m) (r:=r) (by simpa using e) ⟨h.1,by omega⟩
  ·rw [dW hx] at e
   cases e
   exact hx h.1
theorem kE {c:Nat} {r:List Nat} (h:c=40∨c=41∨c=32):aA (c::r)=1:=by
 have n1:aJ (c::r)=0:=by
  unfold aJ
  rw [if_neg (by rw [List.head?_cons];intro z;cases z;omega),if_neg (by rw [List.head?_cons];intro z;cases z;omega),dW (by rw [cz];omega)]
 unfold aA
 rw [if_pos n1,if_pos (dW (by rw [cU];omega)),rg (by rw [fu];omega)]
theorem kF {r:List Nat}:aA (48::r)=1:=by
 have n1:aJ (48::r)=1:=rfl
 unfold aA
 rw [n1]
 rfl
theorem qI {r:List Nat} (h:∀ c r',r=c::r'->¬(c∈bJ/\c≠48)):aA (45::r)=1:=by
 have n1:aJ (45::r)=0:=by
  unfold aJ
  rw [List.head?_cons,if_pos rfl,List.tail_cons]
  cases r with
  | nil=>rfl
  | cons c r' =>
   by_cases z:c=48
   ·subst z;rfl
   ·rw [if_neg (by rw [List.head?_cons];intro y;cases y;exact z rfl),dW (λy=>h c r' rfl ⟨y,z⟩)]
    rfl
 unfold aA
 rw [if_pos n1,if_pos (dW (by rw [cU];omega)),rg (by rw [fu];omega)]
theorem qJ {c:Nat} {r:List Nat} (h:c∈bJ) (h':c≠48):aA (45::c::r)=run bJ 60 (c::r)+1:=by
 have n1:aJ (45::c::r)=run bJ 60 (c::r)+1:=by
  unfold aJ
  rw [List.head?_cons,if_pos rfl,List.tail_cons,if_neg (by rw [List.head?_cons];intro y;cases y;exact h' rfl),if_neg (by rw [bP h];omega)]
 unfold aA
 rw [n1,if_neg (by omega)]
theorem mS {c:Nat} {r:List Nat} (h:c∈bJ) (h':c≠48):aA (c::r)=run bJ 60 (c::r):=by
 have hc:=cz.mp h
 have n1:aJ (c::r)=run bJ 60 (c::r):=by
  unfold aJ
  rw [if_neg (by rw [List.head?_cons];intro z;cases z;omega),if_neg (by rw [List.head?_cons];intro z;cases z;omega)]
 unfold aA
 rw [n1,if_neg (by rw [bP h];omega)]
theorem mU {c:Nat} {r:List Nat} (h:c∈b0):aA (c::r)=run b0 8 (c::r):=by
 have hc:=cU.mp h
 have n1:aJ (c::r)=0:=by
  unfold aJ
  rw [if_neg (by rw [List.head?_cons];intro z;cases z;omega),if_neg (by rw [List.head?_cons];intro z;cases z;omega),dW (by rw [cz];omega)]
 unfold aA
 rw [if_pos n1,if_neg (by rw [bP h];omega)]
theorem qK {c:Nat} {r:List Nat} (h1:c∉bJ) (h2:c∉b0) (h3:c∉sh):aA (c::r)=0:=by
 have n1:aJ (c::r)=0:=by
  rw [cz] at h1
  rw [fu] at h3
  unfold aJ
  rw [if_neg (by rw [List.head?_cons];intro z;cases z;omega),if_neg (by rw [List.head?_cons];intro z;cases z;omega),dW (by rw [cz];omega)]
 unfold aA
 rw [if_pos n1,if_pos (dW h2),dW h3]
def gA:List Nat->Nat × List Nat × Nat->Option (Nat × List Nat × Nat)
 | [],q=>some q
 | c::r,q=>(bK c q).bind (gA r)
theorem gO:∀{p r:List Nat} {q q':Nat × List Nat × Nat} {i:Nat},gA p q=some q'->dj i (p++r) q=dj (i+p.length) r q'
 | [],r,q,q',i,h=>by cases h;rfl
 | c::p,r,q,q',i,h=>by
  obtain⟨q1,e1,e2⟩:=Option.bind_eq_some_iff.mp (show (bK c q).bind (gA p)=some q' from h)
  show (match bK c q with | none=>some i | some q'=>dj (i+1) (p++r) q')=_
  rw [e1]
  show dj (i+1) (p++r) q1=_
  rw [gO e2,List.length_cons]
  congr 1
  omega
theorem ic {c:Nat} {r:List Nat} {q:Nat × List Nat × Nat} {i:Nat} (h:bK c q=none):dj i (c::r) q=some i:=by
 show (match bK c q with | none=>some i | some q'=>dj (i+1) r q')=_
 rw [h]
theorem nM:iR≠cu/\iR≠eV/\iR≠mO/\iR≠j6/\iR≠lJ/\j6≠cu/\j6≠eV/\j6≠mO/\j6≠lJ/\mO≠cu/\mO≠eV/\mO≠lJ/\lJ≠cu/\lJ≠eV/\cu≠eV:=by decide
theorem gg:∀{m:Nat} {r:List Nat} {dp mn:Nat},mn+m=60->gA (r.take (run bJ m r)) (dp,iR,mn)=some (dp,iR,mn+run bJ m r)
 | 0,r,dp,mn,_=>by simp [run,gA]
 | m+1,[],dp,mn,_=>by simp [run,gA]
 | m+1,c::r,dp,mn,h=>by
  by_cases hc:c∈bJ
  ·rw [bP hc,List.take_succ_cons]
   have e:bK c (dp,iR,mn)=some (dp,iR,mn+1):=by
    have:=nM
    unfold bK
    grind
   show (bK c (dp,iR,mn)).bind _=_
   rw [e,Option.bind_some,gg (by omega)]
   congr 3
   omega
  ·rw [dW hc]
   rfl
theorem iI:∀{m:Nat} {r:List Nat} {dp mn:Nat},mn+m=8->gA (r.take (run b0 m r)) (dp,j6,mn)=some (dp,j6,mn+run b0 m r)
 | 0,r,dp,mn,_=>by simp [run,gA]
 | m+1,[],dp,mn,_=>by simp [run,gA]
 | m+1,c::r,dp,mn,h=>by
  by_cases hc:c∈b0
  ·rw [bP hc,List.take_succ_cons]
   have e:bK c (dp,j6,mn)=some (dp,j6,mn+1):=by
    have:=nM
    unfold bK
    grind
   show (bK c (dp,j6,mn)).bind _=_
   rw [e,Option.bind_some,iI (by omega)]
   congr 3
   omega
  ·rw [dW hc]
   rfl
def AS (ah r:List Nat) (q:Nat × List Nat × Nat):Prop :=
 (q.2.1=cu/\((ah=[]/\q.1=0)∨(ah=[32]/\0<q.1)))∨(ah=[40]/\q.2.1=eV/\0<q.1) ∨
 (ah≠[]/\ah≠[40]/\ah≠[32]/\q.2.1≠cu/\q.2.1≠eV/\∀ c r',r=c::r'->¬(q.2.1=mO/\c∈bJ/\c≠48)/\¬((q.2.1=iR/\c∈bJ/\q.2.2<60)∨(q.2.1=j6/\c∈b0/\q.2.2<8)))
theorem qh {ah p:List Nat} {c d:Nat} (h:c≠40/\c≠41/\c≠32):ms ah (c::p) d=decide (ah=[]∨ah=[40]∨ah=[32]):=by
 unfold ms
 rw [if_neg (by simp),if_neg (by intro z;cases z;omega),if_neg (by intro z;cases z;omega)]
 rw [decide_eq_true (p:=c::p≠[40]∨d<80) (.inl (by intro z;cases z;omega)),Bool.and_true]
theorem eX {ah r:List Nat} {c:Nat} {q:Nat × List Nat × Nat} (A:AS ah (c::r) q) :
  (ms ah (pc (c::r)) q.1=false->bK c q=none)/\(ms ah (pc (c::r)) q.1=true->∃ q',gA (pc (c::r)) q=some q'/\AS (pc (c::r)) ((c::r).drop (aA (c::r))) q' /\
   q'.1=if pc (c::r)=[40] then q.1+1 else if pc (c::r)=[41] then q.1-1 else q.1):=by
 have n:=nM
 obtain⟨dp,md,mn⟩:=q
 have one:∀ q',bK c (dp,md,mn)=some q'->gA [c] (dp,md,mn)=some q':=λq' h=>by
  show (bK c _).bind _=_
  rw [h];rfl
 have ho:∀ c' r',c::r=c'::r'->c=c':=λc' r' h=>by cases h;rfl
 by_cases c1:c=40∨c=41∨c=32
 ·have e:=kE (r:=r) c1
  have ep:pc (c::r)=[c]:=by unfold pc;rw [e];rfl
  rw [e,ep]
  have d1:c∉bJ:=by rw [cz];omega
  have d2:c∉b0:=by rw [cU];omega
  rcases A with⟨a1,a2⟩|⟨a1,a2,a3⟩|⟨a1,a2,a3,a4,a5,a6⟩
  ·replace a1:md=cu:=a1
   replace a2:(ah=[]/\dp=0)∨(ah=[32]/\0<dp):=a2
   subst a1
   rcases c1 with rfl | rfl | rfl
   ·refine⟨λh=>?_,λh=>⟨_,one (dp+1,eV,mn) ?_,.inr (.inl ⟨rfl,rfl,Nat.succ_pos _⟩),rfl⟩⟩
    ·unfold ms at h;unfold bK;grind
    ·unfold ms at h;unfold bK;grind
   ·refine⟨λh=>?_,λh=>?_⟩
    ·unfold bK;grind
    ·unfold ms at h;grind
   ·refine⟨λh=>?_,λh=>?_⟩
    ·unfold bK;grind
    ·unfold ms at h;grind
  ·replace a2:md=eV:=a2
   replace a3:0<dp:=a3
   subst a1 a2
   rcases c1 with rfl | rfl | rfl
   ·refine⟨λh=>?_,λh=>⟨_,one (dp+1,eV,mn) ?_,.inr (.inl ⟨rfl,rfl,Nat.succ_pos _⟩),rfl⟩⟩
    ·unfold ms at h;unfold bK;grind
    ·unfold ms at h;unfold bK;grind
   ·refine⟨λh=>?_,λh=>⟨_,one (dp-1,lJ,mn) ?_,.inr (.inr ⟨by simp,by simp,by simp,n.2.2.2.2.2.2.2.2.2.2.2.2.1,n.2.2.2.2.2.2.2.2.2.2.2.2.2.1,λc' r' _=>?_⟩),rfl⟩⟩
    ·unfold ms at h;grind
    ·unfold bK;grind
    ·grind
   ·refine⟨λh=>?_,λh=>?_⟩
    ·unfold bK;grind
    ·unfold ms at h;grind
  ·replace a4:md≠cu:=a4
   replace a5:md≠eV:=a5
   have a6:=a6 c r rfl
   rcases c1 with rfl | rfl | rfl
   ·refine⟨λh=>?_,λh=>?_⟩
    ·unfold bK;grind
    ·unfold ms at h;grind
   ·refine⟨λh=>?_,λh=>⟨_,one (dp-1,lJ,mn) ?_,.inr (.inr ⟨by simp,by simp,by simp,n.2.2.2.2.2.2.2.2.2.2.2.2.1,n.2.2.2.2.2.2.2.2.2.2.2.2.2.1,λc' r' _=>?_⟩),rfl⟩⟩
    ·unfold ms at h;unfold bK;grind
    ·unfold ms at h;unfold bK;grind
    ·grind
   ·refine⟨λh=>?_,λh=>⟨_,one (dp,cu,mn) ?_,.inl ⟨rfl,.inr ⟨rfl,?_⟩⟩,rfl⟩⟩
    ·unfold ms at h;unfold bK;grind
    ·unfold ms at h;unfold bK;grind
    ·unfold ms at h;grind
 ·have c1':c≠40/\c≠41/\c≠32:=by omega
  have out:¬(ah=[]∨ah=[40]∨ah=[32])->bK c (dp,md,mn)=none:=λz=>by
   rcases A with⟨a1,a2⟩|⟨a1,a2,a3⟩|⟨a1,a2,a3,a4,a5,a6⟩
   ·exact absurd (a2.elim (λy=>.inl y.1) λy=>.inr (.inr y.1)) z
   ·exact absurd (.inr (.inl a1)) z
   ·have a6:=a6 c r rfl
    unfold bK;grind
  have inn:ah=[]∨ah=[40]∨ah=[32]->md=cu∨md=eV:=λz=>by
   rcases A with⟨a1,a2⟩|⟨a1,a2,a3⟩|⟨a1,a2,a3,a4,a5,a6⟩
   ·exact .inl a1
   ·exact .inr a2
   ·exact absurd z (by simp [a1,a2,a3])
  have go:∀ p' q',pc (c::r)=c::p'->(md=cu∨md=eV->gA (c::p') (dp,md,mn)=some q')->AS (c::p') ((c::r).drop (aA (c::r))) q'->q'.1=dp ->
    (ms ah (pc (c::r)) dp=false->bK c (dp,md,mn)=none)/\(ms ah (pc (c::r)) dp=true->∃ q',gA (pc (c::r)) (dp,md,mn)=some q'/\AS (pc (c::r)) ((c::r).drop (aA (c::r))) q' /\
     q'.1=if pc (c::r)=[40] then dp+1 else if pc (c::r)=[41] then dp-1 else dp):=λp' q' e1 e2 e3 e4=>by
   rw [e1,qh c1',decide_eq_false_iff_not,decide_eq_true_eq]
   exact⟨out,λz=>⟨q',e2 (inn z),e3,by rw [if_neg (by intro y;cases y;omega),if_neg (by intro y;cases y;omega)];exact e4⟩⟩
  show (ms ah (pc (c::r)) dp=false->bK c (dp,md,mn)=none)/\_
  by_cases c2:c=48
  ·subst c2
   have e:=kF (r:=r)
   refine go [] (dp,lJ,mn) (by unfold pc;rw [e];rfl) (λz=>one _ (by unfold bK;grind)) (.inr (.inr ⟨by simp,by simp,by simp,n.2.2.2.2.2.2.2.2.2.2.2.2.1,n.2.2.2.2.2.2.2.2.2.2.2.2.2.1,λc' r' _=>?_⟩)) rfl
   grind
  by_cases c3:c=45
  ·subst c3
   by_cases h:∃ c' r',r=c'::r'/\c'∈bJ/\c'≠48
   ·obtain⟨c',r',rfl,h1,h2⟩:=h
    have e:=qJ (r:=r') h1 h2
    have st:md=cu∨md=eV->bK 45 (dp,md,mn)=some (dp,mO,mn):=λz=>by unfold bK;grind
    have st2:bK c' (dp,mO,mn)=some (dp,iR,1):=by unfold bK;grind
    refine go _ (dp,iR,1+run bJ 59 r') (by unfold pc;rw [e];exact List.take_succ_cons) (λz=>?_) ?_ rfl
    ·show (bK 45 _).bind _=_
     rw [st z,Option.bind_some,bP h1,List.take_succ_cons]
     show (bK c' _).bind _=_
     rw [st2,Option.bind_some,gg (by omega)]
    ·refine .inr (.inr ⟨by simp,by simp,by simp,n.1,n.2.1,λc2 r2 ex=>?_⟩)
     rw [e,List.drop_succ_cons] at ex
     have:=jP ex
     rw [bP h1] at this
     grind
   ·have e:=qI (r:=r) λc' r' z y=>h ⟨c',r',z,y⟩
    refine go [] (dp,mO,mn) (by unfold pc;rw [e];rfl) (λz=>one _ (by unfold bK;grind)) (.inr (.inr ⟨by simp,by simp,by simp,n.2.2.2.2.2.2.2.2.2.1,n.2.2.2.2.2.2.2.2.2.2.1,λc' r' ex=>?_⟩)) rfl
    rw [e] at ex
    have:=λy=>h ⟨c',r',ex,y⟩
    grind
  by_cases c4:c∈bJ
  ·have e:=mS (r:=r) c4 c2
   have d:=cz.mp c4
   have d2:c∉b0:=by rw [cU];omega
   have st:md=cu∨md=eV->bK c (dp,md,mn)=some (dp,iR,1):=λz=>by unfold bK;grind
   refine go (r.take (run bJ 59 r)) (dp,iR,1+run bJ 59 r) (by unfold pc;rw [e,bP c4];exact List.take_succ_cons) (λz=>?_) ?_ rfl
   ·show (bK c _).bind _=_
    rw [st z,Option.bind_some,gg (by omega)]
   ·refine .inr (.inr ⟨by simp,by intro y;have:=(List.cons.inj y).1;omega,by intro y;have:=(List.cons.inj y).1;omega,n.1,n.2.1,λc2 r2 ex=>?_⟩)
    rw [e] at ex
    have:=jP ex
    rw [bP c4] at this
    grind
  by_cases c5:c∈b0
  ·have e:=mU (r:=r) c5
   have d:=cU.mp c5
   have st:md=cu∨md=eV->bK c (dp,md,mn)=some (dp,j6,1):=λz=>by unfold bK;grind
   refine go (r.take (run b0 7 r)) (dp,j6,1+run b0 7 r) (by unfold pc;rw [e,bP c5];exact List.take_succ_cons) (λz=>?_) ?_ rfl
   ·show (bK c _).bind _=_
    rw [st z,Option.bind_some,iI (by omega)]
   ·refine .inr (.inr ⟨by simp,by intro y;have:=(List.cons.inj y).1;omega,by intro y;have:=(List.cons.inj y).1;omega,n.2.2.2.2.2.1,n.2.2.2.2.2.2.1,λc2 r2 ex=>?_⟩)
    rw [e] at ex
    have:=jP ex
    rw [bP c5] at this
    grind
  have e:=qK (r:=r) c4 c5 (by rw [fu];omega)
  have ep:pc (c::r)=[]:=by unfold pc;rw [e];rfl
  rw [ep]
  refine⟨λ_=>?_,λh=>by unfold ms at h;simp at h⟩
  by_cases z:ah=[]∨ah=[40]∨ah=[32]
  ·have:=inn z
   unfold bK;grind
  ·exact out z
def oN:Nat->List Nat->List (List Nat)
 | 0,_=>[]
 | _+1,[]=>[]
 | f+1,c::r=>pc (c::r)::oN f ((c::r).drop (aA (c::r)))
theorem wN {st:List (List PyData)} {p:List Nat} (h:p≠[32]) (h1:(put st p).length=1) (h2:p=[40]->1<=st.length):∃ x xs,put st p=[x::xs]:=by
 unfold put at h1 ⊢
 split at h1
 ·rename_i z
  have:=h2 z
  rw [List.length_append,List.length_singleton] at h1
  omega
 ·split at h1
  ·rename_i z z'
   rw [if_neg z,if_pos z']
   rw [List.length_append,List.length_singleton] at h1
   have e:st.dropLast.dropLast=[]:=List.length_eq_zero_iff.mp (by omega)
   rw [e,List.nil_append]
   cases hh:(st.dropLast.getLast?.getD []++[PyData.tuple (st.getLast?.getD [])]) with
   | nil=>simp at hh
   | cons x xs=>exact⟨x,xs,rfl⟩
  ·rename_i z z'
   rw [if_neg z,if_neg z',if_neg h]
   rw [List.length_append,List.length_singleton] at h1
   have e:st.dropLast=[]:=List.length_eq_zero_iff.mp (by omega)
   rw [e,List.nil_append]
   cases hh:(st.getLast?.getD []++[val p]) with
   | nil=>simp at hh
   | cons x xs=>exact⟨x,xs,rfl⟩
theorem jO:∀{f i:Nat} {r ah:List Nat} {st:List (List PyData)} {q:Nat × List Nat × Nat},r.length<f->AS ah r q->q.1=st.length-1->1<=st.length->(ah≠[]->st.length=1->∃ x xs,st=[x::xs]) ->
  ∃ o,oZ f i r ah st=some o/\(∀ k,dj i r q=some k->o=.inl k)/\(dj i r q=none->∃ d,o=.inr d/\((oN f r).foldl put st)[0]?.bind (λds=>ds[0]?)=some d)
 | 0,i,r,ah,st,q,h,_,_,_,_=>absurd h (Nat.not_lt_zero _)
 | f+1,i,[],ah,st,q,h,A,hq,s1,ne=>by
  have n:=nM
  have hm:(0<q.1∨q.2.1=cu)↔(1<st.length∨ah=[]):=by
   rcases A with⟨a1,a2⟩|⟨a1,a2,a3⟩|⟨a1,a2,a3,a4,a5,a6⟩
   ·rcases a2 with⟨b1,b2⟩|⟨b1,b2⟩
    ·exact⟨λ_=>.inr b1,λ_=>.inr a1⟩
    ·exact⟨λ_=>.inl (by omega),λ_=>.inr a1⟩
   ·exact⟨λ_=>.inl (by omega),λ_=>.inl a3⟩
   ·exact⟨λz=>.inl (z.elim (λz=>by omega) λz=>absurd z a4),λz=>.inl (z.elim (λz=>by omega) λz=>absurd z a1)⟩
  have e1:oZ (f+1) i [] ah st=if 1<st.length∨ah=[] then some (.inl i) else (st[0]?.bind λds=>ds[0]?).map .inr:=rfl
  have e2:dj i [] q=if 0<q.1∨q.2.1=cu then some i else none:=rfl
  by_cases z:1<st.length∨ah=[]
  ·rw [e1,e2,if_pos z,if_pos (hm.mpr z)]
   exact⟨_,rfl,λk e=>by cases e;rfl,λe=>by cases e⟩
  ·rw [e1,e2,if_neg z,if_neg (λy=>z (hm.mp y))]
   obtain⟨x,xs,rfl⟩:=ne (λy=>z (.inr y)) (by omega)
   exact⟨.inr x,rfl,λk e=>(by cases e),λ_=>⟨x,rfl,rfl⟩⟩
 | f+1,i,c::r,ah,st,q,h,A,hq,s1,ne=>by
  have e1:oZ (f+1) i (c::r) ah st=if ms ah (pc (c::r)) (st.length-1)=true then oZ f (i+aA (c::r)) ((c::r).drop (aA (c::r))) (pc (c::r)) (put st (pc (c::r))) else some (.inl i):=by
   show (if c::r=[] then _ else _)=_
   rw [if_neg (by simp)]
  obtain⟨h1,h2⟩:=eX A
  rw [<- hq] at e1
  cases hm:ms ah (pc (c::r)) q.1 with
  | false =>
   rw [e1,hm,if_neg (by decide),ic (h1 hm)]
   exact⟨_,rfl,λk e=>by cases e;rfl,λe=>by cases e⟩
  | true =>
   obtain⟨q',s,A',d⟩:=h2 hm
   rw [e1,hm,if_pos rfl]
   have pl:=fA (r:=c::r)
   have plen:(pc (c::r)).length=aA (c::r):=by
    show (List.take _ _).length=_
    rw [List.length_take]
    omega
   have pne:pc (c::r)≠[]:=λz=>by
    unfold ms at hm
    rw [if_pos z] at hm
    cases hm
   have ppos:0<aA (c::r):=by
    rw [<- plen]
    exact List.length_pos_iff.mpr pne
   have sp:c::r=pc (c::r)++(c::r).drop (aA (c::r)):=(List.take_append_drop _ _).symm
   have ef:dj i (c::r) q=dj (i+aA (c::r)) ((c::r).drop (aA (c::r))) q':=by
    have:=gO (r:=(c::r).drop (aA (c::r))) (i:=i) s
    rw [plen] at this
    rw [<- this,<- sp]
   have ep:oN (f+1) (c::r)=pc (c::r)::oN f ((c::r).drop (aA (c::r))):=rfl
   have pl2:=gS (p:=pc (c::r)) s1
   have b32:pc (c::r)=[32]->2<=st.length:=λz=>by
    unfold ms at hm
    rw [if_neg pne,if_neg (by rw [z];decide),if_pos z,Bool.and_eq_true,decide_eq_true_eq] at hm
    omega
   have P1:1<=(put st (pc (c::r))).length:=by
    rw [pl2]
    split
    ·omega
    ·split
     ·split<;>omega
     ·omega
   obtain⟨o,g1,g2,g3⟩:=jO (f:=f) (i:=i+aA (c::r)) (r:=(c::r).drop (aA (c::r))) (ah:=pc (c::r)) (st:=put st (pc (c::r))) (q:=q') (by rw [List.length_drop];omega) A' (by
    rw [d,pl2]
    split
    ·omega
    ·split
     ·split<;>omega
     ·omega) P1 (λ_ z=>by
    by_cases y:pc (c::r)=[32]
    ·rw [pl2,if_neg (by rw [y];decide),if_neg (by rw [y];decide)] at z
     have:=b32 y
     omega
    ·exact wN y z λ_=>s1)
   refine⟨o,g1,λk e=>g2 k (by rw [<- ef];exact e),λe=>?_⟩
   obtain⟨d',e3,e4⟩:=g3 (by rw [<- ef];exact e)
   exact⟨d',e3,by rw [ep,List.foldl_cons];exact e4⟩
theorem xB {l:List Nat}:AS [] l (0,cu,0):=.inl ⟨rfl,.inl ⟨rfl,rfl⟩⟩
end K
namespace K
open PySem PySem.Spec PyProof.Rows L2
section
variable {P:Program} {w:World} {K:PySem.W.Frag} {mg:Str->Option Value} {base:Heap}
def gK (c:Nat) (z l:List Nat):List Nat:=l.flatMap λk=>if k=c then z else [k]
theorem jR {c:Nat} {z a b:List Nat}:gK c z (a++b)=gK c z a++gK c z b:=List.flatMap_append
theorem iC {c:Nat} {z:List Nat}:∀{l:List Nat},c∉l->gK c z l=l
 | [],_=>rfl
 | k::r,h=>by
  have h1:¬k=c:=λe=>h (e▸List.mem_cons_self)
  have ih:=iC (z:=z) λm:c∈r=>h (List.mem_cons_of_mem _ m)
  show (if k=c then z else [k])++gK c z r=k::r
  rw [if_neg h1,ih]
  rfl
theorem uo {c:Nat} {z:List Nat}:gK c z [c]=z:=by simp [gK]
theorem kN {c:Nat} {z:List Nat}:∀ parts:List Str,(∀ p∈parts,c∉p.cps.toList)->gK c z (Str.join (S [c]) parts).cps.toList=(Str.join (S z) parts).cps.toList
 | [],_=>rfl
 | [p],h=>iC (h p (List.mem_singleton.mpr rfl))
 | p::q::r,h=>by
  have ih:=kN (c:=c) (z:=z) (q::r) λa ha=>h a (List.mem_cons_of_mem _ ha)
  show gK c z (p++S [c]++Str.join (S [c]) (q::r)).cps.toList=(p++S z++Str.join (S z) (q::r)).cps.toList
  simp only [Str.cps_append,Array.toList_append]
  rw [jR,jR,ih,iC (h p List.mem_cons_self)]
  show p.cps.toList++gK c z [c]++_=_
  rw [uo]
  rfl
theorem rf {l z:List Nat} {c:Nat}:Txt.replace (S l) (S [c]) (S z)=S (gK c z l):=by
 have e:(Txt.replace (S l) (S [c]) (S z)).cps.toList=gK c z l:=by
  show (Txt.replace (S l) ⟨#[c]⟩ (S z)).cps.toList=_
  rw [StrLaws.replace_one,<- kN _ (StrLaws.split_free (S l) c)]
  show gK c z (Str.join ⟨#[c]⟩ (Txt.split (S l) ⟨#[c]⟩)).cps.toList=_
  rw [StrLaws.join_split]
  rfl
 rw [kd (Txt.replace _ _ _),e]
def eh (l:List Nat):List Nat:=l.flatMap λk=>if k=40∨k=41 then [32,k,32] else [k]
theorem uC {l:List Nat}:gK 41 [32,41,32] (gK 40 [32,40,32] l)=eh l:=by
 induction l with
 | nil=>rfl
 | cons k r ih =>
  have e1:gK 40 [32,40,32] (k::r)=(if k=40 then [32,40,32] else [k])++gK 40 [32,40,32] r:=rfl
  have e2:eh (k::r)=(if k=40∨k=41 then [32,k,32] else [k])++eh r:=rfl
  rw [e1,e2,jR,ih]
  congr 1
  by_cases h:k=40
  ·subst h;rfl
  ·by_cases h2:k=41
   ·subst h2;rfl
   ·rw [if_neg h,if_neg (by omega)]
    show (if k=41 then _ else [k])++[]=_
    rw [if_neg h2]
    rfl
theorem eK:az ["_law_word_here"] ["_law_word_here"] (ai (top 35)):=gU
theorem oG (D:aC K mg "_law_value" (top 35)) (n_int:mg "int"=none):Callee P w K mg base ba 1 "_law_value" ["_law_word_here"] (nk K):=by
 refine cO D eK (λf cdv A outer s H vs Q E hr h=>?_)
 obtain⟨p,rfl,ok,q⟩:=h
 have nd:=eK.nd
 refine⟨_,(af (aH (ar aI (pv 0) aq (au _)) (ak (aB de)) aE) (ak (aB (cj (ar cE (bC (pv 0) ag (λ_ _=>rfl)) aq (by with_unfolding_all rfl)) (pv 0) (bo i8 rfl n_int L2.boot_int (aa (pv 0) ae)))))),?_⟩
 show bY _ _ _ [some (.str (S p))] H
 k_data
 simp only [qg,iM]
 refine aM (λc=>q _ ?_) (λc=>?_)
 ·unfold val
  rw [if_pos c]
  exact rfl
 obtain⟨ne,ok⟩:=ok
 obtain⟨x,r,rfl⟩:∃ x r,p=x::r:=by
  cases p with
  | nil=>exact absurd rfl ne
  | cons x r=>exact⟨x,r,rfl⟩
 refine⟨_,rfl,by rw [aL,List.length_cons];omega,x,rfl,_,rfl,_,rfl,?_⟩
 have fo:=PySem.StrLaws.found_one (S b0) x
 rw [j9] at fo
 rw [mN]
 refine aM (λc3=>q _ ?_) (λc3=>?_)
 ·rw [c3] at fo
  unfold val
  rw [if_neg c,if_pos (by simpa using fo)]
  exact rfl
 ·have nl:x∉b0:=λz=>c3 (by rw [decide_eq_true z] at fo;simpa using fo)
  rcases ok with z | z | ⟨l1,n,hn⟩
  ·exact absurd z c
  ·exact absurd z nl
  ·refine⟨S (x::r),n,rfl,hn,by rw [aL];omega,q _ ?_⟩
   unfold val
   rw [if_neg c,if_neg (show ¬(x::r).headD 0∈b0 from nl),hn]
   exact rfl
end
end K
namespace K
open PySem PySem.Spec PyProof.Rows L2
open Builtin Builtin.Str
def cn:List Nat->List Nat->List (List Nat)
 | [],cur=>if cur=[] then [] else [cur]
 | c::r,cur=>if Unicode.isSpace c=true then (if cur=[] then cn r [] else cur::cn r []) else cn r (cur++[c])
theorem rF {l:List Nat} {i j:Nat}:strSub (S l) i j=S ((l.drop i).take (j-i)):=by
 unfold strSub S
 congr 1
 apply Array.toList_inj.mp
 simp [List.extract_eq_take_drop]
theorem pA {l:List Nat} {b i:Nat} (h:b<=i) (hi:i<l.length):(l.drop b).take (i-b)++[l[i]]=(l.drop b).take (i+1-b):=by
 rw [show i+1-b=(i-b)+1 by omega,List.take_add_one,List.getElem?_drop,show b+(i-b)=i by omega,List.getElem?_eq_getElem hi]
 rfl
theorem dX {l:List Nat}:∀(m i:Nat) (ws:Array (Nat × Nat)) (st:Option Nat),i+m=l.length->(∀ b,st=some b->b<i)->ws.size+(if st=none then 0 else 1)<=i ->
  (StrLaws.swEnd (S l) (forIn (List.range' i m) ((none,ws,st):StrLaws.SwSt) (StrLaws.swBody (S l) (l.length+1))).run).map (λp:Nat × Nat=>strSub (S l) p.1 p.2)
   = ws.toList.map (λp:Nat × Nat=>strSub (S l) p.1 p.2)++(cn (l.drop i) (match st with | none=>[] | some b=>(l.drop b).take (i-b))).map S
 | 0,i,ws,st,hm,hb,hw=>by
  have hd:l.drop i=[]:=List.drop_of_length_le (by omega)
  rw [hd]
  show (StrLaws.swEnd (S l) (none,ws,st)).map _=_
  cases st with
  | none =>
   show ws.toList.map _=_++(if ([]:List Nat)=[] then [] else _).map S
   rw [if_pos rfl]
   simp
  | some b =>
   have hb':=hb b rfl
   have ne:(l.drop b).take (i-b)≠[]:=λz=>by
    have:=congrArg List.length z
    rw [List.length_take,List.length_drop,List.length_nil] at this
    omega
   show (ws.push (b,(S l).length)).toList.map _=_++(if (l.drop b).take (i-b)=[] then [] else [_]).map S
   rw [if_neg ne,Array.toList_push,List.map_append]
   congr 1
   show [strSub (S l) b (S l).length]=[S _]
   rw [rF,aL,show i=l.length by omega]
 | m+1,i,ws,st,hm,hb,hw=>by
  have hi:i<l.length:=by omega
  have hd:l.drop i=l[i]::l.drop (i+1):=List.drop_eq_getElem_cons hi
  have hsz:¬((ws.size==l.length+1)=true):=by
   rw [beq_iff_eq]
   omega
  have hc:(S l).cps.getD i 0=l[i]:=by
   show (l.toArray).getD i 0=l[i]
   simp [Array.getD,hi]
  rw [List.range'_succ,List.forIn_cons,hd]
  have body:StrLaws.swBody (S l) (l.length+1) i (none,ws,st)=(match (generalizing:=false) st,Unicode.isSpace l[i] with
    | some b,true=>pure (ForInStep.yield (none,ws.push (b,i),none))
    | none,false=>pure (ForInStep.yield (none,ws,some i))
    | _,_=>pure (ForInStep.yield (none,ws,st)):Id (ForInStep StrLaws.SwSt)):=by
   unfold StrLaws.swBody
   rw [if_neg hsz,hc]
   cases st<;>cases Unicode.isSpace l[i]<;>rfl
  rw [body]
  cases hs:Unicode.isSpace l[i] with
  | true =>
   cases st with
   | none =>
    have ih:=dX (l:=l) m (i+1) ws none (by omega) (λb z=>by cases z) (by simp at hw ⊢;omega)
    show _=_++(cn (l[i]::l.drop (i+1)) []).map S
    have e:cn (l[i]::l.drop (i+1)) []=cn (l.drop (i+1)) []:=by
     show (if Unicode.isSpace l[i]=true then (if ([]:List Nat)=[] then cn (l.drop (i+1)) [] else _) else _)=_
     rw [if_pos hs,if_pos rfl]
    rw [e]
    exact ih
   | some b =>
    have hb':=hb b rfl
    have ih:=dX (l:=l) m (i+1) (ws.push (b,i)) none (by omega) (λb z=>by cases z) (by simp at hw ⊢;omega)
    have ne:(l.drop b).take (i-b)≠[]:=λz=>by
     have:=congrArg List.length z
     rw [List.length_take,List.length_drop,List.length_nil] at this
     omega
    show _=_++(cn (l[i]::l.drop (i+1)) ((l.drop b).take (i-b))).map S
    have e:cn (l[i]::l.drop (i+1)) ((l.drop b).take (i-b))=(l.drop b).take (i-b)::cn (l.drop (i+1)) []:=by
     show (if Unicode.isSpace l[i]=true then (if (l.drop b).take (i-b)=[] then _ else (l.drop b).take (i-b)::cn (l.drop (i+1)) []) else _)=_
     rw [if_pos hs,if_neg ne]
    rw [e]
    refine Eq.trans ih ?_
    rw [Array.toList_push,List.map_append,List.append_assoc]
    congr 1
    show strSub (S l) b i::_=S _::_
    rw [rF]
    rfl
  | false =>
   have hs':¬Unicode.isSpace l[i]=true:=by rw [hs];decide
   cases st with
   | none =>
    have ih:=dX (l:=l) m (i+1) ws (some i) (by omega) (λb z=>by cases z;omega) (by simp at hw ⊢;omega)
    show _=_++(cn (l[i]::l.drop (i+1)) []).map S
    have e:cn (l[i]::l.drop (i+1)) []=cn (l.drop (i+1)) ((l.drop i).take (i+1-i)):=by
     show (if Unicode.isSpace l[i]=true then _ else cn (l.drop (i+1)) ([]++[l[i]]))=_
     rw [if_neg hs',show i+1-i=1 by omega,hd]
     rfl
    rw [e]
    exact ih
   | some b =>
    have hb':=hb b rfl
    have ih:=dX (l:=l) m (i+1) ws (some b) (by omega) (λb z=>by cases z;omega) (by simp at hw ⊢;omega)
    show _=_++(cn (l[i]::l.drop (i+1)) ((l.drop b).take (i-b))).map S
    have e:cn (l[i]::l.drop (i+1)) ((l.drop b).take (i-b))=cn (l.drop (i+1)) ((l.drop b).take (i+1-b)):=by
     show (if Unicode.isSpace l[i]=true then _ else cn (l.drop (i+1)) ((l.drop b).take (i-b)++[l[i]]))=_
     rw [if_neg hs',pA (by omega) hi]
    rw [e]
    exact ih
theorem uK {l:List Nat}:Txt.words (S l)=(cn l []).map S:=by
 have e:wordsOf (S l)=(cn l []).map S:=by
  unfold wordsOf
  rw [aL,StrLaws.sw_eq,aL]
  have:=dX (l:=l) l.length 0 #[] none (by omega) (λb z=>by cases z) (by simp)
  simpa using this
 unfold Txt.words
 by_cases h:(spaceWords (S l) ((S l).length+1)==[(0,(S l).length)])=true
 ·rw [if_pos h,<- e]
  unfold wordsOf
  rw [beq_iff_eq.mp h]
  show [S l]=[strSub (S l) 0 (S l).length]
  rw [rF,aL]
  simp
 ·rw [if_neg h,e]
end K
namespace K
open PySem PySem.Spec PyProof.Rows L2
def sgn:List Nat:=bJ++b0++[45]
theorem rz:∀ x∈sgn++[40,41],Unicode.isSpace x=false:=by decide +kernel
theorem yF:Unicode.isSpace 32=true:=by decide +kernel
theorem w5 {x:Nat} (h:x∈sgn):x≠40/\x≠41:=by
 simp only [sgn,List.mem_append,cz,cU,List.mem_singleton] at h
 omega
theorem mR {c:Nat} {r:List Nat}:pc (c::r)=[]∨(pc (c::r)=[c]/\aA (c::r)=1/\(c=40∨c=41∨c=32))∨(pc (c::r)≠[]/\pc (c::r)≠[40]/\pc (c::r)≠[41]/\pc (c::r)≠[32]/\∀ x∈pc (c::r),x∈sgn):=by
 have hd:∀ x∈bJ,x∈sgn:=λx h=>by simp [sgn,h]
 have hl:∀ x∈b0,x∈sgn:=λx h=>by simp [sgn,h]
 have h45:45∈sgn:=by decide
 have fin:pc (c::r)≠[]->(∀ x∈pc (c::r),x∈sgn)->(pc (c::r)≠[]/\pc (c::r)≠[40]/\pc (c::r)≠[41]/\pc (c::r)≠[32]/\∀ x∈pc (c::r),x∈sgn):=λh1 h2 =>
  ⟨h1,λz=>absurd (h2 40 (by rw [z];simp)) (by decide),λz=>absurd (h2 41 (by rw [z];simp)) (by decide),λz=>absurd (h2 32 (by rw [z];simp)) (by decide),h2⟩
 by_cases c1:c=40∨c=41∨c=32
 ·have e:=kE (r:=r) c1
  exact .inr (.inl ⟨by unfold pc;rw [e];rfl,e,c1⟩)
 by_cases c2:c=48
 ·subst c2
  have e:pc (48::r)=[48]:=by unfold pc;rw [kF];rfl
  exact .inr (.inr (fin (by rw [e];simp) (by rw [e];intro x hx;cases List.mem_singleton.mp hx;decide)))
 by_cases c3:c=45
 ·subst c3
  by_cases h:∃ c' r',r=c'::r'/\c'∈bJ/\c'≠48
  ·obtain⟨c',r',rfl,h1,h2⟩:=h
   have e:pc (45::c'::r')=45::(c'::r').take (run bJ 60 (c'::r')):=by unfold pc;rw [qJ h1 h2];exact List.take_succ_cons
   refine .inr (.inr (fin (by rw [e];simp) ?_))
   rw [e]
   intro x hx
   rcases List.mem_cons.mp hx with z | z
   ·rw [z];exact h45
   ·exact hd x (cY x z)
  ·have e:pc (45::r)=[45]:=by unfold pc;rw [qI λc' r' z y=>h ⟨c',r',z,y⟩];rfl
   exact .inr (.inr (fin (by rw [e];simp) (by rw [e];intro x hx;cases List.mem_singleton.mp hx;exact h45)))
 by_cases c4:c∈bJ
 ·have e:pc (c::r)=(c::r).take (run bJ 60 (c::r)):=by unfold pc;rw [mS c4 c2]
  refine .inr (.inr (fin (by rw [e,bP c4];simp) ?_))
  rw [e]
  exact λx hx=>hd x (cY x hx)
 by_cases c5:c∈b0
 ·have e:pc (c::r)=(c::r).take (run b0 8 (c::r)):=by unfold pc;rw [mU c5]
  refine .inr (.inr (fin (by rw [e,bP c5];simp) ?_))
  rw [e]
  exact λx hx=>hl x (cY x hx)
 ·left
  unfold pc
  rw [qK c4 c5 (by rw [fu];omega)]
  rfl
theorem uB {a b:List Nat}:eh (a++b)=eh a++eh b:=List.flatMap_append
theorem kQ:∀{p:List Nat},(∀ x∈p,x∈sgn)->eh p=p
 | [],_=>rfl
 | x::p,h=>by
  have:=w5 (h x List.mem_cons_self)
  show (if x=40∨x=41 then [32,x,32] else [x])++eh p=x::p
  rw [if_neg (by omega),kQ λy hy=>h y (List.mem_cons_of_mem _ hy)]
  rfl
theorem mh {r cur:List Nat}:cn (32::r) cur=(if cur=[] then [] else [cur])++cn r []:=by
 show (if Unicode.isSpace 32=true then (if cur=[] then cn r [] else cur::cn r []) else _)=_
 rw [if_pos yF]
 split<;>rfl
theorem iH:∀{p r cur:List Nat},(∀ x∈p,Unicode.isSpace x=false)->cn (p++r) cur=cn r (cur++p)
 | [],r,cur,_=>by rw [List.append_nil];rfl
 | x::p,r,cur,h=>by
  show (if Unicode.isSpace x=true then _ else cn (p++r) (cur++[x]))=_
  rw [if_neg (by rw [h x List.mem_cons_self];decide),iH λy hy=>h y (List.mem_cons_of_mem _ hy),List.append_assoc]
  rfl
theorem xw {c:Nat} {r cur:List Nat} (h:c=40∨c=41):cn (eh (c::r)) cur=(if cur=[] then [] else [cur])++[c]::cn (eh r) []:=by
 have e:eh (c::r)=32::([c]++(32::eh r)):=by
  show (if c=40∨c=41 then [32,c,32] else [c])++eh r=_
  rw [if_pos h]
  rfl
 rw [e,mh,iH (λx hx=>rz x (by cases List.mem_singleton.mp hx;rcases h with rfl | rfl<;>decide)),mh]
 rfl
theorem fP:∀{f i:Nat} {r ah cur:List Nat} {q:Nat × List Nat × Nat},r.length<f->AS ah r q->dj i r q=none->(cur≠[]->¬(ah=[]∨ah=[40]∨ah=[32])) ->
  cn (eh r) cur=(if cur=[] then [] else [cur])++(oN f r).filter (λp=>decide (p≠[32]))
 | 0,i,r,ah,cur,q,h,_,_,_=>absurd h (Nat.not_lt_zero _)
 | f+1,i,[],ah,cur,q,h,A,hw,hc=>by
  show (if cur=[] then [] else [cur])=_++[]
  rw [List.append_nil]
 | f+1,i,c::r,ah,cur,q,h,A,hw,hc=>by
  obtain⟨h1,h2⟩:=eX A
  have hm:ms ah (pc (c::r)) q.1=true:=by
   cases e:ms ah (pc (c::r)) q.1 with
   | true=>rfl
   | false=>rw [ic (h1 e)] at hw;cases hw
  obtain⟨q',s,A',_⟩:=h2 hm
  have pl:=fA (r:=c::r)
  have plen:(pc (c::r)).length=aA (c::r):=by
   show (List.take _ _).length=_
   rw [List.length_take]
   omega
  have pne:pc (c::r)≠[]:=λz=>by
   unfold ms at hm
   rw [if_pos z] at hm
   cases hm
  have ppos:0<aA (c::r):=by
   rw [<- plen]
   exact List.length_pos_iff.mpr pne
  have sp:c::r=pc (c::r)++(c::r).drop (aA (c::r)):=(List.take_append_drop _ _).symm
  have ef:dj (i+aA (c::r)) ((c::r).drop (aA (c::r))) q'=none:=by
   have:=gO (r:=(c::r).drop (aA (c::r))) (i:=i) s
   rw [plen,<- sp,hw] at this
   exact this.symm
  have ep:oN (f+1) (c::r)=pc (c::r)::oN f ((c::r).drop (aA (c::r))):=rfl
  have hl:((c::r).drop (aA (c::r))).length<f:=by rw [List.length_drop];omega
  rw [ep]
  rcases mR (c:=c) (r:=r) with z | ⟨z1,z2,z3⟩|⟨z1,z2,z3,z4,z5⟩
  ·exact absurd z pne
  ·have ih:=fP (f:=f) (cur:=[]) hl A' ef (λz=>absurd rfl z)
   rw [z1,z2] at *
   rw [show (c::r).drop 1=r from rfl] at *
   rw [if_pos rfl,List.nil_append] at ih
   by_cases c32:c=32
   ·subst c32
    rw [List.filter_cons_of_neg (by simp)]
    show cn (32::eh r) cur=_
    rw [mh,ih]
   ·rw [List.filter_cons_of_pos (by simpa using c32),xw (by omega),ih]
  ·have ih:=fP (f:=f) (cur:=pc (c::r)) hl A' ef (λ_ z=>by rcases z with z | z | z;exact z1 z;exact z2 z;exact z4 z)
   have ah':ah=[]∨ah=[40]∨ah=[32]:=by
    unfold ms at hm
    rw [if_neg pne,if_neg z3,if_neg z4,Bool.and_eq_true,decide_eq_true_eq] at hm
    exact hm.1
   have c0:cur=[]:=Classical.byContradiction λy=>hc y ah'
   subst c0
   rw [if_neg z1] at ih
   rw [if_pos rfl,List.nil_append,List.filter_cons_of_pos (by simpa using z4)]
   have e:eh (c::r)=pc (c::r)++eh ((c::r).drop (aA (c::r))):=by
    have:=congrArg eh sp
    rw [uB,kQ z5] at this
    exact this
   rw [e,iH (λx hx=>rz x (List.mem_append_left _ (z5 x hx))),List.nil_append,ih]
   rfl
theorem wO {st:List (List PyData)}:put st [32]=st:=by
 unfold put
 rw [if_neg (by decide),if_neg (by decide),if_pos rfl]
theorem ia:∀{ps:List (List Nat)} {st:List (List PyData)},(ps.filter (λp=>decide (p≠[32]))).foldl put st=ps.foldl put st
 | [],st=>rfl
 | p::ps,st=>by
  by_cases h:p=[32]
  ·subst h
   rw [List.filter_cons_of_neg (by simp),List.foldl_cons,wO]
   exact ia
  ·rw [List.filter_cons_of_pos (by simpa using h),List.foldl_cons,List.foldl_cons]
   exact ia
theorem dY {l:List Nat} (h:dj 0 l (0,cu,0)=none):∃ d,oZ (l.length+1) 0 l [] [[]]=some (.inr d)/\Txt.words (S (eh l))=(cn (eh l) []).map S/\((cn (eh l) []).foldl put [[]])[0]?.bind (λds=>ds[0]?)=some d:=by
 obtain⟨o,g1,_,g3⟩:=jO (f:=l.length+1) (i:=0) (r:=l) (ah:=[]) (st:=[[]]) (q:=(0,cu,0)) (by omega) xB rfl (by decide) (λz=>absurd rfl z)
 obtain⟨d,rfl,e⟩:=g3 h
 refine⟨d,g1,uK,?_⟩
 rw [fP (f:=l.length+1) (i:=0) (ah:=[]) (cur:=[]) (by omega) xB h (λz=>absurd rfl z),if_pos rfl,List.nil_append,ia]
 exact e
end K
namespace K
open PySem PySem.Spec PyProof.Rows L2
section
variable {P:Program} {w:World} {K:PySem.W.Frag} {mg:Str->Option Value} {base:Heap}
def gp:List (List Nat)->Nat->Prop
 | [],_=>True
 | p::ps,n=>(p=[40]->n<=80/\gp ps (n+1))/\(p=[41]->2<=n/\gp ps (n-1))/\(p≠[40]->p≠[41]->gp ps n)/\(p≠[40]->p≠[41]->p≠[32]->yY p)
theorem pU:∀{f i:Nat} {r ah:List Nat} {q:Nat × List Nat × Nat},r.length<f->AS ah r q->dj i r q=none->gp (oN f r) (q.1+1)
 | 0,i,r,ah,q,h,_,_=>absurd h (Nat.not_lt_zero _)
 | f+1,i,[],ah,q,h,A,hw=>True.intro
 | f+1,i,c::r,ah,q,h,A,hw=>by
  obtain⟨h1,h2⟩:=eX A
  have hm:ms ah (pc (c::r)) q.1=true:=by
   cases e:ms ah (pc (c::r)) q.1 with
   | true=>rfl
   | false=>rw [ic (h1 e)] at hw;cases hw
  obtain⟨q',s,A',d⟩:=h2 hm
  have pl:=fA (r:=c::r)
  have plen:(pc (c::r)).length=aA (c::r):=by
   show (List.take _ _).length=_
   rw [List.length_take]
   omega
  have pne:pc (c::r)≠[]:=λz=>by
   unfold ms at hm
   rw [if_pos z] at hm
   cases hm
  have ppos:0<aA (c::r):=by
   rw [<- plen]
   exact List.length_pos_iff.mpr pne
  have sp:c::r=pc (c::r)++(c::r).drop (aA (c::r)):=(List.take_append_drop _ _).symm
  have ef:dj (i+aA (c::r)) ((c::r).drop (aA (c::r))) q'=none:=by
   have:=gO (r:=(c::r).drop (aA (c::r))) (i:=i) s
   rw [plen,<- sp,hw] at this
   exact this.symm
  have ih:=pU (f:=f) (by rw [List.length_drop];omega) A' ef
  have ep:oN (f+1) (c::r)=pc (c::r)::oN f ((c::r).drop (aA (c::r))):=rfl
  rw [ep]
  refine⟨λz=>?_,λz=>?_,λz1 z2=>?_,λz1 z2 z3=>qH pne z1 z2 z3⟩
  ·rw [if_pos z] at d
   rw [d] at ih
   unfold ms at hm
   rw [if_neg pne,if_neg (by rw [z];decide),if_neg (by rw [z];decide),Bool.and_eq_true,decide_eq_true_eq,decide_eq_true_eq] at hm
   exact⟨by rcases hm.2 with y | y;exact absurd z y;omega,ih⟩
  ·rw [if_neg (by rw [z];decide),if_pos z] at d
   rw [d] at ih
   unfold ms at hm
   rw [if_neg pne,if_pos z,Bool.and_eq_true,decide_eq_true_eq] at hm
   exact⟨by omega,by rw [show q.1+1-1=q.1-1+1 by omega];exact ih⟩
  ·rw [if_neg z1,if_neg z2] at d
   rw [d] at ih
   exact ih
theorem di:∀{ps:List (List Nat)} {n:Nat},gp ps n->gp (ps.filter (λp=>decide (p≠[32]))) n
 | [],n,h=>h
 | p::ps,n,⟨h1,h2,h3,h4⟩=>by
  by_cases z:p=[32]
  ·subst z
   rw [List.filter_cons_of_neg (by simp)]
   exact di (h3 (by decide) (by decide))
  ·rw [List.filter_cons_of_pos (by simpa using z)]
   exact⟨λy=>⟨(h1 y).1,di (h1 y).2⟩,λy=>⟨(h2 y).1,di (h2 y).2⟩,λy y'=>di (h3 y y'),h4⟩
theorem kq {l:List Nat} (h:dj 0 l (0,cu,0)=none):gp (cn (eh l) []) 1:=by
 rw [fP (f:=l.length+1) (i:=0) (ah:=[]) (cur:=[]) (by omega) xB h (λz=>absurd rfl z),if_pos rfl,List.nil_append]
 exact di (pU (i:=0) (by omega) xB h)
theorem gX:∀{l cur:List Nat},(cn l cur).length<=l.length+1
 | [],cur=>by
  rw [show cn [] cur=if cur=[] then [] else [cur] from rfl]
  split<;>simp
 | c::r,cur=>by
  rw [show cn (c::r) cur=if Unicode.isSpace c=true then (if cur=[] then cn r [] else cur::cn r []) else cn r (cur++[c]) from rfl]
  have h1:=gX (l:=r) (cur:=[])
  have h2:=gX (l:=r) (cur:=cur++[c])
  split
  ·split
   ·rw [List.length_cons];omega
   ·rw [List.length_cons,List.length_cons];omega
  ·rw [List.length_cons];omega
theorem fQ:∀{l cur:List Nat},32∉cur->[32]∉cn l cur
 | [],cur,h,hp=>by
  rw [show cn [] cur=if cur=[] then [] else [cur] from rfl] at hp
  split at hp
  ·cases hp
  ·exact h (by rw [<- List.mem_singleton.mp hp];simp)
 | c::r,cur,h,hp=>by
  rw [show cn (c::r) cur=if Unicode.isSpace c=true then (if cur=[] then cn r [] else cur::cn r []) else cn r (cur++[c]) from rfl] at hp
  split at hp
  ·split at hp
   ·exact fQ (by simp) hp
   ·rcases List.mem_cons.mp hp with y | y
    ·exact h (by rw [<- y];simp)
    ·exact fQ (by simp) y
  ·rename_i z
   refine fQ (λy=>?_) hp
   rcases List.mem_append.mp y with y | y
   ·exact h y
   ·exact z (by rw [<- List.mem_singleton.mp y];exact yF)
theorem jW:∀{l:List Nat},(eh l).length<=3*l.length
 | []=>by simp [eh]
 | k::r=>by
  have:=jW (l:=r)
  show ((if k=40∨k=41 then [32,k,32] else [k])++eh r).length<=3*(r.length+1)
  rw [List.length_append]
  split<;>simp<;>omega
theorem jS {c:Nat} {z:List Nat}:∀{l:List Nat},z.length=3->(gK c z l).length<=3*l.length
 | [],_=>by simp [gK]
 | k::r,h=>by
  have:=jS (c:=c) (l:=r) h
  show ((if k=c then z else [k])++gK c z r).length<=3*(r.length+1)
  rw [List.length_append]
  split
  ·omega
  ·rw [List.length_singleton];omega
theorem xS:Str.ofString " ( "=S [32,40,32]:=by decide +kernel
theorem xT:Str.ofString " ) "=S [32,41,32]:=by decide +kernel
structure zS (K:PySem.W.Frag) (H0:Hp) (op a:Addr) (ws:List (List Nat)) (i:Nat) (ls:List Addr) (st:List (List PyData)) (H:Hp):Prop where
 sk:iN K H op ls st
 sm:aF H0 H
 f0:H0 op=none
 fl:∀ b∈ls,H0 b=none
 s1:1<=st.length
 s8:st.length<=81
 few:∀ ds∈st,ds.length<=i
 la:H a=some (.lst ((ws.map S).map V.str))
 na:a∉op::ls
 go:gp (ws.drop i) st.length
 fo:(ws.drop i).foldl put st=ws.foldl put [[]]
def m9 (K:PySem.W.Frag):Sp:=λvs H Q _=>∃(l:List Nat),vs=[.str (S l)]/\l.length<=10^5/\dj 0 l (0,cu,0)=none/\∀ d,oZ (l.length+1) 0 l [] [[]]=some (.inr d)->∀ v H',aF H H'->dv K H' d v->lO d=true->Q v H'
theorem eI:az ["_law_text_here","_law_pile","_law_word_here"] ["_law_text_here"] (ai (top 36)):=gU
theorem qr (D:aC K mg "_law_built" (top 36)) (c__law_value:Callee P w K mg base ba 1 "_law_value" ["_law_word_here"] (nk K)) (n_tuple:mg "tuple"=none):gM P w K mg base ba 2 "_law_built" ["_law_text_here"] (m9 K):=by
 refine lg D (λ_ _ _ _ _ _ us hl=>by obtain⟨_,rfl⟩:=mK hl;exact rfl) eI (λvs H Q E h=>by obtain⟨_,rfl,_⟩:=h;rfl) (λf cdv A outer s H vs Q E hr h=>?_)
 obtain⟨l,rfl,l5,fw,q⟩:=h
 have nd:=eI.nd
 refine⟨_,(gq (zz (bI (i:=1) nd (bA (aa (bA ae) ae)))) (gq (ug PassesOwn.never rfl (qQ (tR PySem.F.plainAttrs_str PySem.F.slot_str_split PySem.F.type_str_split qm (kG (kG (PE.t (pv 0)) (by decide +kernel)) (by decide +kernel)))) (b8 (i:=2) nd rfl (Or.inl rfl) (.inr rfl)) (ak (aH (ar aI (pv 2) aq (au _)) (ak (cW (eG PySem.F.plainAttrs_list PySem.F.slot_list_append PySem.F.type_list_append bX (pv 1) (aa (bA ae) ae)))) (ak (aH (ar aI (pv 2) aq (au _)) (ak (cW (eG PySem.F.plainAttrs_list PySem.F.slot_list_append PySem.F.type_list_append bX (bT aW (pv 1) (mV j4 ag) (λ_ _=>rfl)) (aa (bo dc rfl n_tuple L2.boot_tuple (aa (qM PySem.F.plainAttrs_list PySem.F.slot_list_pop PySem.F.type_list_pop ql (pv 1)) ae)) ae)))) (ak (cW (eG PySem.F.plainAttrs_list PySem.F.slot_list_append PySem.F.type_list_append bX (bT aW (pv 1) (mV j4 ag) (λ_ _=>rfl)) (aa (cm c__law_value hr aD (aa (pv 2) ae)) ae))))))))) (qW (ak (aB (bT aW (bT aW (pv 1) ag (λ_ _=>rfl)) ag (λ_ _=>rfl))))))),?_⟩
 show bY _ _ _ [some (.str (S l)),none,none] H
 k_data
 refine⟨by show 0<=sizeLine;decide,λl0 h0=>⟨by show 1<=sizeLine;decide,λop hop=>?_⟩⟩
 have b1:=av (o:=.lst []) h0
 have b2:=av (o:=.lst [V.ref l0]) hop
 have ne:l0≠op:=λz=>by rw [z,aj] at hop;cases hop
 have o0:H op=none:=b1.free hop
 have el:upd (upd H l0 (.lst [])) op (.lst [V.ref l0]) l0=some (.lst []):=b2 _ _ aj
 have eo:upd (upd H l0 (.lst [])) op (.lst [V.ref l0]) op=some (.lst [V.ref l0]):=aj
 have sk0:iN K (upd (upd H l0 (.lst [])) op (.lst [V.ref l0])) op [l0] [[]]:=by
  refine⟨eo,rfl,?_,λi l' ds e1 e2=>?_,λds hd=>by cases List.mem_singleton.mp hd;rfl,by decide,λds hd=>by cases List.mem_singleton.mp hd;decide⟩
  ·rw [List.nodup_cons]
   exact⟨λz=>ne (List.mem_singleton.mp z).symm,by simp⟩
  ·cases i with
   | zero =>
    cases e1
    cases e2
    exact⟨[],el,rfl⟩
   | succ i=>simp at e1
 have sm0:=b1.trans b2
 generalize upd (upd H l0 (.lst [])) op (.lst [V.ref l0])=H1 at *
 rw [oK,nU,xS,xT]
 have L1:(gK 40 [32,40,32] l).length<=3*l.length:=jS rfl
 have L2':(gK 41 [32,41,32] (gK 40 [32,40,32] l)).length<=3*(3*l.length):=Nat.le_trans (jS rfl) (Nat.mul_le_mul_left _ L1)
 refine⟨_,rfl,?_,_,rfl,?_,?_⟩
 ·rw [aL,aL]
  show l.length+(l.length+1)*3<=16777216
  omega
 ·rw [rf,aL,aL]
  show (gK 40 [32,40,32] l).length+((gK 40 [32,40,32] l).length+1)*3<=16777216
  omega
 rw [rf,rf,uC]
 have L3:=jW (l:=l)
 obtain⟨d,rd,wS,fd⟩:=dY fw
 have gw:=kq fw
 have wl:=gX (l:=eh l) (cur:=[])
 have n32:=fQ (l:=eh l) (cur:=[]) (by simp)
 refine⟨rfl,_,rfl,rfl,by rw [aL];exact Nat.lt_of_le_of_lt (show (eh l).length<=300000 by omega) (by decide),λa ha=>?_⟩
 rw [wS]
 generalize cn (eh l) []=ws at *
 have q:=q d rd
 have sA:=av (o:=.lst ((ws.map S).map V.str)) ha
 have eA:upd H1 a (.lst ((ws.map S).map V.str)) a=some (.lst ((ws.map S).map V.str)):=aj
 have aop:a≠op:=λz=>by rw [z,eo] at ha;cases ha
 have al0:a≠l0:=λz=>by rw [z,el] at ha;cases ha
 generalize upd H1 a (.lst ((ws.map S).map V.str))=H2 at *
 refine⟨a,rfl,⟨_,aP.of eA⟩,?_⟩
 refine oy (xs:=(ws.map S).map V.str) (λi σ' H'=>∃ o2 ls st,σ'=[some (.str (S l)),some (.ref op),o2]/\zS K H op a ws i ls st H') ⟨_,[l0],[[]],rfl,⟨sk0.same sA,sm0.trans sA,o0,λb hb=>by cases List.mem_singleton.mp hb;exact h0,by decide,by decide,λds hd=>by cases List.mem_singleton.mp hd;exact Nat.zero_le _,eA,λz=>by rcases List.mem_cons.mp z with y | y;exact aop y;exact al0 (List.mem_singleton.mp y),gw,rfl⟩⟩ ?_ ?_ ?_
 ·rintro i σ' H' _ ⟨o2,ls,st,rfl,I⟩
  exact aP.of I.la
 ·rintro i x σ' H' hx ⟨o2,ls,st,rfl,I⟩
  obtain⟨i1,hi1⟩:=List.getElem?_eq_some_iff.mp hx
  rw [List.length_map,List.length_map] at i1
  rw [List.getElem_map,List.getElem_map] at hi1
  subst hi1
  have hdr:ws.drop i=ws[i]::ws.drop (i+1):=List.drop_eq_getElem_cons i1
  have pm:ws[i]∈ws:=List.getElem_mem i1
  have p32:ws[i]≠[32]:=λz=>n32 (z▸pm)
  obtain⟨g1,g2,g3,g4⟩:gp (ws[i]::ws.drop (i+1)) st.length:=hdr▸I.go
  have fo:(ws.drop (i+1)).foldl put (put st ws[i])=ws.foldl put [[]]:=by
   rw [<- List.foldl_cons,<- hdr]
   exact I.fo
  generalize ws[i]=p at *
  have sk:=I.sk
  have s1:=I.s1
  have s8:=I.s8
  have ll:=sk.len
  have i6:i<10^6:=by omega
  have pl2:=gS (p:=p) s1
  have gn:gp (ws.drop (i+1)) (put st p).length:=by
   rw [pl2]
   split
   ·rename_i z;exact (g1 z).2
   ·split
    ·rename_i z z'
     have:=g2 z'
     rw [if_neg (by omega)]
     exact this.2
    ·rename_i z z';exact g3 z z'
  have p81:(put st p).length<=81:=by
   rw [pl2]
   split
   ·rename_i z;have:=(g1 z).1;omega
   ·split
    ·split<;>omega
    ·omega
  have p1:1<=(put st p).length:=by
   rw [pl2]
   split
   ·omega
   ·split
    ·split<;>omega
    ·omega
  -- what is left to show behind each way
  have fin:∀ ls' H3,iN K H3 op ls' (put st p)->(∀ b o,b∉op::ls->H' b=some o->H3 b=some o)->(∀ b∈ls',b∈ls∨H' b=none)->∃ ls st,zS K H op a ws (i+1) ls st H3:=λls' H3 sk3 k3 n3=>by
   refine⟨ls',put st p,⟨sk3,λb o e=>k3 b o (λz=>?_) (I.sm _ _ e),I.f0,λb hb=>?_,p1,p81,mX I.few (by omega),k3 a _ I.na I.la,λz=>?_,gn,fo⟩⟩
   ·rcases List.mem_cons.mp z with y | y
    ·rw [y,I.f0] at e;cases e
    ·rw [I.fl b y] at e;cases e
   ·rcases n3 b hb with y | y
    ·exact I.fl b y
    ·cases e:H b with
     | none=>rfl
     | some o=>rw [I.sm _ _ e] at y;cases y
   ·rcases List.mem_cons.mp z with y | y
    ·exact I.na (by rw [y];exact List.mem_cons_self)
    ·rcases n3 a y with x | x
     ·exact I.na (List.mem_cons_of_mem _ x)
     ·rw [I.la] at x;cases x
  k_data
  simp only [oK,nU,iM]
  refine aM (λc0=>?_) (λc0=>?_)
  ·subst c0
   refine⟨.inl ⟨rfl,_,aP.of sk.top⟩,by show 0<=sizeLine;decide,λn hn=>?_⟩
   have s1':=av (o:=.lst []) hn
   have lsz:ls.length<=100:=by have:=sk.few;omega
   refine⟨op,_,_,rfl,rfl,s1' _ _ sk.top,by rw [List.length_map];exact Nat.lt_of_le_of_lt lsz (by decide),?_⟩
   refine fin (ls++[n]) _ (by unfold put;rw [if_pos rfl];exact sk.push hn (by omega)) (λb o nb e=>?_) λb hb=>?_
   ·rw [ao (λz=>nb (by rw [z];exact List.mem_cons_self))]
    exact s1' _ _ e
   ·rcases List.mem_append.mp hb with z | z
    ·exact .inl z
    ·rw [List.mem_singleton.mp z]
     exact .inr hn
  refine aM (λc1=>?_) (λc1=>?_)
  ·subst c1
   have p2:=(g2 rfl).1
   have few:=I.few
   obtain⟨st1,ds,rfl⟩:=bz s1
   rw [List.length_append,List.length_singleton] at p2
   obtain⟨st0,ds1,rfl⟩:=bz (show 1<=st1.length by omega)
   obtain⟨ls1,l',rfl⟩:=bz (l:=ls) (by rw [ll];exact s1)
   rw [List.length_append,List.length_append,List.length_singleton,List.length_singleton] at ll
   obtain⟨ls0,l1,rfl⟩:=bz (l:=ls1) (by omega)
   rw [List.length_append,List.length_append,List.length_singleton,List.length_singleton] at ll
   obtain⟨vs,a1,a2⟩:=sk.it (ls0.length+1) l' ds (by rw [List.getElem?_append_right (by simp)];simp) (by rw [List.getElem?_append_right (by simp;omega)];simp [show ls0.length=st0.length by omega])
   obtain⟨vs1,c1',c2'⟩:=sk.it ls0.length l1 ds1 (by rw [List.getElem?_append_left (by simp)];simp) (by rw [List.getElem?_append_left (by simp;omega),List.getElem?_append_right (by omega)];simp [show ls0.length=st0.length by omega])
   have P:=sk.pop
   have lo:l'≠op:=sk.ne (by simp)
   have l1o:l1≠op:=sk.ne (by simp)
   have ix2:sf (((ls0++[l1])++[l']).map V.ref) (-2)=some (V.ref l1):=by
    have hl:(((ls0++[l1])++[l']).map V.ref).length=ls0.length+2:=by simp
    have e:pY (((ls0++[l1])++[l']).map V.ref).length (-2)=some ls0.length:=by
     unfold pY
     rw [hl,if_neg (by decide),if_pos (by omega)]
     congr 1
     omega
    unfold sf
    rw [e]
    show (((ls0++[l1])++[l']).map V.ref)[ls0.length]?=_
    rw [List.getElem?_map,List.getElem?_append_left (by simp),List.getElem?_append_right (Nat.le_refl _),Nat.sub_self]
    rfl
   refine⟨op,_,-2,V.ref l1,rfl,rfl,aP.of sk.top,ix2,.inl ⟨rfl,_,aP.of c1'⟩,.inl ⟨rfl,_,aP.of sk.top⟩,op,_,V.ref l',rfl,rfl,sk.top,by simp,?_⟩
   have ed:(((ls0++[l1])++[l']).map V.ref).dropLast=(ls0++[l1]).map V.ref:=by rw [List.map_append];exact List.dropLast_concat
   rw [ed]
   have b1:∀ b o,b≠op->H' b=some o->upd H' op (.lst ((ls0++[l1]).map V.ref)) b=some o:=λb o nb e=>by rw [ao nb];exact e
   have a1':=b1 _ _ lo a1
   have c1':=b1 _ _ l1o c1'
   have sb:SameBut op H' (upd H' op (.lst ((ls0++[l1]).map V.ref))):=λb o nb e=>b1 b o nb e
   have a2':=aZ.but sk.top sb ds (sk.nl ds (by simp)) a2
   generalize upd H' op (.lst ((ls0++[l1]).map V.ref))=H4 at *
   refine⟨l',rfl,vs,.inl ⟨aP.of a1',λn hn=>?_⟩⟩
   have s2:=av (o:=.tup vs) hn
   have P2:=P.same s2
   have ht:dv K (upd H4 n (.tup vs)) (.tuple ds) (.ref n):=⟨n,vs,rfl,br.of aj,aZ.same s2 _ a2'⟩
   have c3:=s2 _ _ c1'
   have lv:vs1.length=ds1.length:=(eR.len c2').symm
   have sm1:=few ds1 (by simp)
   refine⟨l1,_,_,rfl,rfl,c3,by rw [lv];exact Nat.lt_of_le_of_lt (show ds1.length<=10^6 by omega) (by decide),?_⟩
   refine fin (ls0++[l1]) _ ?_ (λb o nb e=>?_) λb hb=>.inl (List.mem_append_left _ hb)
   ·have e:put ((st0++[ds1])++[ds]) [41]=st0++[ds1++[.tuple ds]]:=by
     unfold put
     rw [if_neg (by decide),if_pos rfl,List.dropLast_concat,List.dropLast_concat]
     simp
    rw [e]
    exact P2.app c3 ht (by show cR ds=true;exact sk.nl ds (by simp)) (by omega)
   ·have n1:b≠op:=λz=>nb (by rw [z];exact List.mem_cons_self)
    have n2:b≠l1:=λz=>nb (by rw [z];simp)
    rw [ao n2]
    exact s2 _ _ (b1 _ _ n1 e)
  ·obtain⟨st0,ds,rfl⟩:=bz s1
   obtain⟨ls0,l',rfl⟩:=bz (l:=ls) (by rw [ll];exact s1)
   rw [List.length_append,List.length_append,List.length_singleton,List.length_singleton] at ll
   obtain⟨vs,a1,a2⟩:=sk.it ls0.length l' ds (by simp) (by rw [List.getElem?_append_right (by omega)];simp [show ls0.length=st0.length by omega])
   refine⟨op,_,-1,V.ref l',rfl,rfl,aP.of sk.top,by rw [List.map_append];exact hW _ _,.inl ⟨rfl,_,aP.of a1⟩,p,rfl,g4 c0 c1 p32,λv hv=>?_⟩
   have lv:vs.length=ds.length:=(eR.len a2).symm
   have sm1:=I.few ds (by simp)
   refine⟨l',_,_,rfl,rfl,a1,by rw [lv];exact Nat.lt_of_le_of_lt (show ds.length<=10^6 by omega) (by decide),?_⟩
   refine fin (ls0++[l']) _ ?_ (λb o nb e=>?_) λb hb=>.inl hb
   ·have e:put (st0++[ds]) p=st0++[ds++[val p]]:=by
     unfold put
     rw [if_neg c0,if_neg c1,if_neg p32,List.dropLast_concat]
     simp
    rw [e]
    exact sk.app a1 hv nF (by omega)
   ·rw [ao (λz=>nb (by rw [z];simp))]
    exact e
 ·rintro σ' H' ⟨o2,ls,st,rfl,I⟩
  rw [List.length_map,List.length_map] at I
  have dn:ws.drop ws.length=[]:=List.drop_of_length_le (Nat.le_refl _)
  have fo:=I.fo
  rw [dn] at fo
  have fo:st=ws.foldl put [[]]:=fo
  rw [<- fo] at fd
  have s1:=I.s1
  have ll:=I.sk.len
  obtain⟨ds,r,rfl⟩:∃ ds r,st=ds::r:=by
   cases st with
   | nil=>simp at s1
   | cons x y=>exact⟨x,y,rfl⟩
  obtain⟨l1,lr,rfl⟩:∃ l1 lr,ls=l1::lr:=by
   cases ls with
   | nil=>simp at ll
   | cons x y=>exact⟨x,y,rfl⟩
  obtain⟨vs,a1,a2⟩:=I.sk.it 0 l1 ds rfl rfl
  have fd:ds[0]?=some d:=fd
  obtain⟨d',r',rfl⟩:∃ d' r',ds=d'::r':=by
   cases ds with
   | nil=>cases fd
   | cons x y=>exact⟨x,y,rfl⟩
  cases fd
  obtain⟨v,vr,rfl,hv,_⟩:=a2
  have nl:=I.sk.nl _ List.mem_cons_self
  have nl':lO d=true:=by
   have:lO d=true/\cR r'=true:=by simpa [cR] using nl
   exact this.1
  k_data
  refine eU (aP.of I.sk.top) (by decide) (v:=V.ref l1) rfl ?_
  exact eU (aP.of a1) (by decide) (v:=v) rfl (q v H' I.sm hv nl')
structure sJ (K:PySem.W.Frag) (C:Addr) (cs:List Addr) (j:Nat):Prop where
 cls:a0 K C
 kit:∀(i:Nat) c,cs[i]?=some c->PySem.W.kitOne K (.ref C) (.ref c)=some (decide (i=j))
 val:PySem.W.kitOne K (.ref C) (.type "ValueError")=some true
 le:j<4
def wordOf (j:Nat):Str:=if j=0 then "nought" else if j=1 then "many" else if j=2 then "far" else "text"
def l3 (K:PySem.W.Frag) (cs:List Addr):Sp:=λvs H Q _=>∃(x C:Addr) (dd:Option Addr) (j:Nat),vs=[.ref x]/\xR H x C dd/\(∀ dx,dd=some dx->∃ fs,H dx=some (.xd fs))/\sJ K C cs j/\∀ H',aF H H'->Q (.str (wordOf j)) H'
theorem fK:az ["_law_e","_law_kinds","_law_words"] ["_law_e"] (ai (top 38)):=gU
theorem tO {c0 c1 c2 c3 c4 c5 c6 c7 c8 c9:Addr} (D:aC K mg "_law_word" (top 38)) (x_Nought:nJ K mg "Nought" c0) (x_TooMany:nK P w K mg base "TooMany" c1 "many") (x_TooFar:nK P w K mg base "TooFar" c2 "part") (x_NoText:nN P w K mg base "NoText" c3 "line" "word") (x_NoRow:nJ K mg "NoRow" c4) (x_NoNumber:nJ K mg "NoNumber" c5) (x_NoPrime:nK P w K mg base "NoPrime" c6 "divisor") (x_NoInverse:nK P w K mg base "NoInverse" c7 "divisor") (x_NoOrder:nJ K mg "NoOrder" c8) (x_NoRoot:nK P w K mg base "NoRoot" c9 "rest") (n_isinstance:mg "isinstance"=none) (n_ValueError:mg "ValueError"=none):dZ P w K mg base ba 1 "_law_word" ["_law_e"] (l3 K [c0,c1,c2,c3,c4,c5,c6,c7,c8,c9]):=by
 refine lb D (λ_ _ _ _ _ _ us hl=>by obtain⟨_,rfl⟩:=mK hl;exact rfl) fK (λvs H Q E h=>by obtain⟨_,_,_,_,rfl,_⟩:=h;rfl) (λf cdv A outer s H vs Q E hr h=>?_)
 obtain⟨x,C,dd,j,rfl,hx,hdd,wk,q⟩:=h
 have nd:=fK.nd
 refine⟨_,(af (bI (i:=1) nd (bA (aa (aw (bh K rfl) rfl n_isinstance PyProof.Rows.boot_isinstance (aa (pv 0) (aa (bf (v:=.ref _) rfl x_Nought.at_ rfl) ae))) (aa (aw (bh K rfl) rfl n_isinstance PyProof.Rows.boot_isinstance (aa (pv 0) (aa (bf (v:=.ref _) rfl x_TooMany.at_ rfl) ae))) (aa (aw (bh K rfl) rfl n_isinstance PyProof.Rows.boot_isinstance (aa (pv 0) (aa (bf (v:=.ref _) rfl x_TooFar.at_ rfl) ae))) (aa (aw (bh K rfl) rfl n_isinstance PyProof.Rows.boot_isinstance (aa (pv 0) (aa (bf (v:=.ref _) rfl x_NoText.at_ rfl) ae))) ae)))))) (af (bI (i:=1) nd (ay qA (pv 1) (bA (aa (aw (bh K rfl) rfl n_isinstance PyProof.Rows.boot_isinstance (aa (pv 0) (aa (bf (v:=.ref _) rfl x_NoRow.at_ rfl) ae))) (aa (aw (bh K rfl) rfl n_isinstance PyProof.Rows.boot_isinstance (aa (pv 0) (aa (bf (v:=.ref _) rfl x_NoNumber.at_ rfl) ae))) (aa (aw (bh K rfl) rfl n_isinstance PyProof.Rows.boot_isinstance (aa (pv 0) (aa (bf (v:=.ref _) rfl x_NoPrime.at_ rfl) ae))) (aa (aw (bh K rfl) rfl n_isinstance PyProof.Rows.boot_isinstance (aa (pv 0) (aa (bf (v:=.ref _) rfl x_NoInverse.at_ rfl) ae))) ae))))))) (af (bI (i:=1) nd (ay qA (pv 1) (bA (aa (aw (bh K rfl) rfl n_isinstance PyProof.Rows.boot_isinstance (aa (pv 0) (aa (bf (v:=.ref _) rfl x_NoOrder.at_ rfl) ae))) (aa (aw (bh K rfl) rfl n_isinstance PyProof.Rows.boot_isinstance (aa (pv 0) (aa (bf (v:=.ref _) rfl x_NoRoot.at_ rfl) ae))) (aa (wF (aw (bh K rfl) rfl n_isinstance PyProof.Rows.boot_isinstance (aa (pv 0) (aa (bG (v:=.ty "ValueError") rfl n_ValueError L2.gH rfl) ae)))) ae)))))) (af (bI (i:=2) nd (bA (aa aq (aa aq (aa aq (aa aq (aa aq ae))))))) (af (aH (PW.pt (bO (ar aI (eG PySem.F.plainAttrs_list PySem.F.slot_list_count PySem.F.type_list_count qi (pv 1) (aa fB ae)) ag (au _)) (cD (ar gh fB (bN m8 (pv 1) d9 (bH ag)) (by with_unfolding_all rfl))))) (ak (aB (bT aW (pv 2) (eG PySem.F.plainAttrs_list PySem.F.slot_list_index PySem.F.type_list_index qj (pv 1) (aa fB ae)) (λ_ _=>rfl)))) aE) (ak (aB aq))))))),?_⟩
 show bY _ _ _ [some (.ref x),none,none] H
 k_data
 have step:∀{H':Hp} {c:V} {cv:Value} {b:Bool} {Q:VK},aF H H'->xV c=some cv->PySem.W.kitOne K (.ref C) cv=some b->Q (.bl b) H'->qY K [.ref x,c] H' Q:=λs h1 h2 h3=>⟨x,C,dd,_,_,_,rfl,h1,hx.imp (s _ _) (s _ _),(λdx e=>let ⟨fs,z⟩:=hdd dx e;⟨fs,s _ _ z⟩),wk.cls,h2,h3⟩
 have r:=aF.refl H
 refine step r rfl (wk.kit 0 c0 rfl) (step r rfl (wk.kit 1 c1 rfl) (step r rfl (wk.kit 2 c2 rfl) (step r rfl (wk.kit 3 c3 rfl) ⟨by show 4<=sizeLine;decide,λp1 hp1=>?_⟩)))
 have s1:=av (o:=.lst [V.bl (decide (0=j)),V.bl (decide (1=j)),V.bl (decide (2=j)),V.bl (decide (3=j))]) hp1
 have e1:upd H p1 (.lst [V.bl (decide (0=j)),V.bl (decide (1=j)),V.bl (decide (2=j)),V.bl (decide (3=j))]) p1=_:=aj
 generalize upd H p1 _=H1 at *
 refine step s1 rfl (wk.kit 4 c4 rfl) (step s1 rfl (wk.kit 5 c5 rfl) (step s1 rfl (wk.kit 6 c6 rfl) (step s1 rfl (wk.kit 7 c7 rfl) ⟨by show 4<=sizeLine;decide,λp2 hp2=>?_⟩)))
 have s2:=av (o:=.lst [V.bl (decide (4=j)),V.bl (decide (5=j)),V.bl (decide (6=j)),V.bl (decide (7=j))]) hp2
 have e2:upd H1 p2 (.lst [V.bl (decide (4=j)),V.bl (decide (5=j)),V.bl (decide (6=j)),V.bl (decide (7=j))]) p2=_:=aj
 generalize upd H1 p2 _=H2 at *
 refine⟨p1,p2,_,_,rfl,rfl,s2 _ _ e1,e2,by show 8<=sizeLine;decide,λp3 hp3=>?_⟩
 have s3:=av (o:=.lst ([V.bl (decide (0=j)),V.bl (decide (1=j)),V.bl (decide (2=j)),V.bl (decide (3=j))]++[V.bl (decide (4=j)),V.bl (decide (5=j)),V.bl (decide (6=j)),V.bl (decide (7=j))])) hp3
 have e3:upd H2 p3 (.lst ([V.bl (decide (0=j)),V.bl (decide (1=j)),V.bl (decide (2=j)),V.bl (decide (3=j))]++[V.bl (decide (4=j)),V.bl (decide (5=j)),V.bl (decide (6=j)),V.bl (decide (7=j))])) p3=_:=aj
 generalize upd H2 p3 _=H3 at *
 have S3:=(s1.trans s2).trans s3
 refine step S3 rfl (wk.kit 8 c8 rfl) (step S3 rfl (wk.kit 9 c9 rfl) (step S3 rfl wk.val ⟨true,rfl,by show 3<=sizeLine;decide,λp4 hp4=>?_⟩))
 have s4:=av (o:=.lst [V.bl (decide (8=j)),V.bl (decide (9=j)),V.bl !true]) hp4
 have e4:upd H3 p4 (.lst [V.bl (decide (8=j)),V.bl (decide (9=j)),V.bl !true]) p4=_:=aj
 generalize upd H3 p4 _=H4 at *
 refine⟨p3,p4,_,_,rfl,rfl,s4 _ _ e3,e4,by show 11<=sizeLine;decide,λp5 hp5=>?_⟩
 generalize hKL:[V.bl (decide (0=j)),V.bl (decide (1=j)),V.bl (decide (2=j)),V.bl (decide (3=j))]++[V.bl (decide (4=j)),V.bl (decide (5=j)),V.bl (decide (6=j)),V.bl (decide (7=j))]++[V.bl (decide (8=j)),V.bl (decide (9=j)),V.bl !true]=KL
 have s5:=av (o:=.lst KL) hp5
 have e5:upd H4 p5 (.lst KL) p5=some (.lst KL):=aj
 generalize upd H4 p5 _=H5 at *
 refine⟨by show 5<=sizeLine;decide,λp6 hp6=>?_⟩
 have s6:=av (o:=.lst [V.str "nought",V.str "many",V.str "far",V.str "text",V.str "row"]) hp6
 have e6:upd H5 p6 (.lst [V.str "nought",V.str "many",V.str "far",V.str "text",V.str "row"]) p6=some (.lst [V.str "nought",V.str "many",V.str "far",V.str "text",V.str "row"]):=aj
 generalize upd H5 p6 _=H6 at *
 have e56:=s6 _ _ e5
 have S6:=S3.trans (s4.trans (s5.trans s6))
 refine⟨.inl ⟨rfl,_,aP.of e56⟩,?_⟩
 have j3:=wk.le
 rcases (by omega:j=0∨j=1∨j=2∨j=3) with rfl | rfl | rfl | rfl
 all_goals
  subst hKL
  refine⟨p5,_,_,rfl,rfl,e56,rfl,rfl,rfl,?_⟩
  rw [if_pos (by rfl)]
  refine⟨p5,_,rfl,aP.of e56,λp7 hp7=>⟨p7,_,rfl,.inl (aP.of aj),rfl,rfl,?_⟩⟩
  refine⟨true,rfl,?_⟩
  rw [if_pos rfl]
  have s7:∀ o,aF H6 (upd H6 p7 o):=λo=>av hp7
  refine⟨.inl ⟨rfl,_,aP.of (s7 _ _ _ e56)⟩,?_⟩
 ·exact⟨p5,_,_,0,rfl,rfl,s7 _ _ _ e56,rfl,rfl,⟨_,rfl,rfl⟩,λi z hi=>absurd hi (by omega),p6,_,0,_,rfl,rfl,aP.of (s7 _ _ _ e6),rfl,q _ (S6.trans (s7 _))⟩
 ·refine⟨p5,_,_,1,rfl,rfl,s7 _ _ _ e56,rfl,rfl,⟨_,rfl,rfl⟩,λi z hi hz=>?_,p6,_,1,_,rfl,rfl,aP.of (s7 _ _ _ e6),rfl,q _ (S6.trans (s7 _))⟩
  rw [show i=0 by omega] at hz
  cases hz
  rfl
 ·refine⟨p5,_,_,2,rfl,rfl,s7 _ _ _ e56,rfl,rfl,⟨_,rfl,rfl⟩,λi z hi hz=>?_,p6,_,2,_,rfl,rfl,aP.of (s7 _ _ _ e6),rfl,q _ (S6.trans (s7 _))⟩
  rcases (by omega:i=0∨i=1) with h | h
  ·rw [h] at hz;cases hz;rfl
  ·rw [h] at hz;cases hz;rfl
 ·refine⟨p5,_,_,3,rfl,rfl,s7 _ _ _ e56,rfl,rfl,⟨_,rfl,rfl⟩,λi z hi hz=>?_,p6,_,3,_,rfl,rfl,aP.of (s7 _ _ _ e6),rfl,q _ (S6.trans (s7 _))⟩
  rcases (by omega:i=0∨i=1∨i=2) with h | h | h
  ·rw [h] at hz;cases hz;rfl
  ·rw [h] at hz;cases hz;rfl
  ·rw [h] at hz;cases hz;rfl
def jV (K:PySem.W.Frag):Sp:=λvs H Q _=>∃(l:List Nat),vs=[.str (S l)]/\l.length<=10^5 /\
 (∀ k,dj 0 l (0,cu,0)=some k->∀ v H',aF H H'->dv K H' (.list [.none,.tuple [.int 0,.int (k:Int)]]) v->Q v H') /\
 (dj 0 l (0,cu,0)=none->∀ d,oZ (l.length+1) 0 l [] [[]]=some (.inr d)->∀ v H',aF H H'->dv K H' (.list [d,.none]) v->lO d=true->Q v H')
theorem fH:az ["_law_text_here","_law_found","_law_e"] ["_law_text_here"] (ai (top 42)):=gU
theorem qu {c3 cP:Addr} {cs:List Addr} (D:aC K mg "_law_read" (top 42)) (c_read:Callee P w K mg base (kX P w) 4 "read" ["text"] (nh K c3)) (c__law_word:dZ P w K mg base ba 1 "_law_word" ["_law_e"] (l3 K cs)) (x_PrimeError:nJ K mg "PrimeError" cP) (x_NoText:nN P w K mg base "NoText" c3 "line" "word") (wT:sJ K c3 cs 3) (mT:PySem.W.mroIn K c3 (.ref cP)=some true):Callee P w K mg base ba 5 "_law_read" ["_law_text_here"] (jV K):=by
 refine cO D fH (λf cdv A outer s H vs Q E hr h=>?_)
 obtain⟨l,rfl,l5,qk,qn⟩:=h
 have nd:=fH.nd
 refine⟨_,(af (bI (i:=1) nd (bA (aa de (aa de ae)))) (af (uj c_read (hr.mono (by decide)) rfl rfl rfl (lV (pv 1) ag set_list) (aa (pv 0) ae) (yy (i:=2) x_PrimeError.cls rfl x_PrimeError.at_ nd rfl rfl (λ_=>(af (qT (qO c__law_word ((hr.zt _).mono (by decide)) rfl aD (aa (pv 2) ae)) (lV (pv 1) ag set_list)) (ak (aH (ar aI (bT (pZ K rfl) (pv 1) ag (λ_ _=>rfl)) aq (au _)) (ak (qT (df (aa (fD K rfl (pv 2)) (aa (fD K rfl (pv 2)) ae))) (lV (pv 1) ag set_list))) aE)))))) (ak (aB (pv 1))))),?_⟩
 show bY _ _ _ [some (.str (S l)),none,none] H
 k_data
 refine⟨by show 2<=sizeLine;decide,λp hp=>?_⟩
 obtain⟨o,g1,g2,g3⟩:=jO (f:=l.length+1) (i:=0) (r:=l) (ah:=[]) (st:=[[]]) (q:=(0,cu,0)) (by omega) xB rfl (by decide) (λz=>absurd rfl z)
 have s1:=av (o:=.lst [V.aQ,V.aQ]) hp
 have e1:upd H p (.lst [V.aQ,V.aQ]) p=some (.lst [V.aQ,V.aQ]):=aj
 generalize upd H p (.lst [V.aQ,V.aQ])=H1 at *
 refine⟨l,_,o,rfl,l5,g1,λd ed v H2 s2 hv nl=>?_,λk ek x dx H2 s2 fx ex ed=>?_⟩
 ·subst ed
  have e2:=s2 _ _ e1
  have hn:dj 0 l (0,cu,0)=none:=by
   cases e:dj 0 l (0,cu,0) with
   | none=>rfl
   | some k=>cases g2 k e
  refine⟨p,_,0,0,rfl,rfl,e2,rfl,?_⟩
  have sb:SameBut p H2 (upd H2 p (.lst [v,V.aQ])):=λb o nb e=>by rw [ao nb];exact e
  exact qn hn d g1 _ _ (λb o e=>by rw [ao (λz=>by rw [z,hp] at e;cases e)];exact s2 _ _ (s1 _ _ e)) (dv.lst aj ⟨v,_,rfl,dv.but e2 sb d nl hv,.one rfl⟩) nl
 ·subst ek
  have hk:dj 0 l (0,cu,0)=some k:=by
   cases e:dj 0 l (0,cu,0) with
   | none=>obtain⟨d,z,_⟩:=g3 e;cases z
   | some j=>cases g2 j e;rfl
  refine⟨c3,rfl,x,rfl,some dx,ex,x_NoText.cls,mT,x,c3,some dx,3,rfl,.inl ex,(λ_ z=>by cases z;exact⟨_,ed⟩),wT,λH3 s3=>?_⟩
  have e3:=s3 _ _ (s2 _ _ e1)
  have ex3:=s3 _ _ ex
  have ed3:=s3 _ _ ed
  have xp:x≠p:=λz=>by rw [z,e1] at fx;cases fx
  have dp:dx≠p:=λz=>by rw [z,s2 _ _ e1] at ed;cases ed
  refine⟨p,_,1,1,rfl,rfl,e3,rfl,?_⟩
  have ex4:upd H3 p (.lst ([V.aQ,V.aQ].set 1 (V.str (wordOf 3)))) x=some (XO x c3 (some dx)):=by rw [ao xp];exact ex3
  have ed4:upd H3 p (.lst ([V.aQ,V.aQ].set 1 (V.str (wordOf 3)))) dx=some (.xd [("word",.int (k:Int)),("line",.int 0)]):=by rw [ao dp];exact ed3
  have e4:upd H3 p (.lst ([V.aQ,V.aQ].set 1 (V.str (wordOf 3)))) p=some (.lst [V.aQ,V.str (wordOf 3)]):=aj
  have s4:∀ b o,H b=some o->upd H3 p (.lst ([V.aQ,V.aQ].set 1 (V.str (wordOf 3)))) b=some o:=λb o e=>by rw [ao (λz=>by rw [z,hp] at e;cases e)];exact s3 _ _ (s2 _ _ (s1 _ _ e))
  generalize upd H3 p (.lst ([V.aQ,V.aQ].set 1 (V.str (wordOf 3))))=H4 at *
  refine eU (aP.of e4) (by decide) (v:=V.str (wordOf 3)) rfl ⟨rfl,?_⟩
  rw [if_pos (show V.str (wordOf 3)=V.str "text" from rfl)]
  refine⟨c3,dx,.inl ex4,x_NoText.cls,x_NoText.nof,_,ed4,.int 0,by rfl,c3,dx,.inl ex4,x_NoText.cls,x_NoText.nog,_,ed4,.int (k:Int),rfl,by show 2<=sizeLine;decide,λp5 hp5=>?_⟩
  have s5:=av (o:=.tup [V.int 0,V.int (k:Int)]) hp5
  have e5:upd H4 p5 (.tup [V.int 0,V.int (k:Int)]) p5=some (.tup [V.int 0,V.int (k:Int)]):=aj
  have e45:=s5 _ _ e4
  have pp:p5≠p:=λz=>by rw [z,e4] at hp5;cases hp5
  generalize upd H4 p5 (.tup [V.int 0,V.int (k:Int)])=H5 at *
  refine⟨p,_,1,1,rfl,rfl,e45,rfl,?_⟩
  refine qk k hk _ _ (λb o e=>by rw [ao (λz=>by rw [z,hp] at e;cases e)];exact s5 _ _ (s4 _ _ e)) (dv.lst aj ⟨_,_,rfl,rfl,.one ?_⟩)
  exact dv.tup (by rw [ao pp];exact e5) ⟨_,_,rfl,rfl,.one rfl⟩
end
end K
namespace K
open PySem PySem.Spec PyProof.Rows L2
def gt:Nat->PyData->Prop
 | _,.none=>True
 | _,.str x=>1<=x.length/\x.length<=8/\∀ c∈x.cps.toList,c∈b0
 | _,.int i => -(10^60)<i/\i<10^60
 | n+1,.list ds=>∀ d∈ds,gt n d
 | n+1,.tuple ds=>∀ d∈ds,gt n d
 | _,_=>False
def jn:List (List Nat)->List Nat
 | []=>[]
 | [x]=>x
 | x::y::r=>x++32::jn (y::r)
mutual
def dH:PyData->List Nat
 | .none=>[45]
 | .str x=>x.cps.toList
 | .int i=>(Str.ofString (toString i)).cps.toList
 | .list ds=>40::jn (oV ds)++[41]
 | .tuple ds=>40::jn (oV ds)++[41]
 | _=>[]
def oV:List PyData->List (List Nat)
 | []=>[]
 | d::ds=>dH d::oV ds
end
mutual
def AE:PyData->PyData
 | .list ds=>.tuple (xr ds)
 | .tuple ds=>.tuple (xr ds)
 | d=>d
def xr:List PyData->List PyData
 | []=>[]
 | d::ds=>AE d::xr ds
end
def yr (m:Nat):List Nat:=(Nat.toDigits 10 m).map Char.toNat
theorem mP (m:Nat):1<=(yr m).length/\(m<10^60->(yr m).length<=60):=by
 unfold yr
 rw [List.length_map]
 exact⟨tDigits_len_ge 10 m,λh=>digits10_le (by decide) h⟩
theorem m4 (m:Nat):dH (.int (m:Int))=yr m:=by
 simp only [dH]
 exact PySem.W.KIN.signs_num m
theorem uz (m:Nat):dH (.int (-((m+1:Nat):Int)))=45::yr (m+1):=by
 simp only [dH]
 rw [signs_ofString]
 show (("-"++Nat.repr (m+1)).toList.map Char.toNat)=_
 rw [String.toList_append,List.map_append,Nat.toList_repr]
 rfl
end K
namespace K
open PySem PySem.Spec PyProof.Rows L2
section
variable {P:Program} {w:World} {K:PySem.W.Frag} {mg:Str->Option Value} {base:Heap}
theorem v8:∀(ts:List (List Nat)),Txt.join (S [32]) (ts.map S)=S (jn ts):=λts=>by
 have e0:Txt.join (S [32]) (ts.map S)=Str.join (S [32]) (ts.map S):=PySem.StrLaws.glued_eq_join _ _
 rw [e0]
 clear e0
 induction ts with
 | nil=>rfl
 | cons x ts ih =>
  cases ts with
  | nil=>rfl
  | cons y r =>
   show S x++S [32]++Str.join (S [32]) ((y::r).map S)=_
   rw [ih,iX,iX]
   show S (x++[32]++jn (y::r))=S (x++32::jn (y::r))
   rw [List.append_assoc]
   rfl
theorem mD:∀(ts:List (List Nat)) (a:Nat),(ts.map S).foldl (λa x=>a+x.length+1) a<=a+(jn ts).length+1
 | [],a=>by simp [jn]
 | [x],a=>by
  show a+(S x).length+1<=a+x.length+1
  rw [aL]
  omega
 | x::y::r,a=>by
  have ih:=mD (y::r) (a+x.length+1)
  show ((y::r).map S).foldl (λa x=>a+x.length+1) (a+(S x).length+1)<=a+(x++32::jn (y::r)).length+1
  rw [aL,List.length_append,List.length_cons]
  omega
theorem tm {ts:List (List Nat)} (h:(jn ts).length<=10^6):JoinOk (S [32]) (ts.map S)=true:=by
 unfold JoinOk
 have e:(ts.map S).toArray.foldl (λa x=>a+x.length+(S [32]).length) 0=(ts.map S).foldl (λa x=>a+x.length+1) 0:=by
  rw [List.foldl_toArray]
  rfl
 have h2:=mD ts 0
 show (!Builtin.Str.tooLong ((ts.map S).toArray.foldl (λa x=>a+x.length+(S [32]).length) 0))=true
 rw [e]
 unfold Builtin.Str.tooLong
 rw [decide_eq_false (by
  have:10^6+1<=sizeLine:=by decide
  omega)]
 rfl
theorem qb {x:List Nat}:∀{ts:List (List Nat)},x∈ts->x.length<=(jn ts).length
 | [],h=>by cases h
 | [y],h=>by cases List.mem_singleton.mp h;exact Nat.le_refl _
 | y::z::r,h=>by
  show x.length<=(y++32::jn (z::r)).length
  rw [List.length_append,List.length_cons]
  rcases List.mem_cons.mp h with e | e
  ·rw [e];omega
  ·have:=qb e
   omega
theorem qa:∀{ts:List (List Nat)},ts.length<=(jn ts).length+1
 | []=>by simp
 | [y]=>by simp
 | y::z::r=>by
  have:=qa (ts:=z::r)
  show (y::z::r).length<=(y++32::jn (z::r)).length+1
  simp only [List.length_append,List.length_cons] at this ⊢
  omega
theorem m7:∀ ds:List PyData,oV ds=ds.map dH
 | []=>by simp only [oV,List.map_nil]
 | d::ds=>by simp only [oV,List.map_cons,m7 ds]
theorem vV {n:Nat} {d:PyData} {ds:List PyData} (h:gt n d) (e:d=.list ds∨d=.tuple ds):∃ m,n=m+1/\∀ x∈ds,gt m x:=by
 rcases e with rfl | rfl
 ·cases n with
  | zero=>exact h.elim
  | succ m=>exact⟨m,rfl,h⟩
 ·cases n with
  | zero=>exact h.elim
  | succ m=>exact⟨m,rfl,h⟩
theorem fM {d:PyData} {ds:List PyData} (e:d=.list ds∨d=.tuple ds):dH d=40::jn (ds.map dH)++[41]:=by
 rcases e with rfl | rfl<;>simp only [dH,m7]
theorem pM {d:PyData} {ds:List PyData} {H:Hp} {v:V} (h:dv K H d v) (e:d=.list ds∨d=.tuple ds):∃(k:Sd) (a:Addr) (xs:List V),v=.ref a/\hV k K H a xs/\aZ K H ds xs:=by
 rcases e with rfl | rfl
 ·obtain⟨p,xs,e,h1,h2⟩:=h
  exact⟨.l,p,xs,e,h1,h2⟩
 ·obtain⟨p,xs,e,h1,h2⟩:=h
  exact⟨.t,p,xs,e,h1,h2⟩
theorem nI {k:Sd} {H H':Hp} {a:Addr} {xs:List V} (h:hV k K H a xs) (s:aF H H'):hV k K H' a xs:=by
 cases k
 ·exact aP.same h s
 ·exact br.same h s
def isQ:PyData->Bool
 | .list _=>true
 | .tuple _=>true
 | _=>false
theorem v7 {d:PyData} (h:isQ d=true):∃ ds,d=.list ds∨d=.tuple ds:=by
 cases d with
 | list ds=>exact⟨ds,.inl rfl⟩
 | tuple ds=>exact⟨ds,.inr rfl⟩
 | _=>cases h
theorem lI {n:Nat} {d:PyData} (h:gt n d) (q:isQ d=false):d=.none∨(∃ x,d=.str x)∨∃ i:Int,d=.int i /\ -(10^60)<i/\i<10^60:=by
 cases d with
 | none=>exact .inl rfl
 | str x=>exact .inr (.inl ⟨x,rfl⟩)
 | int i=>exact .inr (.inr ⟨i,rfl,by cases n<;>exact h⟩)
 | list ds=>cases q
 | tuple ds=>cases q
 | bool b=>cases n<;>exact h.elim
 | dict _=>cases n<;>exact h.elim
theorem yg {i:Int} (h:-(10^60)<i/\i<10^60):i.natAbs.log2<1920:=by
 by_cases z:i.natAbs=0
 ·rw [z];decide
 ·rw [Nat.log2_lt z]
  have:i.natAbs<10^60:=by omega
  exact Nat.lt_trans this (by decide +kernel)
def gv (K:PySem.W.Frag) (L:Nat):Sp:=λvs H Q _=>∃(d:PyData) (v:V) (n:Nat),vs=[v]/\dv K H d v/\n<L/\gt n d/\(dH d).length<=10^5/\∀ H',aF H H'->Q (.str (S (dH d))) H'
theorem join_loop {L m:Nat} {d:PyData} {ds:List PyData} {v:V} {H:Hp} {Q:VK} (e:d=.list ds∨d=.tuple ds) (hd:dv K H d v) (mL:m<L) (gm:∀ x∈ds,gt m x) (l5:(dH d).length<=10^5) (q:∀ H',aF H H'->Q (.str (S (dH d))) H'):y4 K "str" (V.str (Str.ofString " ")) H/\vY K (gL 0) [some v] H λJ H1=>gY J [none] (dQ 0) ny (dI (gv K L) [] E0 (cL (gL 0) iV)) [some v] (λx H1=>rJoin K (V.str (Str.ofString " ")) [x] H1 λy H2=>∃ i,V.str (Str.ofString "(")=V.str i/\∃ x,y=V.str x/\i.length+x.length<=sizeLine/\∃ i_1,V.str (i++x)=V.str i_1/\∃ x,V.str (Str.ofString ")")=V.str x/\i_1.length+x.length<=sizeLine/\Q (V.str (i_1++x)) H2) H1:=by
 have es:=fM e
 obtain⟨k,a,xs,rfl,hS,hds⟩:=pM hd e
 have lx:ds.length=xs.length:=eR.len hds
 have jl:(jn (ds.map dH)).length<=10^5:=by
  rw [es] at l5
  simp only [List.length_append,List.length_cons] at l5
  omega
 have ll:=qa (ts:=ds.map dH)
 rw [List.length_map] at ll
 refine⟨rfl,pX rfl hS ?_⟩
 refine nV (λi ys H'=>aF H H'/\ys=((ds.take i).map λx=>V.str (S (dH x)))) ⟨aF.refl _,rfl⟩ (by rw [<- lx];exact Nat.le_trans (show ds.length<=10^6 by omega) (by decide)) (λi ys H' hi h=>⟨nI hS h.1,by rw [h.2,List.length_map,List.length_take];exact Nat.min_le_left ..⟩) ?_ ?_
 ·rintro i x ys H2 hx ⟨s2,rfl⟩
  obtain⟨d',hd',hv'⟩:=hds.get hx
  simp only [cy,List.map_nil,List.map_cons,Option.join]
  k_data
  refine⟨True.intro,d',x,m,rfl,dv.same s2 _ hv',mL,gm d' (List.mem_of_getElem? hd'),Nat.le_trans (qb (List.mem_map.mpr ⟨d',List.mem_of_getElem? hd',rfl⟩)) jl,λH3 s3=>⟨s2.trans s3,?_⟩⟩
  rw [List.take_add_one,hd',List.map_append]
  rfl
 ·rintro ys H2 p2 ⟨s2,rfl⟩ hp2
  rw [<- lx,List.take_length]
  have e3:(ds.map λx=>V.str (S (dH x)))=((ds.map dH).map S).map V.str:=by rw [List.map_map,List.map_map];rfl
  rw [e3]
  have s3:=av (o:=.lst (((ds.map dH).map S).map V.str)) hp2
  rw [vL]
  refine⟨_,p2,_,rfl,rfl,aP.of aj,tm (by omega),?_⟩
  rw [v8,oK,nU]
  have z1:(S [40]).length+(S (jn (ds.map dH))).length<=sizeLine:=by
   rw [aL,aL]
   exact Nat.le_trans (show [40].length+(jn (ds.map dH)).length<=10^6 by simp;omega) (by decide)
  refine⟨_,rfl,_,rfl,z1,_,rfl,_,rfl,?_,?_⟩
  ·rw [iX,aL,aL]
   exact Nat.le_trans (show ([40]++jn (ds.map dH)).length+[41].length<=10^6 by simp;omega) (by decide)
  ·rw [iX,iX,show ([40]++jn (ds.map dH))++[41]=dH d by rw [es];rfl]
   exact q _ (s2.trans s3)
theorem cq:az ["_law_thing_here"] ["_law_thing_here"] (ai (top 33)):=gU
theorem wA (D:aC K mg "_law_written" (top 33)):Callee P w K mg base ba 1 "_law_written" ["_law_thing_here"] (gv K 0):=by
 refine cO D cq (λf cdv A outer s H vs Q E hr h=>?_)
 obtain⟨_,_,n,_,_,h,_⟩:=h
 exact absurd h (Nat.not_lt_zero n)
theorem wB {L:Nat} (D:aC K mg "_law_written" (top 33)) (c__law_written:Callee P w K mg base ba (L+1) "_law_written" ["_law_thing_here"] (gv K L)) (n_isinstance:mg "isinstance"=none) (n_list:mg "list"=none) (n_tuple:mg "tuple"=none) (n_str:mg "str"=none):Callee P w K mg base ba (L+2) "_law_written" ["_law_thing_here"] (gv K (L+1)):=by
 refine cO D cq (λf cdv A outer s H vs Q E hr h=>?_)
 obtain⟨d,v,n,rfl,hd,nL,g,l5,q⟩:=h
 have nd:=cq.nd
 refine⟨_,(af (aH (ar qC (pv 0) de (au _)) (ak (aB aq)) aE) (af (aH (bp (aw bg rfl n_isinstance PyProof.Rows.boot_isinstance (aa (pv 0) (aa (bG (v:=.ty "str") rfl n_str L2.nP rfl) ae))) (λ_=>rfl)) (ak (aB (pv 0))) aE) (af (aH (PW.pt (fE (bp (aw bg rfl n_isinstance PyProof.Rows.boot_isinstance (aa (pv 0) (aa (bG (v:=.ty "tuple") rfl n_tuple L2.boot_tuple rfl) ae))) (λ_=>rfl)) (dy (bp (aw bg rfl n_isinstance PyProof.Rows.boot_isinstance (aa (pv 0) (aa (bG (v:=.ty "list") rfl n_list L2.boot_list rfl) ae))) (λ_=>rfl))))) (ak (aB (ay aN (ay aN aq (eG PySem.F.plainAttrs_str PySem.F.slot_str_join PySem.F.type_str_join tH aq (aa (vd rfl (Aa (N':=["_law_one"]) (js:=[none]) rfl rfl) (wH (pv 0)) (λ_ _ _ _=>(b8 (i:=0) (show List.Nodup [("_law_one":Str)] from by decide +kernel) rfl (Or.inl rfl) (.inr rfl))) (λ_ _ _ _=>kI) (λ_ _ _ _=>(cg c__law_written (hr.mono (by omega)) rfl aD (aa (pv 0) ae)))) ae))) aq))) aE) (ak (aB (bo nS rfl n_str L2.boot_str (aa (pv 0) ae))))))),?_⟩
 show bY _ _ _ [some v] H
 k_data
 cases hq:isQ d with
 | true =>
  obtain⟨ds,e⟩:=v7 hq
  obtain⟨m,rfl,gm⟩:=vV g e
  have J:=join_loop (L:=L) e hd (by omega) gm l5 q
  have nv:v≠V.aQ:=λz=>by
   obtain⟨k,a,xs,rfl,_⟩:=pM hd e
   cases z
  rw [if_neg nv]
  refine jJ hd ⟨false,?_,?_⟩
  ·rw [aX]
   rcases e with rfl | rfl<;>rfl
  rw [if_neg (by decide)]
  refine bF hd ⟨_,aX.mpr rfl,?_⟩
  refine aM (λ_=>J) (λc=>?_)
  refine bM hd ⟨true,?_,?_⟩
  ·rw [aX]
   rcases e with rfl | rfl
   ·rfl
   ·exact absurd rfl c
  rw [if_pos rfl]
  exact J
 | false =>
  rcases lI g hq with rfl | ⟨x,rfl⟩|⟨i,rfl,hi⟩
  ·cases hd
   rw [if_pos rfl,qg]
   have:=q H (aF.refl _)
   simp only [dH] at this
   exact this
  ·cases hd
   rw [if_neg (λz=>nomatch z)]
   refine jJ (d:=.str x) rfl ⟨true,rfl,?_⟩
   rw [if_pos rfl]
   have:=q H (aF.refl _)
   simp only [dH,<- kd] at this
   exact this
  ·cases hd
   rw [if_neg (λz=>nomatch z)]
   refine jJ (d:=.int i) rfl ⟨false,rfl,?_⟩
   rw [if_neg (by decide)]
   refine bF (d:=.int i) rfl ⟨false,rfl,?_⟩
   rw [if_neg (by decide)]
   refine bM (d:=.int i) rfl ⟨false,rfl,?_⟩
   rw [if_neg (by decide)]
   refine .inl ⟨i,rfl,yg hi,?_⟩
   have:=q H (aF.refl _)
   simp only [dH,<- kd] at this
   exact this
theorem vc (D:aC K mg "_law_written" (top 33)) (n_isinstance:mg "isinstance"=none) (n_list:mg "list"=none) (n_tuple:mg "tuple"=none) (n_str:mg "str"=none):∀ L:Nat,Callee P w K mg base ba (L+1) "_law_written" ["_law_thing_here"] (gv K L)
 | 0=>wA D
 | L+1=>wB D (vc D n_isinstance n_list n_tuple n_str L) n_isinstance n_list n_tuple n_str
def dN (p l:Addr) (n:Nat) (H:Hp):Prop:=∃(i j:Int) (ns:List Int),H p=some (nB l i j)/\H l=some (.lst (ns.map V.int))/\ns.length<=63/\0<=i/\i<=n
theorem dN.tp {p l:Addr} {n:Nat} {H:Hp} (h:dN p l n H):Tp p n H:=by
 obtain⟨i,j,ns,r⟩:=h
 exact⟨l,i,j,ns,r⟩
theorem dN.same {p l:Addr} {n:Nat} {H H':Hp} (h:dN p l n H) (s:aF H H'):dN p l n H':=by
 obtain⟨i,j,ns,a,b,c⟩:=h
 exact⟨i,j,ns,s _ _ a,s _ _ b,c⟩
theorem dN.more {p l:Addr} {n m:Nat} {H:Hp} (h:dN p l n H) (z:n<=m):dN p l m H:=by
 obtain⟨i,j,ns,a,b,c,d,e⟩:=h
 exact⟨i,j,ns,a,b,c,d,by omega⟩
def nj (K:PySem.W.Frag):Sp:=λvs H Q _=>∃(a:Addr) (ns:List Int),vs=[.ref a]/\aP K H a (ns.map V.int)/\ns.length<=63/\∀ p l H',aF H H'->H p=none->H l=none->dN p l 0 H'->Q (.ref p) H'
theorem qy (D:aC K mg "_law_tape" (top 27)):Callee P w K mg base ba 1 "_law_tape" ["_law_script"] (nj K):=by
 refine cO D fI (λf cdv A outer s H vs Q E hr h=>?_)
 obtain⟨a,ns,rfl,hS,h63,q⟩:=h
 have nd:=fI.nd
 refine⟨_,(ak (aB (tT (iy aq (bN m8 (pv 0) d9 (bH ag)) (iy aq ag (iy aq ag ue))) rfl rfl (by intro z;cases z) (by decide)))),?_⟩
 show xm _ _ [some (.ref a)] H
 k_data
 intro p hp
 have s1:=av (o:=.dK []) hp
 refine⟨a,_,rfl,hS.same s1,λpl hpl=>⟨?_,[(Sum.inr "cells",.ref pl),(Sum.inr "spot",.int 0),(Sum.inr "left",.int 0)],rfl,by show 3<=15;decide,?_⟩⟩
 ·rw [ao (aO aj hpl),aj]
 ·obtain⟨ns',e1,e2⟩:=pB (ns:=ns) (lo:=none) (hi:=some 63)
  have nep:pl≠p:=λz=>by rw [z,aj] at hpl;cases hpl
  rw [e1]
  exact q p pl _ ((s1.trans (av hpl)).upd hp) hp (s1.free hpl) ⟨0,0,ns',aj,by rw [ao nep,aj],by omega,by decide,by decide⟩
def bQ:Sp:=λvs H Q _=>∃(p l:Addr) (m:Int) (n:Nat),vs=[.ref p,.int m]/\dN p l n H/\n<=10^60/\0<m/\m<10^200/\∀ r H',0<=r->r<m->Off p H H'->dN p l (n+1) H'->Q (.int r) H'
theorem qt (D:aC K mg "_law_draw" (top 28)) (n_len:mg "len"=none):Callee P w K mg base ba 1 "_law_draw" ["_law_tape_here","_law_many"] bQ:=by
 refine cO D fF (λf cdv A outer s H vs Q E hr h=>?_)
 obtain⟨p,l,m,n,rfl,⟨i,j,ns,hp,hl,h63,i0,i1⟩,hn,m0,m1,q⟩:=h
 have nd:=fF.nd
 refine⟨_,(af (aH (ar eF (fC (gD hr) (pv 0) aq (λ_ _=>rfl)) ag (au _)) (af (bI (i:=2) nd (ay dS (fC (gD hr) (pv 0) aq (λ_ _=>rfl)) (pv 1))) (af (jN (gD hr) (pv 0) aq (ay d8 (fC (gD hr) (pv 0) aq (λ_ _=>rfl)) (pv 1)) rfl) (ak (aB (pv 2))))) aE) (af (bI (i:=3) nd (fC (gD hr) (pv 0) aq (λ_ _=>rfl))) (af (jN (gD hr) (pv 0) aq (ay aY (pv 3) ag) rfl) (af (bI (i:=4) nd (fC (gD hr) (pv 0) aq (λ_ _=>rfl))) (af (bI (i:=5) nd ag) (af (gj (aH (ar eF (aw bU rfl n_len PySem.boot_len (aa (pv 4) ae)) ag (au _)) (ak (bI (i:=5) nd (bT aW (pv 4) (ay dS (pv 3) (aw bU rfl n_len PySem.boot_len (aa (pv 4) ae))) (λ_ _=>rfl)))) aE)) (af (aH (PW.pt (bO (ar eF (pv 5) ag (au _)) (bO (ar aI (ay dS (pv 5) ag) ag (au _)) (cD (ar fv (pv 3) (aw bU rfl n_len PySem.boot_len (aa (pv 4) ae)) (au _)))))) (af (jN (gD hr) (pv 0) aq (ay d8 (ay d8 (pv 5) ag) (pv 1)) rfl) (ak (aB (ay dS (ay d8 (pv 5) ag) (pv 1))))) aE) (af (bI (i:=6) nd (ay dS (ay fz (ay aY (ay aY (ay aY (ay dS (pv 5) ag) (ay fz (ay fz ag (pv 3)) (pv 3))) (ay fz ag (pv 3))) ag) ag) ag)) (ak (aB (ay dS (ay d8 (ay dS (ay fz (pv 6) (ay aY (pv 6) ag)) ag) ag) (pv 1)))))))))))),?_⟩
 show bY _ _ _ [some (.ref p),some (.int m),none,none,none,none,none] H
 k_data
 have lp:l≠p:=ji hl hp (by intro z;cases z)
 have mb:Bd m:=Bd.of (by omega) (by omega)
 have em:=λx:Int=>Int.emod_nonneg x (show m≠0 by omega)
 have el:=λx:Int=>Int.emod_lt_of_pos x m0
 refine⟨_,jY hp,j,rfl,aM (λc=>?_) (λc=>?_)⟩
 ·exact⟨_,jY hp,j,rfl,m0,_,jY hp,j,rfl,m0,mb,_,kR hp,q _ _ (em _) (el _) Off.xu ⟨i,_,ns,aj,by rw [ao lp];exact hl,h63,i0,by omega⟩⟩
 ·refine⟨_,uI hp,i,rfl,_,rP hp,_,rO aj,?_⟩
  have hp1:upd H p (nB l (i+1) j) p=some (nB l (i+1) j):=aj
  have hl1:upd H p (nB l (i+1) j) l=some (.lst (ns.map V.int)):=by rw [ao lp];exact hl
  have of1:Off p H (upd H p (nB l (i+1) j)):=Off.xu
  generalize upd H p (nB l (i+1) j)=H1 at *
  refine⟨λσ' H'=>H'=H1/\∃ c,σ'=[some (.ref p),some (.int m),none,some (.int i),some (.ref l),some (.int c),none],?_,?_⟩
  ·k_data
   refine cT (aP.of hl1) ⟨_,rfl,?_⟩
   rw [List.length_map]
   refine aM (λc1=>?_) (λc1=>rfl)
   refine cT (aP.of hl1) ?_
   rw [List.length_map]
   have r0:=Int.emod_nonneg i (show (ns.length:Int)≠0 by omega)
   have r1:=Int.emod_lt_of_pos i c1
   refine⟨_,rfl,c1,fm (aP.of hl1) r0 (by rw [List.length_map];exact r1) λv hv=>?_⟩
   obtain⟨x,_,rfl⟩:=List.mem_map.mp hv
   exact⟨rfl,x,rfl⟩
  ·rintro σ' H' ⟨rfl,c',rfl⟩
   k_data
   have ib:i<=10^60:=by omega
   have ii:7919*i*i<=7919*i*10^60:=Int.mul_le_mul_of_nonneg_left ib (by omega)
   have i2:0<=7919*i*i:=Int.mul_nonneg (by omega) i0
   have c0:=Int.emod_nonneg c' (show (2147483629:Int)≠0 by decide)
   have c1:=Int.emod_lt_of_pos c' (show (0:Int)<2147483629 by decide)
   have sd:∀ z:Int,0<=z%2147483647/\z%2147483647<2147483647:=λz=>⟨Int.emod_nonneg z (by decide),Int.emod_lt_of_pos z (by decide)⟩
   have T1:dN p l (n+1) H':=⟨i+1,j,ns,hp1,hl1,h63,by omega,by omega⟩
   have fin:Bd 7919/\Bd i/\Bd (7919*i)/\Bd i/\Bd 48271/\Bd i/\Bd (c'%2147483629+7919*i*i+48271*i+1)/\Bd 69621/\Bd ((c'%2147483629+7919*i*i+48271*i+1)*69621%2147483647)/\Bd ((c'%2147483629+7919*i*i+48271*i+1)*69621%2147483647+16807)/\Bd 64/\0<m:=by
    have s1:=sd ((c'%2147483629+7919*i*i+48271*i+1)*69621)
    exact⟨vK (by decide),Bd.of (by omega) (by omega),Bd.of (by omega) (by omega),Bd.of (by omega) (by omega),vK (by decide),Bd.of (by omega) (by omega),Bd.of (by omega) (by omega),vK (by decide),Bd.of (by omega) (by omega),Bd.of (by omega) (by omega),vK (by decide),m0⟩
   obtain⟨f1,f2,f3,f4,f5,f6,f7,f8,f9,f10,f11,f12⟩:=fin
   have fq:∀ x,Q (V.int (x%m)) H':=λx=>q _ _ (em _) (el _) of1 T1
   refine aM (λc2=>aM (λc3=>?_) (λc3=>⟨f1,f2,f3,f4,f5,f6,f7,f8,f9,f10,f11,f12,fq _⟩)) (λc2=>⟨f1,f2,f3,f4,f5,f6,f7,f8,f9,f10,f11,f12,fq _⟩)
   refine cT (aP.of hl1) ⟨_,rfl,aM (λc4=>⟨vK (by decide),m0,mb,_,kR hp1,vK (by decide),m0,?_⟩) (λc4=>⟨f1,f2,f3,f4,f5,f6,f7,f8,f9,f10,f11,f12,fq _⟩)⟩
   exact q _ _ (em _) (el _) (of1.trans Off.xu) ⟨i+1,_,ns,aj,by rw [ao lp];exact hl1,h63,by omega,by omega⟩
theorem Tp.up {p:Addr} {n m:Nat} {H:Hp} (h:Tp p n H) (l:n<=m):Tp p m H:=by
 obtain⟨a,i,j,ns,h1,h2,h3,h4,h5⟩:=h
 exact⟨a,i,j,ns,h1,h2,h3,h4,by omega⟩
def Aw (H:Hp) (t c:Addr) (n i:Nat) (σ':L2.St) (H':Hp):Prop:=∃(x:List Nat) (o2:Option V),σ'=[some (.ref t),some (.str (S x)),o2]/\x.length=i/\(∀ c∈x,c∈b0)/\dk t H H'/\dN t c (n+1+i) H'
def ju:Sp:=λvs H Q _=>∃(t c:Addr) (n:Nat),vs=[.ref t]/\dN t c n H/\n<=10^50/\∀(x:List Nat) H',1<=x.length->x.length<=8->(∀ c∈x,c∈b0)->dk t H H'->dN t c (n+9) H'->Q (.str (S x)) H'
theorem dG:az ["_law_tape_here","_law_word_here","_law_turn"] ["_law_tape_here"] (ai (top 29)):=gU
theorem lS (D:aC K mg "_law_letters" (top 29)) (c__law_draw:Callee P w K mg base ba 1 "_law_draw" ["_law_tape_here","_law_many"] bQ) (n_range:mg "range"=none):Callee P w K mg base ba 2 "_law_letters" ["_law_tape_here"] ju:=by
 refine cO D dG (λf cdv A outer s H vs Q E hr h=>?_)
 obtain⟨t,c,n,rfl,tp,n9,q⟩:=h
 have nd:=dG.nd
 refine⟨_,(af (bI (i:=1) nd aq) (af (gk PassesOwn.never rfl (cF rfl n_range (aa (ay aY ag (cm c__law_draw hr aD (aa (pv 0) (aa ag ae)))) ae)) (b8 (i:=2) nd rfl (Or.inl rfl) (.inr rfl)) (ak (bI (i:=1) nd (ay aN (pv 1) (bC aq (cm c__law_draw hr aD (aa (pv 0) (aa ag ae))) (λ_ _=>rfl)))))) (ak (aB (pv 1))))),?_⟩
 show bY _ _ _ [some (.ref t),none,none] H
 k_data
 refine⟨t,c,8,n,rfl,tp,by omega,by decide,by decide,λr H1 r0 r1 o1 t1=>⟨_,rfl,?_⟩⟩
 refine⟨by omega,by omega,?_⟩
 rw [vQ]
 refine bV (λi σ' H'=>Aw H t c n i σ' H') ⟨[],_,rfl,rfl,λc hc=>(nomatch hc),o1.cf,t1⟩ ?_ ?_
 ·rintro i σ' H2 hi ⟨x,o2,rfl,xl,xa,O2,t2⟩
  k_data
  refine⟨t,c,26,n+1+i,rfl,t2,by omega,by decide,by decide,λk H3 k0 k1 o3 t3=>?_⟩
  rw [mN]
  obtain⟨j,rfl⟩:∃ j:Nat,k=j:=⟨k.toNat,by omega⟩
  have jl:j<b0.length:=by show j<26;omega
  refine⟨_,rfl,_,rfl,by omega,by omega,by rw [aL];show (j:Int)<26;omega,b0[j],by rw [Int.toNat_natCast,pf];exact List.getElem?_eq_getElem jl,?_⟩
  refine⟨_,rfl,S [b0[j]],rfl,?_,x++[b0[j]],some (V.int (i:Int)),?_,by rw [List.length_append,xl];rfl,λc hc=>?_,O2.trans o3.cf,t3⟩
  ·rw [aL,aL,xl]
   exact Nat.le_trans (show i+[b0[j]].length<=100 by simp;omega) (by decide)
  ·rw [iX]
  ·rcases List.mem_append.mp hc with z | z
   ·exact xa c z
   ·rw [List.mem_singleton.mp z]
    exact List.getElem_mem jl
 ·rintro σ' H2 ⟨x,o2,rfl,xl,xa,O2,t2⟩
  k_data
  exact q x H2 (by omega) (by omega) xa O2 (t2.more (by omega))
def iE (K:PySem.W.Frag):Sp:=λvs H Q _=>∃(t c:Addr) (n:Nat),vs=[.ref t]/\dN t c n H/\n<=10^49/\∀ d v H',gt 0 d->(dH d).length<=62->PyData.canLay0 d=true->isQ d=false->dv K H' d v->dk t H H'->dN t c (n+12) H'->Q v H'
theorem fG:az ["_law_tape_here","_law_way"] ["_law_tape_here"] (ai (top 30)):=gU
theorem tK (D:aC K mg "_law_leaf" (top 30)) (c__law_draw:Callee P w K mg base ba 1 "_law_draw" ["_law_tape_here","_law_many"] bQ) (c__law_letters:Callee P w K mg base ba 2 "_law_letters" ["_law_tape_here"] ju):Callee P w K mg base ba 3 "_law_leaf" ["_law_tape_here"] (iE K):=by
 refine cO D fG (λf cdv A outer s H vs Q E hr h=>?_)
 obtain⟨t,c,n,rfl,tp,n9,q⟩:=h
 have nd:=fG.nd
 refine⟨_,(af (bI (i:=1) nd (cm c__law_draw hr aD (aa (pv 0) (aa ag ae)))) (af (aH (ar aI (pv 1) ag (au _)) (ak (aB de)) aE) (af (aH (ar aI (pv 1) ag (au _)) (ak (aB (cm c__law_letters hr aD (aa (pv 0) ae)))) aE) (af (aH (ar aI (pv 1) ag (au _)) (ak (aB (ay cH (ay cH (ay qD ag ag) ag) (cm c__law_draw hr aD (aa (pv 0) (aa ag ae)))))) aE) (af (aH (ar aI (pv 1) ag (au _)) (ak (aB (ay aY (ay cH ag (ay qD ag ag)) (cm c__law_draw hr aD (aa (pv 0) (aa ag ae)))))) aE) (ak (aB (ay cH (cm c__law_draw hr aD (aa (pv 0) (aa ag ae))) ag)))))))),?_⟩
 show bY _ _ _ [some (.ref t),none] H
 k_data
 refine⟨t,c,8,n,rfl,tp,by omega,by decide,by decide,λr H1 r0 r1 o1 t1=>?_⟩
 k_data
 have lay:∀ x:List Nat,(∀ c∈x,c∈b0)->PyData.canLay0 (.str (S x))=true:=λx hx=>by
  show x.toArray.all _=true
  rw [List.all_toArray,List.all_eq_true]
  intro c hc
  have:=hx c hc
  simp only [b0,List.mem_cons,List.not_mem_nil,or_false] at this
  exact decide_eq_true (by omega)
 have num:∀(i:Int) (H':Hp),-(10^60)<i->i<10^60->dk t H H'->dN t c (n+12) H'->Q (.int i) H':=λi H' h0 h1 o' t'=>by
  refine q (.int i) _ H' ⟨h0,h1⟩ ?_ rfl rfl rfl o' t'
  rcases (by omega:i<0∨0<=i) with z | z
  ·obtain⟨m,rfl⟩:∃ m:Nat,i = -((m+1:Nat):Int):=⟨(-i).toNat-1,by omega⟩
   rw [uz,List.length_cons]
   have:=(mP (m+1)).2 (by omega)
   omega
  ·obtain⟨m,rfl⟩:∃ m:Nat,i=(m:Int):=⟨i.toNat,by omega⟩
   rw [m4]
   have:=(mP m).2 (by omega)
   omega
 refine aM (λ_=>?_) (λ_=>?_)
 ·exact q .none _ H1 True.intro (by simp [dH]) rfl rfl rfl o1.cf (t1.more (by omega))
 refine aM (λ_=>?_) (λ_=>?_)
 ·refine⟨t,c,n+1,rfl,t1,by omega,λx H2 x1 x8 xa o2 t2=>?_⟩
  exact q (.str (S x)) _ H2 ⟨x1,x8,xa⟩ (by simp only [dH,j9];omega) (lay x xa) rfl rfl (o1.cf.trans o2) (t2.more (by omega))
 refine aM (λ_=>?_) (λ_=>?_)
 ·exact⟨t,c,3,n+1,rfl,t1,by omega,by decide,by decide,λk H2 k0 k1 o2 t2=>⟨_,rfl,num _ H2 (by omega) (by omega) (o1.cf.trans o2.cf) (t2.more (by omega))⟩⟩
 refine aM (λ_=>?_) (λ_=>?_)
 ·exact⟨t,c,3,n+1,rfl,t1,by omega,by decide,by decide,λk H2 k0 k1 o2 t2=>⟨_,rfl,num _ H2 (by omega) (by omega) (o1.cf.trans o2.cf) (t2.more (by omega))⟩⟩
 ·exact⟨t,c,2001,n+1,rfl,t1,by omega,by decide,by decide,λk H2 k0 k1 o2 t2=>⟨_,rfl,num _ H2 (by omega) (by omega) (o1.cf.trans o2.cf) (t2.more (by omega))⟩⟩
mutual
def hZ (F:Addr->Prop) (K:PySem.W.Frag) (H:Hp):PyData->V->Prop
 | .none,v=>v=.aQ
 | .bool b,v=>v=.bl b
 | .int i,v=>v=.int i
 | .str x,v=>v=.str x
 | .list ds,v=>∃ p xs,v=.ref p/\F p/\H p=some (.lst xs)/\cx F K H ds xs
 | .tuple ds,v=>∃ p xs,v=.ref p/\br K H p xs/\cx F K H ds xs
 | .dict _,_=>False
def cx (F:Addr->Prop) (K:PySem.W.Frag) (H:Hp):List PyData->List V->Prop
 | [],xs=>xs=[]
 | d::ds,xs=>∃ x r,xs=x::r/\hZ F K H d x/\cx F K H ds r
end
mutual
theorem hZ.dv {F:Addr->Prop} {H:Hp}:∀{d:PyData} {v:V},hZ F K H d v->L2.dv K H d v
 | .none,_,h=>h
 | .bool _,_,h=>h
 | .int _,_,h=>h
 | .str _,_,h=>h
 | .list ds,_,⟨p,xs,e,_,h1,h2⟩=>⟨p,xs,e,aP.of h1,cx.aZ h2⟩
 | .tuple ds,_,⟨p,xs,e,h1,h2⟩=>⟨p,xs,e,h1,cx.aZ h2⟩
 | .dict _,_,h=>h.elim
theorem cx.aZ {F:Addr->Prop} {H:Hp}:∀{ds:List PyData} {xs:List V},cx F K H ds xs->L2.aZ K H ds xs
 | [],_,h=>h
 | d::ds,_,⟨x,r,e,h1,h2⟩=>⟨x,r,e,hZ.dv h1,cx.aZ h2⟩
end
mutual
theorem hZ.keep {F G:Addr->Prop} {H H':Hp} (fg:∀ a,F a->G a) (kt:∀ a xs,br K H a xs->br K H' a xs) (kl:∀(a:Addr) (xs:List V),F a->H a=some (.lst xs)->H' a=some (.lst xs)):∀{d:PyData} {v:V},hZ F K H d v->hZ G K H' d v
 | .none,_,h=>h
 | .bool _,_,h=>h
 | .int _,_,h=>h
 | .str _,_,h=>h
 | .list ds,_,⟨p,xs,e,hf,h1,h2⟩=>⟨p,xs,e,fg _ hf,kl _ _ hf h1,cx.keep fg kt kl h2⟩
 | .tuple ds,_,⟨p,xs,e,h1,h2⟩=>⟨p,xs,e,kt _ _ h1,cx.keep fg kt kl h2⟩
 | .dict _,_,h=>h.elim
theorem cx.keep {F G:Addr->Prop} {H H':Hp} (fg:∀ a,F a->G a) (kt:∀ a xs,br K H a xs->br K H' a xs) (kl:∀(a:Addr) (xs:List V),F a->H a=some (.lst xs)->H' a=some (.lst xs)):∀{ds:List PyData} {xs:List V},cx F K H ds xs->cx G K H' ds xs
 | [],_,h=>h
 | d::ds,_,⟨x,r,e,h1,h2⟩=>⟨x,r,e,hZ.keep fg kt kl h1,cx.keep fg kt kl h2⟩
end
theorem cx.snoc {F:Addr->Prop} {H:Hp} {d:PyData} {v:V} (hv:hZ F K H d v):∀{ds:List PyData} {xs:List V},cx F K H ds xs->cx F K H (ds++[d]) (xs++[v])
 | [],_,h=>by cases h;exact⟨v,[],rfl,hv,rfl⟩
 | e::ds,_,⟨x,r,h0,h1,h2⟩=>by subst h0;exact⟨x,r++[v],rfl,h1,cx.snoc hv h2⟩
theorem hZ.leaf {F:Addr->Prop} {H:Hp} {d:PyData} {v:V} (h:L2.dv K H d v) (q:isQ d=false):hZ F K H d v:=by
 cases d with
 | list ds=>cases q
 | tuple ds=>cases q
 | dict _=>exact h.elim
 | _=>exact h
theorem dk.ye {p:Addr} {n:Nat} {H H':Hp} (h:dk p H H') (t:Tp p n H):∀ a xs,br K H a xs->br K H' a xs:=by
 intro a xs z
 rcases z with (z | ⟨o,z⟩) | z
 ·exact .inl (.inl (h _ _ (t.ne z (by intro kvs c;cases c)) z))
 ·exact .inl (.inr ⟨o,h _ _ (t.ne z (by intro kvs c;cases c)) z⟩)
 ·exact .inr z
theorem dk.u3 {p:Addr} {n:Nat} {H H':Hp} (h:dk p H H') (t:Tp p n H):∀(a:Addr) (xs:List V),H a=some (.lst xs)->H' a=some (.lst xs):=λa xs z=>h _ _ (t.ne z (by intro kvs c;cases c)) z
theorem u2 {B:Nat}:∀{ts:List (List Nat)},(∀ x∈ts,x.length<=B)->(jn ts).length<=ts.length*(B+1)
 | [],_=>by simp [jn]
 | [x],h=>by
  have:=h x List.mem_cons_self
  show x.length<=1*(B+1)
  omega
 | x::y::r,h=>by
  have h1:=h x List.mem_cons_self
  have ih:=u2 (ts:=y::r) λz hz=>h z (List.mem_cons_of_mem _ hz)
  show (x++32::jn (y::r)).length<=((y::r).length+1)*(B+1)
  rw [List.length_append,List.length_cons,Nat.succ_mul]
  omega
def rG:Nat->Nat
 | 0=>62
 | D+1=>2+4*(rG D+1)
def km:Nat->Nat
 | 0=>20
 | D+1=>40+4*km D
theorem rH:∀ D,62<=rG D
 | 0=>Nat.le_refl _
 | D+1=>by have:=rH D;show 62<=2+4*(rG D+1);omega
theorem pK:∀ D,20<=km D
 | 0=>Nat.le_refl _
 | D+1=>by have:=pK D;show 20<=40+4*km D;omega
theorem jc:∀{n m:Nat} {d:PyData},gt n d->n<=m->gt m d
 | 0,m,d,h,_=>by
  cases d with
  | none=>cases m<;>exact h
  | str x=>cases m<;>exact h
  | int i=>cases m<;>exact h
  | _=>exact h.elim
 | n+1,0,d,h,l=>absurd l (by omega)
 | n+1,m+1,d,h,l=>by
  cases d with
  | list ds=>exact λx hx=>jc (h x hx) (by omega)
  | tuple ds=>exact λx hx=>jc (h x hx) (by omega)
  | none=>exact h
  | str x=>exact h
  | int i=>exact h
  | bool b=>exact h.elim
  | dict _=>exact h.elim
def kP (K:PySem.W.Frag) (L:Nat):Sp:=λvs H Q _=>∃(t c:Addr) (D n:Nat),D<L/\vs=[.ref t,.int D]/\dN t c n H/\n+km D<=10^48/\∀ d v H',gt D d->(dH d).length<=rG D->PyData.canLay0 d=true->hZ (λa=>H a=none) K H' d v->dk t H H'->dN t c (n+km D) H'->Q v H'
theorem dg:az ["_law_tape_here","_law_deep","_law_things","_law_turn"] ["_law_tape_here","_law_deep"] (ai (top 31)):=gU
theorem tM (D:aC K mg "_law_thing" (top 31)):Callee P w K mg base ba 3 "_law_thing" ["_law_tape_here","_law_deep"] (kP K 0):=by
 refine cO D dg (λf cdv A outer s H vs Q E hr h=>?_)
 obtain⟨_,_,D,_,h,_⟩:=h
 exact absurd h (Nat.not_lt_zero D)
theorem eu:∀{a b:List PyData},PyData.canLayAll0 a=true->PyData.canLayAll0 b=true->PyData.canLayAll0 (a++b)=true
 | [],b,_,h=>h
 | x::a,b,h1,h2=>by
  simp only [PyData.canLayAll0,Bool.and_eq_true,List.cons_append] at h1 ⊢
  exact⟨h1.1,eu h1.2 h2⟩
structure Au (K:PySem.W.Frag) (H:Hp) (t c l:Addr) (D i n:Nat) (ds:List PyData) (vs:List V) (H':Hp):Prop where
 el:H' l=some (.lst vs)
 hd:cx (λa=>H a=none/\a≠l) K H' ds vs
 len:ds.length=i
 g:∀ d∈ds,gt D d
 sz:∀ d∈ds,(dH d).length<=rG D
 cl:PyData.canLayAll0 ds=true
 o:dk t H H'
 tp:dN t c n H'
def Av (K:PySem.W.Frag) (H:Hp) (t c l:Addr) (E' i n:Nat) (σ':L2.St) (H':Hp):Prop:=∃(o3:Option V) (ds:List PyData) (vs:List V),σ'=[some (.ref t),some (.int ((E'+1:Nat):Int)),some (.ref l),o3]/\Au K H t c l E' i n ds vs H'
theorem tN {L:Nat} (lL:L<=10) (D:aC K mg "_law_thing" (top 31)) (c__law_draw:Callee P w K mg base ba 1 "_law_draw" ["_law_tape_here","_law_many"] bQ) (c__law_leaf:Callee P w K mg base ba 3 "_law_leaf" ["_law_tape_here"] (iE K)) (c__law_thing:Callee P w K mg base ba (L+3) "_law_thing" ["_law_tape_here","_law_deep"] (kP K L)) (n_range:mg "range"=none) (n_tuple:mg "tuple"=none):Callee P w K mg base ba (L+4) "_law_thing" ["_law_tape_here","_law_deep"] (kP K (L+1)):=by
 refine cO D dg (λf cdv A outer s H vs Q E hr h=>?_)
 obtain⟨t,c,D,n,DL,rfl,tp,n9,q⟩:=h
 have nd:=dg.nd
 refine⟨_,(af (aH (PW.pt (fE (ar aI (pv 1) ag (au _)) (dy (ar aI (cg c__law_draw (hr.mono (by omega)) rfl aD (aa (pv 0) (aa ag ae))) ag (au _))))) (ak (aB (cg c__law_leaf (hr.mono (by omega)) rfl aD (aa (pv 0) ae)))) aE) (af (bI (i:=2) nd (bA ae)) (af (gk PassesOwn.never rfl (cF rfl n_range (aa (cg c__law_draw (hr.mono (by omega)) rfl aD (aa (pv 0) (aa ag ae))) ae)) (b8 (i:=3) nd rfl (Or.inl rfl) (.inr rfl)) (ak (cW (eG PySem.F.plainAttrs_list PySem.F.slot_list_append PySem.F.type_list_append bX (pv 2) (aa (cg c__law_thing (hr.mono (by omega)) rfl aD (aa (pv 0) (aa (ay cH (pv 1) ag) ae))) ae))))) (ak (aB (cj (ar aI (cg c__law_draw (hr.mono (by omega)) rfl aD (aa (pv 0) (aa ag ae))) ag (au _)) (pv 2) (bo dc rfl n_tuple L2.boot_tuple (aa (pv 2) ae)))))))),?_⟩
 show bY _ _ _ [some (.ref t),some (.int D),none,none] H
 have s62:=rH D
 have d20:=pK D
 k_data
 have leafQ:∀(H0:Hp) (m:Nat),dk t H H0->dN t c m H0->m<=n+1->iE K [V.ref t] H0 Q E0:=λH0 m o0 t0 hm=>⟨t,c,m,rfl,t0,by omega,λd v H' g l cl nq hv o' t'=>q d v H' (jc g (Nat.zero_le _)) (by omega) cl (hZ.leaf hv nq) (o0.trans o') (t'.more (by omega))⟩
 refine aM (λc0=>leafQ H n (dk.of (aF.refl _)) tp (by omega)) (λc0=>?_)
 obtain⟨E',rfl⟩:∃ E',D=E'+1:=⟨D-1,by omega⟩
 have sE:rG (E'+1)=2+4*(rG E'+1):=rfl
 have dE:km (E'+1)=40+4*km E':=rfl
 refine⟨t,c,3,n,rfl,tp,by omega,by decide,by decide,λr1 H1 r10 r11 o1 t1=>⟨rfl,?_⟩⟩
 refine aM (λ_=>leafQ H1 (n+1) o1.cf t1 (by omega)) (λ_=>?_)
 refine⟨by show 0<=sizeLine;decide,λl hl=>?_⟩
 have hl0:H l=none:=by
  cases e:H l with
  | none=>rfl
  | some o =>
   rcases Classical.em (l=t) with z | z
   ·obtain⟨_,_,_,a,_⟩:=t1
    rw [z,a] at hl
    cases hl
   ·rw [o1.cf l o z e] at hl
    cases hl
 have lc:l≠c:=λz=>by
  obtain⟨_,_,_,_,a,_⟩:=t1
  rw [z,a] at hl
  cases hl
 have s2:=av (o:=.lst []) hl
 have e2:upd H1 l (.lst []) l=some (.lst []):=aj
 generalize upd H1 l (.lst [])=H2 at *
 have t2:=t1.same s2
 refine⟨t,c,5,n+1,rfl,t2,by omega,by decide,by decide,λr3 H3 r30 r31 o3 t3=>⟨r3,rfl,by omega,by omega,?_⟩⟩
 have O3:=(o1.cf.trans (dk.of s2)).trans o3.cf
 have e3:=o3.cf.u3 t2.tp _ _ e2
 refine bV (λi σ' H'=>Av K H t c l E' i (n+2+i*km E') σ' H') ⟨_,[],[],rfl,⟨e3,rfl,rfl,λd hd=>(nomatch hd),λd hd=>(nomatch hd),rfl,O3,t3.more (by omega)⟩⟩ ?_ ?_
 ·rintro i σ' H4 hi ⟨o3',ds,vs,rfl,I⟩
  have i4:i<=3:=by omega
  have lv:vs.length=i:=by rw [<- eR.len I.hd.aZ,I.len]
  have im:i*km E'<=3*km E':=Nat.mul_le_mul_right _ i4
  k_data
  refine⟨.inl ⟨rfl,_,aP.of I.el⟩,t,c,E',n+2+i*km E',by omega,?_,I.tp,by omega,λd v H5 g sz cl hv o5 t5=>?_⟩
  ·rw [show (((E'+1:Nat):Int)-1)=((E':Nat):Int) by omega]
  have el5:=o5.u3 I.tp.tp _ _ I.el
  refine⟨l,_,_,rfl,rfl,el5,by rw [lv];exact Nat.lt_of_le_of_lt (show i<=100 by omega) (by decide),_,ds++[d],vs++[v],rfl,?_⟩
  have l4:∀ a,H4 a=none->a≠l:=λa h z=>by rw [z,I.el] at h;cases h
  have h40:∀ a,H4 a=none->H a=none:=λa h=>by
   cases e:H a with
   | none=>rfl
   | some o =>
    rcases Classical.em (a=t) with z | z
    ·obtain⟨_,_,_,b,_⟩:=I.tp
     rw [z,b] at h
     cases h
    ·rw [I.o a o z e] at h
     cases h
  have kt5:∀ a xs,br K H5 a xs->br K (upd H5 l (.lst (vs++[v]))) a xs:=λa xs h=>br.but el5 (λb o nb e=>by rw [ao nb];exact e) h
  refine⟨aj,cx.snoc (hZ.keep (λa h=>⟨h40 a h,l4 a h⟩) kt5 (λa xs h e=>by rw [ao (l4 a h)];exact e) hv) (cx.keep (λa h=>h) (λa xs h=>kt5 a xs (o5.ye I.tp.tp a xs h)) (λa xs h e=>by rw [ao h.2];exact o5.u3 I.tp.tp _ _ e) I.hd),by rw [List.length_append,I.len];rfl,?_,?_,?_,?_,?_⟩
  ·intro x hx
   rcases List.mem_append.mp hx with z | z
   ·exact I.g x z
   ·rw [List.mem_singleton.mp z];exact g
  ·intro x hx
   rcases List.mem_append.mp hx with z | z
   ·exact I.sz x z
   ·rw [List.mem_singleton.mp z];exact sz
  ·exact eu I.cl (by simp [PyData.canLayAll0,cl])
  ·intro b o nb e
   rw [ao (λz=>by rw [z,hl0] at e;cases e)]
   exact o5 b o nb (I.o b o nb e)
  ·have lt:l≠t:=I.tp.tp.ne I.el (by intro kvs c;cases c)
   obtain⟨x1,x2,x3,y1,y2,y3⟩:=t5.more (show _<=n+2+(i+1)*km E' by rw [Nat.succ_mul];omega)
   exact⟨x1,x2,x3,by rw [ao (Ne.symm lt)];exact y1,by rw [ao (Ne.symm lc)];exact y2,y3⟩
 ·rintro σ' H4 ⟨o3',ds,vs,rfl,I⟩
  k_data
  have hlen:ds.length<=4:=by rw [I.len];omega
  have lv:vs.length=ds.length:=(eR.len I.hd.aZ).symm
  have jl:=u2 (B:=rG E') (ts:=ds.map dH) λx hx=>by
   obtain⟨d,hd,rfl⟩:=List.mem_map.mp hx
   exact I.sz d hd
  rw [List.length_map] at jl
  have jl4:ds.length*(rG E'+1)<=4*(rG E'+1):=Nat.mul_le_mul_right _ hlen
  have im:r3.toNat*km E'<=4*km E':=Nat.mul_le_mul_right _ (by omega)
  refine⟨t,c,4,_,rfl,I.tp,by omega,by decide,by decide,λr5 H5 r50 r51 o5 t5=>⟨rfl,?_⟩⟩
  have el5:=o5.cf.u3 I.tp.tp _ _ I.el
  have hd5:cx (λa=>H a=none) K H5 ds vs:=cx.keep (λa h=>h.1) (o5.cf.ye I.tp.tp) (λa xs h e=>o5.cf.u3 I.tp.tp _ _ e) I.hd
  refine aM (λ_=>?_) (λ_=>?_)
  ·refine q (.list ds) _ H5 I.g ?_ (by simp only [PyData.canLay0];exact I.cl) ⟨l,vs,rfl,hl0,el5,hd5⟩ (I.o.trans o5.cf) (t5.more (by omega))
   rw [fM (.inl rfl)]
   simp only [List.length_append,List.length_cons,List.length_nil]
   omega
  ·refine⟨vs,.inl ⟨aP.of el5,λn6 hn6=>?_⟩⟩
   have s6:=av (o:=.tup vs) hn6
   refine q (.tuple ds) _ _ I.g ?_ (by simp only [PyData.canLay0];exact I.cl) ⟨n6,vs,rfl,br.of aj,cx.keep (λa h=>h) (λa xs h=>h.same s6) (λa xs _ e=>s6 _ _ e) hd5⟩ ((I.o.trans o5.cf).trans (dk.of s6)) ((t5.same s6).more (by omega))
   rw [fM (.inr rfl)]
   simp only [List.length_append,List.length_cons,List.length_nil]
   omega
theorem qz (D:aC K mg "_law_thing" (top 31)) (c__law_draw:Callee P w K mg base ba 1 "_law_draw" ["_law_tape_here","_law_many"] bQ) (c__law_leaf:Callee P w K mg base ba 3 "_law_leaf" ["_law_tape_here"] (iE K)) (n_range:mg "range"=none) (n_tuple:mg "tuple"=none):∀ L:Nat,L<=10->Callee P w K mg base ba (L+3) "_law_thing" ["_law_tape_here","_law_deep"] (kP K L)
 | 0,_=>tM D
 | L+1,h=>tN (by omega) D c__law_draw c__law_leaf (qz D c__law_draw c__law_leaf n_range n_tuple L (by omega)) n_range n_tuple
def rA (K:PySem.W.Frag):Sp:=λvs H Q _=>∃(t c:Addr) (n:Nat),vs=[.ref t]/\dN t c n H/\n<=10^40/\∀ d v H',gt 80 d->(dH d).length<=20000->PyData.canLay0 d=true->dv K H' d v->dk t H H'->dN t c (n+10000) H'->Q v H'
def zV (K:PySem.W.Frag) (H:Hp) (t c:Addr) (n:Nat) (σ':L2.St) (H':Hp):Prop:=∃(d:PyData) (v:V) (o2 o3:Option V),σ'=[some (.ref t),some v,o2,o3]/\gt 80 d/\(dH d).length<=20000/\PyData.canLay0 d=true/\dv K H' d v/\dk t H H'/\dN t c (n+10000) H'
def Aq (K:PySem.W.Frag) (H:Hp) (t c:Addr) (n b:Nat) (W:Int) (i:Nat) (σ':L2.St) (H':Hp):Prop:=∃(d:PyData) (v:V) (o3:Option V),σ'=[some (.ref t),some v,some (.int W),o3]/\gt (b+i) d/\(dH d).length<=62+4*i/\PyData.canLay0 d=true/\hZ (λ_=>False) K H' d v/\dk t H H'/\dN t c (n+8800+3*i) H'
theorem cJ:az ["_law_tape_here","_law_thing_here","_law_wraps","_law_turn"] ["_law_tape_here"] (ai (top 32)):=gU
theorem tJ (D:aC K mg "_law_deep_thing" (top 32)) (c__law_draw:Callee P w K mg base ba 1 "_law_draw" ["_law_tape_here","_law_many"] bQ) (c__law_leaf:Callee P w K mg base ba 3 "_law_leaf" ["_law_tape_here"] (iE K)) (c__law_thing:Callee P w K mg base ba 8 "_law_thing" ["_law_tape_here","_law_deep"] (kP K 5)) (n_range:mg "range"=none) (n_int:mg "int"=none):Callee P w K mg base ba 9 "_law_deep_thing" ["_law_tape_here"] (rA K):=by
 refine cO D cJ (λf cdv A outer s H vs Q E hr h=>?_)
 obtain⟨t,c,n,rfl,tp,n9,q⟩:=h
 have nd:=cJ.nd
 refine⟨_,(af (bI (i:=1) nd (cm c__law_thing hr aD (aa (pv 0) (aa (ay aY ag (cm c__law_draw hr aD (aa (pv 0) (aa ag ae)))) ae)))) (af (gj (aH (ar aI (cm c__law_draw hr aD (aa (pv 0) (aa ag ae))) ag (au _)) (af (bI (i:=2) nd (ay aY ag (cm c__law_draw hr aD (aa (pv 0) (aa ag ae))))) (af (bI (i:=1) nd (cj (ar eF (cm c__law_draw hr aD (aa (pv 0) (aa ag ae))) ag (au _)) (cm c__law_leaf hr aD (aa (pv 0) ae)) (df ae))) (ak (gk PassesOwn.never rfl (cF rfl n_range (aa (ay cH (pv 2) (bo dh rfl n_int L2.boot_int (aa (a9 (qB hr.units) (pv 1) (df ae) (au _)) ae))) ae)) (b8 (i:=3) nd rfl (Or.inl rfl) (.inr rfl)) (ak (bI (i:=1) nd (cj (ar aI (cm c__law_draw hr aD (aa (pv 0) (aa ag ae))) ag (au _)) (df (aa (pv 1) ae)) (df (aa (cm c__law_draw hr aD (aa (pv 0) (aa ag ae))) (aa (pv 1) ae)))))))))) aE)) (ak (aB (pv 1))))),?_⟩
 show bY _ _ _ [some (.ref t),none,none,none] H
 k_data
 refine⟨t,c,4,n,rfl,tp,by omega,by decide,by decide,λr1 H1 r10 r11 o1 t1=>⟨_,rfl,?_⟩⟩
 obtain⟨D,rfl⟩:∃ D:Nat,r1=D:=⟨r1.toNat,by omega⟩
 have D4:D<=3:=by omega
 have szD':rG (1+D)<=16382/\km (1+D)<=8600:=by
  rcases (by omega:D=0∨D=1∨D=2∨D=3) with rfl | rfl | rfl | rfl<;>decide
 refine⟨t,c,1+D,n+1,by omega,?_,t1,by omega,λd v H2 g sz cl hv o2 t2=>?_⟩
 ·rw [show ((1:Int)+(D:Int))=((1+D:Nat):Int) by omega]
 have O2:=o1.cf.trans o2
 refine⟨λσ' H'=>zV K H t c n σ' H',?_,?_⟩
 ·k_data
  refine⟨t,c,4,n+1+km (1+D),rfl,t2,by omega,by decide,by decide,λr3 H3 r30 r31 o3 t3=>⟨rfl,?_⟩⟩
  have O3:=O2.trans o3.cf
  refine aM (λ_=>?_) (λ_=>?_)
  ·have loopD:∀(d0:PyData) (v0:V) (b m:Nat) (W:Int) (H0:Hp),gt b d0->(dH d0).length<=62->PyData.canLay0 d0=true->hZ (λ_=>False) K H0 d0 v0->dk t H H0->dN t c (n+8800) H0->b+m<=80->Loop (sj 0 m) (dQ 3) (l7 (zJ (rK (xk zB (dI bQ [] E0 (cL (gL 0) (cL (tC (V.int 2)) iV))) (tC (V.int 0)))) (rL (cL (gL 1) iV)) (rL (cL (dI bQ [] E0 (cL (gL 0) (cL (tC (V.int 9)) iV))) (cL (gL 1) iV)))) (dQ 1)) { nx:=λσ' H'=>zV K H t c n σ' H',rt:=Q } [some (V.ref t),some v0,some (V.int W),none] H0:=by
    intro d0 v0 b m W H0 g0 l0 c0 h0 O0 T0 bm
    refine bV (λi σ' H'=>Aq K H t c n b W i σ' H') ⟨d0,v0,_,rfl,g0,by omega,c0,h0,O0,T0⟩ ?_ ?_
    ·rintro i σ' H5 hi ⟨d5,v5,o5',rfl,g5,l5,c5,h5,O5,t5⟩
     k_data
     refine⟨t,c,2,n+8800+3*i,rfl,t5,by omega,by decide,by decide,λr6 H6 r60 r61 o6 t6=>⟨rfl,?_⟩⟩
     have h6:=hZ.keep (G:=λ_=>False) (λa z=>z) (o6.cf.ye t5.tp) (λa xs z _=>z.elim) h5
     refine aM (λ_=>⟨by show 1<=sizeLine;decide,λa7 h7=>?_⟩) (λ_=>?_)
     ·have s7:=av (o:=.tup [v5]) h7
      refine⟨.tuple [d5],.ref a7,_,rfl,λx hx=>(by rw [List.mem_singleton.mp hx];exact g5),?_,by simp [PyData.canLay0,PyData.canLayAll0,c5],⟨a7,[v5],rfl,br.of aj,v5,[],rfl,hZ.keep (λa z=>z) (λa xs z=>z.same s7) (λa xs z _=>z.elim) h6,rfl⟩,(O5.trans o6.cf).trans (dk.of s7),(t6.same s7).more (by omega)⟩
      rw [fM (.inr rfl)]
      simp only [List.map_cons,List.map_nil,jn,List.length_append,List.length_cons,List.length_nil]
      omega
     ·refine⟨t,c,9,n+8800+3*i+1,rfl,t6,by omega,by decide,by decide,λr8 H8 r80 r81 o8 t8=>⟨by show 2<=sizeLine;decide,λa7 h7=>?_⟩⟩
      have h8:=hZ.keep (G:=λ_=>False) (λa z=>z) (o8.cf.ye t6.tp) (λa xs z _=>z.elim) h6
      have s7:=av (o:=.tup [V.int r8,v5]) h7
      obtain⟨k,rfl⟩:∃ k:Nat,r8=k:=⟨r8.toNat,by omega⟩
      have kl:(dH (.int (k:Int))).length=1:=by
       rw [m4]
       rcases (by omega:k=0∨k=1∨k=2∨k=3∨k=4∨k=5∨k=6∨k=7∨k=8) with rfl | rfl | rfl | rfl | rfl | rfl | rfl | rfl | rfl<;>decide
      refine⟨.tuple [.int k,d5],.ref a7,_,rfl,λx hx=>?_,?_,by simp [PyData.canLay0,PyData.canLayAll0,c5],⟨a7,_,rfl,br.of aj,V.int k,[v5],rfl,rfl,v5,[],rfl,hZ.keep (λa z=>z) (λa xs z=>z.same s7) (λa xs z _=>z.elim) h8,rfl⟩,((O5.trans o6.cf).trans o8.cf).trans (dk.of s7),(t8.same s7).more (by omega)⟩
      ·simp only [List.mem_cons,List.not_mem_nil,or_false] at hx
       rcases hx with rfl | rfl
       ·exact jc (n:=0) (show -(10^60)<(k:Int)/\(k:Int)<10^60 by omega) (Nat.zero_le _)
       ·exact g5
      ·rw [fM (.inr rfl)]
       simp only [List.map_cons,List.map_nil,jn,List.length_append,List.length_cons,List.length_nil,kl]
       omega
    ·rintro σ' H5 ⟨d5,v5,o5',rfl,g5,l5,c5,h5,O5,t5⟩
     exact⟨d5,v5,_,_,rfl,jc g5 bm,by omega,c5,h5.dv,O5,t5.more (by omega)⟩
   refine⟨t,c,5,n+1+km (1+D)+1,rfl,t3,by omega,by decide,by decide,λr4 H4 r40 r41 o4 t4=>⟨r4,rfl,?_⟩⟩
   refine⟨t,c,3,_,rfl,t4,by omega,by decide,by decide,λr5 H5 r50 r51 o5 t5=>⟨r5,rfl,?_⟩⟩
   have O5:=(O3.trans o4.cf).trans o5.cf
   refine aM (λ_=>?_) (λ_=>?_)
   ·refine⟨t,c,_,rfl,t5,by omega,λd6 v6 H6 g6 l6 c6 nq6 h6 o6 t6=>⟨by show 0<=sizeLine;decide,λa7 h7=>?_⟩⟩
    have s7:=av (o:=.tup []) h7
    have ev:PyData.eqv d6 (.tuple [])=false:=by
     cases d6<;>first | rfl | cases nq6
    have dp:d6.depth<=3:=by
     cases d6<;>first | (simp only [PyData.depth];omega) | exact (show False from h6).elim | cases nq6
    refine⟨d6,.tuple [],dv.same s7 _ h6,⟨a7,[],rfl,br.of aj,rfl⟩,c6,rfl,Nat.le_trans (Nat.min_le_left ..) (by omega),.inr ⟨false,by rw [ev];rfl,?_⟩⟩
    rw [if_neg (by decide)]
    refine⟨by omega,by omega,?_⟩
    exact loopD d6 v6 0 _ _ _ g6 l6 c6 (hZ.leaf (dv.same s7 _ h6) nq6) ((O5.trans o6).trans (dk.of s7)) ((t6.same s7).more (by omega)) (by omega)
   ·refine⟨by show 0<=sizeLine;decide,λa6 h6=>⟨by show 0<=sizeLine;decide,λa7 h7=>?_⟩⟩
    have s6:=av (o:=.tup []) h6
    have s7:=av (o:=.tup []) h7
    have e6:upd H5 a6 (.tup []) a6=some (.tup []):=aj
    have e6':=s7 _ _ e6
    have d6:hZ (λ_=>False) K (upd (upd H5 a6 (.tup [])) a7 (.tup [])) (.tuple []) (.ref a6):=⟨a6,[],rfl,br.of e6',rfl⟩
    refine⟨.tuple [],.tuple [],d6.dv,⟨a7,[],rfl,br.of aj,rfl⟩,rfl,rfl,by decide,.inr ⟨true,by decide,?_⟩⟩
    rw [if_pos rfl]
    refine⟨by omega,by omega,?_⟩
    exact loopD (.tuple []) _ 1 _ _ _ (λx hx=>(nomatch hx)) (by decide) rfl d6 (O5.trans (dk.of (s6.trans s7))) ((t5.same (s6.trans s7)).more (by omega)) (by omega)
  ·exact⟨d,v,_,_,rfl,jc g (by omega),by omega,cl,(hZ.keep (G:=λ_=>True) (λa _=>True.intro) (o3.cf.ye t2.tp) (λa xs _ e=>o3.cf.u3 t2.tp _ _ e) hv).dv,O3,t3.more (by omega)⟩
 rintro σ' H3 ⟨d',v',o2',o3',rfl,g',sz',cl',hv',O3,t3⟩
 k_data
 exact q d' v' H3 g' sz' cl' hv' O3 t3
end
end K
namespace K
open PySem PySem.Spec PyProof.Rows L2
theorem fZ:∀{ds:List PyData} {i:Nat} {d:PyData},PyData.canLayAll0 ds=true->ds[i]?=some d->d.canLay0=true
 | [],i,d,_,h=>by simp at h
 | e::ds,0,d,h,z=>by
  cases z
  have h':e.canLay0=true/\PyData.canLayAll0 ds=true:=by simpa [PyData.canLayAll0] using h
  exact h'.1
 | e::ds,i+1,d,h,z=>by
  have h':e.canLay0=true/\PyData.canLayAll0 ds=true:=by simpa [PyData.canLayAll0] using h
  exact fZ h'.2 (by simpa using z)
theorem tf {d:PyData} (h:Ad d=true):∃ ds,d=.tuple ds:=by cases d<;>first | exact⟨_,rfl⟩ | cases h
end K
namespace K
open PySem PySem.Spec PyProof.Rows L2
section
variable {P:Program} {w:World} {K:PySem.W.Frag} {mg:Str->Option Value} {base:Heap}
mutual
def sT:Nat->PyData->Prop
 | 0,_=>False
 | _+1,.none=>True
 | _+1,.bool _=>True
 | _+1,.int _=>True
 | _+1,.str _=>True
 | L+1,.list ds=>ds.length<=10^6/\oS L ds
 | L+1,.tuple ds=>ds.length<=10^6/\oS L ds
 | _+1,_=>False
def oS:Nat->List PyData->Prop
 | _,[]=>True
 | L,d::ds=>sT L d/\oS L ds
end
theorem jQ:∀{L:Nat} {ds:List PyData} {i:Nat} {d:PyData},oS L ds->ds[i]?=some d->sT L d
 | L,[],i,d,_,h=>by simp at h
 | L,e::ds,0,d,h,z=>by
  simp only [oS] at h
  cases z
  exact h.1
 | L,e::ds,i+1,d,h,z=>by
  simp only [oS] at h
  exact jQ h.2 (by simpa using z)
theorem gT:∀{L:Nat} {ds:List PyData},(∀ d∈ds,sT L d)->oS L ds
 | L,[],_=>by simp only [oS]
 | L,d::ds,h=>by
  simp only [oS]
  exact⟨h d (List.mem_cons_self ..),gT λe z=>h e (List.mem_cons_of_mem _ z)⟩
theorem kf {k:Sd} {H H':Hp} {a:Addr} {xs:List V} (h:hV k K H a xs) (s:aF H H'):hV k K H' a xs:=by
 cases k
 ·exact aP.same h s
 ·exact br.same h s
def Ab:PyData->Prop
 | .none=>True
 | .bool _=>True
 | .int _=>True
 | .str _=>True
 | _=>False
theorem pO {d r:PyData} (hr:Ab r):(v3 d=v3 r/\PyData.eqv d r=true)↔d=r:=by
 cases r with
 | none=>cases d<;>simp [PyData.eqv,v3]
 | bool x=>cases d<;>simp [PyData.eqv,v3]
 | int x=>cases d<;>simp [PyData.eqv,v3]
 | str x=>cases d<;>simp [PyData.eqv,v3]
 | _=>cases hr
theorem sZ {d:PyData} (h:Ac d=true):∃ ds,d=.list ds:=by cases d<;>first | exact⟨_,rfl⟩ | cases h
def dA (K:PySem.W.Frag) (L:Nat):Sp:=λvs H Q _=>∃(u v:V) (d r:PyData),vs=[u,v]/\dv K H d u/\dv K H r v/\d.canLay0=true/\r.canLay0=true/\sT L r/\∀ b H',(b=true↔d=r)->aF H H'->Q (.bl b) H'
theorem dz:az ["_law_found","_law_due"] ["_law_found","_law_due"] (ai (top 37)):=gU
theorem oI (D:aC K mg "_law_same" (top 37)):Callee P w K mg base ba 1 "_law_same" ["_law_found","_law_due"] (dA K 0):=by
 refine cO D dz (λf cdv A outer s H vs Q E hr h=>?_)
 obtain⟨u,v,d,r,rfl,hu,hv,_,_,hs,q⟩:=h
 simp only [sT] at hs
theorem oJ {L:Nat} (D:aC K mg "_law_same" (top 37)) (c__law_same:Callee P w K mg base ba (L+1) "_law_same" ["_law_found","_law_due"] (dA K L)) (n_isinstance:mg "isinstance"=none) (n_bool:mg "bool"=none) (n_list:mg "list"=none) (n_tuple:mg "tuple"=none) (n_len:mg "len"=none) (n_zip:mg "zip"=none) (n_all:mg "all"=none):Callee P w K mg base ba (L+2) "_law_same" ["_law_found","_law_due"] (dA K (L+1)):=by
 refine cO D dz (λf cdv A outer s H vs Q E hr h=>?_)
 obtain⟨u,v,d,r,rfl,hu,hv,ld,lr,hs,q⟩:=h
 have nd:=dz.nd
 refine⟨_,(af (aH (PW.pt (fE (bp (aw bg rfl n_isinstance PyProof.Rows.boot_isinstance (aa (pv 1) (aa (bG (v:=.ty "tuple") rfl n_tuple L2.boot_tuple rfl) ae))) (λ_=>rfl)) (dy (bp (aw bg rfl n_isinstance PyProof.Rows.boot_isinstance (aa (pv 1) (aa (bG (v:=.ty "list") rfl n_list L2.boot_list rfl) ae))) (λ_=>rfl))))) (af (aH (PW.pt (fE (ar jo (aw bg rfl n_isinstance PyProof.Rows.boot_isinstance (aa (pv 0) (aa (bG (v:=.ty "tuple") rfl n_tuple L2.boot_tuple rfl) ae))) (aw bg rfl n_isinstance PyProof.Rows.boot_isinstance (aa (pv 1) (aa (bG (v:=.ty "tuple") rfl n_tuple L2.boot_tuple rfl) ae))) (au _)) (dy (ar jo (aw bg rfl n_isinstance PyProof.Rows.boot_isinstance (aa (pv 0) (aa (bG (v:=.ty "list") rfl n_list L2.boot_list rfl) ae))) (aw bg rfl n_isinstance PyProof.Rows.boot_isinstance (aa (pv 1) (aa (bG (v:=.ty "list") rfl n_list L2.boot_list rfl) ae))) (au _))))) (ak (aB fB)) aE) (ak (aB (ix (a9 aI (aw bU rfl n_len PySem.boot_len (aa (pv 0) ae)) (aw bU rfl n_len PySem.boot_len (aa (pv 1) ae)) (au _)) (gi (aw (pw rfl) rfl n_all L2.boot_all (aa (vd rfl (Aa (N':=["_law_one","_law_other"]) (js:=[none,none]) rfl rfl) (uc rfl n_zip (aa (pv 0) (aa (pv 1) ae))) (λ_ _ _ _=>(tZ K rfl (n:=2) rfl (kH (b8 (i:=0) (show List.Nodup [("_law_one":Str),("_law_other":Str)] from by decide +kernel) rfl (Or.inl rfl) (.inr rfl)) (kH (b8 (i:=1) (show List.Nodup [("_law_one":Str),("_law_other":Str)] from by decide +kernel) rfl (Or.inl rfl) (.inr rfl)) ua)))) (λ_ _ _ _=>kI) (λ_ _ _ _=>(cg c__law_same (hr.mono (by omega)) rfl aD (aa (pv 0) (aa (pv 1) ae))))) ae))))))) aE) (ak (aB (ix (a9 aI (aw bg rfl n_isinstance PyProof.Rows.boot_isinstance (aa (pv 0) (aa (bG (v:=.ty "bool") rfl n_bool L2.boot_bool rfl) ae))) (aw bg rfl n_isinstance PyProof.Rows.boot_isinstance (aa (pv 1) (aa (bG (v:=.ty "bool") rfl n_bool L2.boot_bool rfl) ae))) (au _)) (gi (a9 (qB hr.units) (pv 0) (pv 1) (au _))))))),?_⟩
 show bY _ _ _ [some u,some v] H
 have sq:∀(k:Sd) (a b:Addr) (us vs:List V) (ds rs:List PyData),hV k K H a us->hV k K H b vs->aZ K H ds us->aZ K H rs vs->PyData.canLayAll0 ds=true->PyData.canLayAll0 rs=true->oS L rs->rs.length<=10^6->us.length=vs.length->(∀ b H',(b=true↔ds=rs)->aF H H'->Q (.bl b) H') ->
   gY (xI k k K a b) [none,none] (sV K 2 (mF (dQ 0) (mF (dQ 1) vU))) ny (dI (dA K L) [] E0 (cL (gL 0) (cL (gL 1) iV))) [some (.ref a),some (.ref b)] (λx H1=>wQ K [x] H1 Q) H:=by
  intro k a b us vs ds rs ha hb dd dr cl cr hs hl ln q
  have ul:=dd.length
  have vl:=dr.length
  refine nX (xs:=us) (ys:=vs) (λi zs H3=>aF H H3/\∃ bs:List Bool,zs=bs.map V.bl/\bs.length=i/\(bs.all id=true↔ds.take i=rs.take i)) ⟨aF.refl _,[],rfl,rfl,by simp⟩ (by omega) (Nat.le_trans (by omega) (show 10^6<=sizeLine by decide)) (λi zs H3 hi ⟨z1,bs,z2,z3,_⟩=>⟨kf ha z1,kf hb z1,by rw [z2,List.length_map,z3];exact Nat.le_refl _⟩) ?_ ?_
  ·rintro i x y zs H3 p3 hx hy ⟨s3,bs,rfl,bl,hbb⟩ hp3
   obtain⟨d1,e1,v1⟩:=dd.get hx
   obtain⟨r1,e2,v2⟩:=dr.get hy
   have s4:=av (o:=.tup [x,y]) hp3
   show sV K 2 _ _ [none,none] _ _
   refine⟨p3,_,rfl,br.of aj,rfl,?_⟩
   generalize upd H3 p3 _=H4 at *
   k_data
   refine⟨True.intro,x,y,d1,r1,rfl,dv.same (s3.trans s4) _ v1,dv.same (s3.trans s4) _ v2,fZ cl e1,fZ cr e2,jQ hs e2,λb H5 hb1 s5=>⟨(s3.trans s4).trans s5,bs++[b],by rw [List.map_append];rfl,by rw [List.length_append,bl];rfl,?_⟩⟩
   rw [List.all_append,Bool.and_eq_true,hbb,List.take_add_one,List.take_add_one,e1,e2]
   have l1:(ds.take i).length=(rs.take i).length:=by
    have:=(List.getElem?_eq_some_iff.mp e1).1
    have:=(List.getElem?_eq_some_iff.mp e2).1
    rw [List.length_take,List.length_take]
    omega
   constructor
   ·rintro⟨h1,h2⟩
    have:b=true:=by simpa using h2
    rw [h1,hb1.mp this]
   ·intro h
    obtain⟨h1,h2⟩:=List.append_inj h l1
    have:d1=r1:=by simpa using h2
    exact⟨h1,by simp [hb1.mpr this]⟩
  ·rintro zs H3 p3 ⟨s3,bs,rfl,bl,hbb⟩ hp3
   refine vI (bs:=bs) (aP.of aj) ?_
   rw [show us.length=ds.length from ul,List.take_length,show ds.length=rs.length by omega,List.take_length] at hbb
   exact q _ _ hbb (s3.trans (av hp3))
 have flat:Ab r->r.depth<=60->(iA K [u,V.ty "bool"] H λx H1=>iA K [v,V.ty "bool"] H1 λy H2=>iT x y=true/\if x=y then yz K false u v H2 Q else Q (V.bl false) H2):=by
  intro hf dp
  refine ku hu (ku hv ⟨rfl,?_⟩)
  have ef:=pO (d:=d) hf
  refine aM (λc=>?_) (λc=>?_)
  ·refine⟨d,r,hu,hv,ld,lr,Nat.le_trans (Nat.min_le_right _ _) dp,q _ H ?_ (aF.refl _)⟩
   rw [if_neg (by decide),<- ef]
   exact⟨λz=>⟨V.bl.inj c,z⟩,λz=>z.2⟩
  ·exact q false H ⟨nofun,λz=>absurd (by rw [z]) c⟩ (aF.refl _)
 k_data
 cases r with
 | none =>
  refine bF hv ⟨false,aX.mpr rfl,?_⟩
  rw [if_neg (by decide)]
  refine bM hv ⟨false,aX.mpr rfl,?_⟩
  rw [if_neg (by decide)]
  exact flat True.intro (by simp [PyData.depth])
 | bool y =>
  refine bF hv ⟨false,aX.mpr rfl,?_⟩
  rw [if_neg (by decide)]
  refine bM hv ⟨false,aX.mpr rfl,?_⟩
  rw [if_neg (by decide)]
  exact flat True.intro (by simp [PyData.depth])
 | int y =>
  refine bF hv ⟨false,aX.mpr rfl,?_⟩
  rw [if_neg (by decide)]
  refine bM hv ⟨false,aX.mpr rfl,?_⟩
  rw [if_neg (by decide)]
  exact flat True.intro (by simp [PyData.depth])
 | str y =>
  refine bF hv ⟨false,aX.mpr rfl,?_⟩
  rw [if_neg (by decide)]
  refine bM hv ⟨false,aX.mpr rfl,?_⟩
  rw [if_neg (by decide)]
  exact flat True.intro (by simp [PyData.depth])
 | list rs =>
  simp only [sT] at hs
  refine bF hv ⟨false,aX.mpr rfl,?_⟩
  rw [if_neg (by decide)]
  refine bM hv ⟨true,aX.mpr rfl,?_⟩
  rw [if_pos rfl]
  refine bF hu (bF hv ⟨rfl,?_⟩)
  refine aM (λc=>?_) (λc=>?_)
  ·exact q false H ⟨nofun,λz=>absurd (by rw [z]) c⟩ (aF.refl _)
  refine bM hu (bM hv ⟨rfl,?_⟩)
  refine aM (λc'=>?_) (λc'=>?_)
  ·exact q false H ⟨nofun,λz=>absurd (by rw [z]) c'⟩ (aF.refl _)
  obtain⟨ds,rfl⟩:=sZ (V.bl.inj (Classical.not_not.mp c'))
  obtain⟨pa,us,rfl,hSu,du⟩:=hu
  obtain⟨pb,vs,rfl,hSv,dw⟩:=hv
  have ul:=du.length
  have vl:=dw.length
  refine cT hSu (cT hSv ⟨rfl,?_⟩)
  refine aM (λc2=>?_) (λc2=>?_)
  ·have ln:us.length=vs.length:=by have:=V.int.inj c2;omega
   exact⟨pa,rfl,pb,rfl,.l,⟨_,hSu⟩,.l,⟨_,hSv⟩,sq .l pa pb us vs ds rs hSu hSv du dw (by simpa [PyData.canLay0] using ld) (by simpa [PyData.canLay0] using lr) hs.2 hs.1 ln λb H' hb s'=>q b H' (by rw [hb];exact⟨λz=>by rw [z],λz=>by injection z⟩) s'⟩
  ·refine q false H ⟨nofun,λz=>absurd ?_ c2⟩ (aF.refl _)
   injection z with z
   rw [ul,vl,z]
 | tuple rs =>
  simp only [sT] at hs
  refine bF hv ⟨true,aX.mpr rfl,?_⟩
  rw [if_pos rfl]
  refine bF hu (bF hv ⟨rfl,?_⟩)
  refine aM (λc=>?_) (λc=>?_)
  ·exact q false H ⟨nofun,λz=>absurd (by rw [z]) c⟩ (aF.refl _)
  refine bM hu (bM hv ⟨rfl,?_⟩)
  refine aM (λc'=>?_) (λc'=>?_)
  ·exact q false H ⟨nofun,λz=>absurd (by rw [z]) c'⟩ (aF.refl _)
  obtain⟨ds,rfl⟩:=tf (V.bl.inj (Classical.not_not.mp c))
  obtain⟨pa,us,rfl,hSu,du⟩:=hu
  obtain⟨pb,vs,rfl,hSv,dw⟩:=hv
  have ul:=du.length
  have vl:=dw.length
  refine mM hSu (mM hSv ⟨rfl,?_⟩)
  refine aM (λc2=>?_) (λc2=>?_)
  ·have ln:us.length=vs.length:=by have:=V.int.inj c2;omega
   exact⟨pa,rfl,pb,rfl,.t,⟨_,hSu⟩,.t,⟨_,hSv⟩,sq .t pa pb us vs ds rs hSu hSv du dw (by simpa [PyData.canLay0] using ld) (by simpa [PyData.canLay0] using lr) hs.2 hs.1 ln λb H' hb s'=>q b H' (by rw [hb];exact⟨λz=>by rw [z],λz=>by injection z⟩) s'⟩
  ·refine q false H ⟨nofun,λz=>absurd ?_ c2⟩ (aF.refl _)
   injection z with z
   rw [ul,vl,z]
 | _=>simp only [sT] at hs
theorem kC (D:aC K mg "_law_same" (top 37)) (n_isinstance:mg "isinstance"=none) (n_bool:mg "bool"=none) (n_list:mg "list"=none) (n_tuple:mg "tuple"=none) (n_len:mg "len"=none) (n_zip:mg "zip"=none) (n_all:mg "all"=none):∀ L:Nat,Callee P w K mg base ba (L+1) "_law_same" ["_law_found","_law_due"] (dA K L)
 | 0=>oI D
 | L+1=>oJ D (kC D n_isinstance n_bool n_list n_tuple n_len n_zip n_all L) n_isinstance n_bool n_list n_tuple n_len n_zip n_all
end
end K
namespace K
open PySem PySem.Spec PyProof.Rows L2
def vh (K:PySem.W.Frag):Sp:=λvs H Q _=>∃(a:Addr) (ns:List Int),vs=[.ref a]/\aP K H a (ns.map V.int)/\ns.length<=63/\∀ H',Q (.bl true) H'
end K
namespace K
open PySem PySem.Spec PyProof.Rows L2
section
variable {P:Program} {w:World} {K:PySem.W.Frag} {mg:Str->Option Value} {base:Heap}
theorem yq:∀(k:Nat) (a b:Array Nat),((List.replicate k a).foldl (·++·) b).size=b.size+a.size*k
 | 0,a,b=>by simp
 | k+1,a,b=>by
  rw [List.replicate_succ,List.foldl_cons,yq k a (b++a),Array.size_append,Nat.mul_succ]
  omega
theorem ir (x:Str) (n:Int):(Txt.mul x n).length<=x.length*n.toNat:=by
 unfold Txt.mul
 split
 ·exact Nat.zero_le _
 ·split
  ·rename_i h1 h2
   obtain⟨m,e⟩:∃ m,n.toNat=m+1:=⟨n.toNat-1,by omega⟩
   rw [e,Nat.mul_succ]
   omega
  ·show ((List.replicate n.toNat x.cps).foldl (·++·) #[]).size<=_
   rw [yq]
   show 0+x.length*n.toNat<=_
   omega
theorem bw (a b:Str):(a++b).length=a.length+b.length:=by
 show (a.cps++b.cps).size=_
 rw [Array.size_append]
 rfl
theorem cZ {n:Nat} (h:n<=10^6):n<=sizeLine:=Nat.le_trans h (by decide)
theorem yd {u:Option Int} {n:Nat}:Builtin.Str.strSliceIndices none u 1 n=Builtin.Str.strSliceIndices (some 0) u 1 n:=by
 unfold Builtin.Str.strSliceIndices
 simp only [show (1:Int) > 0 by decide,if_true,if_neg (show ¬(0:Int)<0 by decide)]
 rw [show max 0 (min (0:Int) n)=0 by omega]
theorem tj {u:Option Int} {n:Nat}:Builtin.Str.strSliceIndices u none 1 n=Builtin.Str.strSliceIndices u (some (n:Int)) 1 n:=by
 unfold Builtin.Str.strSliceIndices
 simp only [show (1:Int) > 0 by decide,if_true,if_neg (show ¬(n:Int)<0 by omega)]
 rw [show max 0 (min (n:Int) n)=n by omega]
theorem uA (z:Str) (a:Nat):(Txt.slice z none (some (a:Int))).length<=a:=by
 have e:Txt.slice z none (some (a:Int))=Txt.slice z (some ((0:Nat):Int)) (some (a:Int)):=by
  unfold Txt.slice
  rw [yd]
  rfl
 rw [e,kd z,gW,aL,List.length_take]
 omega
theorem oW (z:Str) (a:Nat):(Txt.slice z (some (a:Int)) none).length<=z.length-a:=by
 have e:Txt.slice z (some (a:Int)) none=Txt.slice z (some (a:Int)) (some (z.length:Int)):=by
  unfold Txt.slice
  rw [tj]
 have hl:z.cps.toList.length=z.length:=rfl
 rw [e]
 generalize z.length=m at *
 rw [kd z,gW,aL,List.length_take,List.length_drop]
 omega
def rD:Sp:=λvs H Q _=>∃(t c:Addr) (n:Nat),vs=[.ref t]/\dN t c n H/\n<=10^39/\∀(l:List Nat) H',l.length<=20000->dk t H H'->dN t c (n+10010) H'->Q (.str (S l)) H'
theorem fJ:az ["_law_tape_here","_law_way","_law_many"] ["_law_tape_here"] (ai (top 39)):=gU
theorem tL (D:aC K mg "_law_text" (top 39)) (c__law_draw:Callee P w K mg base ba 1 "_law_draw" ["_law_tape_here","_law_many"] bQ) (c__law_deep_thing:Callee P w K mg base ba 9 "_law_deep_thing" ["_law_tape_here"] (rA K)) (c__law_written:Callee P w K mg base ba 82 "_law_written" ["_law_thing_here"] (gv K 81)):Callee P w K mg base ba 83 "_law_text" ["_law_tape_here"] rD:=by
 refine cO D fJ (λf cdv A outer s H vs Q E hr h=>?_)
 obtain⟨t,c,n,rfl,tp,n9,q⟩:=h
 have nd:=fJ.nd
 refine⟨_,(af (bI (i:=1) nd (cm c__law_draw hr aD (aa (pv 0) (aa ag ae)))) (af (aH (ar aI (pv 1) ag (au _)) (af (bI (i:=2) nd (cm c__law_draw hr aD (aa (pv 0) (aa ag ae)))) (ak (aB (ay aN (ay aN (ay gQ aq (pv 2)) (bT aW (bA (aa aq (aa aq (aa aq ae)))) (cm c__law_draw hr aD (aa (pv 0) (aa ag ae))) (λ_ _=>rfl))) (ay gQ aq (ay cH (ay aY (pv 2) (cm c__law_draw hr aD (aa (pv 0) (aa ag ae)))) ag)))))) aE) (af (aH (ar aI (pv 1) ag (au _)) (ak (aB (ay aN (ay aN (bT aW (bA (aa aq (aa aq (aa aq (aa aq ae))))) (cm c__law_draw hr aD (aa (pv 0) (aa ag ae))) (λ_ _=>rfl)) (ay gQ aq (ay aY ag (cm c__law_draw hr aD (aa (pv 0) (aa ag ae)))))) aq))) aE) (af (aH (ar aI (pv 1) ag (au _)) (ak (aB (ay aN (ay aN (ay aN (ay aN aq (bN e7 aq d9 (bH (ay aY ag (cm c__law_draw hr aD (aa (pv 0) (aa ag ae))))))) aq) (ay gQ aq (cm c__law_draw hr aD (aa (pv 0) (aa ag ae))))) aq))) aE) (ak (aB (cm c__law_written hr aD (aa (cm c__law_deep_thing hr aD (aa (pv 0) ae)) ae)))))))),?_⟩
 show bY _ _ _ [some (.ref t),none,none] H
 k_data
 refine⟨t,c,8,n,rfl,tp,by omega,by decide,by decide,λr H1 r0 r1 o1 t1=>?_⟩
 k_data
 have fin:∀(z:Str) H',z.length<=20000->dk t H H'->dN t c (n+10010) H'->Q (.str z) H':=λz H' zl o tp=>by
  rw [kd z]
  exact q _ H' zl o tp
 have lop:(Str.ofString "(").length=1:=by decide +kernel
 have lcl:(Str.ofString ")").length=1:=by decide +kernel
 have lbl:(Str.ofString " ").length=1:=by decide +kernel
 have lze:(Str.ofString "0").length=1:=by decide +kernel
 have lnu:(Str.ofString "1234567890").length=10:=by decide +kernel
 have lle:(Str.ofString "abcdefghijk").length=11:=by decide +kernel
 refine aM (λ_=>?_) (λ_=>?_)
 ·refine⟨t,c,91,n+1,rfl,t1,by omega,by decide,by decide,λm H2 m0 m1 o2 t2=>⟨_,m,rfl,rfl,mulOk_of 1 91 (by decide +kernel) (by omega) (by omega) (by decide) (by decide),by show 3<=sizeLine;decide,λp hp=>?_⟩⟩
  have s3:=av (o:=.lst [V.str (Str.ofString ""),V.str (Str.ofString "1"),V.str (Str.ofString "()")]) hp
  refine⟨t,c,3,n+1+1,rfl,t2.same s3,by omega,by decide,by decide,λk H3 k0 k1 o3 t3=>?_⟩
  have e3:=o3.cf.u3 (t2.same s3).tp _ _ aj
  refine fm (aP.of e3) k0 (by show k<3;omega) λv hv=>?_
  obtain⟨z,rfl,zl⟩:∃ z:Str,v=.str z/\z.length<=2:=by
   simp only [List.mem_cons,List.not_mem_nil,or_false] at hv
   rcases hv with rfl | rfl | rfl<;>exact⟨_,rfl,by decide +kernel⟩
  have ml:=ir (Str.ofString "(") m
  rw [lop] at ml
  refine⟨_,rfl,z,rfl,cZ (by omega),?_⟩
  refine⟨t,c,3,n+1+1+1,rfl,t3,by omega,by decide,by decide,λk2 H4 a b o4 t4=>⟨m,rfl,k2,rfl,_,_,rfl,rfl,mulOk_of 1 100 (by decide +kernel) (by omega) (by omega) (by decide) (by decide),_,rfl,_,rfl,?_,?_⟩⟩
  ·have ml2:=ir (Str.ofString ")") (m+k2-1)
   rw [lcl] at ml2
   rw [bw]
   exact cZ (by omega)
  ·have ml2:=ir (Str.ofString ")") (m+k2-1)
   rw [lcl] at ml2
   exact fin _ H4 (by rw [bw,bw];omega) ((((o1.cf.trans o2.cf).trans (dk.of s3)).trans o3.cf).trans o4.cf) (t4.more (by omega))
 refine aM (λ_=>?_) (λ_=>?_)
 ·refine⟨by show 4<=sizeLine;decide,λp hp=>?_⟩
  have s3:=av (o:=.lst [V.str (Str.ofString ""),V.str (Str.ofString "-"),V.str (Str.ofString "("),V.str (Str.ofString "(-")]) hp
  refine⟨t,c,4,n+1,rfl,t1.same s3,by omega,by decide,by decide,λk H3 k0 k1 o3 t3=>?_⟩
  have e3:=o3.cf.u3 (t1.same s3).tp _ _ aj
  refine fm (aP.of e3) k0 (by show k<4;omega) λv hv=>?_
  obtain⟨z,rfl,zl⟩:∃ z:Str,v=.str z/\z.length<=2:=by
   simp only [List.mem_cons,List.not_mem_nil,or_false] at hv
   rcases hv with rfl | rfl | rfl | rfl<;>exact⟨_,rfl,by decide +kernel⟩
  refine⟨t,c,3,n+1+1,rfl,t3,by omega,by decide,by decide,λk2 H4 a b o4 t4=>⟨k2,rfl,_,_,rfl,rfl,mulOk_of 10 100 (by decide +kernel) (by omega) (by omega) (by decide) (by decide),z,rfl,_,rfl,?_,_,rfl,_,rfl,?_,?_⟩⟩
  all_goals
   have ml2:=ir (Str.ofString "1234567890") (5+k2)
   rw [lnu] at ml2
  ·exact cZ (by omega)
  ·rw [bw,lcl]
   exact cZ (by omega)
  ·exact fin _ H4 (by rw [bw,bw,lcl];omega) (((o1.cf.trans (dk.of s3)).trans o3.cf).trans o4.cf) (t4.more (by omega))
 refine aM (λ_=>?_) (λ_=>?_)
 ·refine⟨t,c,5,n+1,rfl,t1,by omega,by decide,by decide,λk H3 k0 k1 o3 t3=>⟨k,rfl,_,rfl,by rw [lle];exact cZ (by decide),?_⟩⟩
  have sl:=Txt.slice_le (Str.ofString "abcdefghijk") none (some (6+k))
  rw [lle] at sl
  refine⟨_,rfl,_,rfl,by rw [lop];exact cZ (by omega),_,rfl,_,rfl,by rw [bw,lop,lbl];exact cZ (by omega),?_⟩
  refine⟨t,c,3,n+1+1,rfl,t3,by omega,by decide,by decide,λk2 H4 a b o4 t4=>⟨_,k2,rfl,rfl,mulOk_of 1 100 (by decide +kernel) (by omega) (by omega) (by decide) (by decide),_,rfl,_,rfl,?_,_,rfl,_,rfl,?_,?_⟩⟩
  all_goals
   have ml2:=ir (Str.ofString "0") k2
   rw [lze] at ml2
  ·rw [bw,bw,lop,lbl]
   exact cZ (by omega)
  ·rw [bw,bw,bw,lop,lbl,lcl]
   exact cZ (by omega)
  ·exact fin _ H4 (by rw [bw,bw,bw,bw,lop,lbl,lcl];omega) ((o1.cf.trans o3.cf).trans o4.cf) (t4.more (by omega))
 ·refine⟨t,c,n+1,rfl,t1,by omega,λd v H3 g l20 cl hv o3 t3=>?_⟩
  exact⟨d,v,80,rfl,hv,by decide,g,by omega,λH4 s4=>q _ H4 l20 ((o1.cf.trans o3).trans (dk.of s4)) ((t3.same s4).more (by omega))⟩
def ni:Sp:=λvs H Q _=>vs=[]/\∀ l:List Nat,95<=l.length->Q (.str (S l)) H
theorem eJ:az ["_law_some"] [] (ai (top 40)):=gU
theorem qx (D:aC K mg "_law_signs" (top 40)):Callee P w K mg base ba 1 "_law_signs" [] ni:=by
 refine i9 D (λ_ _ _ _ _ _ us hl=>match us,hl with | [],_=>rfl) eJ (λvs H Q E h=>by obtain⟨rfl,_⟩:=h;rfl) (λf cdv A outer s H vs Q E hr h=>?_)
 obtain⟨rfl,q⟩:=h
 have nd:=eJ.nd
 refine⟨_,(af (bI (i:=0) nd aq) (ak (aB (ay aN (pv 0) aq)))),?_⟩
 show bY _ _ _ [none] H
 k_data
 refine⟨_,rfl,_,rfl,by decide +kernel,?_⟩
 rw [kd (_++_)]
 refine q _ ?_
 decide +kernel
def jt:Sp:=λvs H Q _=>∃(t c:Addr) (n:Nat) (l:List Nat),vs=[.ref t,.str (S l)]/\l.length<=20000/\dN t c n H/\n<=10^39/\∀(l:List Nat) H',l.length<=30000->dk t H H'->dN t c (n+100) H'->Q (.str (S l)) H'
def zW (H:Hp) (t c:Addr) (n i:Nat) (σ':L2.St) (H':Hp):Prop:=∃(z:Str) (o3 o4 o5 o6:Option V),σ'=[some (.ref t),some (.str z),some (.str "()- 0123456789azA\n*+("),o3,o4,o5,o6]/\z.length<=20000+i/\dk t H H'/\dN t c n H'
def Ax (H:Hp) (t c:Addr) (z:Str) (k:Int) (n:Nat) (σ':L2.St) (H':Hp):Prop:=∃(y:Str) (o3 o6:Option V),σ'=[some (.ref t),some (.str z),some (.str "()- 0123456789azA\n*+("),o3,some (.int k),some (.str y),o6]/\y.length<=1/\dk t H H'/\dN t c n H'
theorem dF:az ["_law_tape_here","_law_text_here","_law_signs_here","_law_turn","_law_at","_law_sign","_law_way"] ["_law_tape_here","_law_text_here"] (ai (top 41)):=gU
theorem lR (D:aC K mg "_law_changed" (top 41)) (c__law_draw:Callee P w K mg base ba 1 "_law_draw" ["_law_tape_here","_law_many"] bQ) (c__law_signs:Callee P w K mg base ba 1 "_law_signs" [] ni) (n_len:mg "len"=none) (n_range:mg "range"=none):Callee P w K mg base ba 2 "_law_changed" ["_law_tape_here","_law_text_here"] jt:=by
 refine cO D dF (λf cdv A outer s H vs Q E hr h=>?_)
 obtain⟨t,c,n,l,rfl,l2,tp,n9,q⟩:=h
 have nd:=dF.nd
 refine⟨_,(af (bI (i:=2) nd aq) (af (gk PassesOwn.never rfl (cF rfl n_range (aa (cm c__law_draw hr aD (aa (pv 0) (aa ag ae))) ae)) (b8 (i:=3) nd rfl (Or.inl rfl) (.inr rfl)) (af (bI (i:=4) nd (cm c__law_draw hr aD (aa (pv 0) (aa (ay aY (aw aT rfl n_len PySem.boot_len (aa (pv 1) ae)) ag) ae)))) (af (bI (i:=5) nd (bC (pv 2) (cm c__law_draw hr aD (aa (pv 0) (aa (aw aT rfl n_len PySem.boot_len (aa (pv 2) ae)) ae))) (λ_ _=>rfl))) (af (gj (aH (ar aI (cm c__law_draw hr aD (aa (pv 0) (aa ag ae))) ag (au _)) (ak (bI (i:=5) nd (bC (oO c__law_signs (hr.mono (by decide)) rfl aD) (cm c__law_draw hr aD (aa (pv 0) (aa ag ae))) (λ_ _=>rfl)))) aE)) (af (bI (i:=6) nd (cm c__law_draw hr aD (aa (pv 0) (aa ag ae)))) (ak (bI (i:=1) nd (ay aN (ay aN (bN e7 (pv 1) d9 (bH (pv 4))) (bT aW (bA (aa (pv 5) (aa aq (aa (pv 5) ae)))) (pv 6) (λ_ _=>rfl))) (bN e7 (pv 1) (bH (ay aY (pv 4) (bT aW (bA (aa ag (aa ag (aa ag ae)))) (pv 6) (λ_ _=>rfl)))) d9))))))))) (af (gj (aH (ar aI (cm c__law_draw hr aD (aa (pv 0) (aa ag ae))) ag (au _)) (ak (bI (i:=1) nd (bN e7 (pv 1) d9 (bH (cm c__law_draw hr aD (aa (pv 0) (aa (ay aY (aw aT rfl n_len PySem.boot_len (aa (pv 1) ae)) ag) ae))))))) aE)) (ak (aB (pv 1)))))),?_⟩
 show bY _ _ _ [some (.ref t),some (.str (S l)),none,none,none,none,none] H
 k_data
 refine⟨t,c,4,n,rfl,tp,by omega,by decide,by decide,λr H1 r0 r1 o1 t1=>⟨r,rfl,by omega,by omega,?_⟩⟩
 have lsg:(Str.ofString "()- 0123456789azA\n*+(").length=21:=by decide +kernel
 refine bV (λi σ' H'=>zW H t c (n+1+10*i) i σ' H') ⟨S l,_,_,_,_,rfl,by rw [aL];omega,o1.cf,t1⟩ ?_ ?_
 ·rintro i σ' H2 hi ⟨z,o3,o4,o5,o6,rfl,zl,O2,t2⟩
  have zs:z.length<=sizeLine:=cZ (by omega)
  k_data
  refine⟨z,rfl,zs,?_⟩
  refine⟨t,c,_,n+1+10*i,rfl,t2,by omega,by omega,by omega,λk3 H3 a3 b3 o3 t3=>⟨_,rfl,by rw [lsg];exact cZ (by decide),?_⟩⟩
  refine⟨t,c,_,n+1+10*i+1,rfl,t3,by omega,by rw [lsg];decide,by rw [lsg];decide,λk4 H4 a4 b4 o4 t4=>?_⟩
  obtain⟨x4,hx4⟩:∃ x,(Str.ofString "()- 0123456789azA\n*+(").cps[k4.toNat]?=some x:=by
   have:k4.toNat<(Str.ofString "()- 0123456789azA\n*+(").cps.size:=by
    show _<(Str.ofString "()- 0123456789azA\n*+(").length
    omega
   exact⟨_,Array.getElem?_eq_getElem this⟩
  refine⟨_,rfl,k4,rfl,a4,by rw [lsg] at b4;omega,b4,x4,hx4,λσ' H'=>Ax H t c z k3 (n+1+10*i+5) σ' H',?_,?_⟩
  ·k_data
   refine⟨t,c,3,n+1+10*i+1+1,rfl,t4,by omega,by decide,by decide,λk5 H5 a5 b5 o5 t5=>⟨rfl,?_⟩⟩
   have O5:=((O2.trans o3.cf).trans o4.cf).trans o5.cf
   refine aM (λ_=>?_) (λ_=>?_)
   ·refine⟨rfl,λl6 hl6=>?_⟩
    refine⟨t,c,95,_,rfl,t5,by omega,by decide,by decide,λk6 H6 a6 b6 o6 t6=>?_⟩
    obtain⟨x6,hx6⟩:∃ x,(S l6).cps[k6.toNat]?=some x:=by
     have:k6.toNat<l6.length:=by omega
     exact⟨_,by rw [pf];exact List.getElem?_eq_getElem this⟩
    exact⟨_,rfl,k6,rfl,a6,by omega,by rw [aL];omega,x6,hx6,⟨⟨#[x6]⟩,_,_,rfl,Nat.le_refl _,O5.trans o6.cf,t6.more (by omega)⟩⟩
   ·exact⟨⟨#[x4]⟩,_,_,rfl,Nat.le_refl _,O5,t5.more (by omega)⟩
  ·rintro σ' H6 ⟨y,o3',o6',rfl,yl,O6,t6⟩
   k_data
   obtain⟨k,rfl⟩:∃ k:Nat,k3=k:=⟨k3.toNat,by omega⟩
   refine⟨t,c,3,n+1+10*i+5,rfl,t6,by omega,by decide,by decide,λk7 H7 a7 b7 o7 t7=>⟨z,rfl,zs,?_⟩⟩
   have O7:=O6.trans o7.cf
   refine⟨by show 3<=sizeLine;decide,λp8 h8=>?_⟩
   have s8:=av (o:=.lst [V.str y,V.str (Str.ofString ""),V.str y]) h8
   refine fm (aP.of aj) a7 (by show k7<3;omega) λv hv=>?_
   obtain⟨u,rfl,ul⟩:∃ u:Str,v=.str u/\u.length<=1:=by
    simp only [List.mem_cons,List.not_mem_nil,or_false] at hv
    rcases hv with rfl | rfl | rfl
    ·exact⟨_,rfl,yl⟩
    ·exact⟨_,rfl,by decide +kernel⟩
    ·exact⟨_,rfl,yl⟩
   have L1:=uA z k
   refine⟨_,rfl,u,rfl,cZ (by omega),?_⟩
   refine⟨by show 3<=sizeLine;decide,λp9 h9=>?_⟩
   have s9:=av (o:=.lst [V.int 0,V.int 1,V.int 1]) h9
   refine fm (aP.of aj) a7 (by show k7<3;omega) λv hv=>?_
   obtain⟨m,rfl⟩:∃ m:Nat,v=.int (m:Int):=by
    simp only [List.mem_cons,List.not_mem_nil,or_false] at hv
    rcases hv with rfl | rfl | rfl
    ·exact⟨0,rfl⟩
    ·exact⟨1,rfl⟩
    ·exact⟨1,rfl⟩
   refine⟨_,rfl,z,rfl,zs,?_⟩
   rw [show ((k:Int)+(m:Int))=((k+m:Nat):Int) by omega]
   have L2':=oW z (k+m)
   refine⟨_,rfl,_,rfl,by rw [bw];exact cZ (by omega),_,_,_,_,_,rfl,?_,(O7.trans (dk.of s8)).trans (dk.of s9),((t7.same s8).same s9).more (by omega)⟩
   rw [bw,bw]
   omega
 ·rintro σ' H2 ⟨z,o3,o4,o5,o6,rfl,zl,O2,t2⟩
  have zs:z.length<=sizeLine:=cZ (by omega)
  have i3:r.toNat<=3:=by omega
  k_data
  refine⟨λσ' H'=>zW H t c (n+90) 100 σ' H',?_,?_⟩
  ·k_data
   refine⟨t,c,4,n+1+10*r.toNat,rfl,t2,by omega,by decide,by decide,λk5 H5 a5 b5 o5 t5=>⟨rfl,?_⟩⟩
   refine aM (λ_=>?_) (λ_=>?_)
   ·refine⟨z,rfl,zs,?_⟩
    refine⟨t,c,_,_,rfl,t5,by omega,by omega,by omega,λk6 H6 a6 b6 o6 t6=>⟨k6,rfl,z,rfl,zs,_,_,_,_,_,rfl,?_,(O2.trans o5.cf).trans o6.cf,t6.more (by omega)⟩⟩
    have:=Txt.slice_le z none (some k6)
    omega
   ·exact⟨_,_,_,_,_,rfl,by omega,O2.trans o5.cf,t5.more (by omega)⟩
  ·rintro σ' H6 ⟨y,o3',o4',o5',o6',rfl,yl,O6,t6⟩
   k_data
   rw [kd y]
   exact q _ H6 (show y.length<=30000 by omega) O6 (t6.more (by omega))
theorem w6 {x:Nat} (h:x∈sgn):x<128:=by
 simp only [sgn,List.mem_append,cz,cU,List.mem_singleton] at h
 omega
theorem qL:∀{f:Nat} {r:List Nat},∀ p∈oN f r,∀ x∈p,x<128
 | 0,r,p,hp=>by cases hp
 | f+1,[],p,hp=>by cases hp
 | f+1,c::r,p,hp=>by
  have ep:oN (f+1) (c::r)=pc (c::r)::oN f ((c::r).drop (aA (c::r))):=rfl
  rw [ep] at hp
  rcases List.mem_cons.mp hp with rfl | z
  ·intro x hx
   rcases mR (c:=c) (r:=r) with z | ⟨z1,z2,z3⟩|⟨z1,z2,z3,z4,z5⟩
   ·rw [z] at hx;cases hx
   ·rw [z1] at hx
    cases List.mem_singleton.mp hx
    omega
   ·exact w6 (z5 x hx)
  ·exact qL p z
theorem rV {l:List Nat} (h:dj 0 l (0,cu,0)=none):∀ p∈cn (eh l) [],∀ x∈p,x<128:=by
 rw [fP (f:=l.length+1) (i:=0) (ah:=[]) (cur:=[]) (by omega) xB h (λz=>absurd rfl z),if_pos rfl,List.nil_append]
 exact λp hp=>qL p (List.mem_filter.mp hp).1
theorem yf {l:List Nat} (h:∀ c∈l,c<128):PyData.canLay0 (.str (S l))=true:=by
 show l.toArray.all _=true
 rw [List.all_toArray,List.all_eq_true]
 intro c hc
 have:=h c hc
 exact decide_eq_true (by omega)
theorem jg:∀{ds:List PyData},(∀ d∈ds,PyData.canLay0 d=true)->PyData.canLayAll0 ds=true
 | [],_=>rfl
 | d::ds,h=>by
  simp only [PyData.canLayAll0,Bool.and_eq_true]
  exact⟨h d List.mem_cons_self,jg λe he=>h e (List.mem_cons_of_mem _ he)⟩
theorem wY {L:Nat} {p:List Nat}:sT (L+1) (val p):=by
 unfold val
 split
 ·simp only [sT]
 ·split<;>simp only [sT]
theorem tD {p:List Nat} (h:∀ x∈p,x<128):PyData.canLay0 (val p)=true:=by
 unfold val
 split
 ·rfl
 ·split
  ·exact yf h
  ·rfl
def SI (st:List (List PyData)) (m:Nat):Prop:=st.length<=81/\∀(j:Nat) (ds:List PyData),st[j]?=some ds->ds.length<=m/\∀ d∈ds,PyData.canLay0 d=true/\sT (81-j) d
theorem vC {st:List (List PyData)} {m:Nat} {p:List Nat} (h:SI st m) (m6:m<=10^6) (s1:1<=st.length) (g1:p=[40]->st.length<=80) (g2:p=[41]->2<=st.length) (lt:∀ x∈p,x<128):SI (put st p) (m+1):=by
 obtain⟨h8,h⟩:=h
 unfold put
 split
 ·rename_i z
  refine⟨by rw [List.length_append,List.length_singleton];have:=g1 z;omega,λj ds e=>?_⟩
  rcases Nat.lt_or_ge j st.length with y | y
  ·rw [List.getElem?_append_left y] at e
   have:=h j ds e
   exact⟨by omega,this.2⟩
  ·rw [List.getElem?_append_right y] at e
   have:ds=[]:=by
    rcases Nat.eq_zero_or_pos (j-st.length) with x | x
    ·rw [x] at e;cases e;rfl
    ·rw [List.getElem?_eq_none (by simp;omega)] at e;cases e
   subst this
   exact⟨Nat.zero_le _,λd hd=>by cases hd⟩
 ·split
  ·rename_i z0 z
   obtain⟨st1,ds,rfl⟩:=bz s1
   have p2:=g2 z
   rw [List.length_append,List.length_singleton] at p2 h8
   obtain⟨st0,ds1,rfl⟩:=bz (show 1<=st1.length by omega)
   rw [List.length_append,List.length_singleton] at h8
   rw [List.dropLast_concat,List.dropLast_concat]
   simp only [List.getLast?_append,List.getLast?_singleton,Option.some_or,Option.getD_some]
   have a1:=h st0.length ds1 (by rw [List.getElem?_append_left (by simp),List.getElem?_append_right (Nat.le_refl _),Nat.sub_self];rfl)
   have a2:=h (st0.length+1) ds (by rw [List.getElem?_append_right (by simp)];simp)
   refine⟨by rw [List.length_append,List.length_singleton];omega,λj e he=>?_⟩
   rcases Nat.lt_or_ge j st0.length with y | y
   ·rw [List.getElem?_append_left y] at he
    have:=h j e (by rw [List.getElem?_append_left (by simp;omega),List.getElem?_append_left y];exact he)
    exact⟨by omega,this.2⟩
   ·have jj:j=st0.length:=by
     have:=(List.getElem?_eq_some_iff.mp he).1
     rw [List.length_append,List.length_singleton] at this
     omega
    subst jj
    rw [List.getElem?_append_right (Nat.le_refl _),Nat.sub_self] at he
    cases he
    refine⟨by rw [List.length_append,List.length_singleton];omega,λd hd=>?_⟩
    rcases List.mem_append.mp hd with x | x
    ·exact a1.2 d x
    ·cases List.mem_singleton.mp x
     refine⟨by simp only [PyData.canLay0];exact jg λd hd=>(a2.2 d hd).1,?_⟩
     rw [show 81-st0.length=(81-(st0.length+1))+1 by omega]
     simp only [sT]
     exact⟨by omega,gT λd hd=>(a2.2 d hd).2⟩
  ·split
   ·exact⟨h8,λj ds e=>⟨by have:=(h j ds e).1;omega,(h j ds e).2⟩⟩
   ·obtain⟨st0,ds,rfl⟩:=bz s1
    rw [List.length_append,List.length_singleton] at h8
    rw [List.dropLast_concat]
    simp only [List.getLast?_append,List.getLast?_singleton,Option.some_or,Option.getD_some]
    have a1:=h st0.length ds (by rw [List.getElem?_append_right (Nat.le_refl _),Nat.sub_self];rfl)
    refine⟨by rw [List.length_append,List.length_singleton];omega,λj e he=>?_⟩
    rcases Nat.lt_or_ge j st0.length with y | y
    ·rw [List.getElem?_append_left y] at he
     have:=h j e (by rw [List.getElem?_append_left y];exact he)
     exact⟨by omega,this.2⟩
    ·have jj:j=st0.length:=by
      have:=(List.getElem?_eq_some_iff.mp he).1
      rw [List.length_append,List.length_singleton] at this
      omega
     subst jj
     rw [List.getElem?_append_right (Nat.le_refl _),Nat.sub_self] at he
     cases he
     refine⟨by rw [List.length_append,List.length_singleton];omega,λd hd=>?_⟩
     rcases List.mem_append.mp hd with x | x
     ·exact a1.2 d x
     ·cases List.mem_singleton.mp x
      refine⟨tD lt,?_⟩
      rw [show 81-st0.length=(80-st0.length)+1 by omega]
      exact wY
theorem mm:∀{ps:List (List Nat)} {st:List (List PyData)} {m:Nat},SI st m->m+ps.length<=10^6->1<=st.length->gp ps st.length->(∀ p∈ps,∀ x∈p,x<128)->SI (ps.foldl put st) (m+ps.length)
 | [],st,m,h,_,_,_,_=>h
 | p::ps,st,m,h,m6,s1,⟨g1,g2,g3,g4⟩,lt=>by
  rw [List.length_cons] at m6 ⊢
  have pl2:=gS (p:=p) s1
  have gn:gp ps (put st p).length:=by
   rw [pl2]
   split
   ·rename_i z;exact (g1 z).2
   ·split
    ·rename_i z z'
     have:=g2 z'
     rw [if_neg (by omega)]
     exact this.2
    ·rename_i z z';exact g3 z z'
  have p1:1<=(put st p).length:=by
   rw [pl2]
   split
   ·omega
   ·split
    ·split<;>omega
    ·omega
  have:=mm (vC h (by omega) s1 (λz=>(g1 z).1) (λz=>(g2 z).1) (lt p List.mem_cons_self)) (by omega) p1 gn λq hq=>lt q (List.mem_cons_of_mem _ hq)
  rw [show m+(ps.length+1)=m+1+ps.length by omega]
  exact this
theorem rN {l:List Nat} (l5:l.length<=10^5) (h:dj 0 l (0,cu,0)=none) {d:PyData} (hd:oZ (l.length+1) 0 l [] [[]]=some (.inr d)):PyData.canLay0 d=true/\sT 81 d:=by
 obtain⟨d',e1,_,e3⟩:=dY h
 rw [hd] at e1
 cases e1
 have wl:=gX (l:=eh l) (cur:=[])
 have sl:=jW (l:=l)
 have S:=mm (ps:=cn (eh l) []) (st:=[[]]) (m:=0) ⟨by decide,λj ds e=>by
  cases j with
  | zero=>cases e;exact⟨Nat.le_refl _,λd hd=>by cases hd⟩
  | succ j=>simp at e⟩ (by omega) (by decide) (kq h) (rV h)
 cases e:((cn (eh l) []).foldl put [[]])[0]? with
 | none=>rw [e] at e3;cases e3
 | some ds =>
  rw [e] at e3
  have e3:ds[0]?=some d:=e3
  exact (S.2 0 ds e).2 d (List.mem_of_getElem? e3)
theorem rm:∀{n m:Nat} {d:PyData},sT n d->n<=m->sT m d
 | 0,_,_,h,_=>by simp only [sT] at h
 | n+1,0,_,_,l=>absurd l (by omega)
 | n+1,m+1,d,h,l=>by
  cases d with
  | list ds =>
   simp only [sT] at h ⊢
   exact⟨h.1,gT λx hx=>by
    obtain⟨i,hi,e⟩:=List.mem_iff_getElem.mp hx
    exact rm (jQ h.2 (by rw [<- e];exact List.getElem?_eq_getElem hi)) (by omega)⟩
  | tuple ds =>
   simp only [sT] at h ⊢
   exact⟨h.1,gT λx hx=>by
    obtain⟨i,hi,e⟩:=List.mem_iff_getElem.mp hx
    exact rm (jQ h.2 (by rw [<- e];exact List.getElem?_eq_getElem hi)) (by omega)⟩
  | dict _=>simp only [sT] at h
  | _=>simp only [sT]
def Ar (sc t c x:Addr) (i:Nat) (σ':L2.St) (H':Hp):Prop:=∃ o3 o4 o5 o6:Option V,σ'=[some (.ref sc),some (.ref t),some (.ref x),o3,o4,o5,o6]/\dN t c (20000*i+10) H'
def As (K:PySem.W.Frag) (sc t c x:Addr) (i:Nat) (l:List Nat) (dd:PyData) (σ':L2.St) (H':Hp):Prop:=∃(o3 o5:Option V) (v:V),σ'=[some (.ref sc),some (.ref t),some (.ref x),o3,some (.str (S l)),o5,some v]/\dv K H' dd v/\dN t c (20000*(i+1)+10) H'
theorem rq:az ["_law_script","_law_tape_here","_law_made","_law_turn","_law_text_here","_law_wrong","_law_due"] ["_law_script"] (ai (top 43)):=gU
theorem wt {c3:Addr} {cs:List Addr} {fl:Addr} {fdl:FuncData} (F:pd K "law" "law" (top 43) fl fdl) (c__law_tape:Callee P w K mg base ba 1 "_law_tape" ["_law_script"] (nj K)) (c__law_draw:Callee P w K mg base ba 1 "_law_draw" ["_law_tape_here","_law_many"] bQ) (x_NoText:nN P w K mg base "NoText" c3 "line" "word") (wT:sJ K c3 cs 3) (c__law_word:Callee P w K mg base ba 1 "_law_word" ["_law_e"] (l3 K cs)) (c__law_same:Callee P w K mg base ba 91 "_law_same" ["_law_found","_law_due"] (dA K 90)) (c__law_changed:Callee P w K mg base ba 2 "_law_changed" ["_law_tape_here","_law_text_here"] jt) (c__law_text:Callee P w K mg base ba 83 "_law_text" ["_law_tape_here"] rD) (c__law_first_wrong:Callee P w K mg base ba 1 "_law_first_wrong" ["_law_text_here"] yG) (c__law_built:gM P w K mg base ba 2 "_law_built" ["_law_text_here"] (m9 K)) (c__law_read:Callee P w K mg base ba 5 "_law_read" ["_law_text_here"] (jV K)) (n_range:mg "range"=none):cp P w K mg base ba 92 fl fdl ["_law_script"] (vh K):=by
 refine sU F rq (λvs H Q E h=>by obtain⟨a,b,rfl,_⟩:=h;rfl) (λcdv A outer s H vs Q E hr h=>?_)
 obtain⟨sc,ns,rfl,hS,h63,q⟩:=h
 have nd:=rq.nd
 refine⟨_,(af (bI (i:=1) nd (cm c__law_tape hr aD (aa (pv 0) ae))) (af (bI (i:=2) nd (lU x_NoText (hr.mono (by decide)) rfl (aa (cm c__law_draw hr aD (aa (pv 1) (aa ag ae))) (aa (ay aY ag (cm c__law_draw hr aD (aa (pv 1) (aa ag ae)))) ae)))) (af (aH (lX (bp (cm c__law_same hr aD (aa (df (aa (a9 fv (fD K rfl (pv 2)) ag (au _)) (aa (ay d8 (fD K rfl (pv 2)) ag) (aa (cm c__law_word hr aD (aa (pv 2) ae)) ae)))) (aa (df (aa fB (aa ag (aa aq ae)))) ae))) (λ_=>rfl))) (ak (aB fB)) aE) (af (gk PassesOwn.never rfl (cF rfl n_range (aa ag ae)) (b8 (i:=3) nd rfl (Or.inl rfl) (.inr rfl)) (af (bI (i:=4) nd (cm c__law_changed hr aD (aa (pv 1) (aa (cm c__law_text hr aD (aa (pv 1) ae)) ae)))) (af (bI (i:=5) nd (cm c__law_first_wrong hr aD (aa (pv 4) ae))) (oQ (uh (i:=6) nd rfl (Or.inl rfl) (tV (oM de (jq (tX (jq tU (aa (pv 5) ae))) ae)))) (lW (uf (wK (ar qC (pv 5) de (au _)) (qX (ui (i:=6) nd rfl (Or.inl rfl) (tW (qG (qP c__law_built (hr.mono (by decide)) rfl aD (aa (pv 4) ae)) (aa de ae))))) (qW aE))) (ak (aH (lX (bp (cm c__law_same hr aD (aa (cm c__law_read hr aD (aa (pv 4) ae)) (aa (pv 6) ae))) (λ_=>rfl))) (ak (aB fB)) aE))))))) (ak (aB fB)))))),?_⟩
 show bY _ _ _ [some (.ref sc),none,none,none,none,none,none] H
 k_data
 have sameY:∀{H0:Hp} {u v:V} {d:PyData} {Q':VK},dv K H0 d u->dv K H0 d v->PyData.canLay0 d=true->sT 90 d->(∀ H',aF H0 H'->Q' (.bl true) H')->dA K 90 [u,v] H0 Q' E0:=λ{H0 u v d Q'} hu hv c st qq=>⟨u,v,d,d,rfl,hu,hv,c,c,st,λb H' hb s'=>by
  have:b=true:=hb.mpr rfl
  subst this
  exact qq H' s'⟩
 refine⟨sc,ns,rfl,hS,h63,λt c H1 s1 ft fc t1=>?_⟩
 refine⟨t,c,60,0,rfl,t1,by decide,by decide,by decide,λr2 H2 a2 b2 o2 t2=>?_⟩
 refine⟨t,c,9,0+1,rfl,t2,by decide,by decide,by decide,λr3 H3 a3 b3 o3 t3=>?_⟩
 refine⟨r3,rfl,λx dx hx hdx nx=>?_⟩
 have ex:upd (upd (upd H3 x (XN x c3 none)) dx (HO.xd [("word",V.int (100+r3)),("line",V.int r2)])) x (XN x c3 (some dx)) x=some (XN x c3 (some dx)):=aj
 have ed:upd (upd (upd H3 x (XN x c3 none)) dx (HO.xd [("word",V.int (100+r3)),("line",V.int r2)])) x (XN x c3 (some dx)) dx=some (HO.xd [("word",V.int (100+r3)),("line",V.int r2)]):=by rw [ao nx,aj]
 have s4:aF H3 (upd (upd (upd H3 x (XN x c3 none)) dx (HO.xd [("word",V.int (100+r3)),("line",V.int r2)])) x (XN x c3 (some dx))):=λb o e=>by
  have bx:b≠x:=λy=>by rw [y,hx] at e;cases e
  have bd:b≠dx:=λy=>by rw [y,hdx] at e;cases e
  rw [ao bx,ao bd,ao bx]
  exact e
 generalize upd (upd (upd H3 x (XN x c3 none)) dx (HO.xd [("word",V.int (100+r3)),("line",V.int r2)])) x (XN x c3 (some dx))=H4 at *
 have t4:=t3.same s4
 refine⟨c3,dx,.inr ex,x_NoText.cls,x_NoText.nof,_,ed,.int r2,by rfl,r2,rfl,c3,dx,.inr ex,x_NoText.cls,x_NoText.nog,_,ed,.int (100+r3),by rfl,_,rfl,vK (by decide),?_⟩
 refine⟨x,c3,some dx,3,rfl,.inr ex,(λ_ z=>by cases z;exact⟨_,ed⟩),wT,λH5 s5=>⟨by show 3<=sizeLine;decide,λp6 h6=>⟨by show 3<=sizeLine;decide,λp7 h7=>?_⟩⟩⟩
 rw [decide_eq_true (show r2<60 from b2),show (100+r3)/10=10 by omega] at h7 ⊢
 have s6:=av (o:=.tup [V.bl true,V.int 10,V.str (wordOf 3)]) h6
 have s7:=av (o:=.tup [V.bl true,V.int 10,V.str (Str.ofString "text")]) h7
 have e6:=s7 _ _ (aj (H:=H5) (a:=p6) (o:=.tup [V.bl true,V.int 10,V.str (wordOf 3)]))
 have d3:∀{H0:Hp} {p:Addr},H0 p=some (.tup [V.bl true,V.int 10,V.str (Str.ofString "text")])->dv K H0 (.tuple [.bool true,.int 10,.str "text"]) (.ref p):=λe=>dv.tup e ⟨_,_,rfl,rfl,_,_,rfl,rfl,.one rfl⟩
 refine sameY (d3 e6) (d3 aj) (by decide +kernel) (by simp only [sT,oS];exact⟨by decide,True.intro,True.intro,True.intro,True.intro⟩) λH8 s8=>⟨true,aX.mpr rfl,?_⟩
 rw [if_neg (by decide)]
 have t8:=t4.same (s5.trans (s6.trans (s7.trans s8)))
 refine bV (λi σ' H'=>Ar sc t c x i σ' H') ⟨_,_,_,_,rfl,t8.more (by omega)⟩ ?_ ?_
 ·rintro i σ' H9 hi ⟨o3',o4',o5',o6',rfl,t9⟩
  have hi4:i<4:=by simpa using hi
  k_data
  refine⟨t,c,_,rfl,t9,by omega,λl0 HA l20 oA tA=>?_⟩
  refine⟨t,c,_,l0,rfl,l20,tA,by omega,λl HB l30 oB tB=>?_⟩
  have l5:l.length<=10^5:=by omega
  refine⟨l,rfl,l5,λHC sC=>?_⟩
  have tC:=(tB.same sC).more (show _<=20000*(i+1)+10 by omega)
  refine⟨by show 2<=sizeLine;decide,λpD hD=>⟨by show 2<=sizeLine;decide,λpE hE=>?_⟩⟩
  have sD:=av (o:=.tup [V.int 0,xD (dj 0 l (0,cu,0))]) hD
  have sE:=av (o:=.lst [V.aQ,V.ref pD]) hE
  have eD:=sE _ _ (aj (H:=HC) (a:=pD) (o:=.tup [V.int 0,xD (dj 0 l (0,cu,0))]))
  have eE:=aj (H:=upd HC pD (.tup [V.int 0,xD (dj 0 l (0,cu,0))])) (a:=pE) (o:=.lst [V.aQ,V.ref pD])
  have tE:=tC.same (sD.trans sE)
  generalize upd (upd HC pD (.tup [V.int 0,xD (dj 0 l (0,cu,0))])) pE (.lst [V.aQ,V.ref pD])=HE at *
  refine⟨λσ' H'=>∃ dd,As K sc t c x i l dd σ' H'/\PyData.canLay0 dd=true/\sT 90 dd/\∀(Q':VK) (H0:Hp),(∀ u H',aF H0 H'->dv K H' dd u->Q' u H')->jV K [V.str (S l)] H0 Q' E0,?_,?_⟩
  ·k_data
   cases hf:dj 0 l (0,cu,0) with
   | some k =>
    rw [hf] at eD
    rw [if_neg (λz=>nomatch z)]
    refine⟨.list [.none,.tuple [.int 0,.int (k:Int)]],⟨_,_,_,rfl,dv.lst eE ⟨_,_,rfl,rfl,.one (dv.tup eD ⟨_,_,rfl,rfl,.one rfl⟩)⟩,tE⟩,rfl,?_,λQ' H0 hq=>⟨l,rfl,l5,λk' hk' v H' s' hv=>?_,λhn=>?_⟩⟩
    ·simp only [sT,oS]
     exact⟨by show 2<=10^6;decide,True.intro,⟨by show 2<=10^6;decide,True.intro,True.intro,True.intro⟩,True.intro⟩
    ·rw [hf] at hk'
     cases hk'
     exact hq v H' s' hv
    ·rw [hf] at hn
     cases hn
   | none =>
    rw [if_pos (show xD none=V.aQ from rfl)]
    obtain⟨d,rd,_,_⟩:=dY hf
    have ok:=rN l5 hf rd
    refine⟨l,rfl,l5,hf,λd' hd' v HF sF hv nl=>⟨by show 2<=sizeLine;decide,λpG hG=>?_⟩⟩
    rw [rd] at hd'
    cases hd'
    have sG:=av (o:=.lst [v,V.aQ]) hG
    refine⟨.list [d,.none],⟨_,_,_,rfl,dv.lst aj ⟨_,_,rfl,dv.same sG _ hv,.one rfl⟩,tE.same (sF.trans sG)⟩,by simp only [PyData.canLay0,PyData.canLayAll0,ok.1];rfl,?_,λQ' H0 hq=>⟨l,rfl,l5,λk' hk'=>?_,λ_ d' hd' v H' s' hv _=>?_⟩⟩
    ·simp only [sT,oS]
     exact⟨by show 2<=10^6;decide,rm ok.2 (by decide),True.intro,True.intro⟩
    ·rw [hf] at hk'
     cases hk'
    ·rw [rd] at hd'
     cases hd'
     exact hq v H' s' hv
  ·rintro σ' HF ⟨dd,⟨o3',o5',v,rfl,hv,tF⟩,cl,st,rdd⟩
   k_data
   refine rdd _ HF λu HG sG hu=>sameY hu (dv.same sG _ hv) cl st λHH sH=>⟨true,aX.mpr rfl,?_⟩
   rw [if_neg (by decide)]
   exact⟨_,_,_,_,rfl,tF.same (sG.trans sH)⟩
 ·rintro σ' H9 ⟨o3',o4',o5',o6',rfl,t9⟩
  k_data
  exact q H9
end
end K
namespace K
open PySem PySem.Spec PyProof.Rows L2
section
variable {K:PySem.W.Frag} {C c0 c1 c2 c3 c4 c5 c6 c7 c8 c9:Addr}
theorem yT (c:a0 K C) (k0:PySem.W.kitOne K (.ref C) (.ref c0)=some false) (k1:PySem.W.kitOne K (.ref C) (.ref c1)=some false) (k2:PySem.W.kitOne K (.ref C) (.ref c2)=some false) (k4:PySem.W.kitOne K (.ref C) (.ref c4)=some false) (k5:PySem.W.kitOne K (.ref C) (.ref c5)=some false) (k6:PySem.W.kitOne K (.ref C) (.ref c6)=some false) (k7:PySem.W.kitOne K (.ref C) (.ref c7)=some false) (k8:PySem.W.kitOne K (.ref C) (.ref c8)=some false) (k9:PySem.W.kitOne K (.ref C) (.ref c9)=some false) (kv:PySem.W.kitOne K (.ref C) (.type "ValueError")=some true):sJ K C [c0,c1,c2,C,c4,c5,c6,c7,c8,c9] 3:=⟨c,λi x h=>by
 match i,h with
 | 0,h=>cases h;exact k0
 | 1,h=>cases h;exact k1
 | 2,h=>cases h;exact k2
 | 3,h=>cases h;exact qc
 | 4,h=>cases h;exact k4
 | 5,h=>cases h;exact k5
 | 6,h=>cases h;exact k6
 | 7,h=>cases h;exact k7
 | 8,h=>cases h;exact k8
 | 9,h=>cases h;exact k9
 | i+10,h=>simp at h,kv,by decide⟩
end
end K
namespace PySem.W.Fast
def tw10533981267274168715:=0
def tw660388420979827744:=0
def tw10682414331211975296:=0
def tw2554872811233788704:=0
def tw8004692382410503072:=0
def tw343960204514568385:=0
def tw17492492270564871457:=0
def tw17076406643706731841:=0
def tw16536212420957621985:=0
def tw10132494064666244833:=0
def tw11520937326044001346:=0
def tw487152558066924930:=0
def tw4231840961695036930:=0
def tw7971066588005328418:=0
def tw1654750762746319490:=0
def tw157322279716595682:=0
def tw5803413513904758851:=0
def tw4289775003834374275:=0
def tw2092545627248127139:=0
def tw14986708539532145987:=0
def tw6776229079640260003:=0
def tw16473823942443333027:=0
def tw2435772164865202947:=0
def tw9699853922442002243:=0
def tw12874837019296263139:=0
def tw6010335207331427332:=0
def tw6436110337484155972:=0
def tw12311308661928084676:=0
def tw12969345577303930052:=0
def tw16436042024813857156:=0
def tw188400140704000420:=0
def tw17179416122792760804:=0
def tw12368846305551899108:=0
def tw3950406862527610500:=0
def tw9397786137582967588:=0
def tw1300548834492342084:=0
def tw9734087428087967556:=0
def tw6511905763410431940:=0
def tw6769290395128903685:=0
def tw4195397380920677893:=0
def tw5871298323478568517:=0
def tw4607100159480284837:=0
def tw16129335666797111141:=0
def tw11416834782882212934:=0
def tw17124034133638911078:=0
def tw2655433118185759942:=0
def tw16567169389621113030:=0
def tw8177451774128365830:=0
def tw3945741262240569670:=0
def tw14214445151297418758:=0
def tw7373539385917020774:=0
def tw922720962236825254:=0
def tw5200321788873147142:=0
def tw17980440508773439238:=0
def tw15683942461998685062:=0
def tw7156582241604143014:=0
def tw15529109783907161062:=0
def tw1178463347829935207:=0
def tw16040764016163913895:=0
def tw5036286878693595335:=0
def tw3772628533824826951:=0
def tw8355182864348854887:=0
def tw13254684991450192711:=0
def tw16090112534603447143:=0
def tw17387470614229807400:=0
def tw12782046310347217288:=0
def tw14493993747473177032:=0
def tw7952798885945706088:=0
def tw3525438168586576520:=0
def tw2495582376080938728:=0
def tw16655437798661436168:=0
def tw17971263988012219336:=0
def tw4053338993562643497:=0
def tw3622645471416836361:=0
def tw12182221642266641001:=0
def tw8563633118732463881:=0
def tw13400729268437666665:=0
def tw14833150153076277258:=0
def tw4987903372927413291:=0
def tw5571664146848991467:=0
def tw5244592015241709835:=0
def tw2140587625438093643:=0
def tw8511401134817346923:=0
def tw4854442489719937387:=0
def tw11577484983055584747:=0
def tw15355161012700238315:=0
def tw6822235979465121259:=0
def tw11280368497988877131:=0
def tw2031609857349740427:=0
def tw5419415634368302316:=0
def tw4393409358902407756:=0
def tw15679904731671747212:=0
def tw2788343609444137644:=0
def tw11106837894776991468:=0
def tw3279896610669190924:=0
def tw12057382798121395052:=0
def tw10177637306844717165:=0
def tw3482447999731215725:=0
def tw5675685120690550317:=0
def tw7248214814328217293:=0
def tw8549341581051529262:=0
def tw11598924735352204494:=0
def tw4656970815344826606:=0
def tw18222280063796114958:=0
def tw12666050132080860782:=0
def tw14942649151937475310:=0
def tw12169187120006057774:=0
def tw2915725604459960110:=0
def tw3396513430451019855:=0
def tw18115316448738403407:=0
def tw6861647856173737135:=0
def tw3135924287655736559:=0
def tw10393573053545379119:=0
def tw3931621158209115471:=0
def tw10906037564967908815:=0
def tw13856484749240138511:=0
def tw10733747366397900751:=0
def tw17889125279364236336:=0
def tw8305431098314727600:=0
def tw8376500014292435312:=0
def tw3043911883025076784:=0
def tw6265713711733643952:=0
def tw12125468826020947632:=0
def tw5796236606343041744:=0
def tw6242822429319057264:=0
def tw13262390695380379825:=0
def tw12808371641643821457:=0
def tw16392918436854054321:=0
def tw3903948968048389681:=0
def tw3090702028249667698:=0
def tw7630242059161520242:=0
def tw10287220347617946002:=0
def tw13278248274212397618:=0
def tw3475191967747193522:=0
def tw16762457328225654482:=0
def tw13288639250241292018:=0
def tw5612169605732125682:=0
def tw15870480424330979763:=0
def tw10668359924790302259:=0
def tw4600173894868868947:=0
def tw11539111544312715155:=0
def tw4757612196504987603:=0
def tw12831121351066759188:=0
def tw6870681177963035828:=0
def tw12039288294755612884:=0
def tw12932976227272793428:=0
def tw1618800722396638612:=0
def tw15678124505415467444:=0
def tw1199822257624688148:=0
def tw2353584540346087988:=0
def tw4387032640380272340:=0
def tw11334407384901901717:=0
def tw10943849524467066357:=0
def tw17574420050342266389:=0
def tw11415236473779957301:=0
def tw2881715077537107925:=0
def tw3792911646329627605:=0
def tw17403487300860595189:=0
def tw16002887378877414678:=0
def tw13488839529177850166:=0
def tw5269669201418879702:=0
def tw11487938941447241526:=0
def tw13905261528188683222:=0
def tw16142089537878996183:=0
def tw2972733441660446967:=0
def tw2554189663691997559:=0
def tw16652750605457216151:=0
def tw6232060316001878775:=0
def tw3907595759406499607:=0
def tw2200608238502840119:=0
def tw7974460022646837207:=0
def tw4447673749600084024:=0
def tw5113872430649326680:=0
def tw13515617105632222360:=0
def tw6241141664161483096:=0
def tw8976652247653520920:=0
def tw95034763468783192:=0
def tw12317861637811157784:=0
def tw9528209053403814776:=0
def tw17140046106254016408:=0
def tw7065973334203013080:=0
def tw7678178024625071096:=0
def tw6948477815306894393:=0
def tw9928518994403481657:=0
def tw1060793736274615417:=0
def tw15654382450305543513:=0
def tw12903891576391605849:=0
def tw14232292178927568633:=0
def tw8129280133646376729:=0
def tw14341438748112869337:=0
def tw8222492063321132058:=0
def tw9306397107012985882:=0
def tw5108374551375038522:=0
def tw6884435841101615386:=0
def tw585853490164627802:=0
def tw17728670875618635194:=0
def tw17518131604394356634:=0
def tw16876960146779965370:=0
def tw5927297572565791706:=0
def tw12220286710614232187:=0
def tw4560379427732006043:=0
def tw6598556017301328155:=0
def tw2963195195652783483:=0
def tw15212454497646347035:=0
def tw6761690517613061947:=0
def tw11625737576593463259:=0
def tw2598500629859837212:=0
def tw16382968668996073852:=0
def tw12929155472592519740:=0
def tw14073563005722676828:=0
def tw11895656605285734044:=0
def tw4909528543791296220:=0
def tw6607187539450248381:=0
def tw15212449206610425245:=0
def tw16312788499061983741:=0
def tw11639128130899816989:=0
def tw5210475633715595837:=0
def tw139810013660872285:=0
def tw15220540042999283325:=0
def tw17429205740975710909:=0
def tw14045281904737420125:=0
def tw18064476109063561181:=0
def tw1049488052079500285:=0
def tw1737465324201766014:=0
def tw14556598481695437150:=0
def tw13910560548204549662:=0
def tw719581374164911646:=0
def tw12993262573337636414:=0
def tw17625954541315491486:=0
def tw1467368109212235710:=0
def tw636520700072422591:=0
def tw16913119377304958303:=0
def tw14870348432135866879:=0
def tw4612771929431597663:=0
def tw9771716128316314367:=0
def tw6680578061055881055:=0
def tw455967036727393183:=0
def tw17614949075709120511:=0
end PySem.W.Fast
namespace K
open PySem PySem.Spec PyProof.Rows L2
theorem oq:fW "TooFar.__init__" "part" "part" (inClass (top 5) 0):=⟨⟨rfl,rfl,rfl,by decide +kernel,rfl,by decide +kernel,by decide +kernel⟩,⟨_,_,_,_,rfl,λ_=>rfl,λ_=>rfl⟩,rfl,rfl,by decide,by decide,λ_ _ _ _ _ _ us hl=>match us,hl with | [_,_],_=>rfl⟩
theorem lD:fW "NoPrime.__init__" "divisor" "divisor" (inClass (top 6) 0):=⟨⟨rfl,rfl,rfl,by decide +kernel,rfl,by decide +kernel,by decide +kernel⟩,⟨_,_,_,_,rfl,λ_=>rfl,λ_=>rfl⟩,rfl,rfl,by decide,by decide,λ_ _ _ _ _ _ us hl=>match us,hl with | [_,_],_=>rfl⟩
theorem jI:fW "NoInverse.__init__" "divisor" "divisor" (inClass (top 7) 0):=⟨⟨rfl,rfl,rfl,by decide +kernel,rfl,by decide +kernel,by decide +kernel⟩,⟨_,_,_,_,rfl,λ_=>rfl,λ_=>rfl⟩,rfl,rfl,by decide,by decide,λ_ _ _ _ _ _ us hl=>match us,hl with | [_,_],_=>rfl⟩
theorem om:fW "NoRoot.__init__" "rest" "rest" (inClass (top 8) 0):=⟨⟨rfl,rfl,rfl,by decide +kernel,rfl,by decide +kernel,by decide +kernel⟩,⟨_,_,_,_,rfl,λ_=>rfl,λ_=>rfl⟩,rfl,rfl,by decide,by decide,λ_ _ _ _ _ _ us hl=>match us,hl with | [_,_],_=>rfl⟩
theorem lE:fW "TooMany.__init__" "many" "many" (inClass (top 9) 0):=⟨⟨rfl,rfl,rfl,by decide +kernel,rfl,by decide +kernel,by decide +kernel⟩,⟨_,_,_,_,rfl,λ_=>rfl,λ_=>rfl⟩,rfl,rfl,by decide,by decide,λ_ _ _ _ _ _ us hl=>match us,hl with | [_,_],_=>rfl⟩
theorem oo:mj "NoText.__init__" "line" "word" "line" "word" (inClass (top 10) 0):=⟨⟨rfl,rfl,rfl,by decide +kernel,rfl,by decide +kernel,by decide +kernel⟩,⟨_,_,_,_,_,_,_,_,rfl,λ_=>rfl,λ_=>rfl⟩,rfl,rfl,rfl,by decide,by decide,by decide,by decide,λ_ _ _ _ _ _ us hl=>match us,hl with | [_,_,_],_=>rfl⟩
end K
open PySem PySem.W PyProof.Rows L2
set_option maxHeartbeats 0 in
theorem PySem.Challenge.cw_rootprime_k79_texts_of_no_thing_holds : PySem.Challenge.rw_rootprime_k79_texts_of_no_thing.Holds := by
 w_on;o_law;k_head;(case hw=>w_witness2)
 k_fill
 refine L2.rT (l:=PySem.Challenge.rw_rootprime_k79_texts_of_no_thing) (n:=63) (k:=92) (x := "_law_script") (CX:=L2.ba) (sp:=K.vh) rfl (by decide) rfl ⟨rfl,by decide,by decide,rfl⟩ (λw h Y=>PySem.W.kIn_of Y) ?F ?S ?C
 case F =>
  intro w mg fa h KX G hmg
  have d_run_end:L2.aC (L2.fX KX) mg "run_end" (K.top 15):=K.gN KX G
  have d_number_end:L2.aC (L2.fX KX) mg "number_end" (K.top 16):=K.gN KX G
  have d_read:L2.aC (L2.fX KX) mg "read" (K.top 21):=K.gN KX G
  have d_piece_at:L2.aC (L2.fX KX) mg "piece_at" (K.top 22):=K.gN KX G
  have d_may_stand:L2.aC (L2.fX KX) mg "may_stand" (K.top 23):=K.gN KX G
  have d_put_behind:L2.aC (L2.fX KX) mg "put_behind" (K.top 24):=K.gN KX G
  have d_value_of:L2.aC (L2.fX KX) mg "value_of" (K.top 25):=K.gN KX G
  have d__law_tape:L2.aC (L2.fX KX) mg "_law_tape" (K.top 27):=K.gN KX G
  have d__law_draw:L2.aC (L2.fX KX) mg "_law_draw" (K.top 28):=K.gN KX G
  have d__law_letters:L2.aC (L2.fX KX) mg "_law_letters" (K.top 29):=K.gN KX G
  have d__law_leaf:L2.aC (L2.fX KX) mg "_law_leaf" (K.top 30):=K.gN KX G
  have d__law_thing:L2.aC (L2.fX KX) mg "_law_thing" (K.top 31):=K.gN KX G
  have d__law_deep_thing:L2.aC (L2.fX KX) mg "_law_deep_thing" (K.top 32):=K.gN KX G
  have d__law_written:L2.aC (L2.fX KX) mg "_law_written" (K.top 33):=K.gN KX G
  have d__law_first_wrong:L2.aC (L2.fX KX) mg "_law_first_wrong" (K.top 34):=K.gN KX G
  have d__law_value:L2.aC (L2.fX KX) mg "_law_value" (K.top 35):=K.gN KX G
  have d__law_built:L2.aC (L2.fX KX) mg "_law_built" (K.top 36):=K.gN KX G
  have d__law_same:L2.aC (L2.fX KX) mg "_law_same" (K.top 37):=K.gN KX G
  have d__law_word:L2.aC (L2.fX KX) mg "_law_word" (K.top 38):=K.gN KX G
  have d__law_text:L2.aC (L2.fX KX) mg "_law_text" (K.top 39):=K.gN KX G
  have d__law_signs:L2.aC (L2.fX KX) mg "_law_signs" (K.top 40):=K.gN KX G
  have d__law_changed:L2.aC (L2.fX KX) mg "_law_changed" (K.top 41):=K.gN KX G
  have d__law_read:L2.aC (L2.fX KX) mg "_law_read" (K.top 42):=K.gN KX G
  have d_law:L2.aC (L2.fX KX) mg "law" (K.top 43):=K.gN KX G
  have n_len:mg "len"=none:=PySem.W.mg_none_of KX G (by k_is)
  have n_range:mg "range"=none:=PySem.W.mg_none_of KX G (by k_is)
  have n_int:mg "int"=none:=PySem.W.mg_none_of KX G (by k_is)
  have n_str:mg "str"=none:=PySem.W.mg_none_of KX G (by k_is)
  have n_isinstance:mg "isinstance"=none:=PySem.W.mg_none_of KX G (by k_is)
  have n_list:mg "list"=none:=PySem.W.mg_none_of KX G (by k_is)
  have n_tuple:mg "tuple"=none:=PySem.W.mg_none_of KX G (by k_is)
  have n_bool:mg "bool"=none:=PySem.W.mg_none_of KX G (by k_is)
  have n_zip:mg "zip"=none:=PySem.W.mg_none_of KX G (by k_is)
  have n_all:mg "all"=none:=PySem.W.mg_none_of KX G (by k_is)
  have n_ValueError:mg "ValueError"=none:=PySem.W.mg_none_of KX G (by k_is)
  refine' L2.aU (PySem.W.mg_of (n := "PrimeError") KX G ?xa) (λa_PrimeError=>?g1)
  (case xa=>k_is)
  refine' L2.aU (L2.bR KX a_PrimeError ?l ?c2 ?c3 ?e1 ?e2 ?e3 ?e4 ?e5 ?e6 ?ob ?kp) (λc_PrimeError=>?g2)
  (case l=>k_is);(case c2=>rfl);(case c3=>rfl);(case e1=>k_is);(case e2=>k_is);(case e3=>k_is);(case e4=>k_is);(case e5=>k_is);(case e6=>k_is);(case ob=>exact⟨_,_,_,_,_,_,_,_,_,_,_,_,_,_,_,_,rfl,rfl,rfl,rfl⟩);(case kp=>k_is)
  refine' L2.aU (L2.fR a_PrimeError c_PrimeError.2 c_PrimeError.1 ?i) (λx_PrimeError=>?g3)
  (case i=>k_is)
  refine' L2.aU (PySem.W.mg_of (n := "NoNumber") KX G ?xa) (λa_NoNumber=>?g4)
  (case xa=>k_is)
  refine' L2.aU (L2.bR KX a_NoNumber ?l ?c2 ?c3 ?e1 ?e2 ?e3 ?e4 ?e5 ?e6 ?ob ?kp) (λc_NoNumber=>?g5)
  (case l=>k_is);(case c2=>rfl);(case c3=>rfl);(case e1=>k_is);(case e2=>k_is);(case e3=>k_is);(case e4=>k_is);(case e5=>k_is);(case e6=>k_is);(case ob=>exact⟨_,_,_,_,_,_,_,_,_,_,_,_,_,_,_,_,rfl,rfl,rfl,rfl⟩);(case kp=>k_is)
  refine' L2.aU (L2.fR a_NoNumber c_NoNumber.2 c_NoNumber.1 ?i) (λx_NoNumber=>?g6)
  (case i=>k_is)
  refine' L2.aU (PySem.W.mg_of (n := "Nought") KX G ?xa) (λa_Nought=>?g7)
  (case xa=>k_is)
  refine' L2.aU (L2.bR KX a_Nought ?l ?c2 ?c3 ?e1 ?e2 ?e3 ?e4 ?e5 ?e6 ?ob ?kp) (λc_Nought=>?g8)
  (case l=>k_is);(case c2=>rfl);(case c3=>rfl);(case e1=>k_is);(case e2=>k_is);(case e3=>k_is);(case e4=>k_is);(case e5=>k_is);(case e6=>k_is);(case ob=>exact⟨_,_,_,_,_,_,_,_,_,_,_,_,_,_,_,_,rfl,rfl,rfl,rfl⟩);(case kp=>k_is)
  refine' L2.aU (L2.fR a_Nought c_Nought.2 c_Nought.1 ?i) (λx_Nought=>?g9)
  (case i=>k_is)
  refine' L2.aU (PySem.W.mg_of (n := "NoOrder") KX G ?xa) (λa_NoOrder=>?g10)
  (case xa=>k_is)
  refine' L2.aU (L2.bR KX a_NoOrder ?l ?c2 ?c3 ?e1 ?e2 ?e3 ?e4 ?e5 ?e6 ?ob ?kp) (λc_NoOrder=>?g11)
  (case l=>k_is);(case c2=>rfl);(case c3=>rfl);(case e1=>k_is);(case e2=>k_is);(case e3=>k_is);(case e4=>k_is);(case e5=>k_is);(case e6=>k_is);(case ob=>exact⟨_,_,_,_,_,_,_,_,_,_,_,_,_,_,_,_,rfl,rfl,rfl,rfl⟩);(case kp=>k_is)
  refine' L2.aU (L2.fR a_NoOrder c_NoOrder.2 c_NoOrder.1 ?i) (λx_NoOrder=>?g12)
  (case i=>k_is)
  refine' L2.aU (PySem.W.mg_of (n := "TooFar") KX G ?xa) (λa_TooFar=>?g13)
  (case xa=>k_is)
  refine' L2.aU (L2.bR KX a_TooFar ?l ?c2 ?c3 ?e1 ?e2 ?e3 ?e4 ?e5 ?e6 ?ob ?kp) (λc_TooFar=>?g14)
  (case l=>k_is);(case c2=>rfl);(case c3=>rfl);(case e1=>k_is);(case e2=>k_is);(case e3=>k_is);(case e4=>k_is);(case e5=>k_is);(case e6=>k_is);(case ob=>exact⟨_,_,_,_,_,_,_,_,_,_,_,_,_,_,_,_,rfl,rfl,rfl,rfl⟩);(case kp=>k_is)
  refine' L2.aU (L2.fS K.oq a_TooFar c_TooFar.2 c_TooFar.1 ?nf ?i ?fn ?l ?cc ?kk) (λx_TooFar=>?g15)
  (case nf=>k_is);(case i=>k_is);(case fn=>k_is);(case l=>k_is);(case cc=>k_is);(case kk=>k_is)
  refine' L2.aU (PySem.W.mg_of (n := "NoPrime") KX G ?xa) (λa_NoPrime=>?g16)
  (case xa=>k_is)
  refine' L2.aU (L2.bR KX a_NoPrime ?l ?c2 ?c3 ?e1 ?e2 ?e3 ?e4 ?e5 ?e6 ?ob ?kp) (λc_NoPrime=>?g17)
  (case l=>k_is);(case c2=>rfl);(case c3=>rfl);(case e1=>k_is);(case e2=>k_is);(case e3=>k_is);(case e4=>k_is);(case e5=>k_is);(case e6=>k_is);(case ob=>exact⟨_,_,_,_,_,_,_,_,_,_,_,_,_,_,_,_,rfl,rfl,rfl,rfl⟩);(case kp=>k_is)
  refine' L2.aU (L2.fS K.lD a_NoPrime c_NoPrime.2 c_NoPrime.1 ?nf ?i ?fn ?l ?cc ?kk) (λx_NoPrime=>?g18)
  (case nf=>k_is);(case i=>k_is);(case fn=>k_is);(case l=>k_is);(case cc=>k_is);(case kk=>k_is)
  refine' L2.aU (PySem.W.mg_of (n := "NoInverse") KX G ?xa) (λa_NoInverse=>?g19)
  (case xa=>k_is)
  refine' L2.aU (L2.bR KX a_NoInverse ?l ?c2 ?c3 ?e1 ?e2 ?e3 ?e4 ?e5 ?e6 ?ob ?kp) (λc_NoInverse=>?g20)
  (case l=>k_is);(case c2=>rfl);(case c3=>rfl);(case e1=>k_is);(case e2=>k_is);(case e3=>k_is);(case e4=>k_is);(case e5=>k_is);(case e6=>k_is);(case ob=>exact⟨_,_,_,_,_,_,_,_,_,_,_,_,_,_,_,_,rfl,rfl,rfl,rfl⟩);(case kp=>k_is)
  refine' L2.aU (L2.fS K.jI a_NoInverse c_NoInverse.2 c_NoInverse.1 ?nf ?i ?fn ?l ?cc ?kk) (λx_NoInverse=>?g21)
  (case nf=>k_is);(case i=>k_is);(case fn=>k_is);(case l=>k_is);(case cc=>k_is);(case kk=>k_is)
  refine' L2.aU (PySem.W.mg_of (n := "NoRoot") KX G ?xa) (λa_NoRoot=>?g22)
  (case xa=>k_is)
  refine' L2.aU (L2.bR KX a_NoRoot ?l ?c2 ?c3 ?e1 ?e2 ?e3 ?e4 ?e5 ?e6 ?ob ?kp) (λc_NoRoot=>?g23)
  (case l=>k_is);(case c2=>rfl);(case c3=>rfl);(case e1=>k_is);(case e2=>k_is);(case e3=>k_is);(case e4=>k_is);(case e5=>k_is);(case e6=>k_is);(case ob=>exact⟨_,_,_,_,_,_,_,_,_,_,_,_,_,_,_,_,rfl,rfl,rfl,rfl⟩);(case kp=>k_is)
  refine' L2.aU (L2.fS K.om a_NoRoot c_NoRoot.2 c_NoRoot.1 ?nf ?i ?fn ?l ?cc ?kk) (λx_NoRoot=>?g24)
  (case nf=>k_is);(case i=>k_is);(case fn=>k_is);(case l=>k_is);(case cc=>k_is);(case kk=>k_is)
  refine' L2.aU (PySem.W.mg_of (n := "TooMany") KX G ?xa) (λa_TooMany=>?g25)
  (case xa=>k_is)
  refine' L2.aU (L2.bR KX a_TooMany ?l ?c2 ?c3 ?e1 ?e2 ?e3 ?e4 ?e5 ?e6 ?ob ?kp) (λc_TooMany=>?g26)
  (case l=>k_is);(case c2=>rfl);(case c3=>rfl);(case e1=>k_is);(case e2=>k_is);(case e3=>k_is);(case e4=>k_is);(case e5=>k_is);(case e6=>k_is);(case ob=>exact⟨_,_,_,_,_,_,_,_,_,_,_,_,_,_,_,_,rfl,rfl,rfl,rfl⟩);(case kp=>k_is)
  refine' L2.aU (L2.fS K.lE a_TooMany c_TooMany.2 c_TooMany.1 ?nf ?i ?fn ?l ?cc ?kk) (λx_TooMany=>?g27)
  (case nf=>k_is);(case i=>k_is);(case fn=>k_is);(case l=>k_is);(case cc=>k_is);(case kk=>k_is)
  refine' L2.aU (PySem.W.mg_of (n := "NoText") KX G ?xa) (λa_NoText=>?g28)
  (case xa=>k_is)
  refine' L2.aU (L2.bR KX a_NoText ?l ?c2 ?c3 ?e1 ?e2 ?e3 ?e4 ?e5 ?e6 ?ob ?kp) (λc_NoText=>?g29)
  (case l=>k_is);(case c2=>rfl);(case c3=>rfl);(case e1=>k_is);(case e2=>k_is);(case e3=>k_is);(case e4=>k_is);(case e5=>k_is);(case e6=>k_is);(case ob=>exact⟨_,_,_,_,_,_,_,_,_,_,_,_,_,_,_,_,rfl,rfl,rfl,rfl⟩);(case kp=>k_is)
  refine' L2.aU (L2.uL K.oo a_NoText c_NoText.2 c_NoText.1 ?nf ?ng ?i ?fn ?l ?cc ?kk) (λx_NoText=>?g30)
  (case nf=>k_is);(case ng=>k_is);(case i=>k_is);(case fn=>k_is);(case l=>k_is);(case cc=>k_is);(case kk=>k_is)
  refine' L2.aU (PySem.W.mg_of (n := "NoRow") KX G ?xa) (λa_NoRow=>?g31)
  (case xa=>k_is)
  refine' L2.aU (L2.bR KX a_NoRow ?l ?c2 ?c3 ?e1 ?e2 ?e3 ?e4 ?e5 ?e6 ?ob ?kp) (λc_NoRow=>?g32)
  (case l=>k_is);(case c2=>rfl);(case c3=>rfl);(case e1=>k_is);(case e2=>k_is);(case e3=>k_is);(case e4=>k_is);(case e5=>k_is);(case e6=>k_is);(case ob=>exact⟨_,_,_,_,_,_,_,_,_,_,_,_,_,_,_,_,rfl,rfl,rfl,rfl⟩);(case kp=>k_is)
  refine' L2.aU (L2.fR a_NoRow c_NoRow.2 c_NoRow.1 ?i) (λx_NoRow=>?g33)
  (case i=>k_is)
  refine' L2.aU (L2.dq c_NoText c_Nought ?xn ?xa) (λkt_Nought=>?g34)
  (case xn=>rfl);(case xa=>k_is)
  refine' L2.aU (L2.dq c_NoText c_TooMany ?xn ?xa) (λkt_TooMany=>?g35)
  (case xn=>rfl);(case xa=>k_is)
  refine' L2.aU (L2.dq c_NoText c_TooFar ?xn ?xa) (λkt_TooFar=>?g36)
  (case xn=>rfl);(case xa=>k_is)
  refine' L2.aU (L2.dq c_NoText c_NoRow ?xn ?xa) (λkt_NoRow=>?g37)
  (case xn=>rfl);(case xa=>k_is)
  refine' L2.aU (L2.dq c_NoText c_NoNumber ?xn ?xa) (λkt_NoNumber=>?g38)
  (case xn=>rfl);(case xa=>k_is)
  refine' L2.aU (L2.dq c_NoText c_NoPrime ?xn ?xa) (λkt_NoPrime=>?g39)
  (case xn=>rfl);(case xa=>k_is)
  refine' L2.aU (L2.dq c_NoText c_NoInverse ?xn ?xa) (λkt_NoInverse=>?g40)
  (case xn=>rfl);(case xa=>k_is)
  refine' L2.aU (L2.dq c_NoText c_NoOrder ?xn ?xa) (λkt_NoOrder=>?g41)
  (case xn=>rfl);(case xa=>k_is)
  refine' L2.aU (L2.dq c_NoText c_NoRoot ?xn ?xa) (λkt_NoRoot=>?g42)
  (case xn=>rfl);(case xa=>k_is)
  refine' L2.aU (L2.tu c_NoText ?xa) (λkvt=>?g43)
  (case xa=>k_is)
  refine' L2.aU (L2.wm c_NoText c_PrimeError ?xa) (λmt=>?g44)
  (case xa=>k_is)
  refine' L2.aU (PySem.W.mg_of (n := "LETTERS") KX G ?xa) (λg_LETTERS=>?g45)
  (case xa=>k_is)
  refine' L2.aU (PySem.W.mg_of (n := "FIGURES") KX G ?xa) (λg_FIGURES=>?g46)
  (case xa=>k_is)
  refine' L2.aU (PySem.W.mg_of (n := "MOST_FIGURES") KX G ?xa) (λg_MOST_FIGURES=>?g47)
  (case xa=>k_is)
  refine' L2.aU (PySem.W.mg_of (n := "MOST_LETTERS") KX G ?xa) (λg_MOST_LETTERS=>?g48)
  (case xa=>k_is)
  refine' L2.aU (PySem.W.mg_of (n := "DEEPEST") KX G ?xa) (λg_DEEPEST=>?g49)
  (case xa=>k_is)
  have wT:=K.yT c_NoText.1 kt_Nought kt_TooMany kt_TooFar kt_NoRow kt_NoNumber kt_NoPrime kt_NoInverse kt_NoOrder kt_NoRoot kvt
  refine L2.tw hmg d_law (λ_ _ _ _ _ _ _=>rfl) λbase f fd kb F=>?_
  have dwl:=λP w=>K.qt (P:=P) (w:=w) (base:=base) d__law_draw n_len
  have rn:=λP w=>K.wy (P:=P) (w:=w) (base:=base) d_run_end n_len
  have pa:=λP w=>K.qv (P:=P) (w:=w) (base:=base) d_piece_at (rn P w) (K.oH d_number_end (rn P w) ⟨_,g_FIGURES⟩ ⟨_,g_MOST_FIGURES⟩) ⟨_,g_LETTERS⟩ ⟨_,g_MOST_LETTERS⟩
  have rd:=λP w=>K.qw (P:=P) (w:=w) (base:=base) d_read (x_NoText _ _ _) (pa P w) (K.wu d_may_stand ⟨_,g_DEEPEST⟩) (K.wx d_put_behind (K.wz d_value_of ⟨_,g_LETTERS⟩ n_int) n_tuple) n_len
  have lf:=λP w=>K.tK (P:=P) (w:=w) (base:=base) d__law_leaf (dwl P w) (K.lS d__law_letters (dwl P w) n_range)
  have dp:=λP w=>K.tJ (P:=P) (w:=w) (base:=base) d__law_deep_thing (dwl P w) (lf P w) (K.qz d__law_thing (dwl P w) (lf P w) n_range n_tuple 5 (by decide)) n_range n_int
  have wd:=λP w=>K.tO (P:=P) (w:=w) (base:=base) d__law_word x_Nought (x_TooMany _ _ _) (x_TooFar _ _ _) (x_NoText _ _ _) x_NoRow x_NoNumber (x_NoPrime _ _ _) (x_NoInverse _ _ _) x_NoOrder (x_NoRoot _ _ _) n_isinstance n_ValueError
  exact K.wt F (K.qy d__law_tape) (dwl _ _) (x_NoText _ _ _) wT (wd _ _).calm (K.kC d__law_same n_isinstance n_bool n_list n_tuple n_len n_zip n_all 90) (K.lR d__law_changed (dwl _ _) (K.qx d__law_signs) n_len n_range) (K.tL d__law_text (dwl _ _) (dp _ _) (K.vc d__law_written n_isinstance n_list n_tuple n_str 81)) (K.yv d__law_first_wrong n_len n_range n_int) (K.qr d__law_built (K.oG d__law_value n_int) n_tuple) (K.qu d__law_read (rd _ _) (wd _ _) x_PrimeError (x_NoText _ _ _) wT mt) n_range
 case S=>exact λK H a ns hl hO hS=>⟨a,ns,rfl,hS,hl,λ_=>rfl⟩
 case C=>exact λ_ _ _ _ z=>z
