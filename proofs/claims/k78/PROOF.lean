import PyProof.Rows.All
import Wide.All
import OpenK.AllK
import Wide.FinOn
import Lean
import PyProof.EqAt
import PyProof.EqKinds
import PyProof.TupleCall
import KE.KRevSl
import PyProof.NeData
import PyProof.P3Eq
import PyProof.Rows.Range3
import PyProof.EnumMake
import PyProof.Draws
import PyProof.ZipIter
import KE.KDictList
import KE.KDictSum
import PyProof.WalkInts
import PyProof.Rows.SeqCalls
import PyProof.ReprRoads
import PyProof.CallFns
import PyProof.ReprLen
import PyProof.FitsInt
import PyProof.CallStr
import PyProof.StrCalls2
import PyProof.StrCalls3
import PyProof.StrBlockI
import PyProof.StrBlock2
import PyProof.StrBlockL
import PyProof.SliceStr2
import KE.KIntText
import KE.IntTextLaws
import PyProof.StrLawsIn
import PyProof.Rows.StrMul
import PyProof.Rows.StrJoinRep
import PySem.Challenge.RW_rootprime_k78_things_written_and_read
set_option Elab.async false
local macro_rules | `(tactic| omega) => `(tactic| lia)
set_option linter.all false
set_option maxRecDepth 100000
namespace L2
open PySem PySem.Spec PyProof.Rows
abbrev Key:=Sum Int Str
def fV:Key->Value->Bool
 | .inl k,v=>Value.isInt k v
 | .inr x,v=>Value.isStrOf x v
def tw (w:World):Key->Int
 | .inl k=>hashInt k
 | .inr x=>hashStr w x
theorem aP:∀{k:Key} {v:Value},fV k v=true->(∃ i t,k=Sum.inl i/\v=Value.int i t)∨(∃ x t,k=Sum.inr x/\v=Value.str x t)
 | .inl i,v,h=>by
  obtain⟨t,e⟩:=Value.isInt_shape (k:=i) (v:=v) h
  exact .inl ⟨i,t,rfl,e⟩
 | .inr x,v,h=>by
  obtain⟨t,e⟩:=Value.isStrOf_shape (x:=x) (v:=v) h
  exact .inr ⟨x,t,rfl,e⟩
theorem ko (i:Int) (t:Tok):fV (.inl i) (.int i t)=true:=by simp [fV,Value.isInt]
theorem kq (x:Str) (t:Tok):fV (.inr x) (.str x t)=true:=by simp [fV,Value.isStrOf]
theorem pN (a b:Int):decide ((Sum.inl a:Key)=Sum.inl b)=(a==b):=by
 by_cases e:a=b
 ·subst e;simp
 ·have h:¬(Sum.inl a:Key)=Sum.inl b:=λq=>e (Sum.inl.inj q)
  rw [decide_eq_false h]
  exact (beq_eq_false_iff_ne.mpr e).symm
theorem pQ (a b:Str):decide ((Sum.inr a:Key)=Sum.inr b)=decide (a=b):=by
 by_cases e:a=b
 ·subst e;simp
 ·have h:¬(Sum.inr a:Key)=Sum.inr b:=λq=>e (Sum.inr.inj q)
  rw [decide_eq_false h,decide_eq_false e]
theorem pO (a:Int) (b:Str):decide ((Sum.inl a:Key)=Sum.inr b)=false:=decide_eq_false (λq=>nomatch q)
theorem pP (a:Str) (b:Int):decide ((Sum.inr a:Key)=Sum.inl b)=false:=decide_eq_false (λq=>nomatch q)
def aR (prog:Program) (w:World):PySem.KeyKind prog w Key where
 is:=fV
 hash:=tw w
 inj:=λv a b ha hb=>by
  rcases aP ha with⟨i,t,rfl,rfl⟩|⟨x,t,rfl,rfl⟩
  ·rcases aP hb with⟨j,u,rfl,e⟩|⟨y,u,rfl,e⟩
   ·injection e with e1 _;rw [e1]
   ·exact nomatch e
  ·rcases aP hb with⟨j,u,rfl,e⟩|⟨y,u,rfl,e⟩
   ·exact nomatch e
   ·injection e with e1 _;rw [e1]
 byValue:=λk v h=>by
  rcases aP h with⟨i,t,rfl,rfl⟩|⟨x,t,rfl,rfl⟩<;>rfl
 pyHash:=λhv h=>by
  rcases aP hv with⟨i,t,rfl,rfl⟩|⟨x,t,rfl,rfl⟩
  ·exact wpAny_pyHash_int h
  ·exact wpAny_pyHash_str h
 eqBool:=λhu hv h=>by
  rcases aP hu with⟨i,t,rfl,rfl⟩|⟨x,t,rfl,rfl⟩
  ·rcases aP hv with⟨j,u,rfl,rfl⟩|⟨y,u,rfl,rfl⟩
   ·rw [pN] at h;exact wpAny_eqBool_int h
   ·rw [pO] at h;exact SeqAt.EqAt.int_str i t y u _ _ _ _ h
  ·rcases aP hv with⟨j,u,rfl,rfl⟩|⟨y,u,rfl,rfl⟩
   ·rw [pP] at h;exact SeqAt.EqAt.str_int x t j u _ _ _ _ h
   ·rw [pQ] at h;exact wpAny_eqBool_str h
 «strs»:=λk x t v h=>by
  rcases aP h with⟨i,u,rfl,e⟩|⟨y,u,rfl,e⟩
  ·exact nomatch e
  ·injection e with e1 _
   subst e1
   cases v<;>rfl
theorem ip (prog:Program) (w:World) (i:Int) (t:Tok):(aR prog w).is (.inl i) (.int i t)=true:=ko i t
theorem iq (prog:Program) (w:World) (x:Str) (t:Tok):(aR prog w).is (.inr x) (.str x t)=true:=kq x t
inductive V where
 | a9 | bl (b:Bool) | int (i:Int) | str (x:Str) | byt (b:Array UInt8) | flt (b:UInt64) | ref (a:Addr) | ty (n:String)
 deriving DecidableEq
def RelV:V->Value->Prop
 | .a9,u=>u=Value.none
 | .bl b,u=>u=Value.bool b
 | .int i,u=>∃ t,u=Value.int i t
 | .str x,u=>∃ t,u=Value.str x t
 | .byt b,u=>∃ t,u=Value.bytes b t
 | .flt b,u=>∃ t,u=Value.float b t
 | .ref a,u=>u=Value.ref a
 | .ty n,u=>u=Value.type n
abbrev Vals:List V->List Value->Prop:=Paired RelV
theorem Vals.length {xs:List V} {us:List Value} (r:Vals xs us):xs.length=us.length:=Paired.length r
theorem Vals.get:∀{xs:List V} {us:List Value} {i:Nat} {x:V},Vals xs us->xs[i]?=some x->∃ u,us[i]?=some u/\RelV x u
 | _,_,_,_,.nil,e=>by simp at e
 | _,_,0,_,.cons r _,e=>by simp at e;subst e;exact⟨_,rfl,r⟩
 | _,_,i+1,x,.cons _ t,e=>by
  obtain⟨u,h1,h2⟩:=Vals.get (i:=i) (x:=x) t (by simpa using e)
  exact⟨u,by simpa using h1,h2⟩
theorem Vals.set {x:V} {u:Value} (r:RelV x u):∀{xs:List V} {us:List Value} (i:Nat),Vals xs us->Vals (xs.set i x) (us.set i u)
 | _,_,_,.nil=>.nil
 | _,_,0,.cons _ t=>.cons r t
 | _,_,i+1,.cons q t=>.cons q (Vals.set r i t)
theorem Vals.append:∀{xs ys:List V} {us ws:List Value},Vals xs us->Vals ys ws->Vals (xs++ys) (us++ws)
 | _,_,_,_,.nil,s=>s
 | _,_,_,_,.cons r t,s=>.cons r (Vals.append t s)
theorem Vals.take:∀{xs:List V} {us:List Value} (n:Nat),Vals xs us->Vals (xs.take n) (us.take n)
 | _,_,0,_=>.nil
 | _,_,_+1,.nil=>.nil
 | _,_,n+1,.cons r t=>.cons r (Vals.take n t)
theorem Vals.drop:∀{xs:List V} {us:List Value} (n:Nat),Vals xs us->Vals (xs.drop n) (us.drop n)
 | _,_,0,r=>r
 | _,_,_+1,.nil=>.nil
 | _,_,n+1,.cons _ t=>Vals.drop n t
def dI:Option V->Option Value->Prop
 | some v,some u=>RelV v u
 | none,none=>True
 | _,_=>False
def KV {κ:Type}:List (κ × V)->List (κ × Value)->Prop:=Paired fun(p:κ × V) (q:κ × Value)=>p.1=q.1/\RelV p.2 q.2
def kV:Key->V
 | .inl i=>.int i
 | .inr x=>.str x
inductive HO where
  | lst (xs:List V)
  | tup (xs:List V)
  | dK (kvs:List (Key × V)) | dT (kvs:List (List Key × V))
  | set (S:Int->Bool) (n:Nat)
  | ins (C dx:Addr) (fs:List (Str × V))
  | own (x:Addr)
  | xd (fs:List (Str × V))
  | met (f x:Addr)
  | rng (lo hi:Int)
  | frz (o:Obj) (u:HO)
  | tbl (ps:Array Value)
  | ext (φ:Heap->Prop)
abbrev Hp:=Addr->Option HO
def upd (H:Hp) (a:Addr) (o:HO):Hp:=λb=>if b=a then some o else H b
theorem aj {H:Hp} {a:Addr} {o:HO}:upd H a o a=some o:=by unfold upd;rw [if_pos rfl]
theorem ak {H:Hp} {a b:Addr} {o:HO} (h:b≠a):upd H a o b=H b:=by unfold upd;rw [if_neg h]
theorem fW {H:Hp} {a b:Addr} {o u:HO} (h:H a=some o) (h':H b=some u) (d:o≠u):a≠b:=by
 intro e;subst e;rw [h] at h';exact d (Option.some.inj h')
theorem aI {H:Hp} {a b:Addr} {o:HO} (h:H a=some o) (h':H b=none):a≠b:=by
 intro e;subst e;rw [h] at h';cases h'
section
variable (P:Program) (w:World)
def aK (H:Hp) (h:Heap) (a:Addr):HO->Prop
 | .lst xs=>xs.length<=sizeLine/\∃(its:List Value) (n:Nat),Vals xs its/\h.get? a=some { cls:=.type "list",data:=.seq its.toArray n }
 | .tup xs=>xs.length<=sizeLine/\∃ its:List Value,Vals xs its/\IsTup h a its.toArray
 | .dK kvs=>kvs.length<=sizeLine/\(a==sysModules)=false/\∃ vs,KV kvs vs/\h.DictOf (aR P w) a vs
 | .dT kvs=>kvs.length<=sizeLine/\(a==sysModules)=false/\∃ xs:List (List Key × Addr × Value),
   Paired (fun(p:List Key × V) (q:List Key × Addr × Value)=>p.1=q.1/\H q.2.1=some (.tup (p.1.map kV))/\RelV p.2 q.2.2) kvs xs /\
   ∃ o es ep,h.get? a=some o/\o.ExactDict/\o.data=.dict es ep/\es.toList=xs.map (entryOfKey (tupleKind (aR P w)))/\(xs.map (·.1)).Nodup
 | .set S n=>h.SetOf (intKind P w) a S n
 | .ins C dx fs=>H dx=some (.own a)/\fs.length<=1000/\dx≠a/\h.get? a=some (PySem.W.instObj C dx) /\
   ∃ mA,h.Ns1 dx mA/\(∀ f,dI (fs.lookup f) (mA f))/\PySem.Within mA (fs.map (·.1))
 | .own _=>∃ o,h.get? a=some o
 | .xd fs=>∃ mA,h.Ns1 a mA/\∀ f,dI (fs.lookup f) (mA f)
 | .rng lo hi=>∃ t u v,h.get? a=some { cls:=.type "range",data:=.fields #[.int lo t,.int hi u,.int 1 v] }
 | .frz o u=>h.get? a=some o/\aK H h a u
 | .tbl ps=>h.get? a=some { cls:=.none,data:=.fields ps }
 | .met f x=>h.get? a=some (PySem.W.methodObj (.ref f) (.ref x))
 | .ext φ=>φ h/\(∃ o,h.get? a=some o)/\∀ h1 h2:Heap,φ h1->(∀ o,h1.get? a=some o->h2.get? a=some o)->φ h2
def cC (H:Hp) (h:Heap):Prop:=∀ a o,H a=some o->aK P w H h a o
end
section
variable {P:Program} {w:World} {H H':Hp} {h h':Heap} {a:Addr} {o:HO}
theorem aK.lt (x:aK P w H h a o):a<h.objs.size:=by
 cases o with
 | lst xs=>obtain⟨_,_,_,_,e⟩:=x;exact Heap.lt_size e
 | tup xs=>obtain⟨_,_,_,p⟩:=x;exact p.lt
 | dK kvs=>obtain⟨_,_,_,_,o,_,_,e,_⟩:=x;exact Heap.lt_size e
 | dT kvs=>obtain⟨_,_,_,_,o,_,_,e,_⟩:=x;exact Heap.lt_size e
 | set S n=>obtain⟨o,_,_,_,e,_⟩:=x;exact Heap.lt_size e
 | ins C dx fs=>obtain⟨_,_,_,e,_⟩:=x;exact Heap.lt_size e
 | own y=>obtain⟨_,e⟩:=x;exact Heap.lt_size e
 | xd fs=>obtain⟨_,⟨_,_,_,e,_⟩,_⟩:=x;exact Heap.lt_size e
 | rng lo hi=>obtain⟨_,_,_,e⟩:=x;exact Heap.lt_size e
 | frz ob u=>obtain⟨e,_⟩:=x;exact Heap.lt_size e
 | tbl ps=>exact Heap.lt_size (show h.get? a=some _ from x)
 | met f y=>exact Heap.lt_size (show h.get? a=some _ from x)
 | ext φ=>obtain⟨_,⟨_,e⟩,_⟩:=x;exact Heap.lt_size e
theorem Paired.pS {α β:Type} {F G:α->β->Prop}:∀{l₁:List α} {l₂:List β},Paired F l₁ l₂->(∀ a b,F a b->G a b)->Paired G l₁ l₂
 | _,_,.nil,_=>.nil
 | _,_,.cons r t,f=>.cons (f _ _ r) (Paired.pS t f)
theorem aK.iH (x:aK P w H h a o) (k:∀ b u,(b=a∨H b=some (.own a))->h.get? b=some u->h'.get? b=some u)
  (ho:∀ b,H b=some (.own a)->H' b=some (.own a)) (ht:∀ b xs,H b=some (.tup xs)->H' b=some (.tup xs)):aK P w H' h' a o:=by
 induction o with
 | lst xs=>obtain⟨z,its,n,r,e⟩:=x;exact⟨z,its,n,r,k _ _ (.inl rfl) e⟩
 | tup xs=>obtain⟨z,its,r,ob,e,c⟩:=x;exact⟨z,its,r,ob,k _ _ (.inl rfl) e,c⟩
 | dK kvs=>obtain⟨z,y,vs,r,ob,es,ep,e,c⟩:=x;exact⟨z,y,vs,r,ob,es,ep,k _ _ (.inl rfl) e,c⟩
 | dT kvs =>
  obtain⟨z,y,xs,r,ob,es,ep,e,c⟩:=x
  exact⟨z,y,xs,Paired.pS r λp q z=>⟨z.1,ht _ _ z.2.1,z.2.2⟩,ob,es,ep,k _ _ (.inl rfl) e,c⟩
 | set S n=>obtain⟨ob,es,ep,t,e,c⟩:=x;exact⟨ob,es,ep,t,k _ _ (.inl rfl) e,c⟩
 | ins C dx fs =>
  obtain⟨d,z,ne,e,mA,⟨od,es,ep,e2,c⟩,r⟩:=x
  exact⟨ho _ d,z,ne,k _ _ (.inl rfl) e,mA,⟨od,es,ep,k _ _ (.inr d) e2,c⟩,r⟩
 | own y=>obtain⟨ob,e⟩:=x;exact⟨ob,k _ _ (.inl rfl) e⟩
 | xd fs=>obtain⟨mA,⟨od,es,ep,e,c⟩,r⟩:=x;exact⟨mA,⟨od,es,ep,k _ _ (.inl rfl) e,c⟩,r⟩
 | rng lo hi=>obtain⟨t,u,v,e⟩:=x;exact⟨t,u,v,k _ _ (.inl rfl) e⟩
 | frz ob u ih=>obtain⟨e,q⟩:=x;exact⟨k _ _ (.inl rfl) e,ih q⟩
 | tbl ps =>
  have e:h.get? a=some { cls:=.none,data:=.fields ps }:=x
  show h'.get? a=some { cls:=.none,data:=.fields ps }
  exact k a _ (.inl rfl) e
 | met f y =>
  have e:h.get? a=some (PySem.W.methodObj (.ref f) (.ref y)):=x
  show h'.get? a=some (PySem.W.methodObj (.ref f) (.ref y))
  exact k a _ (.inl rfl) e
 | ext φ=>obtain⟨p,⟨o,e⟩,st⟩:=x;exact⟨st _ _ p λo q=>k _ _ (.inl rfl) q,⟨o,k _ _ (.inl rfl) e⟩,st⟩
theorem cC.lt (x:cC P w H h) (e:H a=some o):a<h.objs.size:=(x a o e).lt
theorem cC.fresh (x:cC P w H h) (e:h.objs.size<=a):H a=none:=by
 cases q:H a with
 | none=>rfl
 | some u=>exact absurd (Nat.lt_of_lt_of_le (x.lt q) e) (Nat.lt_irrefl _)
theorem cC.kept (x:cC P w H h) (k:∀ b u,h.get? b=some u->h'.get? b=some u):cC P w H h':=λa o e =>
 (x a o e).iH (λb u _ q=>k b u q) (λ_ q=>q) λ_ _ q=>q
theorem cC.laid (x:cC P w H h) (k:∀ b u,h.get? b=some u->h'.get? b=some u) (hp:h.objs.size<=a) (new:aK P w (upd H a o) h' a o):cC P w (upd H a o) h':=λb u e=>by
 have hn:=x.fresh hp
 by_cases hb:b=a
 ·subst hb;rw [aj] at e;cases e;exact new
 ·rw [ak hb] at e
  exact (x b u e).iH (λc v _ q=>k c v q) (λc q=>by rw [ak (aI q hn)];exact q) λc xs q=>by rw [ak (aI q hn)];exact q
end
def Rd (H:Hp) (a:Addr) (u:HO):Prop:=H a=some u∨∃ o,H a=some (.frz o u)
theorem Rd.of {H:Hp} {a:Addr} {u:HO} (h:H a=some u):Rd H a u:=.inl h
theorem Rd.ok {P:Program} {w:World} {H:Hp} {h:Heap} {a:Addr} {u:HO} (r:Rd H a u) (x:cC P w H h):aK P w H h a u:=by
 rcases r with r | ⟨o,r⟩
 ·exact x a u r
 ·obtain⟨_,q⟩:=x a _ r
  exact q
def qV:Option HO->Prop
 | some (.lst _)=>True
 | some (.dK _)=>True
 | some (.dT _)=>True
 | some (.set _ _)=>True
 | some (.ins _ _ _)=>True
 | some (.ext _)=>True
 | _=>False
section
variable {P:Program} {w:World} {H:Hp} {h h':Heap} {x e:Addr} {o':HO}
theorem cC.write (ok:cC P w H h) (mu:qV (H x)) (he:e=x∨H e=some (.own x)) (k:∀ b u,b≠e->h.get? b=some u->h'.get? b=some u) (heo:∃ u,h'.get? e=some u)
  (new:aK P w (upd H x o') h' x o'):cC P w (upd H x o') h':=λb u q=>by
 have nown:∀ c y,H c=some (.own y)->c≠x:=λc y r z=>by subst z;rw [r] at mu;exact mu
 have ntup:∀ c xs,H c=some (.tup xs)->c≠x:=λc xs r z=>by subst z;rw [r] at mu;exact mu
 by_cases hb:b=x
 ·subst hb;rw [aj] at q;cases q;exact new
 ·rw [ak hb] at q
  by_cases hbe:b=e
  ·have q':H b=some (.own x):=by
    rcases he with z | z
    ·exact absurd (hbe.trans z) hb
    ·rw [hbe];exact z
   rw [q] at q';cases q'
   obtain⟨v,hv⟩:=heo
   exact⟨v,by rw [hbe];exact hv⟩
  ·refine (ok b u q).iH (λc v hc r=>k c v ?_ r) (λc r=>by rw [ak (nown c b r)];exact r) λc xs r=>by rw [ak (ntup c xs r)];exact r
   rcases hc with rfl | hc
   ·exact hbe
   ·rintro rfl
    rcases he with z | z
    ·exact nown c b hc z
    ·rw [hc] at z;cases z;exact hb rfl
end
structure Un (fs ex:List Addr) (H H':Hp) (h h':Heap):Prop where
 keep:∀ b o,h.get? b=some o->H b=none->b∉fs->b∉ex->h'.get? b=some o
 slot:∀ b o,h.get? b=some o->H b=none->b∈fs->b∉ex->∃ sl,h'.get? b=some { o with slots:=sl }
 free:∀ b o,h.get? b=some o->H b=none->b∉ex->H' b=none
 there:∀ b o,h.get? b=some o->b∉ex->∃ o',h'.get? b=some o'
 tups:∀ b xs,H b=some (.tup xs)->H' b=some (.tup xs)
 frzs:∀ b o u,H b=some (.frz o u)->H' b=some (.frz o u)
 tbls:∀ b ps,H b=some (.tbl ps)->∃ more,H' b=some (.tbl (ps++more))
section
variable {fs fs' ex ex':List Addr} {H H1 H2:Hp} {h h1 h2 h':Heap} {a x e:Addr} {o:HO}
theorem Un.any (u:Un fs ex H H1 h h1) {b:Addr} {ob:Obj} (q:h.get? b=some ob) (n:H b=none) (hx:b∉ex):∃ sl,h1.get? b=some { ob with slots:=sl }:=by
 by_cases hb:b∈fs
 ·exact u.slot b ob q n hb hx
 ·exact⟨ob.slots,u.keep b ob q n hb hx⟩
theorem Un.trans (a:Un fs ex H H1 h h1) (b:Un fs ex H1 H2 h1 h2):Un fs ex H H2 h h2 where
 keep:=λc ob q n hc hx=>b.keep c ob (a.keep c ob q n hc hx) (a.free c ob q n hx) hc hx
 slot:=λc ob q n hc hx=>by
  obtain⟨sl,e1⟩:=a.slot c ob q n hc hx
  obtain⟨sl',e2⟩:=b.slot c _ e1 (a.free c ob q n hx) hc hx
  exact⟨sl',e2⟩
 free:=λc ob q n hx=>by
  obtain⟨o',e1⟩:=a.there c ob q hx
  exact b.free c o' e1 (a.free c ob q n hx) hx
 there:=λc ob q hx=>by
  obtain⟨o',e1⟩:=a.there c ob q hx
  exact b.there c o' e1 hx
 tups:=λc xs q=>b.tups c xs (a.tups c xs q)
 frzs:=λc ob xs q=>b.frzs c ob xs (a.frzs c ob xs q)
 tbls:=λc ps q=>by
  obtain⟨m1,e1⟩:=a.tbls c ps q
  obtain⟨m2,e2⟩:=b.tbls c _ e1
  exact⟨m1++m2,by rw [e2,Array.append_assoc]⟩
theorem Un.kept (k:∀ b u,h.get? b=some u->h'.get? b=some u):Un fs ex H H h h' :=
 ⟨λb ob q _ _ _=>k b ob q,λb ob q _ _ _=>⟨ob.slots,k b ob q⟩,λ_ _ _ n _=>n,λb ob q _=>⟨ob,k b ob q⟩,λ_ _ q=>q,λ_ _ _ q=>q,λ_ ps q=>⟨#[],by rw [q];simp⟩⟩
theorem Un.refl:Un fs ex H H h h:=Un.kept λ_ _ q=>q
theorem Un.laid (k:∀ b u,h.get? b=some u->h'.get? b=some u) (hp:h.objs.size<=a) (hn:H a=none):Un fs ex H (upd H a o) h h' where
 keep:=λb u q _ _ _=>k b u q
 slot:=λb u q _ _ _=>⟨u.slots,k b u q⟩
 free:=λb u q n _=>by rw [ak (Nat.ne_of_lt (Nat.lt_of_lt_of_le (Heap.lt_size q) hp))];exact n
 there:=λb u q _=>⟨u,k b u q⟩
 tups:=λb xs q=>by rw [ak (aI q hn)];exact q
 frzs:=λb u xs q=>by rw [ak (aI q hn)];exact q
 tbls:=λb ps q=>⟨#[],by rw [ak (aI q hn),q];simp⟩
theorem Un.write (mu:qV (H x)) (he:e=x∨H e=some (.own x)) (k:∀ b u,b≠e->h.get? b=some u->h'.get? b=some u) (heo:∃ u,h'.get? e=some u):Un fs ex H (upd H x o) h h':=by
 have hx:∀ b,H b=none->b≠x:=λb n z=>by subst z;rw [n] at mu;exact mu
 have hb:∀ b,H b=none->b≠e:=λb n z=>by
  subst z
  rcases he with r | r
  ·exact hx b n r
  ·rw [n] at r;cases r
 have hm:∀ b u,H b=some u->¬qV (some u)->b≠x:=λb u q nm z=>by subst z;rw [q] at mu;exact nm mu
 refine⟨λb u q n _ _=>k b u (hb b n) q,λb u q n _ _=>⟨u.slots,k b u (hb b n) q⟩,λb u q n _=>by rw [ak (hx b n)];exact n,λb u q _=>?_,
  λb xs q=>by rw [ak (hm b _ q λz=>z)];exact q,λb u xs q=>by rw [ak (hm b _ q λz=>z)];exact q,λb ps q=>⟨#[],by rw [ak (hm b _ q λz=>z),q];simp⟩⟩
 by_cases hbe:b=e
 ·subst hbe;exact heo
 ·exact⟨u,k b u hbe q⟩
theorem Un.mono (u:Un fs ex H H1 h h1) (hs:∀ b∈fs,b∈fs') (hx:∀ b∈ex,b∈ex'):Un fs' ex' H H1 h h1 :=
 ⟨λb ob q n hb he=>u.keep b ob q n (λz=>hb (hs b z)) λz=>he (hx b z),λ_ _ q n _ he=>u.any q n λz=>he (hx _ z),λb ob q n he=>u.free b ob q n λz=>he (hx b z),λb ob q he=>u.there b ob q λz=>he (hx b z),u.tups,u.frzs,u.tbls⟩
end
def sO (h:Heap) (H:Hp):List Addr:=(List.range h.objs.size).filter λa=>(H a).isSome
def gF (h:Heap) (H:Hp):Heap:=PySem.W.hideAll h (sO h H)
theorem kj (h:Heap) (H:Hp):(gF h H).objs.size=h.objs.size:=PySem.W.hideAll_size _ _
theorem lg {h:Heap} {H:Hp} {b:Addr} {o:Obj} (e:h.get? b=some o) (n:H b=none):(gF h H).get? b=some o :=
 PySem.W.hideAll_get _ e λhm=>by
  have q:(H b).isSome=true:=(List.mem_filter.mp hm).2
  rw [n] at q;simp at q
theorem nc {h:Heap} {H:Hp} {b:Addr} {o:Obj} (e:(gF h H).get? b=some o):h.get? b=some o/\H b=none:=by
 have e':h.get? b=some o:=PySem.W.of_hideAll (sO h H) e
 refine⟨e',?_⟩
 cases q:H b with
 | none=>rfl
 | some x =>
  have hm:b∈sO h H:=List.mem_filter.mpr ⟨List.mem_range.mpr (Heap.lt_size e'),by simp [q]⟩
  have z:(gF h H).get? b=none:=PySem.W.hideAll_none (sO h H) hm
  rw [z] at e;cases e
def mK (g h:Heap) (L:Addr):List (Addr × Obj):=(List.range h.objs.size).filterMap λa=>if a=L∨(g.get? a).isSome=true then none else (h.get? a).map λo=>(a,o)
def rest (g h:Heap) (L d:Addr):List (Addr × Obj):=(mK g h L).filter λp=>decide (p.1≠d)
structure Mod (K:PySem.W.Frag) (mg:Str->Option Value) (base:Heap):Prop where
 kin:K.In base
 glob:base.Ns mainGlobals mg
 blt:∃ mb,base.Ns builtinsNs mb/\∀ x:Str,x ≠ "__name__"->mb x=bootBuiltins x
 nolimit:base.NoLimit
structure Cx where
 prog:Program
 w:World
 K:PySem.W.Frag
 mg:Str->Option Value
 base:Heap
 A:Around
 N:List Str
 s₀:Shared
 H₀:Hp
 env:Env
 outer:List Env
 stack:List Env
 ex:List Addr
 fn:Str->Bool
 calm:Bool
 pn:List (Addr × Obj)
 xe:Value->Shared->Prop
def kI (l:List Env):List Addr:=l.filterMap (·.frame)
abbrev Cx.fs (X:Cx):List Addr:=kI X.outer
def qL (sc:Scope) (x:Str):Prop:=sc.names.lookup x=some .local∨sc.names.lookup x=some .cell∨sc.names.lookup x=some .free
def Loc (sc:Scope) (x:Str):Prop:=sc.names.lookup x=some .local∨sc.names.lookup x=some .cell
def Look (env:Env) (h:Heap) (m:Str->Option Value) (x:Str) (u:Value):Prop :=
 (env.kindOf x=some .local/\m x=some u)∨((env.kindOf x=some .cell∨env.kindOf x=some .free)/\∃ c,env.cells.lookup x=some c/\h.IsCell c (some u))
structure Cx.Ok (X:Cx):Prop where
 mod:Mod X.K X.mg X.base
 kind:X.env.scope.kind=.function
 glob:X.env.globals=mainGlobals
 blt:X.env.builtins=builtinsNs
 above:X.s₀.heap.objs.size<=X.env.locals
 inj:∀ x y c,X.env.cells.lookup x=some c->X.env.cells.lookup y=some c->x=y
 has:∀ x,(X.env.kindOf x=some .cell∨X.env.kindOf x=some .free)->∃ c,X.env.cells.lookup x=some c
 cab:∀ x c,X.fn x=true->X.env.cells.lookup x=some c->X.s₀.heap.objs.size<=c
 hd:X.calm=true->X.A.handled=none
 frames:X.A.frames=some X.stack
 stk:X.stack=X.outer∨(X.stack=X.env::X.outer/\X.env.frame=some X.env.locals)
 exf:∀ b∈X.ex,b≠X.env.locals/\∀ x c,X.env.cells.lookup x=some c->c≠b
 bs:∀ b o,X.base.get? b=some o->X.s₀.heap.get? b=some o/\X.H₀ b=none
 bsz:X.base.objs.size<=X.s₀.heap.objs.size
 noex:∀ b o,X.base.get? b=some o->b∉X.ex
 exfs:∀ b∈X.ex,b∉X.fs
 eU:X.s₀.heap.FunFrames X.base X.outer
 frf:∀ b∈X.fs,X.H₀ b=none
structure Inv (X:Cx) (pins:List (Addr × Obj)) (σ:List (Option V)) (H:Hp) (s:Shared):Prop where
 ok:X.Ok
 os:s.os=X.s₀.os
 bare:AllBare s.gens
 base:Un X.fs X.ex X.H₀ H X.s₀.heap s.heap
 loc:∃ m,s.heap.Ns X.env.locals m/\∀(i:Nat) (x:Str) (v:V),X.N[i]?=some x->σ[i]?=some (some v)->qL X.env.scope x->∃ u,RelV v u/\Look X.env s.heap m x u
 cell:∀ x c,X.env.cells.lookup x=some c->∃ v,s.heap.IsCell c v
 free:H X.env.locals=none
 freeC:∀ x c,X.env.cells.lookup x=some c->H c=none
 pin:∀ p∈X.pn++pins,s.heap.get? p.1=some p.2/\H p.1=none/\p.1≠X.env.locals/\p.1∉X.fs/\∀ v,p.2.data≠.cell v
 hok:cC X.prog X.w H s.heap
 len:σ.length=X.N.length
section
variable {X:Cx} {pins:List (Addr × Obj)} {σ:List (Option V)} {H H':Hp} {s:Shared} {h':Heap}
theorem Cx.Ok.tD (ok:X.Ok) {b:Addr} {o:Obj} (e:X.base.get? b=some o):b∉X.fs:=λhb=>by
 have:=(ok.eU.mem hb).1
 rw [e] at this;cases this
theorem Inv.bs (I:Inv X pins σ H s):∀ b o,X.base.get? b=some o->s.heap.get? b=some o/\H b=none:=λb o e =>
 ⟨I.base.keep b o (I.ok.bs b o e).1 (I.ok.bs b o e).2 (I.ok.tD e) (I.ok.noex b o e),I.base.free b o (I.ok.bs b o e).1 (I.ok.bs b o e).2 (I.ok.noex b o e)⟩
theorem Inv.bk (I:Inv X pins σ H s):∀ b o,X.base.get? b=some o->s.heap.get? b=some o:=λb o e=>(I.bs b o e).1
theorem Inv.mod (I:Inv X pins σ H s):Mod X.K X.mg X.base:=I.ok.mod
theorem Inv.eC (I:Inv X pins σ H s):X.K.In s.heap:=I.ok.mod.kin.keeps I.bk
theorem Inv.lt (I:Inv X pins σ H s):X.env.locals<s.heap.objs.size:=let ⟨_,hn,_⟩:=I.loc;hn.lt
theorem Inv.sz (I:Inv X pins σ H s):X.s₀.heap.objs.size<=s.heap.objs.size:=Nat.le_trans I.ok.above (Nat.le_of_lt I.lt)
theorem Inv.pU (I:Inv X pins σ H s) {a:Addr} (h:s.heap.objs.size<=a):a∉X.fs:=λhb=>by
 obtain⟨_,o,ho,_⟩:=I.ok.eU.mem hb
 exact absurd (Nat.lt_of_lt_of_le (Heap.lt_size ho) (Nat.le_trans I.sz h)) (Nat.lt_irrefl _)
theorem Inv.pB (I:Inv X pins σ H s):∀ x c,X.env.cells.lookup x=some c->c≠X.env.locals:=λx c e z=>by
 obtain⟨v,o,ho,hd⟩:=I.cell x c e
 obtain⟨m,⟨o',es,ep,ho',hd',_⟩,_⟩:=I.loc
 rw [z,ho'] at ho;cases ho;rw [hd'] at hd;cases hd
theorem Inv.eU (I:Inv X pins σ H s):s.heap.FunFrames X.base X.outer:=by
 have all:∀(l:List Env),(∀ b∈kI l,b∈X.fs)->X.s₀.heap.FunFrames X.base l->s.heap.FunFrames X.base l:=by
  intro l
  induction l with
  | nil=>intro _ _;trivial
  | cons env r ih =>
   intro hs hl
   obtain⟨hk,⟨L,o,hf,hn,ho,hd⟩,hr⟩:=hl
   have hL:L∈X.fs:=hs L (by unfold kI;rw [List.filterMap_cons,hf];exact List.mem_cons_self)
   obtain⟨sl,e⟩:=I.base.slot L o ho (I.ok.frf L hL) hL λz=>I.ok.exfs L z hL
   exact⟨hk,⟨L,_,hf,hn,e,hd⟩,ih (λb hb=>hs b (by unfold kI;rw [List.filterMap_cons,hf];exact List.mem_cons_of_mem _ hb)) hr⟩
 exact all X.outer (λ_ hb=>hb) I.ok.eU
theorem Inv.stack (I:Inv X pins σ H s):s.heap.FunFrames X.base X.stack:=by
 rcases I.ok.stk with e | ⟨e,hf⟩
 ·rw [e];exact I.eU
 ·rw [e]
  obtain⟨m,hn,_⟩:=I.loc
  refine .cons (by rw [I.ok.kind];decide) hf hn ?_ I.eU
  exact Heap.get?_none_of_le (Nat.le_trans I.ok.bsz I.ok.above)
theorem Inv.d3 (I:Inv X pins σ H s):∀ b∈kI X.stack,b∈X.env.locals::X.fs:=λb hb=>by
 rcases I.ok.stk with e | ⟨e,hf⟩
 ·rw [e] at hb;exact List.mem_cons_of_mem _ hb
 ·rw [e] at hb
  unfold kI at hb
  rw [List.filterMap_cons,hf] at hb
  exact hb
theorem Inv.jW (I:Inv X pins σ H s):∀ b∈kI X.stack,H b=none:=λb hb=>by
 rcases List.mem_cons.mp (I.d3 b hb) with e | hb
 ·rw [e];exact I.free
 ·obtain⟨_,o,ho,_⟩:=I.ok.eU.mem hb
  exact I.base.free b o ho (I.ok.frf b hb) λz=>I.ok.exfs b z hb
theorem Inv.step {g':Array GenState} {t':Nat} {d':Drawn} {ch:List Addr} (I:Inv X pins σ H s)
  (hch:∀ b∈ch,(b∈X.ex∨X.s₀.heap.objs.size<=b)/\b≠X.env.locals/\(∀ x c,X.env.cells.lookup x=some c->c≠b)/\∀ p∈X.pn++pins,p.1≠b)
  (keep:∀ b o,b≠X.env.locals->b∉X.fs->b∉ch->s.heap.get? b=some o->H b=none->h'.get? b=some o)
  (slot:∀ b o,b≠X.env.locals->b∈X.fs->b∉ch->s.heap.get? b=some o->H b=none->∃ sl,h'.get? b=some { o with slots:=sl }) (free:∀ b o,b∉ch->s.heap.get? b=some o->H b=none->H' b=none)
  (there:∀ b o,b∉ch->s.heap.get? b=some o->∃ o',h'.get? b=some o')
  (tups:∀ b xs,H b=some (.tup xs)->H' b=some (.tup xs)) (frzs:∀ b o u,H b=some (.frz o u)->H' b=some (.frz o u)) (tbls:∀ b ps,H b=some (.tbl ps)->∃ more,H' b=some (.tbl (ps++more)))
  (ns:∀ m,s.heap.Ns X.env.locals m->h'.Ns X.env.locals m) (hok:cC X.prog X.w H' h') (hg:AllBare g') :
  Inv X pins σ H' { s with heap:=h',gens:=g',drawn:=d',toks:=t' }:=by
 have neL:∀ b o,X.s₀.heap.get? b=some o->b≠X.env.locals:=λb o e=>Nat.ne_of_lt (Nat.lt_of_lt_of_le (Heap.lt_size e) I.ok.above)
 have neC:∀ b o,X.s₀.heap.get? b=some o->b∉X.ex->b∉ch:=λb o e hx hb=>by
  rcases (hch b hb).1 with z | z
  ·exact hx z
  ·exact absurd (Nat.lt_of_lt_of_le (Heap.lt_size e) z) (Nat.lt_irrefl _)
 have cellK:∀ x c,X.env.cells.lookup x=some c->∀ v,s.heap.IsCell c v->h'.IsCell c v:=λx c e v ⟨o,ho,hd⟩=>by
  have nch:c∉ch:=λz=>(hch c z).2.2.1 x c e rfl
  by_cases hc:c∈X.fs
  ·obtain⟨sl,q⟩:=slot c o (I.pB x c e) hc nch ho (I.freeC x c e)
   exact⟨_,q,hd⟩
  ·exact⟨o,keep c o (I.pB x c e) hc nch ho (I.freeC x c e),hd⟩
 refine⟨I.ok,I.os,hg,⟨λb o e n hb hx=>?_,λb o e n hb hx=>?_,λb o e n hx=>?_,λb o e hx=>?_,λb xs e=>tups b xs (I.base.tups b xs e),λb o xs e=>frzs b o xs (I.base.frzs b o xs e),λb ps e=>?_⟩,?_,λx c e=>?_,?_,λx c e=>?_,λp hp=>?_,hok,I.len⟩
 ·exact keep b o (neL b o e) hb (neC b o e hx) (I.base.keep b o e n hb hx) (I.base.free b o e n hx)
 ·obtain⟨sl,e1⟩:=I.base.slot b o e n hb hx
  obtain⟨sl',e2⟩:=slot b _ (neL b o e) hb (neC b o e hx) e1 (I.base.free b o e n hx)
  exact⟨sl',e2⟩
 ·obtain⟨o',e1⟩:=I.base.there b o e hx
  exact free b o' (neC b o e hx) e1 (I.base.free b o e n hx)
 ·obtain⟨o',e1⟩:=I.base.there b o e hx
  exact there b o' (neC b o e hx) e1
 ·obtain⟨m1,e1⟩:=I.base.tbls b ps e
  obtain⟨m2,e2⟩:=tbls b _ e1
  exact⟨m1++m2,by rw [e2,Array.append_assoc]⟩
 ·obtain⟨m,hn,hl⟩:=I.loc
  refine⟨m,ns m hn,λi x v e1 e2 e3=>?_⟩
  obtain⟨u,r,l⟩:=hl i x v e1 e2 e3
  refine⟨u,r,?_⟩
  rcases l with l | ⟨k,c,e,z⟩
  ·exact .inl l
  ·exact .inr ⟨k,c,e,cellK x c e _ z⟩
 ·obtain⟨v,z⟩:=I.cell x c e
  exact⟨v,cellK x c e v z⟩
 ·obtain⟨m,⟨o,_,_,ho,_⟩,_⟩:=I.loc
  exact free _ o (λz=>(hch _ z).2.1 rfl) ho I.free
 ·obtain⟨v,o,ho,hd⟩:=I.cell x c e
  exact free c o (λz=>(hch c z).2.2.1 x c e rfl) ho (I.freeC x c e)
 ·obtain⟨e,n,ne,nf,d⟩:=I.pin p hp
  have nch:p.1∉ch:=λz=>(hch p.1 z).2.2.2 p hp rfl
  exact⟨keep p.1 p.2 ne nf nch e n,free p.1 p.2 nch e n,ne,nf,d⟩
theorem Inv.un {t':Nat} (I:Inv X pins σ H s) (u:Un X.fs [] H H' s.heap h') (hok:cC X.prog X.w H' h'):Inv X pins σ H' { s with heap:=h',toks:=t' }:=by
 obtain⟨m,⟨o,es,ep,ho,r⟩,_⟩:=id I.loc
 obtain⟨sl,hL⟩:=u.any ho I.free (by simp)
 exact I.step (g':=s.gens) (d':=s.drawn) (ch:=[]) (λ_ z=>nomatch z) (λb o _ hb _ e n=>u.keep b o e n hb (by simp)) (λb o _ hb _ e n=>u.slot b o e n hb (by simp)) (λb o _ e n=>u.free b o e n (by simp)) (λb o _ e=>u.there b o e (by simp)) u.tups u.frzs u.tbls (λm' hm=>by
  obtain⟨o',es',ep',ho',r'⟩:=hm
  rw [ho] at ho';cases ho'
  exact⟨_,es',ep',hL,r'⟩) hok I.bare
theorem Inv.call {g':Array GenState} {t':Nat} {d':Drawn} {ch:List Addr} (I:Inv X pins σ H s) (u:Un (kI X.stack) ch H H' s.heap h') (hok:cC X.prog X.w H' h') (hg:AllBare g')
  (hch:∀ b∈ch,(b∈X.ex∨X.s₀.heap.objs.size<=b)/\b≠X.env.locals/\(∀ x c,X.env.cells.lookup x=some c->c≠b)/\∀ p∈X.pn++pins,p.1≠b) :
  Inv X pins σ H' { s with heap:=h',gens:=g',drawn:=d',toks:=t' }:=by
 obtain⟨m,⟨o,es,ep,ho,r⟩,_⟩:=id I.loc
 obtain⟨sl,hL⟩:=u.any ho I.free λz=>(hch _ z).2.1 rfl
 exact I.step (ch:=ch) hch (λb o hL hb hc e n=>u.keep b o e n (λz=>(List.mem_cons.mp (I.d3 b z)).elim hL hb) hc) (λb o _ _ hc e n=>u.any e n hc) (λb o hc e n=>u.free b o e n hc) (λb o hc e=>u.there b o e hc) u.tups u.frzs u.tbls (λm' hm=>by
  obtain⟨o',es',ep',ho',r'⟩:=hm
  rw [ho] at ho';cases ho'
  exact⟨_,es',ep',hL,r'⟩) hok hg
theorem Inv.turned {t':Nat} {it:Addr} (I:Inv X pins σ H s) (k:∀ b o,b≠it->s.heap.get? b=some o->h'.get? b=some o) (hn:H it=none) (hL:it≠X.env.locals)
  (h1:it∈X.ex∨X.s₀.heap.objs.size<=it) (h2:∀ x c,X.env.cells.lookup x=some c->c≠it) (h3:∀ p∈X.pn++pins,p.1≠it):Inv X pins σ H { s with heap:=h',toks:=t' }:=by
 have nit:∀ b u,H b=some u->b≠it:=λb u e z=>by rw [z,hn] at e;cases e
 refine I.step (g':=s.gens) (d':=s.drawn) (ch:=[it]) (λb hb=>?_) (λb o _ _ hc e _=>k b o (λz=>hc (by simp [z])) e) (λb o _ _ hc e _=>⟨o.slots,k b o (λz=>hc (by simp [z])) e⟩) (λ_ _ _ _ n=>n)
  (λb o hc e=>⟨o,k b o (λz=>hc (by simp [z])) e⟩) (λ_ _ e=>e) (λ_ _ _ e=>e) (λb ps e=>⟨#[],by rw [e];simp⟩) (λm hm=>?_) (λb u e=>?_) I.bare
 ·have e:b=it:=by simpa using hb
  subst e
  exact⟨h1,hL,h2,h3⟩
 ·obtain⟨o,es,ep,ho,r⟩:=hm
  exact⟨o,es,ep,k _ o (Ne.symm hL) ho,r⟩
 ·refine (I.hok b u e).iH (λc v hc q=>k c v ?_ q) (λ_ q=>q) λ_ _ q=>q
  rcases hc with z | z
  ·rw [z];exact nit b u e
  ·exact nit c _ z
theorem Inv.tok (I:Inv X pins σ H s) (t:Nat):Inv X pins σ H { s with toks:=t }:=I.un (h':=s.heap) (t':=t) Un.refl I.hok
theorem Inv.kept {t':Nat} (I:Inv X pins σ H s) (k:∀ b u,s.heap.get? b=some u->h'.get? b=some u):Inv X pins σ H { s with heap:=h',toks:=t' }:=I.un (Un.kept k) (I.hok.kept k)
theorem Inv.laid {a:Addr} {o:HO} {t':Nat} (I:Inv X pins σ H s) (k:∀ b u,s.heap.get? b=some u->h'.get? b=some u) (hp:s.heap.objs.size<=a) (new:aK X.prog X.w (upd H a o) h' a o) :
  Inv X pins σ (upd H a o) { s with heap:=h',toks:=t' }:=I.un (Un.laid k hp (I.hok.fresh hp)) (I.hok.laid k hp new)
theorem Inv.write {x e:Addr} {o:HO} {t':Nat} (I:Inv X pins σ H s) (mu:qV (H x)) (he:e=x∨H e=some (.own x)) (k:∀ b u,b≠e->s.heap.get? b=some u->h'.get? b=some u) (heo:∃ u,h'.get? e=some u)
  (new:aK X.prog X.w (upd H x o) h' x o):Inv X pins σ (upd H x o) { s with heap:=h',toks:=t' }:=I.un (Un.write mu he k heo) (I.hok.write mu he k heo new)
theorem Inv.weak {σ':List (Option V)} (I:Inv X pins σ H s) (hl:σ'.length=σ.length) (w:∀(i:Nat) v,σ'[i]?=some (some v)->σ[i]?=some (some v)):Inv X pins σ' H s :=
 ⟨I.ok,I.os,I.bare,I.base,let ⟨m,hn,hl'⟩:=I.loc;⟨m,hn,λi x v e1 e2 e3=>hl' i x v e1 (w i v e2) e3⟩,I.cell,I.free,I.freeC,I.pin,I.hok,hl.trans I.len⟩
theorem Inv.eI {pins':List (Addr × Obj)} (I:Inv X pins σ H s) (h:∀ p∈pins',s.heap.get? p.1=some p.2/\H p.1=none/\p.1≠X.env.locals/\p.1∉X.fs/\∀ v,p.2.data≠.cell v):Inv X pins' σ H s :=
 ⟨I.ok,I.os,I.bare,I.base,I.loc,I.cell,I.free,I.freeC,λp hp=>(List.mem_append.mp hp).elim (λz=>I.pin p (List.mem_append_left _ z)) (h p),I.hok,I.len⟩
theorem ir {N:List Str} (hN:N.Nodup) {i j:Nat} {x:Str} (a:N[i]?=some x) (b:N[j]?=some x):i=j:=by
 obtain⟨h1,e1⟩:=List.getElem?_eq_some_iff.mp a
 obtain⟨h2,e2⟩:=List.getElem?_eq_some_iff.mp b
 exact (List.getElem_inj hN).mp (e1.trans e2.symm)
theorem kF {M:Model} {A:Around} {E:Value->Shared->Prop} {i:Nat} {x:Str} {v:V} {u:Value} {Q:Unit->Shared->Prop} (I:Inv X pins σ H s) (hN:X.N.Nodup) (hi:X.N[i]?=some x) (hx:Loc X.env.scope x) (r:RelV v u)
  (h:∀ s',Inv X pins (σ.set i (some v)) H s'->(∃ a,Heap.SameBut a s.heap s'.heap/\(a=X.env.locals∨X.env.cells.lookup x=some a))->Q () s') (hf:X.fn x=true∨X.env.scope.names.lookup x=some .local:=by first | exact .inl rfl | exact .inr rfl | assumption):wpAny M A (storeName X.env x u) Q E s:=by
 obtain⟨m,hn,hl⟩:=id I.loc
 have hcls:(X.env.scope.kind==.class || (X.env.scope.kind==.module && X.env.locals != X.env.globals))=false:=by rw [I.ok.kind];rfl
 have hiσ:i<σ.length:=by rw [I.len];exact (List.getElem?_eq_some_iff.mp hi).1
 have pB:=I.pB
 have tracked:∀{a:Addr} {h':Heap},(∃ o,s.heap.get? a=some o/\H a=none)->Heap.SameBut a s.heap h'->cC X.prog X.w H h':=λ{a h'} ha hs b ob e=>by
  obtain⟨_,_,hfree⟩:=ha
  refine (I.hok b ob e).iH (λc w' hc q=>(hs.2 c ?_).trans q) (λ_ q=>q) λ_ _ q=>q
  rintro rfl
  rcases hc with rfl | hc
  ·rw [hfree] at e;cases e
  ·rw [hfree] at hc;cases hc
 rcases hx with hk | hk
 ·refine wpAny_storeName_local hk hn (λh' hn' hs=>?_) hcls
  obtain⟨oL,_,_,hoL,_⟩:=id hn
  refine h _ ⟨I.ok,I.os,I.bare,⟨λb o e n hb hx=>?_,λb o e n hb hx=>?_,I.base.free,λb o e hx=>?_,I.base.tups,I.base.frzs,I.base.tbls⟩,⟨_,hn',λj y v' e1 e2 e3=>?_⟩,λy c e=>?_,I.free,I.freeC,λp hp=>?_,tracked ⟨oL,hoL,I.free⟩ hs,by simpa using I.len⟩ ⟨_,hs,.inl rfl⟩
  ·exact (hs.2 b (Nat.ne_of_lt (Nat.lt_of_lt_of_le (Heap.lt_size e) I.ok.above))).trans (I.base.keep b o e n hb hx)
  ·obtain⟨sl,e1⟩:=I.base.slot b o e n hb hx
   exact⟨sl,(hs.2 b (Nat.ne_of_lt (Nat.lt_of_lt_of_le (Heap.lt_size e) I.ok.above))).trans e1⟩
  ·obtain⟨o',e1⟩:=I.base.there b o e hx
   exact⟨o',(hs.2 b (Nat.ne_of_lt (Nat.lt_of_lt_of_le (Heap.lt_size e) I.ok.above))).trans e1⟩
  ·by_cases hj:j=i
   ·subst hj
    rw [hi] at e1;cases e1
    rw [List.getElem?_set_self hiσ] at e2
    cases e2
    exact⟨u,r,.inl ⟨hk,by simp⟩⟩
   ·rw [List.getElem?_set_ne (Ne.symm hj)] at e2
    obtain⟨u',r',q⟩:=hl j y v' e1 e2 e3
    refine⟨u',r',?_⟩
    rcases q with⟨k,e⟩|⟨k,c,e,z⟩
    ·refine .inl ⟨k,?_⟩
     have:y≠x:=λe=>hj (ir hN e1 (e▸hi))
     simp [this,e]
    ·exact .inr ⟨k,c,e,z.sameBut hs (pB y c e)⟩
  ·obtain⟨w',z⟩:=I.cell y c e
   exact⟨w',z.sameBut hs (pB y c e)⟩
  ·obtain⟨e,n,ne,nf,d⟩:=I.pin p hp
   exact⟨(hs.2 p.1 ne).trans e,n,ne,nf,d⟩
 ·have hfn:X.fn x=true:=by
   rcases hf with z | z
   ·exact z
   ·rw [z] at hk;cases hk
  obtain⟨c,hc⟩:=I.ok.has x (.inl hk)
  obtain⟨w',z⟩:=I.cell x c hc
  refine wpAny_storeName_cell I.ok.kind hk hc z (λh' hc' hs=>?_)
  obtain⟨oc,hoc,hocd⟩:=id z
  refine h { s with heap:=h' } ⟨I.ok,I.os,I.bare,⟨λb o e n hb hx=>?_,λb o e n hb hx=>?_,I.base.free,λb o e hx=>?_,I.base.tups,I.base.frzs,I.base.tbls⟩,⟨m,hn.sameBut hs (Ne.symm (pB x c hc)),λj y v' e1 e2 e3=>?_⟩,λy c' e=>?_,I.free,I.freeC,λp hp=>?_,tracked ⟨oc,hoc,I.freeC x c hc⟩ hs,by simpa using I.len⟩ ⟨c,hs,.inr hc⟩
  ·exact (hs.2 b (Nat.ne_of_lt (Nat.lt_of_lt_of_le (Heap.lt_size e) (I.ok.cab x c hfn hc)))).trans (I.base.keep b o e n hb hx)
  ·obtain⟨sl,e1⟩:=I.base.slot b o e n hb hx
   exact⟨sl,(hs.2 b (Nat.ne_of_lt (Nat.lt_of_lt_of_le (Heap.lt_size e) (I.ok.cab x c hfn hc)))).trans e1⟩
  ·obtain⟨o',e1⟩:=I.base.there b o e hx
   exact⟨o',(hs.2 b (Nat.ne_of_lt (Nat.lt_of_lt_of_le (Heap.lt_size e) (I.ok.cab x c hfn hc)))).trans e1⟩
  ·by_cases hj:j=i
   ·subst hj
    rw [hi] at e1;cases e1
    rw [List.getElem?_set_self hiσ] at e2
    cases e2
    exact⟨u,r,.inr ⟨.inl hk,c,hc,hc'⟩⟩
   ·rw [List.getElem?_set_ne (Ne.symm hj)] at e2
    obtain⟨u',r',q⟩:=hl j y v' e1 e2 e3
    refine⟨u',r',?_⟩
    rcases q with q | ⟨k,c',e,z'⟩
    ·exact .inl q
    ·refine .inr ⟨k,c',e,z'.sameBut hs ?_⟩
     rintro rfl
     exact hj (ir hN e1 (I.ok.inj _ _ _ e hc▸hi))
  ·by_cases hcc:c'=c
   ·subst hcc;exact⟨_,hc'⟩
   ·obtain⟨w2,z2⟩:=I.cell y c' e
    exact⟨w2,z2.sameBut hs hcc⟩
  ·obtain⟨e,n,ne,nf,d⟩:=I.pin p hp
   refine⟨(hs.2 p.1 ?_).trans e,n,ne,nf,d⟩
   intro q
   rw [q,hoc] at e
   have q':oc=p.2:=Option.some.inj e
   exact d w' (by rw [<- q'];exact hocd)
theorem fA {M:Model} {A:Around} {E:Value->Shared->Prop} {i:Nat} {x:Str} {v:V} {u:Value} {Q:Unit->Shared->Prop} (I:Inv X pins σ H s) (hN:X.N.Nodup) (hi:X.N[i]?=some x) (hx:Loc X.env.scope x) (r:RelV v u)
  (h:∀ s',Inv X pins (σ.set i (some v)) H s'->Q () s') (hf:X.fn x=true∨X.env.scope.names.lookup x=some .local:=by first | exact .inl rfl | exact .inr rfl | assumption):wpAny M A (storeName X.env x u) Q E s :=
 kF I hN hi hx r (λs' I' _=>h s' I') hf
theorem Inv.qZ {s':Shared} {ch:List Addr} (I:Inv X pins σ H s) (ho:s'.os=s.os) (u:Un (kI X.stack) ch H H' s.heap s'.heap) (hok:cC X.prog X.w H' s'.heap) (hg:AllBare s'.gens)
  (hch:∀ b∈ch,(b∈X.ex∨X.s₀.heap.objs.size<=b)/\b≠X.env.locals/\(∀ x c,X.env.cells.lookup x=some c->c≠b)/\∀ p∈X.pn++pins,p.1≠b):Inv X pins σ H' s':=by
 obtain⟨h',g',d',t',o'⟩:=s'
 have e:o'=s.os:=ho
 subst e
 exact I.call (g':=g') (t':=t') (d':=d') u hok hg hch
end
abbrev XK:=Value->Option Addr->Hp->Prop
abbrev St:=List (Option V)
abbrev VK:=V->Hp->Prop
abbrev TE:=St->Hp->VK->Prop
abbrev TT:=St->Hp->(Bool->Hp->Prop)->Prop
abbrev TA:=St->Hp->(List V->Hp->Prop)->Prop
structure Ends where
 nx:St->Hp->Prop
 rt:VK
 bk:St->Hp->Prop:=λ_ _=>False
 ct:St->Hp->Prop:=λ_ _=>False
abbrev TS:=Ends->St->Hp->Prop
def EP (X:Cx) (pins:List (Addr × Obj)) (σ:St) (Q:VK) (u:Value) (s':Shared):Prop:=∃ v H',Inv X pins σ H' s'/\RelV v u/\Q v H'
def TP (X:Cx) (pins:List (Addr × Obj)) (σ:St) (Q:Bool->Hp->Prop) (b:Bool) (s':Shared):Prop:=∃ H',Inv X pins σ H' s'/\Q b H'
def AP (X:Cx) (pins:List (Addr × Obj)) (σ:St) (Q:List V->Hp->Prop) (us:List Value) (s':Shared):Prop:=∃ vs H',Inv X pins σ H' s'/\Vals vs us/\Q vs H'
def SP (X:Cx) (pins:List (Addr × Obj)) (D:Ends) (f:Flow) (s':Shared):Prop :=
 match f with
 | .next=>∃ σ' H',Inv X pins σ' H' s'/\D.nx σ' H'
 | .brk=>∃ σ' H',Inv X pins σ' H' s'/\D.bk σ' H'
 | .cont=>∃ σ' H',Inv X pins σ' H' s'/\D.ct σ' H'
 | .ret u=>∃ v σ' H',Inv X pins σ' H' s'/\RelV v u/\D.rt v H'
def PE (X:Cx) (e:Expr) (t:TE):Prop :=
 ∀(pins:List (Addr × Obj)) (s:Shared) (σ:St) (H:Hp) (Q:VK),Inv X pins σ H s->t σ H Q->wpAny (model X.prog X.w) X.A (eval e X.env) (EP X pins σ Q) X.xe s
def PT (X:Cx) (e:Expr) (t:TT):Prop :=
 ∀(pins:List (Addr × Obj)) (s:Shared) (σ:St) (H:Hp) (Q:Bool->Hp->Prop),Inv X pins σ H s->t σ H Q->wpAny (model X.prog X.w) X.A (isTrue e X.env (eval e X.env)) (TP X pins σ Q) X.xe s
def PW (X:Cx) (e:Expr) (t:TT):Prop :=
 ∀(whole:Sem Value) (pins:List (Addr × Obj)) (s:Shared) (σ:St) (H:Hp) (Q:Bool->Hp->Prop),Inv X pins σ H s->t σ H Q->wpAny (model X.prog X.w) X.A (isTrue e X.env whole) (TP X pins σ Q) X.xe s
theorem PW.pt {X:Cx} {e:Expr} {t:TT} (h:PW X e t):PT X e t:=h _
def PA (X:Cx) (es:List Expr) (t:TA):Prop :=
 ∀(pos:Pos) (pins:List (Addr × Obj)) (s:Shared) (σ:St) (H:Hp) (Q:List V->Hp->Prop),Inv X pins σ H s->t σ H Q->wpAny (model X.prog X.w) X.A (spliced (backTo pos (starEach es X.env))) (AP X pins σ Q) X.xe s
def PS (X:Cx) (st:Stmt) (t:TS):Prop :=
 ∀(pins:List (Addr × Obj)) (s:Shared) (σ:St) (H:Hp) (D:Ends),Inv X pins σ H s->t D σ H->wpAny (model X.prog X.w) X.A (exec st X.env) (SP X pins D) X.xe s
def gq (X:Cx) (st:List Stmt) (t:TS):Prop :=
 ∀(pins:List (Addr × Obj)) (s:Shared) (σ:St) (H:Hp) (D:Ends),Inv X pins σ H s->t D σ H->wpAny (model X.prog X.w) X.A (execs st X.env) (SP X pins D) X.xe s
theorem a8 {α:Type} {t:Sem α} {Q Q':α->Shared->Prop} {M:Model} {A:Around} {E:Value->Shared->Prop} {s:Shared} (h:wpAny M A t Q E s) (hQ:∀ a s,Q a s->Q' a s):wpAny M A t Q' E s:=wpAny_mono h hQ λ_ _ x=>x
section
variable {X:Cx}
def cE (i:Nat):TE:=λσ H Q=>∃ v,σ[i]?=some (some v)/\Q v H
def tC (v:V):TE:=λ_ H Q=>Q v H
theorem qg {i:Nat} {x:Str} {pos:Pos} (hN:X.N[i]?=some x) (hv:qL X.env.scope x) (hd:(x==("__debug__":Str))=false:=by decide) (hcd:(x==("__classdict__":Str))=false:=by decide):PE X (.Name x pos) (cE i):=by
 intro pins s σ H Q I h
 obtain⟨v,e,h⟩:=h
 obtain⟨m,hn,hl⟩:=I.loc
 obtain⟨u,r,l⟩:=hl i x v hN e hv
 have fin:EP X pins σ Q u s:=⟨v,H,I,r,h⟩
 rcases l with⟨hk,hm⟩|⟨hk,c,hc,hcell⟩
 ·exact wpAny_Name (wpAny_loadName_local I.ok.kind hk hn hm fin) hd
 ·rcases hk with hk | hk
  ·exact wpAny_Name (wpAny_loadName_cell I.ok.kind hk hc hcell fin) hd
  ·exact wpAny_Name (wpAny_loadName_free I.ok.kind hk hc hcell fin hcd) hd
theorem ag {i j pos}:PE X (.Constant (.int i) j pos) (tC (.int i)):=λ_ _ _ H _ I h=>wpAny_Constant_int ⟨.int i,H,I.tok _,⟨_,rfl⟩,h⟩
theorem jJ {b j pos}:PE X (.Constant (.bool b) j pos) (tC (.bl b)):=λ_ _ _ H _ I h=>Constant_bool ⟨.bl b,H,I,rfl,h⟩
theorem gN {j pos}:PE X (.Constant .none j pos) (tC .a9):=λ_ _ _ H _ I h=>Constant_none ⟨.a9,H,I,rfl,h⟩
theorem au {x j pos}:PE X (.Constant (.str x) j pos) (tC (.str x)):=λ_ _ _ H _ I h=>Calls.Constant_str ⟨.str x,H,I.tok _,⟨_,rfl⟩,h⟩
def Gl (X:Cx) (x:Str):Prop:=X.env.kindOf x=some .globalImplicit
theorem jD {E:Value->Shared->Prop} {pins:List (Addr × Obj)} {s:Shared} {σ:St} {H:Hp} {x:Str} {u:Value} {pos:Pos} {Q:Value->Shared->Prop} (I:Inv X pins σ H s) (hg:Gl X x) (hm:X.mg x=some u) (h:Q u s)
  (hd:(x==("__debug__":Str))=false:=by decide):wpAny (model X.prog X.w) X.A (eval (.Name x pos) X.env) Q E s :=
 Calls.Name_function_global I.ok.kind hg (Calls.loadGlobal_global (by rw [I.ok.glob];exact I.mod.glob.keeps I.bk) hm h) hd
theorem e7 {E:Value->Shared->Prop} {pins:List (Addr × Obj)} {s:Shared} {σ:St} {H:Hp} {x:Str} {u:Value} {pos:Pos} {Q:Value->Shared->Prop} (I:Inv X pins σ H s) (hg:Gl X x) (hm:X.mg x=none) (hv:bootBuiltins x=some u) (h:Q u s)
  (hn:x ≠ "__name__":=by decide) (hd:(x==("__debug__":Str))=false:=by decide):wpAny (model X.prog X.w) X.A (eval (.Name x pos) X.env) Q E s:=by
 obtain⟨mb,h1,h2⟩:=I.mod.blt
 exact Calls.Name_function_global I.ok.kind hg (Calls.loadGlobal_builtin (by rw [I.ok.glob];exact I.mod.glob.keeps I.bk) hm (by rw [I.ok.blt];exact h1.keeps I.bk) ((h2 x hn).trans hv) h) hd
theorem cA {x:Str} {v:V} {u:Value} {pos:Pos} (hg:Gl X x) (hm:X.mg x=some u) (r:RelV v u) (hd:(x==("__debug__":Str))=false:=by decide):PE X (.Name x pos) (tC v) :=
 λ_ _ _ H _ I h=>jD I hg hm ⟨v,H,I,r,h⟩ hd
theorem aU {x:Str} {v:V} {u:Value} {pos:Pos} (hg:Gl X x) (hm:X.mg x=none) (hv:bootBuiltins x=some u) (r:RelV v u) (hn:x ≠ "__name__":=by decide) (hd:(x==("__debug__":Str))=false:=by decide):PE X (.Name x pos) (tC v) :=
 λ_ _ _ H _ I h=>e7 I hg hm hv ⟨v,H,I,r,h⟩ hn hd
variable {a b:Expr} {ta tb:TE} {pos:Pos}
def tB (t:TE):TT:=λσ H Q=>t σ H λx H1=>∃ c,x=.bl c/\Q c H1
variable {tA tB':TT} {rest:List Expr}
def rX (t u:TT):TT:=λσ H Q=>t σ H λc H1=>if c=true then u σ H1 Q else Q false H1
def uj (t u:TT):TT:=λσ H Q=>t σ H λc H1=>if c=true then Q true H1 else u σ H1 Q
def so (t:TT):TT:=λσ H Q=>t σ H λc H1=>Q (!c) H1
theorem jL (ha:PT X a tA):PW X (.BoolOp .And [a] pos) tA:=by
 intro wh pins s σ H Q I h
 refine isTrue_and (a8 (ha pins s σ H Q I h) λc s1 e=>?_)
 cases c with
 | true=>exact isTrue_and_nil e
 | false=>exact e
theorem cp (ha:PT X a tA):PW X (.BoolOp .Or [a] pos) tA:=by
 intro wh pins s σ H Q I h
 refine isTrue_or (a8 (ha pins s σ H Q I h) λc s1 e=>?_)
 cases c with
 | false=>exact isTrue_or_nil e
 | true=>exact e
theorem gR (ha:PT X a tA) (hb:PW X (.BoolOp .And (b::rest) pos) tB'):PW X (.BoolOp .And (a::b::rest) pos) (rX tA tB'):=by
 intro wh pins s σ H Q I h
 refine isTrue_and (a8 (ha pins s σ H _ I h) λc s1 ⟨H1,I1,q1⟩=>?_)
 cases c with
 | true=>exact hb wh pins s1 σ H1 Q I1 q1
 | false=>exact⟨H1,I1,q1⟩
theorem eh (ha:PT X a tA) (hb:PW X (.BoolOp .Or (b::rest) pos) tB'):PW X (.BoolOp .Or (a::b::rest) pos) (uj tA tB'):=by
 intro wh pins s σ H Q I h
 refine isTrue_or (a8 (ha pins s σ H _ I h) λc s1 ⟨H1,I1,q1⟩=>?_)
 cases c with
 | true=>exact⟨H1,I1,q1⟩
 | false=>exact hb wh pins s1 σ H1 Q I1 q1
theorem ja (ha:PT X a tA):PT X (.UnaryOp .Not a pos) (so tA):=by
 intro pins s σ H Q I h
 exact isTrue_not (ha pins s σ H (λc H1=>Q (!c) H1) I h)
def oW (ta tb:TE):TE:=λσ H Q=>ta σ H λx H1=>∃ c,x=.bl c/\if c=true then tb σ H1 Q else Q (.bl false) H1
def su (ta tb:TE):TE:=λσ H Q=>ta σ H λx H1=>∃ c,x=.bl c/\if c=true then Q (.bl true) H1 else tb σ H1 Q
def sr (ta:TE):TE:=λσ H Q=>ta σ H λx H1=>∃ c,x=.bl c/\Q (.bl (!c)) H1
theorem cW {op} {t:TE} (h:PE X a t):PE X (.BoolOp op [a] pos) t:=λpins s σ H Q I hw=>BoolOp_one (h pins s σ H Q I hw)
theorem dU (ha:PE X a ta) (hb:PE X (.BoolOp .And (b::rest) pos) tb):PE X (.BoolOp .And (a::b::rest) pos) (oW ta tb):=by
 intro pins s σ H Q I h
 refine BoolOp_and (a8 (ha pins s σ H _ I h) λv s1 ⟨x,H1,I1,r1,q1⟩=>?_)
 obtain⟨c,rfl,q1⟩:=q1
 cases r1
 refine wpAny_truthy_bool ?_
 cases c with
 | true=>exact hb pins s1 σ H1 Q I1 q1
 | false=>exact⟨.bl false,H1,I1,rfl,q1⟩
theorem rR (ha:PE X a ta) (hb:PE X (.BoolOp .Or (b::rest) pos) tb):PE X (.BoolOp .Or (a::b::rest) pos) (su ta tb):=by
 intro pins s σ H Q I h
 refine BoolOp_or (a8 (ha pins s σ H _ I h) λv s1 ⟨x,H1,I1,r1,q1⟩=>?_)
 obtain⟨c,rfl,q1⟩:=q1
 cases r1
 refine wpAny_truthy_bool ?_
 cases c with
 | false=>exact hb pins s1 σ H1 Q I1 q1
 | true=>exact⟨.bl true,H1,I1,rfl,q1⟩
def tO (t:TT) (ta tb:TE):TE:=λσ H Q=>t σ H λc H1=>if c=true then ta σ H1 Q else tb σ H1 Q
theorem bH {c:Expr} (hc:PT X c tA) (ha:PE X a ta) (hb:PE X b tb):PE X (.IfExp c a b pos) (tO tA ta tb):=by
 intro pins s σ H Q I h
 refine wpAny_IfExp (a8 (hc pins s σ H _ I h) λd s1 ⟨H1,I1,q1⟩=>?_)
 cases d with
 | true=>exact ha pins s1 σ H1 Q I1 q1
 | false=>exact hb pins s1 σ H1 Q I1 q1
end
def aS (K:PySem.W.Frag) (H:Hp) (a:Addr) (xs:List V):Prop :=
 Rd H a (.lst xs) ∨
  ∃(o:Obj) (its:Array Value) (n:Nat),K.lookup a=some o/\o.cls=.type "list"/\o.dict=none/\o.data=.seq its n/\its.size<=sizeLine/\Vals xs its.toList
def aT (K:PySem.W.Frag) (H:Hp) (a:Addr) (xs:List V):Prop :=
 Rd H a (.tup xs) ∨
  ∃(o:Obj) (its:Array Value) (n:Nat),K.lookup a=some o/\o.cls=.type "tuple"/\o.data=.seq its n/\its.size<=sizeLine/\Vals xs its.toList
def tf:Value->Option V
 | .none=>some .a9
 | .bool b=>some (.bl b)
 | .int i _=>some (.int i)
 | .str x _=>some (.str x)
 | .bytes b _=>some (.byt b)
 | .float b _=>some (.flt b)
 | .ref a=>some (.ref a)
 | .type n=>some (.ty n)
 | _=>none
theorem RelV.abs {x:V} {u:Value} (r:RelV x u):tf u=some x:=by
 cases x with
 | a9=>cases r;rfl
 | bl _=>cases r;rfl
 | int _=>obtain⟨t,rfl⟩:=r;rfl
 | str _=>obtain⟨t,rfl⟩:=r;rfl
 | byt _=>obtain⟨t,rfl⟩:=r;rfl
 | flt _=>obtain⟨t,rfl⟩:=r;rfl
 | ref _=>cases r;rfl
 | ty _=>cases r;rfl
theorem RelV.inj {x y:V} {u:Value} (r:RelV x u) (q:RelV y u):x=y:=Option.some.inj (r.abs.symm.trans q.abs)
theorem Vals.inj:∀{xs ys:List V} {us:List Value},Vals xs us->Vals ys us->xs=ys
 | _,_,_,.nil,.nil=>rfl
 | _,_,_,.cons r t,.cons r' t'=>by rw [r.inj r',Vals.inj t t']
section
variable {X:Cx} {pins:List (Addr × Obj)} {σ:St} {H:Hp} {s:Shared} {a:Addr} {xs ys:List V}
theorem aS.of {K:PySem.W.Frag} (h:H a=some (.lst xs)):aS K H a xs:=.inl (.inl h)
theorem aT.of {K:PySem.W.Frag} (h:H a=some (.tup xs)):aT K H a xs:=.inl (.inl h)
theorem Inv.list (I:Inv X pins σ H s) (h:aS X.K H a xs):∃ its:List Value,Vals xs its/\PlainL s.heap a its.toArray/\xs.length<=sizeLine:=by
 rcases h with h | ⟨o,its,n,hk,hc,hd,hs,hz,r⟩
 ·obtain⟨z,its,n,r,e⟩:=h.ok I.hok
  exact⟨its,r,⟨_,n,e,rfl,rfl,rfl⟩,z⟩
 ·refine⟨its.toList,r,⟨o,n,I.eC a o hk,hc,hd,by simpa using hs⟩,?_⟩
  have e:=r.length
  simp only [Array.length_toList] at e
  omega
theorem Inv.tuple (I:Inv X pins σ H s) (h:aT X.K H a xs):∃ its:List Value,Vals xs its/\IsTup s.heap a its.toArray/\xs.length<=sizeLine:=by
 rcases h with h | ⟨o,its,n,hk,hc,hs,hz,r⟩
 ·obtain⟨z,its,r,p⟩:=h.ok I.hok
  exact⟨its,r,p,z⟩
 ·refine⟨its.toList,r,⟨o,I.eC a o hk,hc,n,by simpa using hs⟩,?_⟩
  have e:=r.length
  simp only [Array.length_toList] at e
  omega
theorem Inv.ik (I:Inv X pins σ H s) (h:aS X.K H a xs) (h':aS X.K H a ys):xs=ys:=by
 obtain⟨its,r,⟨o,n,e,_,_,d⟩,_⟩:=I.list h
 obtain⟨its',r',⟨o',n',e',_,_,d'⟩,_⟩:=I.list h'
 rw [e] at e';cases e'
 rw [d] at d'
 injection d' with d1 _
 have:its=its':=by simpa using congrArg Array.toList d1
 subst this
 exact r.inj r'
theorem Inv.gi (I:Inv X pins σ H s) (h:aT X.K H a xs) (h':aT X.K H a ys):xs=ys:=by
 obtain⟨its,r,⟨o,e,_,n,d⟩,_⟩:=I.tuple h
 obtain⟨its',r',⟨o',e',_,n',d'⟩,_⟩:=I.tuple h'
 rw [e] at e';cases e'
 rw [d] at d'
 injection d' with d1 _
 have:its=its':=by simpa using congrArg Array.toList d1
 subst this
 exact r.inj r'
end
abbrev Cx.eF (X:Cx) (E:Value->Shared->Prop):Cx:={ X with xe:=E }
abbrev Cx.kx (X:Cx):Cx:=X.eF λ_ _=>False
theorem Cx.Ok.eF {X:Cx} (ok:X.Ok) (E:Value->Shared->Prop):(X.eF E).Ok :=
 ⟨ok.mod,ok.kind,ok.glob,ok.blt,ok.above,ok.inj,ok.has,ok.cab,ok.hd,ok.frames,ok.stk,ok.exf,ok.bs,ok.bsz,ok.noex,ok.exfs,ok.eU,ok.frf⟩
theorem Cx.Ok.bS {X:Cx} {E:Value->Shared->Prop} (ok:(X.eF E).Ok):X.Ok :=
 ⟨ok.mod,ok.kind,ok.glob,ok.blt,ok.above,ok.inj,ok.has,ok.cab,ok.hd,ok.frames,ok.stk,ok.exf,ok.bs,ok.bsz,ok.noex,ok.exfs,ok.eU,ok.frf⟩
section
variable {X:Cx} {pins:List (Addr × Obj)} {σ:St} {H:Hp} {s:Shared} {E:Value->Shared->Prop}
theorem Inv.eF (I:Inv X pins σ H s) (E:Value->Shared->Prop):Inv (X.eF E) pins σ H s:=⟨I.ok.eF E,I.os,I.bare,I.base,I.loc,I.cell,I.free,I.freeC,I.pin,I.hok,I.len⟩
theorem Inv.bS (I:Inv (X.eF E) pins σ H s):Inv X pins σ H s:=⟨I.ok.bS,I.os,I.bare,I.base,I.loc,I.cell,I.free,I.freeC,I.pin,I.hok,I.len⟩
theorem SP.bS {D:Ends} {f:Flow} {s':Shared} (h:SP (X.eF E) pins D f s'):SP X pins D f s':=by
 cases f with
 | next=>obtain⟨σ',H',I,q⟩:=h;exact⟨σ',H',I.bS,q⟩
 | brk=>obtain⟨σ',H',I,q⟩:=h;exact⟨σ',H',I.bS,q⟩
 | cont=>obtain⟨σ',H',I,q⟩:=h;exact⟨σ',H',I.bS,q⟩
 | ret u=>obtain⟨v,σ',H',I,r,q⟩:=h;exact⟨v,σ',H',I.bS,r,q⟩
theorem PE.kx {e:Expr} {t:TE} (h:PE X.kx e t):PE X e t:=λpins s σ H Q I hw =>
 wpAny_mono (h pins s σ H Q (I.eF _) hw) (λ_ _ ⟨v,H',I',r,q⟩=>⟨v,H',I'.bS,r,q⟩) λ_ _ z=>False.elim z
theorem PT.kx {e:Expr} {t:TT} (h:PT X.kx e t):PT X e t:=λpins s σ H Q I hw =>
 wpAny_mono (h pins s σ H Q (I.eF _) hw) (λ_ _ ⟨H',I',q⟩=>⟨H',I'.bS,q⟩) λ_ _ z=>False.elim z
theorem gq.kx {st:List Stmt} {t:TS} (h:gq X.kx st t):gq X st t:=λpins s σ H D I hw =>
 wpAny_mono (h pins s σ H D (I.eF _) hw) (λ_ _ q=>q.bS) λ_ _ z=>False.elim z
end
section
variable {X:Cx} {st:Stmt} {rest:List Stmt} {t u:TS} {e:Expr} {te:TE} {pos:Pos}
def o7:TS:=λD σ H=>D.nx σ H
def b9 (t u:TS):TS:=λD σ H=>t { D with nx:=u D } σ H
theorem aB:gq X [] o7:=λ_ _ σ H _ I h=>wpAny_execs_nil ⟨σ,H,I,h⟩
theorem af (h1:PS X st t) (h2:gq X rest u):gq X (st::rest) (b9 t u):=by
 intro pins s σ H D I h
 refine wpAny_execs_cons (a8 (h1 pins s σ H { D with nx:=u D } I h) λf s1 q=>?_)
 cases f with
 | next =>
  obtain⟨σ',H',I',q⟩:=q
  exact h2 pins s1 σ' H' D I' q
 | ret v=>exact q
 | brk=>exact q
 | cont=>exact q
theorem ai (h1:PS X st t):gq X [st] t:=by
 intro pins s σ H D I h
 refine wpAny_execs_cons (a8 (h1 pins s σ H D I h) λf s1 q=>?_)
 cases f with
 | next=>exact wpAny_execs_nil q
 | ret v=>exact q
 | brk=>exact q
 | cont=>exact q
theorem Inv.quiet {pins:List (Addr × Obj)} {σ:St} {H:Hp} {s:Shared} (I:Inv X pins σ H s):interactive X.env=false:=by simp [interactive,I.ok.kind]
def oZ (te:TE):TS:=λD σ H=>te σ H λ_ H1=>D.nx σ H1
theorem dk (he:PE X e te) (hs:swapsWith e none pos.line X.env=pure false:=by rfl):PS X (.Expr e pos) (oZ te):=by
 intro pins s σ H D I h
 exact wpAny_Expr_any (a8 (he pins s σ H _ I h) λv s1 ⟨x,H1,I1,r1,q1⟩=>⟨σ,H1,I1,q1⟩) I.quiet hs
def qE (te:TE):TS:=λD σ H=>te σ H D.rt
theorem aw (he:PE X e te):PS X (.Return (some e) pos) (qE te):=by
 intro pins s σ H D I h
 exact wpAny_Return_some (a8 (he pins s σ H _ I h) λv s1 ⟨x,H1,I1,r1,q1⟩=>⟨x,σ,H1,I1,r1,q1⟩)
def sy:TS:=λD _ H=>D.rt .a9 H
def qA (c:TT) (t u:TS):TS:=λD σ H=>c σ H λb H1=>if b=true then t D σ H1 else u D σ H1
theorem aM {c:Expr} {a b:List Stmt} {tc:TT} (hc:PT X c tc) (ha:gq X a t) (hb:gq X b u):PS X (.If c a b pos) (qA tc t u):=by
 intro pins s σ H D I h
 refine wpAny_If (a8 (hc pins s σ H _ I h) λd s1 ⟨H1,I1,q1⟩=>?_)
 cases d with
 | true=>exact ha pins s1 σ H1 D I1 q1
 | false=>exact hb pins s1 σ H1 D I1 q1
end
abbrev TG:=V->St->Hp->(St->Hp->Prop)->Prop
abbrev ox:=List V->St->Hp->(St->Hp->Prop)->Prop
def PG (X:Cx) (target:Expr) (t:TG):Prop :=
 ∀(pins:List (Addr × Obj)) (s:Shared) (σ:St) (H:Hp) (v:V) (u:Value) (Q:St->Hp->Prop),Inv X pins σ H s->RelV v u->t v σ H Q ->
  wpAny (model X.prog X.w) X.A (assign target X.env u) (λ_ s'=>∃ σ' H',Inv X pins σ' H' s'/\Q σ' H') X.xe s
def qX (X:Cx) (ts:List Expr) (t:ox):Prop :=
 ∀(pins:List (Addr × Obj)) (s:Shared) (σ:St) (H:Hp) (vs:List V) (us:List Value) (Q:St->Hp->Prop),Inv X pins σ H s->Vals vs us->t vs σ H Q ->
  wpAny (model X.prog X.w) X.A (assignInOrder ((assignEach ts X.env).map (·.2)) us) (λ_ s'=>∃ σ' H',Inv X pins σ' H' s'/\Q σ' H') X.xe s
abbrev sW:=V->V->V->Hp->(Hp->Prop)->Prop
abbrev sV:=V->V->Hp->VK->Prop
def t7 (X:Cx) (op:Operator) (t:sV):Prop :=
 ∀(pins:List (Addr × Obj)) (s:Shared) (σ:St) (H:Hp) (x y:V) (v u:Value) (Q:VK),Inv X pins σ H s->RelV x v->RelV y u->t x y H Q ->
  wpAny (model X.prog X.w) X.A (inplaceOp op v u) (EP X pins σ Q) X.xe s
section
variable {X:Cx} {pos:Pos}
def cf (i:Nat):TG:=λv σ H Q=>Q (σ.set i (some v)) H
theorem bE {i:Nat} {x:Str} (hN:X.N.Nodup) (hi:X.N[i]?=some x) (hx:Loc X.env.scope x) (hf:X.fn x=true∨X.env.scope.names.lookup x=some .local:=by first | exact .inl rfl | exact .inr rfl | assumption):PG X (.Name x pos) (cf i):=by
 intro pins s σ H v u Q I r h
 exact wpAny_assign_Name (fA I hN hi hx r (λs' I'=>⟨_,H,I',h⟩) hf)
def pI:ox:=λvs σ H Q=>vs=[]/\Q σ H
def jx (t:TG) (u:ox):ox:=λvs σ H Q=>∃ v r,vs=v::r/\t v σ H λσ' H'=>u r σ' H' Q
theorem nI:qX X [] pI:=by
 intro pins s σ H vs us Q I r h
 obtain⟨e,h⟩:=h
 subst e
 cases r
 exact assignInOrder_nil ⟨σ,H,I,h⟩
theorem iA {e:Expr} {es:List Expr} {t:TG} {u:ox} (h1:PG X e t) (h2:qX X es u)
  (hs:(assignEach (e::es) X.env).map (·.2)=assign e X.env::(assignEach es X.env).map (·.2):=by rfl):qX X (e::es) (jx t u):=by
 intro pins s σ H vs us Q I r h
 obtain⟨v,vr,e1,h⟩:=h
 subst e1
 cases r with
 | cons r rr =>
  rw [hs]
  refine assignInOrder_cons (a8 (h1 pins s σ H _ _ _ I r h) λ_ s1 ⟨σ1,H1,I1,q1⟩=>?_)
  exact h2 pins s1 σ1 H1 _ _ Q I1 rr q1
def mT (K:PySem.W.Frag) (n:Nat) (t:ox):TG:=λv σ H Q=>∃ a xs,v=.ref a/\aT K H a xs/\xs.length=n/\t xs σ H Q
theorem qh {es:List Expr} {k:Nat} {t:ox} {n:Nat} (hc:X.calm=true) (h:qX X es t)
  (hn:(assignEach es X.env).length=n:=by rfl) (hst:(assignEach es X.env).findIdx? (·.1)=none:=by rfl):PG X (.Tuple es k pos) (mT X.K n t):=by
 intro pins s σ H v u Q I r hw
 obtain⟨a,xs,e1,hq,hl,hw⟩:=hw
 subst e1
 cases r
 obtain⟨its,rv,ht,hz⟩:=I.tuple hq
 refine assign_Tuple_tuple (I.ok.hd hc) ht (by simp [hn,<- hl,rv.length]) hst λh' hx=>?_
 have I1:Inv X pins σ H { s with heap:=h' }:=I.kept (t':=s.toks) λb o e=>hx b o (Nat.ne_of_lt (Heap.lt_size e)) e
 exact h pins _ σ H xs _ Q I1 (by simpa using rv) hw
def tm (to ti:TE) (t:sW):TG:=λv σ H Q=>to σ H λo H1=>ti σ H1 λi H2=>t o i v H2 λH3=>Q σ H3
def oh (te:TE) (g:TG):TS:=λD σ H=>te σ H λx H1=>g x σ H1 D.nx
theorem qk {i:Nat} {x:Str} {e:Expr} {te:TE} {pos':Pos} (hN:X.N.Nodup) (hi:X.N[i]?=some x) (hx:Loc X.env.scope x) (he:PE X e te) (hs:swapsWith e (some (.Name x pos')) pos.line X.env=pure false:=by rfl) (hf:X.fn x=true∨X.env.scope.names.lookup x=some .local:=by first | exact .inl rfl | exact .inr rfl | assumption) :
  PS X (.Assign [.Name x pos'] e pos) (oh te (cf i)):=by
 intro pins s σ H D I h
 refine wpAny_Assign_Name (a8 (he pins s σ H _ I h) λv s1 ⟨y,H1,I1,r1,q1⟩=>?_) hs
 exact fA I1 hN hi hx r1 (λs2 I2=>⟨_,H1,I2,q1⟩) hf
def tP (i j:Nat) (ta:TA):TS:=λD σ H=>ta σ H λvs H1=>∃ v w,vs=[v,w]/\D.nx ((σ.set i (some v)).set j (some w)) H1
def rY (i:Nat) (te:TE) (ti:sV):TS:=λD σ H=>∃ x,σ[i]?=some (some x)/\te σ H λy H1=>ti x y H1 λz H2=>D.nx (σ.set i (some z)) H2
theorem lW {i:Nat} {x:Str} {e:Expr} {te:TE} {op:Operator} {ti:sV} {pos':Pos} (hN:X.N.Nodup) (hi:X.N[i]?=some x) (hx:Loc X.env.scope x) (he:PE X e te) (ho:t7 X op ti) (hf:X.fn x=true∨X.env.scope.names.lookup x=some .local:=by first | exact .inl rfl | exact .inr rfl | assumption) :
  PS X (.AugAssign (.Name x pos') op e pos) (rY i te ti):=by
 intro pins s σ H D I h
 obtain⟨v,e1,h⟩:=h
 obtain⟨m,hn,hl⟩:=I.loc
 have vis:qL X.env.scope x:=by rcases hx with k | k;exact .inl k;exact .inr (.inl k)
 obtain⟨u,r,l⟩:=hl i x v hi e1 vis
 refine wpAny_AugAssign_Name ?_
 have go:wpAny (model X.prog X.w) X.A (eval e X.env) (λw s₂=>wpAny (model X.prog X.w) X.A (inplaceOp op u w) (λr s₃=>wpAny (model X.prog X.w) X.A (storeName X.env x r) (λ_=>SP X pins D .next) X.xe s₃) X.xe s₂) X.xe s:=by
  refine a8 (he pins s σ H _ I h) λw s1 ⟨y,H1,I1,r1,q1⟩=>?_
  refine a8 (ho pins s1 σ H1 v y u w _ I1 r r1 q1) λz s2 ⟨zv,H2,I2,r2,q2⟩=>?_
  exact fA I2 hN hi hx r2 (λs3 I3=>⟨_,H2,I3,q2⟩) hf
 rcases l with⟨hk,hm⟩|⟨hk,c,hc,hcell⟩
 ·exact wpAny_loadName_local I.ok.kind hk hn hm go
 ·rcases hk with hk | hk
  ·exact wpAny_loadName_cell I.ok.kind hk hc hcell go
  ·rcases hx with k | k
   ·have:X.env.scope.names.lookup x=some .free:=hk
    rw [k] at this;cases this
   ·have:X.env.scope.names.lookup x=some .free:=hk
    rw [k] at this;cases this
end
section
variable {X:Cx} {pos:Pos}
def mj (c:TT) (tb:TS):TS:=λD σ H=>∃ W:Nat->St->Hp->Prop,(∃ m,W m σ H)/\∀ m σ H,W m σ H ->
 c σ H λb H1=>if b=true then ∃ N:St->Hp->Prop,(∀ σ' H',N σ' H'->∃ m',m'<m/\W m' σ' H')/\tb { D with nx:=N,ct:=N,bk:=D.nx } σ H1 else D.nx σ H1
theorem iC {c:Expr} {body:List Stmt} {tc:TT} {tb:TS} (hp:PassesOwn (model X.prog X.w) X.A X.env X.xe) (hc:PT X c tc) (hb:gq X body tb):PS X (.While c body [] pos) (mj tc tb):=by
 intro pins s σ H D I h
 obtain⟨W,⟨m0,w0⟩,turn⟩:=h
 refine wpAny_While (codeAny_whileLoop (λn s'=>∃ σ' H',Inv X pins σ' H' s'/\W n σ' H') ?_ m0 ⟨σ,H,I,w0⟩)
 rintro n s1 ⟨σ1,H1,I1,w1⟩
 refine wpAny_passesOwn hp (a8 (hc pins s1 σ1 H1 _ I1 (turn n σ1 H1 w1)) λb s2 ⟨H2,I2,q2⟩=>?_)
 cases b with
 | true =>
  obtain⟨N,hN,q2⟩:=q2
  rw [if_pos rfl]
  refine wpAny_passesOwn hp (a8 (hb pins s2 σ1 H2 _ I2 q2) λf s3 q3=>?_)
  cases f with
  | next =>
   obtain⟨σ3,H3,I3,n3⟩:=q3
   obtain⟨m',hm,w3⟩:=hN σ3 H3 n3
   exact⟨m',hm,σ3,H3,I3,w3⟩
  | cont =>
   obtain⟨σ3,H3,I3,n3⟩:=q3
   obtain⟨m',hm,w3⟩:=hN σ3 H3 n3
   exact⟨m',hm,σ3,H3,I3,w3⟩
  | brk=>exact q3
  | ret v=>exact q3
 | false =>
  rw [if_neg Bool.false_ne_true]
  exact wpAny_execs_nil ⟨σ1,H2,I2,q2⟩
end
structure It where
 go:Nat->Hp->Prop
 yld:Nat->Hp->V->Hp->Prop
 stop:Nat->Hp->Prop
def gk (X:Cx) (pins:List (Addr × Obj)) (H:Hp) (b:Addr):Prop :=
 H b=none/\b≠X.env.locals/\b∉X.fs/\(b∈X.ex∨X.s₀.heap.objs.size<=b)/\(∀ x c,X.env.cells.lookup x=some c->c≠b)/\∀ p∈X.pn++pins,p.1≠b
theorem Inv.la {X:Cx} {pins:List (Addr × Obj)} {σ:St} {H H':Hp} {s:Shared} {b:Addr} (I:Inv X pins σ H s) (hb:s.heap.objs.size<=b) (hn:H' b=none):gk X pins H' b:=by
 refine⟨hn,Nat.ne_of_gt (Nat.lt_of_lt_of_le I.lt hb),I.pU hb,.inr (Nat.le_trans I.sz hb),λx c e z=>?_,λp hp z=>?_⟩
 ·obtain⟨v,q⟩:=I.cell x c e
  exact absurd (Nat.lt_of_lt_of_le q.lt (by rw [z];exact hb)) (Nat.lt_irrefl _)
 ·exact absurd (Nat.lt_of_lt_of_le (Heap.lt_size (I.pin p hp).1) (by rw [z];exact hb)) (Nat.lt_irrefl _)
structure Turn (P:Program) (w:World) (K:PySem.W.Frag) (tg:Expr) (J:It) (fp:List Addr) (it:Addr) (tn:Nat->Heap->Prop):Prop where
 mem:it∈fp
 obj:∀ i h,tn i h->∀ b∈fp,∃ o,h.get? b=some o/\∀ v,o.data≠.cell v
 keep:∀ i h h',tn i h->(∀ b∈fp,∀ o,h.get? b=some o->h'.get? b=some o)->tn i h'
 item:∀(X:Cx),X.prog=P->X.w=w->X.K=K->X.calm=true->∀(i:Nat) (pins:List (Addr × Obj)) (s:Shared) (σ:St) (H:Hp) (E:Value->Shared->Prop),Inv X pins σ H s->(∀ b∈fp,gk X pins H b)->tn i s.heap->J.go i H ->
  wpAny (model P w) X.A (pyNext (.ref it)) (λr s1=>∃ u,r=some u /\
   wpAny (model P w) X.A (letOwnedTupleGo tg (.ref it) u) (λ_ s2=>∃ x H',Inv X pins σ H' s2/\RelV x u/\J.yld i H x H'/\tn (i+1) s2.heap/\∀ b∈fp,H' b=none) E s1) E s
 done:∀(X:Cx),X.prog=P->X.w=w->X.K=K->X.calm=true->∀(i:Nat) (pins:List (Addr × Obj)) (s:Shared) (σ:St) (H:Hp) (E:Value->Shared->Prop),Inv X pins σ H s->(∀ b∈fp,gk X pins H b)->tn i s.heap->J.stop i H ->
  wpAny (model P w) X.A (pyNext (.ref it)) (λr s1=>r=none/\Inv X pins σ H s1) E s
 self:∀(A:Around) (i:Nat) (s:Shared) (Q:Value->Shared->Prop) (E:Value->Shared->Prop),tn i s.heap->Q (.ref it) s->wpAny (model P w) A (pyIter (.ref it)) Q E s
abbrev TI:=St->Hp->(It->Hp->Prop)->Prop
def sJ (X:Cx) (pins:List (Addr × Obj)) (σ:St) (tg:Expr) (R:It->Hp->Prop) (itv:Value) (s2:Shared):Prop :=
 ∃(it:Addr) (fp:List Addr) (tn:Nat->Heap->Prop) (J:It) (H':Hp),itv=.ref it/\Inv X pins σ H' s2/\Turn X.prog X.w X.K tg J fp it tn/\tn 0 s2.heap/\(∀ b∈fp,gk X pins H' b)/\R J H'
def PI (X:Cx) (tg iter:Expr) (wi:TI):Prop :=
 ∀(pins:List (Addr × Obj)) (s:Shared) (σ:St) (H:Hp) (R:It->Hp->Prop),Inv X pins σ H s->wi σ H R ->
  wpAny (model X.prog X.w) X.A (eval iter X.env) (λv s1=>wpAny (model X.prog X.w) X.A (pyIter v) (sJ X pins σ tg R) X.xe s1) X.xe s
theorem lb {M:Model} {A:Around} {E:Value->Shared->Prop} {s:Shared} {tg:Expr} {it:Addr} {u:Value} {o:Obj} {n:String} {vs:Array Value} {Q:Unit->Shared->Prop} (ho:s.heap.get? it=some o) (hc:o.cls=.type n) (hd:o.data=.fields vs)
    (hn:["enumerate","zip","dict_itemiterator","dict_reverseitemiterator","odict_iterator","itertools.zip_longest","itertools.pairwise"].contains n=false) (hQ:Q () s):wpAny M A (letOwnedTupleGo tg (.ref it) u) Q E s:=by
  unfold letOwnedTupleGo
  cases tg<;>first
    | exact wpAny_pure hQ
    | (cases u<;>first
        | exact wpAny_pure hQ
        | (refine wpAny_bind (wpAny_load ho ?_)
           rw [hc,hd]
           show wpAny M A (if (["enumerate","zip","dict_itemiterator","dict_reverseitemiterator","odict_iterator","itertools.zip_longest","itertools.pairwise"].contains n && vs[0]?==some (rawInt _))=true then _ else _) Q E s
           rw [if_neg (by intro h;rw [hn,Bool.false_and] at h;cases h)]
           exact wpAny_pure hQ))
def sG (K:PySem.W.Frag) (a:Addr):It :=
 ⟨λi H=>∃ xs x,aS K H a xs/\xs[i]?=some x,λi H x H'=>H'=H/\∀ xs,aS K H a xs->xs[i]?=some x,λi H=>∃ xs,aS K H a xs/\xs.length<=i⟩
def sH (K:PySem.W.Frag) (a:Addr):It :=
 ⟨λi H=>∃ xs x,aT K H a xs/\xs[i]?=some x,λi H x H'=>H'=H/\∀ xs,aT K H a xs->xs[i]?=some x,λi H=>∃ xs,aT K H a xs/\xs.length<=i⟩
def mF (lo:Int) (n:Nat):It:=⟨λi _=>i<n,λi H x H'=>H'=H/\x=.int (lo+i),λi _=>n<=i⟩
theorem kG {P:Program} {w:World} {K:PySem.W.Frag} {tg:Expr} (a it:Addr):Turn P w K tg (sG K a) [it] it (λi h=>h.IsListIter it a i) where
 mem:=by simp
 obj:=λi h st b hb=>by
  have e:b=it:=by simpa using hb
  subst e
  obtain⟨o,e,c,d⟩:=st
  exact⟨o,e,λv z=>by rw [d] at z;cases z⟩
 keep:=λi h h' st k=>st.at λo e=>k it (by simp) o e
 item:=by
  intro X hP hw hK hc i pins s σ H E I hf st hg
  subst hP hw hK
  obtain⟨xs,x,hq,hx⟩:=hg
  obtain⟨its,rv,p,hz⟩:=I.list hq
  obtain⟨u,hu,ru⟩:=rv.get hx
  obtain⟨f0,f1,f2,f3,f4,f5⟩:=hf it (by simp)
  refine wpAny_pyNext_list_item st p.isList (x:=u) (by simpa using hu) λh' st' sb=>?_
  have I1:Inv X pins σ H { s with heap:=h' }:=I.turned (t':=s.toks) (λb o hb e=>(sb.2 b hb).trans e) f0 f1 f3 f4 f5
  obtain⟨o,e,c,d⟩:=id st'
  exact⟨u,rfl,lb (s:={ s with heap:=h' }) e c d (by decide) ⟨x,H,I1,ru,⟨rfl,λys hy=>by rw [I.ik hy hq];exact hx⟩,st',λb hb=>(hf b hb).1⟩⟩
 done:=by
  intro X hP hw hK hc i pins s σ H E I hf st hg
  subst hP hw hK
  obtain⟨xs,hq,hx⟩:=hg
  obtain⟨its,rv,p,hz⟩:=I.list hq
  obtain⟨f0,f1,f2,f3,f4,f5⟩:=hf it (by simp)
  have hl:=rv.length
  exact wpAny_pyNext_list_end (I.ok.hd hc) st p.isList (by simp;omega) λh' eb=>⟨rfl,I.turned (t':=s.toks) (λb o hb e=>eb b o hb e) f0 f1 f3 f4 f5⟩
 self:=λ_ _ _ _ _ st h=>wpAny_pyIter_listiter st h
theorem ji {P:Program} {w:World} {K:PySem.W.Frag} {tg:Expr} (a it:Addr):Turn P w K tg (sH K a) [it] it (λi h=>h.IsTupleIter it a i) where
 mem:=by simp
 obj:=λi h st b hb=>by
  have e:b=it:=by simpa using hb
  subst e
  obtain⟨o,e,c,d⟩:=st
  exact⟨o,e,λv z=>by rw [d] at z;cases z⟩
 keep:=λi h h' st k=>st.at λo e=>k it (by simp) o e
 item:=by
  intro X hP hw hK hc i pins s σ H E I hf st hg
  subst hP hw hK
  obtain⟨xs,x,hq,hx⟩:=hg
  obtain⟨its,rv,p,hz⟩:=I.tuple hq
  obtain⟨u,hu,ru⟩:=rv.get hx
  obtain⟨f0,f1,f2,f3,f4,f5⟩:=hf it (by simp)
  refine wpAny_pyNext_tuple_item st (show s.heap.IsTuple a its.toArray from p) (x:=u) (by simpa using hu) λh' st' sb=>?_
  have I1:Inv X pins σ H { s with heap:=h' }:=I.turned (t':=s.toks) (λb o hb e=>(sb.2 b hb).trans e) f0 f1 f3 f4 f5
  obtain⟨o,e,c,d⟩:=id st'
  exact⟨u,rfl,lb (s:={ s with heap:=h' }) e c d (by decide) ⟨x,H,I1,ru,⟨rfl,λys hy=>by rw [I.gi hy hq];exact hx⟩,st',λb hb=>(hf b hb).1⟩⟩
 done:=by
  intro X hP hw hK hc i pins s σ H E I hf st hg
  subst hP hw hK
  obtain⟨xs,hq,hx⟩:=hg
  obtain⟨its,rv,p,hz⟩:=I.tuple hq
  obtain⟨f0,f1,f2,f3,f4,f5⟩:=hf it (by simp)
  have hl:=rv.length
  exact wpAny_pyNext_tuple_end (I.ok.hd hc) st (show s.heap.IsTuple a its.toArray from p) (by simp;omega) λh' eb=>⟨rfl,I.turned (t':=s.toks) (λb o hb e=>eb b o hb e) f0 f1 f3 f4 f5⟩
 self:=λ_ _ _ _ _ st h=>wpAny_pyIter_tupleiter st h
theorem jh {P:Program} {w:World} {K:PySem.W.Frag} {tg:Expr} (it:Addr) (lo:Int) (n:Nat):Turn P w K tg (mF lo n) [it] it (λi h=>IsRangeIter h it (lo+(i:Nat)*1) ((n:Int)-(i:Nat)) 1) where
 mem:=by simp
 obj:=λi h st b hb=>by
  have e:b=it:=by simpa using hb
  subst e
  exact⟨_,st,λv z=>by
   have z':Data.fields _=Data.cell v:=z
   cases z'⟩
 keep:=λi h h' st k=>k it (by simp) _ st
 item:=by
  intro X hP hw hK hc i pins s σ H E I hf st hg
  subst hP hw hK
  obtain⟨f0,f1,f2,f3,f4,f5⟩:=hf it (by simp)
  have W:=Walks.range (prog:=X.prog) (w:=X.w) (I.ok.hd hc) it lo 1 n
  refine W.item i s _ _ hg st λv h' tk hv st' kk=>?_
  obtain⟨t,rfl⟩:=hv
  have I1:Inv X pins σ H { s with heap:=h',toks:=tk }:=I.turned (λb o hb e=>kk b o (by simpa using hb) e) f0 f1 f3 f4 f5
  refine⟨_,rfl,lb (s:={ s with heap:=h',toks:=tk }) (n := "range_iterator") st' rfl rfl (by decide) ⟨.int (lo+i),H,I1,⟨t,?_⟩,⟨rfl,rfl⟩,st',λb hb=>(hf b hb).1⟩⟩
  rw [Int.mul_one]
 done:=by
  intro X hP hw hK hc i pins s σ H E I hf st hg
  subst hP hw hK
  obtain⟨f0,f1,f2,f3,f4,f5⟩:=hf it (by simp)
  exact wpAny_pyNext_range_end (I.ok.hd hc) st (by have:n<=i:=hg;omega) λh' eb=>⟨rfl,I.turned (t':=s.toks) (λb o hb e=>eb b o hb e) f0 f1 f3 f4 f5⟩
 self:=λ_ _ _ _ _ st h=>wpAny_pyIter_rangeiter st h
section
variable {X:Cx} {tg:Expr}
def lh (K:PySem.W.Frag) (tl:TE):TI:=λσ H R=>tl σ H λx H1=>∃ a,x=.ref a/\(∃ xs,aS K H1 a xs)/\R (sG K a) H1
def pK (K:PySem.W.Frag) (tl:TE):TI:=λσ H R=>tl σ H λx H1=>∃ a,x=.ref a/\(∃ xs,aT K H1 a xs)/\R (sH K a) H1
theorem nJ {l:Expr} {tl:TE} (hl:PE X l tl):PI X tg l (lh X.K tl):=by
 intro pins s σ H R I h
 refine a8 (hl pins s σ H _ I h) λv s1 ⟨x,H1,I1,r1,q1⟩=>?_
 obtain⟨a,e,⟨xs,hq⟩,q⟩:=q1
 subst e
 cases r1
 obtain⟨its,rv,p,hz⟩:=I1.list hq
 refine wpAny_pyIter_list p.isList ?_
 refine⟨s1.heap.objs.size,[s1.heap.objs.size],_,_,H1,rfl,I1.kept (t':=s1.toks) λb o e=>Heap.get?_push_of_some _ e,kG a _,⟨_,Heap.get?_push_size _ rfl,rfl,rfl⟩,λb hb=>?_,q⟩
 have e:b=s1.heap.objs.size:=by simpa using hb
 subst e
 exact I1.la (Nat.le_refl _) (I1.hok.fresh (Nat.le_refl _))
theorem qi {l:Expr} {tl:TE} (hl:PE X l tl):PI X tg l (pK X.K tl):=by
 intro pins s σ H R I h
 refine a8 (hl pins s σ H _ I h) λv s1 ⟨x,H1,I1,r1,q1⟩=>?_
 obtain⟨a,e,⟨xs,hq⟩,q⟩:=q1
 subst e
 cases r1
 obtain⟨its,rv,p,hz⟩:=I1.tuple hq
 refine wpAny_pyIter_tuple (show s1.heap.IsTuple a its.toArray from p) ?_
 refine⟨s1.heap.objs.size,[s1.heap.objs.size],_,_,H1,rfl,I1.kept (t':=s1.toks) λb o e=>Heap.get?_push_of_some _ e,ji a _,⟨_,Heap.get?_push_size _ rfl,rfl,rfl⟩,λb hb=>?_,q⟩
 have e:b=s1.heap.objs.size:=by simpa using hb
 subst e
 exact I1.la (Nat.le_refl _) (I1.hok.fresh (Nat.le_refl _))
theorem l3 {pins:List (Addr × Obj)} {σ:St} {H:Hp} {s:Shared} {R:It->Hp->Prop} {E:Value->Shared->Prop} {lo hi:Int} {t u v:Tok} {tk:Nat} (I:Inv X pins σ H s) (h1:-(2^62)<=lo) (h2:lo<2^62) (h3:-(2^62)<=hi) (h4:hi<2^62)
  (q:R (mF lo (hi-lo).toNat) H):wpAny (model X.prog X.w) X.A (pyIter (.ref s.heap.objs.size)) (sJ X pins σ tg R) E { s with heap:=s.heap.push { cls:=.type "range",data:=.fields #[.int lo t,.int hi u,.int 1 v] },toks:=tk }:=by
 refine wpAny_pyIter_range (IsRange.new ..) (small_one h1 h2 h3 h4) ?_
 have I1:Inv X pins σ H { s with heap:=s.heap.push { cls:=.type "range",data:=.fields #[.int lo t,.int hi u,.int 1 v] },toks:=tk }:=I.kept λb o e=>Heap.get?_push_of_some _ e
 refine⟨(s.heap.push { cls:=.type "range",data:=.fields #[.int lo t,.int hi u,.int 1 v] }).objs.size,[(s.heap.push { cls:=.type "range",data:=.fields #[.int lo t,.int hi u,.int 1 v] }).objs.size],_,_,H,rfl,
  I1.kept (t':=tk) λb o e=>Heap.get?_push_of_some _ e,jh _ lo (hi-lo).toNat,?_,λb hb=>?_,q⟩
 ·have e1:lo+((0:Nat):Int)*1=lo:=by simp
  have e2:(((hi-lo).toNat:Nat):Int)-((0:Nat):Int)=Builtin.Range.rangeSize lo hi 1:=by rw [rangeSize_one];split<;>omega
  show IsRangeIter _ _ (lo+((0:Nat):Int)*1) ((((hi-lo).toNat:Nat):Int)-((0:Nat):Int)) 1
  rw [e1,e2]
  exact Heap.get?_push_size _ rfl
 ·have e:b=(s.heap.push { cls:=.type "range",data:=.fields #[.int lo t,.int hi u,.int 1 v] }).objs.size:=by simpa using hb
  subst e
  exact I1.la (Nat.le_refl _) (I1.hok.fresh (Nat.le_refl _))
def oC (ta:TA):TI:=λσ H R=>ta σ H λvs H1=>∃ j:Int,vs=[.int j] /\ -(2^62)<=j/\j<2^62/\R (mF 0 j.toNat) H1
def rm (ta:TA):TI:=λσ H R=>ta σ H λvs H1=>∃ i j:Int,vs=[.int i,.int j]/\(-(2^62)<=i/\i<2^62 /\ -(2^62)<=j/\j<2^62)/\R (mF i (j-i).toNat) H1
theorem cB {a:Expr} {ta:TA} {p pos:Pos} (hg:Gl X "range") (hm:X.mg "range"=none) (ha:PA X [a] ta) (hs:starEach [a] X.env=[(false,eval a X.env)]:=by rfl):PI X tg (.Call (.Name "range" p) [a] [] pos) (oC ta):=by
 intro pins s σ H R I h
 refine Call_ (e7 I hg hm boot_range (PyProof.Rows.callWith_type1 (a8 (ha pos pins s σ H _ I h) λus s1 ⟨vs,H1,I1,r1,q1⟩=>?_) hs rfl))
 obtain⟨j,e,q1,q2,q⟩:=q1
 subst e
 cases r1 with
 | cons r rr =>
  cases rr
  obtain⟨t,rfl⟩:=r
  exact call_range_1 (l3 I1 (by omega) (by omega) q1 q2 (by simpa using q))
def sf (wi:TI) (g:TG) (tb:TS):TS:=λD σ H=>wi σ H λJ H1=>∃ W:Nat->Nat->St->Hp->Prop,(∃ m,W 0 m σ H1)/\∀ i m σ H,W i m σ H ->
 (J.stop i H/\D.nx σ H)∨(J.go i H/\∃ N:St->Hp->Prop,(∀ σ' H',N σ' H'->∃ m',m'<m/\W (i+1) m' σ' H')/\∀ x H',J.yld i H x H'->g x σ H' λσ2 H2=>tb { D with nx:=N,ct:=N,bk:=D.nx } σ2 H2)
def dW (fp:List Addr) (h:Heap):List (Addr × Obj):=fp.filterMap λb=>(h.get? b).map λo=>(b,o)
theorem bY {fp:List Addr} {h:Heap} {b:Addr} {o:Obj} (hb:b∈fp) (e:h.get? b=some o):(b,o)∈dW fp h:=List.mem_filterMap.mpr ⟨b,hb,by rw [e];rfl⟩
theorem fX {fp:List Addr} {h:Heap} {p:Addr × Obj} (hp:p∈dW fp h):p.1∈fp/\h.get? p.1=some p.2:=by
 obtain⟨b,hb,e⟩:=List.mem_filterMap.mp hp
 cases q:h.get? b with
 | none=>rw [q] at e;cases e
 | some o =>
  rw [q] at e
  have e':(b,o)=p:=Option.some.inj e
  subst e'
  exact⟨hb,q⟩
theorem Inv.pinned {pins:List (Addr × Obj)} {σ:St} {H:Hp} {s:Shared} {fp:List Addr} (I:Inv X pins σ H s) (hf:∀ b∈fp,gk X pins H b) (ho:∀ b∈fp,∃ o,s.heap.get? b=some o/\∀ v,o.data≠.cell v):Inv X (pins++dW fp s.heap) σ H s :=
 I.eI λp hp=>(List.mem_append.mp hp).elim (λz=>I.pin p (List.mem_append_right _ z)) λz=>by
  obtain⟨hb,e⟩:=fX z
  obtain⟨f0,f1,f2,_⟩:=hf p.1 hb
  obtain⟨o,e',d⟩:=ho p.1 hb
  rw [e] at e';cases e'
  exact⟨e,f0,f1,f2,d⟩
theorem Inv.dD {pins pl:List (Addr × Obj)} {σ:St} {H:Hp} {s:Shared} (I:Inv X (pins++pl) σ H s):Inv X pins σ H s:=I.eI λp hp=>I.pin p (List.mem_append_right _ (List.mem_append_left _ hp))
theorem gQ {iter:Expr} {body:List Stmt} {wi:TI} {g:TG} {tb:TS} {pos:Pos} (hp:PassesOwn (model X.prog X.w) X.A X.env X.xe) (hc:X.calm=true) (hi:PI X tg iter wi) (hg:PG X tg g) (hb:gq X body tb)
  (hs:∀ x,foldedSetIterable iter X.env x=pure x:=by intro _;rfl):PS X (.For tg iter body [] pos) (sf wi g tb):=by
 intro pins s σ H D I h
 refine wpAny_For (a8 (hi pins s σ H _ I h) λv s1 h1=>a8 h1 λitv s2 h2=>?_) hs
 obtain⟨it,fp,tn,J,H2,e,I2,T,st2,f2,W,⟨m0,w0⟩,turn⟩:=h2
 subst e
 -- what stays true of the iterator's objects through the loop
 have stat:∀{H':Hp},(∀ b∈fp,H' b=none)->∀ b∈fp,gk X pins H' b:=λhn b hb=>⟨hn b hb,(f2 b hb).2⟩
 refine codeAny_forLoop_any (λn s'=>∃ i σ' H',Inv X pins σ' H' s'/\tn i s'.heap/\(∀ b∈fp,H' b=none)/\W i n σ' H') ?_ m0 ⟨0,σ,H2,I2,st2,λb hb=>(f2 b hb).1,w0⟩
 rintro n s3 ⟨i,σ3,H3,I3,st3,fr3,w3⟩
 rcases turn i n σ3 H3 w3 with⟨stop,qn⟩|⟨go,N,hN,step⟩
 ·refine wpAny_passesOwn hp (a8 (T.done X rfl rfl rfl hc i pins s3 σ3 H3 X.xe I3 (stat fr3) st3 stop) λr s4 ⟨hr,I4⟩=>?_)
  subst hr
  exact wpAny_execs_nil ⟨σ3,H3,I4,qn⟩
 ·refine wpAny_passesOwn hp (a8 (T.item X rfl rfl rfl hc i pins s3 σ3 H3 X.xe I3 (stat fr3) st3 go) λr s4 ⟨u,hr,h4⟩=>?_)
  subst hr
  refine wpAny_passesOwn hp (a8 h4 λ_ s5 ⟨x,H5,I5,r5,y5,st5,fr5⟩=>?_)
  have I5':=I5.pinned (stat fr5) (T.obj _ _ st5)
  refine wpAny_passesOwn hp (a8 (hg _ s5 σ3 H5 x u _ I5' r5 (step x H5 y5)) λ_ s6 ⟨σ6,H6,I6,q6⟩=>?_)
  refine wpAny_passesOwn hp (a8 (hb _ s6 σ6 H6 _ I6 q6) λf s7 q7=>?_)
  have again:∀{σ7:St} {H7:Hp},Inv X (pins++dW fp s5.heap) σ7 H7 s7->N σ7 H7->∃ m,m<n/\∃ i σ' H',Inv X pins σ' H' s7/\tn i s7.heap/\(∀ b∈fp,H' b=none)/\W i m σ' H':=λ{σ7 H7} I7 n7=>by
   obtain⟨m',hm,w7⟩:=hN σ7 H7 n7
   refine⟨m',hm,i+1,σ7,H7,I7.dD,T.keep _ _ _ st5 λb hb o e=>(I7.pin (b,o) (List.mem_append_right _ (List.mem_append_right _ (bY hb e)))).1,λb hb=>?_,w7⟩
   obtain⟨o,e,d⟩:=T.obj _ _ st5 b hb
   exact (I7.pin (b,o) (List.mem_append_right _ (List.mem_append_right _ (bY hb e)))).2.1
  cases f with
  | next=>obtain⟨σ7,H7,I7,n7⟩:=q7;exact again I7 n7
  | cont=>obtain⟨σ7,H7,I7,n7⟩:=q7;exact again I7 n7
  | brk=>obtain⟨σ7,H7,I7,q7⟩:=q7;exact⟨σ7,H7,I7.dD,q7⟩
  | ret v=>obtain⟨x7,σ7,H7,I7,r7,q7⟩:=q7;exact⟨x7,σ7,H7,I7.dD,r7,q7⟩
end
theorem ki {lo:Int} {n:Nat} {g:TG} {tb:TS} {D:Ends} {σ:St} {H:Hp} (Pv:Nat->St->Hp->Prop) (h0:Pv 0 σ H)
  (hs:∀ i σ H,i<n->Pv i σ H->g (.int (lo+i)) σ H λσ2 H2=>tb { D with nx:=Pv (i+1),ct:=Pv (i+1),bk:=D.nx } σ2 H2) (hd:∀ σ H,Pv n σ H->D.nx σ H) :
  ∃ W:Nat->Nat->St->Hp->Prop,(∃ m,W 0 m σ H)/\∀ i m σ H,W i m σ H ->
   ((mF lo n).stop i H/\D.nx σ H)∨((mF lo n).go i H/\∃ N:St->Hp->Prop,(∀ σ' H',N σ' H'->∃ m',m'<m/\W (i+1) m' σ' H')/\∀ x H',(mF lo n).yld i H x H'->g x σ H' λσ2 H2=>tb { D with nx:=N,ct:=N,bk:=D.nx } σ2 H2):=by
 refine⟨λi m σ H=>m=n-i/\i<=n/\Pv i σ H,⟨n,by simp,Nat.zero_le _,h0⟩,?_⟩
 rintro i m σ H ⟨rfl,hi,p⟩
 by_cases hlt:i<n
 ·refine .inr ⟨hlt,Pv (i+1),λσ' H' p'=>⟨n-(i+1),by omega,rfl,hlt,p'⟩,λx H' y=>?_⟩
  obtain⟨e,y⟩:=y
  subst e y
  exact hs i σ _ hlt p
 ·have e:i=n:=by omega
  subst e
  exact .inl ⟨Nat.le_refl _,hd σ H p⟩
abbrev R2:=V->V->Hp->VK->Prop
def c7 (X:Cx) (f:Value->Value->Sem Value) (r:R2):Prop :=
 ∀(pins:List (Addr × Obj)) (s:Shared) (σ:St) (H:Hp) (x y:V) (v u:Value) (Q:VK),Inv X pins σ H s->RelV x v->RelV y u->r x y H Q ->
  wpAny (model X.prog X.w) X.A (f v u) (EP X pins σ Q) X.xe s
def sY (X:Cx) (f:Value->Sem Value) (r:V->Hp->VK->Prop):Prop :=
 ∀(pins:List (Addr × Obj)) (s:Shared) (σ:St) (H:Hp) (x:V) (v:Value) (Q:VK),Inv X pins σ H s->RelV x v->r x H Q ->
  wpAny (model X.prog X.w) X.A (f v) (EP X pins σ Q) X.xe s
def bq (X:Cx) (f:Value) (r:List V->Hp->VK->Prop):Prop :=
 ∀(pins:List (Addr × Obj)) (s:Shared) (σ:St) (H:Hp) (xs:List V) (us:List Value) (Q:VK),Inv X pins σ H s->Vals xs us->r xs H Q ->
  wpAny (model X.prog X.w) X.A (call f us) (EP X pins σ Q) X.xe s
def sX (X:Cx) (r:V->Hp->(Bool->Hp->Prop)->Prop):Prop :=
 ∀(pins:List (Addr × Obj)) (s:Shared) (σ:St) (H:Hp) (x:V) (v:Value) (Q:Bool->Hp->Prop),Inv X pins σ H s->RelV x v->r x H Q ->
  wpAny (model X.prog X.w) X.A (truthy v) (TP X pins σ Q) X.xe s
def qC (r:R2) (ta tb:TE):TE:=λσ H Q=>ta σ H λx H1=>tb σ H1 λy H2=>r x y H2 Q
def um (r:V->Hp->VK->Prop) (ta:TE):TE:=λσ H Q=>ta σ H λx H1=>r x H1 Q
def rI (C:Int->Int->Prop) (g:Int->Int->V):R2:=λx y H Q=>∃ i j,x=.int i/\y=.int j/\C i j/\Q (g i j) H
def oP (g:Int->Int->V):R2:=λx y H Q=>∃ i j,x=.int i/\y=.int j/\Q (g i j) H
def rU (g:Int->V):V->Hp->VK->Prop:=λx H Q=>∃ i,x=.int i/\Q (g i) H
section
variable {X:Cx} {a b c:Expr} {ta tb tc:TE} {pos:Pos}
theorem mO (ha:PE X a ta) (hb:PE X b tb) {pins:List (Addr × Obj)} {s:Shared} {σ:St} {H:Hp} {R:V->V->Hp->Prop} (I:Inv X pins σ H s)
  (h:ta σ H λx H1=>tb σ H1 λy H2=>R x y H2) {Q:Value->Shared->Prop} {f:Value->Value->Sem Value}
  (hf:∀ v u s2 x y H2,Inv X pins σ H2 s2->RelV x v->RelV y u->R x y H2->wpAny (model X.prog X.w) X.A (f v u) Q X.xe s2) :
  wpAny (model X.prog X.w) X.A (eval a X.env) (λv s₁=>wpAny (model X.prog X.w) X.A (eval b X.env) (λu s₂=>wpAny (model X.prog X.w) X.A (f v u) Q X.xe s₂) X.xe s₁) X.xe s:=by
 refine a8 (ha pins s σ H _ I h) λv s1 ⟨x,H1,I1,r1,q1⟩=>?_
 refine a8 (hb pins s1 σ H1 _ I1 q1) λu s2 ⟨y,H2,I2,r2,q2⟩=>?_
 exact hf v u s2 x y H2 I2 r1 r2 q2
theorem av {op:Operator} {r:R2} (ho:c7 X (binaryOp op) r) (ha:PE X a ta) (hb:PE X b tb):PE X (.BinOp a op b pos) (qC r ta tb):=by
 intro pins s σ H Q I h
 exact wpAny_BinOp (mO ha hb I h λv u s2 x y H2 I2 rx ry q=>ho pins s2 σ H2 x y v u Q I2 rx ry q)
theorem oO {op:UnaryOp} {r:V->Hp->VK->Prop} (ho:sY X (unaryOp op) r) (ha:PE X a ta):PE X (.UnaryOp op a pos) (um r ta):=by
 intro pins s σ H Q I h
 exact UnaryOp_ (a8 (ha pins s σ H _ I h) λv s1 ⟨x,H1,I1,r1,q1⟩=>ho pins s1 σ H1 x v Q I1 r1 q1)
theorem sN {f:Value->Value->Sem Value} {C:Int->Int->Prop} {g:Int->Int->Int}
  (rule:∀(i j:Int) (t u:Tok) (s:Shared) (Q:Value->Shared->Prop) (E:Value->Shared->Prop),C i j->Q (.int (g i j) s.toks) { s with toks:=s.toks+1 }->wpAny (model X.prog X.w) X.A (f (.int i t) (.int j u)) Q E s) :
  c7 X f (rI C λi j=>.int (g i j)):=by
 intro pins s σ H x y v u Q I rx ry h
 obtain⟨i,j,rfl,rfl,hc,q⟩:=h
 obtain⟨t,rfl⟩:=rx
 obtain⟨t',rfl⟩:=ry
 exact rule i j t t' s _ _ hc ⟨.int (g i j),H,I.tok _,⟨_,rfl⟩,q⟩
theorem qa {f:Value->Value->Sem Value} {g:Int->Int->Int}
  (rule:∀(i j:Int) (t u:Tok) (s:Shared) (Q:Value->Shared->Prop) (E:Value->Shared->Prop),Q (.int (g i j) s.toks) { s with toks:=s.toks+1 }->wpAny (model X.prog X.w) X.A (f (.int i t) (.int j u)) Q E s) :
  c7 X f (oP λi j=>.int (g i j)):=by
 intro pins s σ H x y v u Q I rx ry h
 obtain⟨i,j,rfl,rfl,q⟩:=h
 obtain⟨t,rfl⟩:=rx
 obtain⟨t',rfl⟩:=ry
 exact rule i j t t' s _ _ ⟨.int (g i j),H,I.tok _,⟨_,rfl⟩,q⟩
theorem rQ {f:Value->Value->Sem Value} {g:Int->Int->Bool}
  (rule:∀(i j:Int) (t u:Tok) (s:Shared) (Q:Value->Shared->Prop) (E:Value->Shared->Prop),Q (.bool (g i j)) s->wpAny (model X.prog X.w) X.A (f (.int i t) (.int j u)) Q E s) :
  c7 X f (oP λi j=>.bl (g i j)):=by
 intro pins s σ H x y v u Q I rx ry h
 obtain⟨i,j,rfl,rfl,q⟩:=h
 obtain⟨t,rfl⟩:=rx
 obtain⟨t',rfl⟩:=ry
 exact rule i j t t' s _ _ ⟨.bl (g i j),H,I,rfl,q⟩
def qR (i j:Int):Prop:=0<=j/\j<=1000000/\i.natAbs<2^64
def qQ (i j:Int):Prop:=(-(2^64)<i/\i<2^64)∨(-(2^64)<j/\j<2^64)
theorem qQ.ok {i j:Int} (h:qQ i j):IntMulOk i j:=by
 rcases h with⟨h1,h2⟩|⟨h1,h2⟩
 ·exact .of_left (intBits_le_64 h1 h2)
 ·exact .of_right (intBits_le_64 h1 h2)
theorem bf:c7 X (binaryOp .Add) (oP λi j=>.int (i+j)):=qa λ_ _ _ _ _ _ _ q=>add_int q
theorem bx:c7 X (binaryOp .Sub) (oP λi j=>.int (i-j)):=qa λ_ _ _ _ _ _ _ q=>sub_int q
theorem cm:c7 X (binaryOp .Mod) (rI (λ_ j=>0<j) λi j=>.int (i%j)):=sN λi j _ _ _ _ _ hc q=>by
 have h1:(0:Int)<j:=hc
 exact mod_int' (by omega) (by rw [Int.fmod_eq_emod_of_nonneg i (by omega)];exact q)
theorem lQ:c7 X (binaryOp .Pow) (rI qR λi j=>.int (i^j.toNat)):=sN λ_ _ _ _ _ _ _ hc q=>pow_int_small hc.1 hc.2.1 hc.2.2 q
theorem jz:c7 X (inplaceOp .Add) (oP λi j=>.int (i+j)):=qa λ_ _ _ _ _ _ _ q=>iadd_int q
theorem uG {f:Value->Sem Value} {g:Int->Int}
  (rule:∀(i:Int) (t:Tok) (s:Shared) (Q:Value->Shared->Prop) (E:Value->Shared->Prop),Q (.int (g i) s.toks) { s with toks:=s.toks+1 }->wpAny (model X.prog X.w) X.A (f (.int i t)) Q E s) :
  sY X f (rU λi=>.int (g i)):=by
 intro pins s σ H x v Q I rx h
 obtain⟨i,rfl,q⟩:=h
 obtain⟨t,rfl⟩:=rx
 exact rule i t s _ _ ⟨.int (g i),H,I.tok _,⟨_,rfl⟩,q⟩
theorem mw:sY X (unaryOp .USub) (rU λi=>.int (-i)):=uG λ_ _ _ _ _ q=>neg_int q
end
def fI:V->V->Bool
 | .a9,.a9=>true | .a9,.int _=>true | .int _,.a9=>true | .a9,.bl _=>true | .bl _,.a9=>true | .a9,.str _=>true | .str _,.a9=>true
 | .int _,.int _=>true | .bl _,.bl _=>true | .str _,.str _=>true | .byt _,.byt _=>true
 | .int _,.str _=>true | .str _,.int _=>true | .bl _,.str _=>true | .str _,.bl _=>true
 | _,_=>false
def tF:R2:=λx y H Q=>fI x y=true/\Q (.bl (decide (x=y))) H
def uf:R2:=λx y H Q=>fI x y=true/\Q (.bl (!decide (x=y))) H
theorem jr {i j:Int}:decide (V.int i=V.int j)=(i==j):=by
 rw [Bool.eq_iff_iff]
 simp
theorem kT {i j:Bool}:decide (V.bl i=V.bl j)=(i==j):=by
 rw [Bool.eq_iff_iff]
 simp
theorem jt {i j:Str}:decide (V.str i=V.str j)=(i==j):=by
 rw [Bool.eq_iff_iff]
 simp
theorem jq {i j:Array UInt8}:decide (V.byt i=V.byt j)=(i.toList==j.toList):=by
 rw [Bool.eq_iff_iff]
 cases i
 cases j
 simp
section
variable {X:Cx} {a b c:Expr} {ta tb tc:TE} {pos:Pos}
theorem aC {pins:List (Addr × Obj)} {σ:St} {H:Hp} {s:Shared} {Q:VK} {k k':Bool} (I:Inv X pins σ H s) (q:Q (.bl k) H) (e:k=k'):EP X pins σ Q (.bool k') s:=by
 subst e
 exact⟨.bl k,H,I,rfl,q⟩
theorem aY:c7 X (compareOp .Eq) tF:=by
 intro pins s σ H x y v u Q I rx ry h
 obtain⟨hs,q⟩:=h
 cases x with
 | a9 =>
  cases rx
  cases y with
  | a9=>cases ry;exact PySem.EqNone.eq_none_none (aC I q (by simp))
  | bl j=>cases ry;exact PySem.EqNone.eq_none_bool (aC I q (by simp))
  | int j=>obtain⟨t',rfl⟩:=ry;exact PySem.EqNone.eq_none_int (aC I q (by simp))
  | str j=>obtain⟨t',rfl⟩:=ry;exact PySem.EqNone.eq_none_str (aC I q (by simp))
  | _=>exact absurd (show false=true from hs) Bool.false_ne_true
 | bl i =>
  cases rx
  cases y with
  | a9=>cases ry;exact PySem.EqNone.eq_bool_none (aC I q (by simp))
  | bl j=>cases ry;exact eq_bool (aC I q kT)
  | str j=>obtain⟨t',rfl⟩:=ry;exact PySem.EqMixed.eq_bool_str (aC I q (by simp))
  | _=>exact absurd (show false=true from hs) Bool.false_ne_true
 | int i =>
  obtain⟨t,rfl⟩:=rx
  cases y with
  | a9=>cases ry;exact PySem.EqNone.eq_int_none (aC I q (by simp))
  | int j=>obtain⟨t',rfl⟩:=ry;exact eq_int (aC I q jr)
  | str j=>obtain⟨t',rfl⟩:=ry;exact PySem.EqMixed.eq_int_str (aC I q (by simp))
  | _=>exact absurd (show false=true from hs) Bool.false_ne_true
 | str i =>
  obtain⟨t,rfl⟩:=rx
  cases y with
  | a9=>cases ry;exact PySem.EqNone.eq_str_none (aC I q (by simp))
  | bl j=>cases ry;exact PySem.EqMixed.eq_str_bool (aC I q (by simp))
  | int j=>obtain⟨t',rfl⟩:=ry;exact PySem.EqMixed.eq_str_int (aC I q (by simp))
  | str j=>obtain⟨t',rfl⟩:=ry;exact eq_str (aC I q jt)
  | _=>exact absurd (show false=true from hs) Bool.false_ne_true
 | byt i =>
  obtain⟨t,rfl⟩:=rx
  cases y with
  | byt j=>obtain⟨t',rfl⟩:=ry;exact PySem.W.eq_bytes (aC I q jq)
  | _=>exact absurd (show false=true from hs) Bool.false_ne_true
 | _=>cases y<;>exact absurd (show false=true from hs) Bool.false_ne_true
theorem fb:c7 X (compareOp .NotEq) uf:=by
 intro pins s σ H x y v u Q I rx ry h
 obtain⟨hs,q⟩:=h
 cases x with
 | a9 =>
  cases rx
  cases y with
  | a9=>cases ry;exact PySem.EqNone.ne_none_none (aC I q (by simp))
  | bl j=>cases ry;exact PySem.EqNone.ne_none_bool (aC I q (by simp))
  | int j=>obtain⟨t',rfl⟩:=ry;exact PySem.EqNone.ne_none_int (aC I q (by simp))
  | str j=>obtain⟨t',rfl⟩:=ry;exact PySem.EqNone.ne_none_str (aC I q (by simp))
  | _=>exact absurd (show false=true from hs) Bool.false_ne_true
 | bl i =>
  cases rx
  cases y with
  | a9=>cases ry;exact PySem.EqNone.ne_bool_none (aC I q (by simp))
  | bl j=>cases ry;exact ne_bool (aC I q (congrArg not kT))
  | str j=>obtain⟨t',rfl⟩:=ry;exact PySem.EqMixed.ne_bool_str (aC I q (by simp))
  | _=>exact absurd (show false=true from hs) Bool.false_ne_true
 | int i =>
  obtain⟨t,rfl⟩:=rx
  cases y with
  | a9=>cases ry;exact PySem.EqNone.ne_int_none (aC I q (by simp))
  | int j=>obtain⟨t',rfl⟩:=ry;exact ne_int (aC I q (congrArg not jr))
  | str j=>obtain⟨t',rfl⟩:=ry;exact PySem.EqMixed.ne_int_str (aC I q (by simp))
  | _=>exact absurd (show false=true from hs) Bool.false_ne_true
 | str i =>
  obtain⟨t,rfl⟩:=rx
  cases y with
  | a9=>cases ry;exact PySem.EqNone.ne_str_none (aC I q (by simp))
  | bl j=>cases ry;exact PySem.EqMixed.ne_str_bool (aC I q (by simp))
  | int j=>obtain⟨t',rfl⟩:=ry;exact PySem.EqMixed.ne_str_int (aC I q (by simp))
  | str j=>obtain⟨t',rfl⟩:=ry;exact ne_str (aC I q (congrArg not jt))
  | _=>exact absurd (show false=true from hs) Bool.false_ne_true
 | byt i =>
  obtain⟨t,rfl⟩:=rx
  cases y with
  | byt j=>obtain⟨t',rfl⟩:=ry;exact PySem.W.ne_bytes (aC I q (congrArg not jq))
  | _=>exact absurd (show false=true from hs) Bool.false_ne_true
 | _=>cases y<;>exact absurd (show false=true from hs) Bool.false_ne_true
theorem ix:c7 X (compareOp .Lt) (oP λi j=>.bl (decide (i<j))):=rQ λ_ _ _ _ _ _ _ q=>lt_int q
theorem d9:c7 X (compareOp .Gt) (oP λi j=>.bl (decide (j<i))):=rQ λ_ _ _ _ _ _ _ q=>gt_int q
theorem fY:c7 X (compareOp .In) (λx y H Q=>∃ i j,x=.str i/\y=.str j/\Q (.bl (!(Builtin.Str.occurrences j i 0 j.length 1).isEmpty)) H):=by
 intro pins s σ H x y v u Q I rx ry h
 obtain⟨i,j,rfl,rfl,q⟩:=h
 obtain⟨t,rfl⟩:=rx
 obtain⟨t',rfl⟩:=ry
 exact in_str (aC I q rfl)
theorem lP:c7 X (compareOp .Is) (λx y H Q=>y=.a9/\Q (.bl (decide (x=.a9))) H):=by
 intro pins s σ H x y v u Q I rx ry h
 obtain⟨rfl,q⟩:=h
 cases ry
 refine is_none_gen (aC I q ?_)
 cases x<;>first
  | (cases rx;rfl)
  | (obtain⟨t,rfl⟩:=rx;rfl)
theorem c7.or {f:Value->Value->Sem Value} {r r':R2} (h:c7 X f r) (h':c7 X f r'):c7 X f (λx y H Q=>r x y H Q∨r' x y H Q):=by
 intro pins s σ H x y v u Q I rx ry q
 rcases q with q | q
 ·exact h pins s σ H x y v u Q I rx ry q
 ·exact h' pins s σ H x y v u Q I rx ry q
theorem ar (b:Expr) {op:CmpOp} (h:op≠.In:=by decide) (h2:op≠.NotIn:=by decide):behindInMarks op b=false:=by
 have e1:(op==CmpOp.In)=false:=by cases op<;>first | rfl | exact absurd rfl h
 have e2:(op==CmpOp.NotIn)=false:=by cases op<;>first | rfl | exact absurd rfl h2
 cases b<;>simp [behindInMarks,e1,e2]
theorem bg {op:CmpOp} {r:R2} (ho:c7 X (compareOp op) r) (ha:PE X a ta) (hb:PE X b tb) (hm:behindInMarks op b=false):PE X (.Compare a [op] [b] pos) (qC r ta tb):=by
 intro pins s σ H Q I h
 exact wpAny_Compare1 (mO ha hb I h λv u s2 x y H2 I2 rx ry q=>ho pins s2 σ H2 x y v u Q I2 rx ry q) hm
def mi (t:TE):TT:=λσ H Q=>t σ H λx H'=>∃ k,x=.bl k/\Q k H'
theorem aq {op:CmpOp} {r:R2} (ho:c7 X (compareOp op) r) (ha:PE X a ta) (hb:PE X b tb) (hm:behindInMarks op b=false):PT X (.Compare a [op] [b] pos) (mi (qC r ta tb)):=by
 intro pins s σ H Q I h
 refine wpAny_isTrue_Compare1 (a8 (ha pins s σ H _ I h) λv s1 ⟨x,H1,I1,r1,q1⟩=>a8 (hb pins s1 σ H1 _ I1 q1) λu s2 ⟨y,H2,I2,r2,q2⟩ =>
  a8 (ho pins s2 σ H2 x y v u _ I2 r1 r2 q2) λc s3 ⟨z,H3,I3,r3,k,e,q3⟩=>?_) hm
 subst e
 cases r3
 exact wpAny_truthy_bool ⟨H3,I3,q3⟩
def kM (K:PySem.W.Frag) (x:V) (H:Hp) (k:Bool):Prop :=
 match x with
 | .a9=>k=false
 | .bl b=>k=b
 | .int i=>k=(i != 0)
 | .str y=>y.length<=sizeLine/\k=((y.length:Int) != 0)
 | .byt y=>y.size<=sizeLine/\k=((y.size:Int) != 0)
 | .ref p=>(∃ xs,aS K H p xs/\k=!xs.isEmpty)∨(∃ xs,aT K H p xs/\k=!xs.isEmpty)∨∃ kvs,H p=some (.dK kvs)/\k=!kvs.isEmpty
 | _=>False
theorem i3 {κ:Type} {kvs:List (κ × V)} {vs:List (κ × Value)} (r:KV kvs vs):(!vs.isEmpty)=!kvs.isEmpty:=by
 cases r<;>rfl
theorem eV {xs:List V} {its:List Value} (r:Vals xs its):(!its.toArray.isEmpty)=!xs.isEmpty:=by
 cases r<;>simp
theorem gH:(sizeLine:Nat)<2^63:=by rw [sizeLine_eq];decide
theorem qF:sX X (λx H Q=>∃ k,kM X.K x H k/\Q k H):=by
 intro pins s σ H x v Q I rx h
 obtain⟨k,e,q⟩:=h
 have hl:=gH
 have hs:sizeLine=16777216:=sizeLine_eq
 cases x with
 | a9 =>
  cases rx
  have e':k=false:=e
  subst e'
  exact truthy_none ⟨H,I,q⟩
 | bl b =>
  cases rx
  have e':k=b:=e
  subst e'
  exact wpAny_truthy_bool ⟨H,I,q⟩
 | int i =>
  obtain⟨t,rfl⟩:=rx
  have e':k=(i != 0):=e
  subst e'
  exact PySem.P.truthy_int ⟨H,I,q⟩
 | str y =>
  obtain⟨t,rfl⟩:=rx
  obtain⟨hy,e'⟩:y.length<=sizeLine/\k=((y.length:Int) != 0):=e
  subst e'
  exact PySem.P.truthy_str (by omega) ⟨H,I.tok _,q⟩
 | byt y =>
  obtain⟨t,rfl⟩:=rx
  obtain⟨hy,e'⟩:y.size<=sizeLine/\k=((y.size:Int) != 0):=e
  subst e'
  exact PySem.W.truthy_bytes (by omega) ⟨H,I.tok _,q⟩
 | ref p =>
  cases rx
  have e':(∃ xs,aS X.K H p xs/\k=!xs.isEmpty)∨(∃ xs,aT X.K H p xs/\k=!xs.isEmpty)∨∃ kvs,H p=some (.dK kvs)/\k=!kvs.isEmpty:=e
  rcases e' with⟨xs,hx,e'⟩|⟨xs,hx,e'⟩|⟨kvs,hx,e'⟩
  ·subst e'
   obtain⟨its,r,pl,hz⟩:=I.list hx
   have hlen:=r.length
   exact wpAny_truthy_list pl.isList (by simp only [List.size_toArray];omega) ⟨H,I.tok _,by rw [eV r];exact q⟩
  ·subst e'
   obtain⟨its,r,pl,hz⟩:=I.tuple hx
   have hlen:=r.length
   exact truthy_tuple pl (by simp only [List.size_toArray];omega) ⟨H,I.tok _,by rw [eV r];exact q⟩
  ·subst e'
   obtain⟨hz,hS,vs,r,m⟩:kvs.length<=sizeLine/\(p==sysModules)=false/\∃ vs,KV kvs vs/\s.heap.DictOf (aR X.prog X.w) p vs:=I.hok p _ hx
   have hlen:kvs.length=vs.length:=Paired.length r
   exact wpAny_truthy_dict hS m (by omega) ⟨H,I.tok _,by rw [i3 r];exact q⟩
 | _=>exact (show False from e).elim
theorem a3 (ha:PE X a ta) (he:∀ whole,isTrue a X.env whole=(do let v <- whole;standAt a.pos;holding [v] (truthy v))) :
  PT X a (λσ H Q=>ta σ H λx H'=>∃ k,kM X.K x H' k/\Q k H'):=by
 intro pins s σ H Q I h
 exact isTrue_plain (a8 (ha pins s σ H _ I h) λv s1 ⟨x,H1,I1,r1,q1⟩=>qF pins s1 σ H1 x v Q I1 r1 q1) (he _)
theorem bj:c7 X (binaryOp .Add) (λx y H Q=>∃ i j,x=.str i/\y=.str j/\i.length+j.length<=sizeLine/\Q (.str (i++j)) H):=by
 intro pins s σ H x y v u Q I rx ry h
 obtain⟨i,j,rfl,rfl,hz,q⟩:=h
 obtain⟨t,rfl⟩:=rx
 obtain⟨t',rfl⟩:=ry
 exact add_str (λt' tk=>⟨.str (i++j),H,I.tok _,⟨_,rfl⟩,q⟩) hz
def kK (b:Expr):Prop:=∀ o i,subscripted b false o i=operate [o,i] (getItem o i)
theorem cn (ha:PE X a ta) (hb:PE X b tb) (hs:kK b) :
  PE X (.Subscript a b pos) (qC (λx y H Q=>∃ z i c,x=.str z/\y=.int i/\0<=i/\i<2^63/\i<z.length/\z.cps[i.toNat]?=some c/\Q (.str ⟨#[c]⟩) H) ta tb):=by
 intro pins s σ H Q I h
 refine Subscript_ (mO ha hb I h λv u s2 x y H2 I2 rx ry q=>?_)
 obtain⟨z,i,c,rfl,rfl,h0,h63,h1,hc,q⟩:=q
 obtain⟨t,rfl⟩:=rx
 obtain⟨t',rfl⟩:=ry
 have e:seqIndex? i z.length=some i.toNat:=PySem.StrLaws.seqIndex_nonneg h0 h1
 exact tail_any (typeIs_str s2 z t) slot_str_getitem.lookup (getItem_str (c:=c) (by
  have e1:decide (i < -(2^63:Int))=false:=decide_eq_false (by omega)
  have e2:decide (i≥2^63)=false:=decide_eq_false (by omega)
  rw [e1,e2]<;>rfl) (by rw [e];exact hc) ⟨.str ⟨#[c]⟩,H2,I2.tok _,⟨_,rfl⟩,q⟩) (hs _ _)
theorem vals1 {x:V} {us:List Value} (r:Vals [x] us):∃ u,us=[u]/\RelV x u:=by
 cases r with
 | cons r1 r2=>cases r2;exact⟨_,rfl,r1⟩
theorem vals2 {x y:V} {us:List Value} (r:Vals [x,y] us):∃ u w',us=[u,w']/\RelV x u/\RelV y w':=by
 cases r with
 | cons r1 r2 =>
  cases r2 with
  | cons r3 r4=>cases r4;exact⟨_,_,rfl,r1,r3⟩
theorem j7:bq X (.type "int") (λxs H Q=>(∃ i,xs=[.int i]/\Q (.int i) H)∨∃ k,xs=[.bl k]/\Q (.int (if k then 1 else 0)) H):=by
 intro pins s σ H xs us Q I r h
 rcases h with⟨i,rfl,q⟩|⟨k,rfl,q⟩
 ·obtain⟨u,rfl,t,rfl⟩:=vals1 r
  exact call_int_int ⟨.int i,H,I,⟨_,rfl⟩,q⟩
 ·obtain⟨u,rfl,r1⟩:=vals1 r
  cases r1
  exact call_int_bool ⟨.int (if k then 1 else 0),H,I.tok _,⟨_,rfl⟩,q⟩
theorem gv:bq X (.type "str") (λxs H Q=>∃ i,xs=[.int i]/\i.natAbs.log2<1920/\Q (.str (toString i)) H):=by
 intro pins s σ H xs us Q I r h
 obtain⟨i,rfl,hz,q⟩:=h
 obtain⟨u,rfl,t,rfl⟩:=vals1 r
 exact PySem.P.str_of_int hz ⟨.str _,H,I.tok _,⟨_,rfl⟩,q⟩
end
structure pf (h:Heap) (x dx C:Addr) (mA:Str->Option Value):Prop where
 obj:h.get? x=some (PySem.W.instObj C dx)
 ns:h.Ns1 dx mA
 ne:dx≠x
theorem kr {h:Heap} {dx:Addr} {mA:Str->Option Value} (n:h.Ns1 dx mA):∃ od,h.get? dx=some od/\∀ name,PySem.W.lookIn name od=some (mA name):=by
 obtain⟨o,es,ep,ho,hd,hk,_,hm⟩:=n
 refine⟨o,ho,λname=>?_⟩
 have e:=hm name
 unfold nsFind findBy at e
 rw [<- Array.find?_toList] at e
 unfold PySem.W.lookIn
 rw [hd]
 dsimp only
 split
 ·rename_i y q
  rw [q] at e
  exact congrArg some e
 ·rename_i q
  rw [q] at e
  have a:es.toList.any (·.refKey)=false:=by
   rw [List.any_eq_false]
   intro y hy
   obtain⟨z,t,hkey⟩:=hk y (Array.mem_toList_iff.mp hy)
   simp [DictEntry.refKey,hkey]
  have a':¬es.toList.any (·.refKey)=true:=by rw [a];exact Bool.false_ne_true
  rw [if_neg a']
  exact congrArg some e
theorem pf.look {h:Heap} {x dx C:Addr} {mA:Str->Option Value} (I:pf h x dx C mA):∃ od,PySem.W.InstAt h x (PySem.W.instObj C dx) C (some od)/\∀ name,PySem.W.lookIn name od=some (mA name) :=
 let ⟨od,ho,hl⟩:=kr I.ns
 ⟨od,⟨I.obj,rfl,rfl,ho⟩,hl⟩
section
variable {prog:Program} {w:World} {A:Around} {E:Value->Shared->Prop} {s:Shared} {K:PySem.W.Frag} {x dx C f:Addr} {mA:Str->Option Value} {name:Str} {v:Value}
end
def ql (f:Str) (v:V):List (Str × V)->List (Str × V)
 | []=>[(f,v)]
 | (g,x)::r=>if g=f then (g,v)::r else (g,x)::ql f v r
theorem dI.some_of {v:V} {o:Option Value} (r:dI (some v) o):∃ u,o=some u/\RelV v u:=by
 cases o with
 | none=>exact (show False from r).elim
 | some u=>exact⟨u,rfl,r⟩
section
variable {P:Program} {w:World} {H H':Hp} {h h':Heap} {a C dx:Addr} {fs fs':List (Str × V)}
theorem mV (hok:cC P w H h) (e:H a=some (.ins C dx fs)):∃ mA,pf h a dx C mA/\(∀ f,dI (fs.lookup f) (mA f))/\PySem.Within mA (fs.map (·.1))/\fs.length<=1000/\H dx=some (.own a):=by
 obtain⟨d,z,ne,ob,mA,n,r,q⟩:=(show aK P w H h a (.ins C dx fs) from hok a _ e)
 exact⟨mA,⟨ob,n,ne⟩,r,q,z,d⟩
end
structure qJ (K:PySem.W.Frag) (C:Addr):Prop where
 pg:PySem.W.plainGet K C Str.empty=true
 hd:PySem.W.hasDictIn K C=true
 po:PySem.W.plainOver K C=true
 sa:PySem.W.findIn K (.ref C) "__setattr__"=some (some (.builtin "object.__setattr__"))
theorem qJ.get {K:PySem.W.Frag} {C:Addr} (c:qJ K C) (f:Str):PySem.W.plainGet K C f=true:=c.pg
def iN (K:PySem.W.Frag) (C:Addr) (f:Str):Prop:=PySem.W.findIn K (.ref C) f=some none
structure Meth (K:PySem.W.Frag) (C:Addr) (m:Str) (f:Addr):Prop where
 at_:PySem.W.findIn K (.ref C) m=some (some (.ref f))
 fn:PySem.W.isFn K (.ref f)=true
 kp:PySem.W.keepIn K (.ref f)=true
section
variable {X:Cx} {pins:List (Addr × Obj)} {σ:St} {H:Hp} {s:Shared} {a C dx:Addr} {fs:List (Str × V)} {f:Str} {v:V} {A:Around} {E:Value->Shared->Prop}
end
def tN (K:PySem.W.Frag) (ta:TE) (f:Str):TE:=λσ H Q=>ta σ H λx H1=>∃ a C dx fs v,x=.ref a/\H1 a=some (.ins C dx fs)/\qJ K C/\iN K C f/\fs.lookup f=some v/\Q v H1
def tJ (K:PySem.W.Frag) (ta tv:TE) (f:Str):TS:=λD σ H=>tv σ H λy H1=>ta σ H1 λx H2=>∃ a C dx fs,x=.ref a/\H2 a=some (.ins C dx fs)/\qJ K C/\iN K C f/\fs.length<1000 /\
 D.nx σ (upd H2 a (.ins C dx (ql f y fs)))
def nS (K:PySem.W.Frag) (ta tv:TE) (rd:V->V->Hp->VK->Prop) (f:Str):TS:=λD σ H=>ta σ H λx H1=>∃ a C dx fs v,x=.ref a/\H1 a=some (.ins C dx fs)/\qJ K C/\iN K C f/\fs.lookup f=some v /\
 tv σ H1 λy H2=>rd v y H2 λz H3=>∃ dx' fs',H3 a=some (.ins C dx' fs')/\fs'.length<1000/\D.nx σ (upd H3 a (.ins C dx' (ql f z fs')))
section
variable {X:Cx} {o e value:Expr} {f:Str} {pos pos' tpos:Pos} {ta tv:TE}
end
section
variable {X:Cx} {pins:List (Addr × Obj)} {σ:St} {H:Hp} {s:Shared} {A:Around} {E:Value->Shared->Prop} {Q:Value->Shared->Prop} {c:Value} {b:Bool}
inductive cD (K:PySem.W.Frag) (H:Hp):V->Value->Prop where
 | a9:cD K H .a9 (.type "NoneType")
 | bl (x:Bool):cD K H (.bl x) (.type "bool")
 | int (i:Int):cD K H (.int i) (.type "int")
 | str (x:Str):cD K H (.str x) (.type "str")
 | flt (x:UInt64):cD K H (.flt x) (.type "float")
 | lst {a:Addr} {xs:List V} (e:H a=some (.lst xs)):cD K H (.ref a) (.type "list")
 | frz {a:Addr} {o:Obj} {xs:List V} (e:H a=some (.frz o (.lst xs))):cD K H (.ref a) (.type "list")
 | tup {a:Addr} {xs:List V} (e:H a=some (.tup xs)):cD K H (.ref a) (.type "tuple")
 | dK {a:Addr} {kvs:List (Key × V)} (e:H a=some (.dK kvs)):cD K H (.ref a) (.type "dict")
 | dT {a:Addr} {kvs:List (List Key × V)} (e:H a=some (.dT kvs)):cD K H (.ref a) (.type "dict")
 | ins {a C dx:Addr} {fs:List (Str × V)} (e:H a=some (.ins C dx fs)) (cl:qJ K C) (ha:PySem.W.findIn K (.ref C) "__class__"=some (some (.builtin "object.__class__")))
   (hn:PySem.W.specialIn K (.builtin "object.__class__") "__get__"=some (some (.builtin "getset_descriptor.__get__"))) (htk:PySem.W.takesIn K (.builtin "object.__class__")=some true)
   (hm:PySem.W.mroIn K C (.type "object")=some true):cD K H (.ref a) (.ref C)
theorem cx {x:V} {u t:Value} (I:Inv X pins σ H s) (rx:RelV x u) (ty:cD X.K H x t) (e:PySem.W.kitOne X.K t c=some b) (h:∀ tk,Q (.bool b) { s with toks:=tk }) :
  wpAny (model X.prog X.w) A (call (.builtin "isinstance") [u,c]) Q E s:=by
 cases ty with
 | a9=>cases (show u=Value.none from rx);exact PySem.W.kia_one PySem.W.kitx_none I.eC True.intro e (λz=>nomatch z) h
 | bl y=>cases (show u=Value.bool y from rx);exact PySem.W.kia_one PySem.W.kitx_bool I.eC True.intro e (λz=>nomatch z) h
 | int i=>obtain⟨t,q⟩:=(show ∃ t,u=Value.int i t from rx);cases q;exact PySem.W.kia_one PySem.W.kitx_int I.eC True.intro e (λz=>nomatch z) h
 | str y=>obtain⟨t,q⟩:=(show ∃ t,u=Value.str y t from rx);cases q;exact PySem.W.kia_one PySem.W.kitx_str I.eC True.intro e (λz=>nomatch z) h
 | flt y=>obtain⟨t,q⟩:=(show ∃ t,u=Value.float y t from rx);cases q;exact PySem.W.kia_one PySem.W.kitx_float I.eC True.intro e (λz=>nomatch z) h
 | @lst a xs ea =>
  cases (show u=Value.ref a from rx)
  obtain⟨_,_,n,_,h1⟩:=(show aK X.prog X.w H s.heap a (.lst xs) from I.hok a _ ea)
  exact PySem.W.kia_one PySem.W.kitx_list I.eC ⟨_,h1,rfl⟩ e (λz=>nomatch z) h
 | @frz a ob xs ea =>
  cases (show u=Value.ref a from rx)
  obtain⟨_,_,_,n,_,h1⟩:=(show aK X.prog X.w H s.heap a (.frz ob (.lst xs)) from I.hok a _ ea)
  exact PySem.W.kia_one PySem.W.kitx_list I.eC ⟨_,h1,rfl⟩ e (λz=>nomatch z) h
 | @tup a xs ea =>
  cases (show u=Value.ref a from rx)
  obtain⟨_,_,_,p⟩:=(show aK X.prog X.w H s.heap a (.tup xs) from I.hok a _ ea)
  obtain⟨o,h1,h2,_⟩:=p
  exact PySem.W.kia_one PySem.W.kitx_tuple I.eC ⟨o,h1,h2⟩ e (λz=>nomatch z) h
 | @dK a kvs ea =>
  cases (show u=Value.ref a from rx)
  obtain⟨_,_,vs,_,p⟩:=(show aK X.prog X.w H s.heap a (.dK kvs) from I.hok a _ ea)
  obtain⟨o,es,ep,h1,h2,_⟩:=p
  exact PySem.W.kia_one PySem.W.kitx_dict I.eC ⟨o,h1,h2.1⟩ e (λz=>nomatch z) h
 | @dT a kvs ea =>
  cases (show u=Value.ref a from rx)
  obtain⟨_,_,xs,_,o,es,ep,h1,h2,_⟩:=(show aK X.prog X.w H s.heap a (.dT kvs) from I.hok a _ ea)
  exact PySem.W.kia_one PySem.W.kitx_dict I.eC ⟨o,h1,h2.1⟩ e (λz=>nomatch z) h
 | @ins a C dx fs ea cl ha hn htk hm =>
  cases (show u=Value.ref a from rx)
  obtain⟨mA,O,_⟩:=mV I.hok ea
  obtain⟨od,J,_⟩:=O.look
  exact PySem.W.kia_one (PySem.W.kitx_own (cl.get _) cl.hd ha hn htk hm) I.eC J e (λz=>nomatch z) h
end
structure bC (k:Nat) (A:Around):Prop where
 hd:A.handled=none
 dp:A.depth+3*k+5<recursionLimit
 un:A.units+16*k+200<cLine
 gs:A.guards=some []
theorem bC.mono {j k:Nat} {A:Around} (r:bC k A) (h:j<=k):bC j A:=⟨r.hd,by have:=r.dp;omega,by have:=r.un;omega,r.gs⟩
theorem bC.deeper {k:Nat} {A:Around} (r:bC (k+1) A) (env:Env):bC k (A.deeper env) :=
 ⟨r.hd,by have:=r.dp;show A.depth+1+3*k+5<_;omega,by have:=r.un;show A.units+3+16*k+200<_;omega,r.gs⟩
theorem bC.depth {k:Nat} {A:Around} (r:bC k A):A.depth<recursionLimit:=by have:=r.dp;omega
theorem bC.units {k:Nat} {A:Around} (r:bC k A):A.units+64<cLine:=by have:=r.un;omega
def fK:TA:=λ_ H Q=>Q [] H
def bP (ta:TE) (tr:TA):TA:=λσ H Q=>ta σ H λx H1=>tr σ H1 λxs H2=>Q (x::xs) H2
section
variable {X:Cx} {e:Expr} {es:List Expr} {te:TE} {t:TA} {pos:Pos}
theorem ae:PA X [] fK:=λ_ _ _ _ H Q I h=>Calls.spliced_nil ⟨[],H,I,.nil,h⟩
theorem aa (ha:PE X e te) (hr:PA X es t) (hs:starEach (e::es) X.env=(false,eval e X.env)::starEach es X.env:=by rfl):PA X (e::es) (bP te t):=by
 intro pos pins s σ H Q I h
 rw [hs]
 show wpAny _ _ (spliced ((false,eval e X.env)::backTo pos (starEach es X.env))) _ _ s
 refine Calls.spliced_cons (a8 (ha pins s σ H _ I h) λu s1 ⟨x,H1,I1,r1,q1⟩=>?_)
 exact a8 (hr pos pins s1 σ H1 _ I1 q1) λus s2 ⟨xs,H2,I2,r2,q2⟩=>⟨x::xs,H2,I2,.cons r1 r2,q2⟩
def om (t:TA):TE:=λσ H Q=>t σ H λxs H1=>xs.length<=sizeLine/\∀ p,H1 p=none->Q (.ref p) (upd H1 p (.tup xs))
def sh (t:TA):TE:=λσ H Q=>t σ H λxs H1=>xs.length<=sizeLine/\∀ p,H1 p=none->Q (.ref p) (upd H1 p (.lst xs))
theorem b0 {x1} (h:PA X es t):PE X (.Tuple es x1 pos) (om t):=by
 intro pins s σ H Q I hq
 refine wpAny_Tuple_spliced (a8 (h pos pins s σ H _ I hq) λus s1 ⟨xs,H1,I1,r,z,q⟩=>⟨by rw [<- r.length];exact z,?_⟩)
 have hf:H1 s1.heap.objs.size=none:=I1.hok.fresh (Nat.le_refl _)
 refine⟨.ref s1.heap.objs.size,upd H1 s1.heap.objs.size (.tup xs),I1.laid (t':=s1.toks) (λb u e=>Heap.get?_push_of_some _ e) (Nat.le_refl _) ?_,rfl,q _ hf⟩
 exact⟨z,us,r,⟨_,Heap.get?_push_size _ rfl,rfl,_,rfl⟩⟩
theorem gM (h:PA X es t):PE X (.List es pos) (sh t):=by
 intro pins s σ H Q I hq
 refine wpAny_List_spliced (a8 (h pos pins s σ H _ I hq) λus s1 ⟨xs,H1,I1,r,z,q⟩=>⟨by rw [<- r.length];exact z,?_⟩)
 have hf:H1 s1.heap.objs.size=none:=I1.hok.fresh (Nat.le_refl _)
 refine⟨.ref s1.heap.objs.size,upd H1 s1.heap.objs.size (.lst xs),I1.laid (t':=s1.toks) (λb u e=>Heap.get?_push_of_some _ e) (Nat.le_refl _) ?_,rfl,q _ hf⟩
 exact⟨z,us,0,r,Heap.get?_push_size _ rfl⟩
end
abbrev Sp:=List V->Hp->VK->XK->Prop
abbrev fD:=List Env->Hp->Shared->XK->Value->Shared->Prop
structure mD (P:Program) (w:World) (K:PySem.W.Frag) (mg:Str->Option Value) (base:Heap) (A:Around) (outer:List Env) (s:Shared) (H:Hp):Prop where
 frames:A.frames=some outer
 mod:Mod K mg base
 bs:∀ b o,base.get? b=some o->s.heap.get? b=some o/\H b=none
 bsz:base.objs.size<=s.heap.objs.size
 eU:s.heap.FunFrames base outer
 frf:∀ b∈kI outer,H b=none
 hok:cC P w H s.heap
 bare:AllBare s.gens
def CE (outer:List Env) (P:Program) (w:World) (H:Hp) (s:Shared) (Q:VK) (u:Value) (s':Shared):Prop :=
 ∃ v H',s'.os=s.os/\AllBare s'.gens/\Un (kI outer) [] H H' s.heap s'.heap/\cC P w H' s'.heap/\RelV v u/\Q v H'
def CR (CX:fD) (outer:List Env) (P:Program) (w:World) (H:Hp) (s:Shared) (Q:VK) (E:XK) (r:Result) (s':Shared):Prop :=
 match r with
 | .ok (.ret u)=>CE outer P w H s Q u s'
 | .ok _=>False
 | .error e=>CX outer H s E e s'
structure bU (P:Program) (w:World) (K:PySem.W.Frag) (mg:Str->Option Value) (base:Heap) (CX:fD) (k:Nat) (f:Addr) (fd:FuncData) (ps:List Str) (sp:Sp):Prop where
 len:∀ vs H Q E,sp vs H Q E->vs.length=ps.length
 run:∀(A:Around) (outer:List Env) (s:Shared) (H:Hp) (args:Args) (us:List Value) (vs:List V) (Q:VK) (E:XK),bC k A->mD P w K mg base A outer s H->BindsTo s fd args (ps.zip us)->Vals vs us->sp vs H Q E ->
  codeAny (model P w) A (.call (.ref f) args) (CR CX outer P w H s Q E) s
theorem bU.mono {P:Program} {w:World} {K:PySem.W.Frag} {mg:Str->Option Value} {base:Heap} {CX:fD} {j k:Nat} {f:Addr} {fd:FuncData} {ps:List Str} {sp:Sp} (F:bU P w K mg base CX j f fd ps sp) (h:j<=k) :
  bU P w K mg base CX k f fd ps sp:=⟨F.len,λA outer s H args us vs Q E hr=>F.run A outer s H args us vs Q E (hr.mono h)⟩
section
variable {X:Cx} {pins:List (Addr × Obj)} {σ:St} {H:Hp} {s s':Shared}
theorem Inv.tj (I:Inv X pins σ H s):mD X.prog X.w X.K X.mg X.base X.A X.stack s H :=
 ⟨I.ok.frames,I.ok.mod,I.bs,Nat.le_trans I.ok.bsz I.sz,I.stack,I.jW,I.hok,I.bare⟩
theorem Inv.after {Q:VK} {u:Value} (I:Inv X pins σ H s) (h:CE X.stack X.prog X.w H s Q u s'):EP X pins σ Q u s':=by
 obtain⟨v,H',os,bare,un,hok,r,q⟩:=h
 obtain⟨hh,g,d,t,os'⟩:=s'
 obtain rfl:os'=s.os:=os
 exact⟨v,H',I.call (h':=hh) (g':=g) (d':=d) (t':=t) (ch:=[]) un hok bare (λb z=>absurd z (by simp)),r,q⟩
end
def cP (sp:Sp) (aO:List V) (E:XK) (t:TA):TE:=λσ H Q=>t σ H λvs H1=>sp (vs++aO) H1 Q E
def sj (C:Addr) (m:Str) (sp:Sp) (aO:List V) (E:XK) (ta:TE) (t:TA):TE:=λσ H Q=>ta σ H λx H1=>∃ a dx fs,x=.ref a/\H1 a=some (.ins C dx fs)/\fs.lookup m=none /\
 t σ H1 λvs H2=>sp (x::(vs++aO)) H2 Q E
def si (C:Addr) (sp:Sp) (aO:List V) (E:XK) (t:TA):TE:=λσ H Q=>t σ H λvs H1=>∀ x dx,H1 x=none->H1 dx=none->dx≠x ->
 sp (.ref x::(vs++aO)) (upd (upd H1 dx (.own x)) x (.ins C dx [])) (λv H2=>v=.a9/\Q (.ref x) H2) E
def Binds (K:PySem.W.Frag) (fd:FuncData) (ps:List Str) (ds:List Value):Prop :=
 ∀(s:Shared) (us:List Value),K.In s.heap->(us++ds).length=ps.length->BindsTo s fd ⟨us,[]⟩ (ps.zip (us++ds))
theorem Binds.all {K:PySem.W.Frag} {fd:FuncData} {ps:List Str} (h:∀ us:List Value,us.length=ps.length->bindArgs fd ⟨us,[]⟩=pure (ps.zip us)):Binds K fd ps []:=λs us _ hl=>by
 rw [List.append_nil] at hl ⊢
 exact .of_eq (h us hl)
def Passes (CX:fD) (X:Cx) (E:XK):Prop:=∀(pins:List (Addr × Obj)) (σ:St) (H:Hp) (s:Shared) (e:Value) (s':Shared),Inv X pins σ H s->CX X.stack H s E e s'->X.xe e s'
section
variable {X:Cx} {CX:fD} {k:Nat} {f C:Addr} {fd:FuncData} {ps:List Str} {sp:Sp} {aO:List V} {ds:List Value} {E:XK} {x m:Str} {p pos apos:Pos} {e o:Expr} {es:List Expr} {ta:TE} {t:TA}
theorem qv {pins:List (Addr × Obj)} {σ:St} {H:Hp} {s:Shared} {Q:VK} {us:List Value} {vs:List V} (F:bU X.prog X.w X.K X.mg X.base CX k f fd ps sp) (hr:bC k X.A) (hb:Binds X.K fd ps ds) (hd:Vals aO ds) (hx:Passes CX X E)
  (I:Inv X pins σ H s) (r:Vals vs us) (h:sp (vs++aO) H Q E):wpAny (model X.prog X.w) X.A (call (.ref f) us) (EP X pins σ Q) X.xe s:=by
 have r2:Vals (vs++aO) (us++ds):=r.append hd
 have hl:(us++ds).length=ps.length:=by rw [<- r2.length];exact F.len _ _ _ _ h
 refine wpAny_call (codeAny_mono (F.run X.A X.stack s H ⟨us,[]⟩ (us++ds) (vs++aO) Q E hr I.tj (hb s us I.eC hl) r2 h) λr s' hq=>?_)
 cases r with
 | error e=>exact hx pins σ H s e s' I hq
 | ok fl =>
  cases fl with
  | ret u=>exact I.after hq
  | next=>exact False.elim hq
  | brk=>exact False.elim hq
  | cont=>exact False.elim hq
theorem nF (F:bU X.prog X.w X.K X.mg X.base CX k f fd ps sp) (hr:bC k X.A) (hg:Gl X x) (hm:X.mg x=some (.ref f)) (hk:PySem.W.keepIn X.K (.ref f)=true) (hb:Binds X.K fd ps ds) (hd:Vals aO ds) (hx:Passes CX X E)
  (ha:PA X (e::es) t) (hdb:(x==("__debug__":Str))=false:=by decide) (he:starEach (e::es) X.env=(false,eval e X.env)::starEach es X.env:=by rfl) (hpl:(backTo pos (starEach es X.env)).any (·.1)=false:=by rfl) :
  PE X (.Call (.Name x p) (e::es) [] pos) (cP sp aO E t):=by
 intro pins s σ H Q I h
 refine wpAny_Call_Name_kw (jD I hg hm ?_ hdb)
 refine PySem.W.callWith_K (h₀:=X.base) I.ok.mod.kin hk (a8 (ha pos pins s σ H _ I h) λus s1 ⟨vs,H1,I1,r,q⟩=>⟨I1.eC,?_⟩) he hpl
 exact qv F hr hb hd hx I1 r q
end
section
variable {X:Cx} {CX:fD} {k:Nat} {f C:Addr} {fd:FuncData} {ps ks:List Str} {sp:Sp} {E:XK} {x m:Str} {p pos apos kpos:Pos} {e o:Expr} {es:List Expr} {kws:List Keyword} {te ta:TE} {t tk:TA} {nm:Option Str}
variable {g:List Value->List Value->List Value} {gV:List V->List V->List V}
end
structure aD (N P:List Str) (sc:Scope):Prop where
 kind:sc.kind=.function
 co:sc.isCoroutine=false
 gen:sc.isGenerator=false
 nd:N.Nodup
 pre:N.take P.length=P
 par:∀ x∈P,sc.names.lookup x=some .local∨sc.names.lookup x=some .cell
 nofree:∀ y∈sc.names,y.2≠.free
theorem fQ {kindOf:Str->Option NameKind} {x:Str}:∀{binds:List (Str × Value)} {m:Str->Option Value},(∀ v,(x,v)∉binds)->bindL kindOf binds m x=m x
 | [],_,_=>rfl
 | (n,v)::r,m,h=>by
  unfold bindL
  rw [fQ λw hw=>h w (List.mem_cons_of_mem _ hw)]
  split
  ·have:x≠n:=by rintro rfl;exact h v List.mem_cons_self
   simp [this]
  ·rfl
theorem fO {kindOf:Str->Option NameKind} {x:Str}:∀{binds:List (Str × Value)} {m:Str->Option Value},(∀ v,(x,v)∉binds)->bindC kindOf binds m x=m x
 | [],_,_=>rfl
 | (n,v)::r,m,h=>by
  unfold bindC
  rw [fO λw hw=>h w (List.mem_cons_of_mem _ hw)]
  split
  ·rfl
  ·have:x≠n:=by rintro rfl;exact h v List.mem_cons_self
   simp [this]
theorem fP {kindOf:Str->Option NameKind} {x:Str} {v:Value}:∀{P:List Str} {vs:List Value} {i:Nat} {m:Str->Option Value},P.Nodup->P[i]?=some x->vs[i]?=some v->kindOf x=some .local ->
  bindL kindOf (P.zip vs) m x=some v
 | [],_,_,_,_,h,_,_=>by simp at h
 | _::_,[],_,_,_,_,h,_=>by simp at h
 | p::P,w::vs,0,m,nd,h1,h2,hk=>by
  simp at h1 h2;subst h1;subst h2
  show bindL kindOf ((p,w)::P.zip vs) m p=_
  unfold bindL
  rw [fQ λv hv=>(List.nodup_cons.mp nd).1 (List.of_mem_zip hv).1,if_pos hk]
  simp
 | p::P,w::vs,i+1,m,nd,h1,h2,hk=>by
  show bindL kindOf ((p,w)::P.zip vs) m x=_
  unfold bindL
  exact fP (i:=i) (List.nodup_cons.mp nd).2 (by simpa using h1) (by simpa using h2) hk
theorem fN {kindOf:Str->Option NameKind} {x:Str} {v:Value}:∀{P:List Str} {vs:List Value} {i:Nat} {m:Str->Option Value},P.Nodup->P[i]?=some x->vs[i]?=some v->kindOf x≠some .local ->
  bindC kindOf (P.zip vs) m x=some v
 | [],_,_,_,_,h,_,_=>by simp at h
 | _::_,[],_,_,_,_,h,_=>by simp at h
 | p::P,w::vs,0,m,nd,h1,h2,hk=>by
  simp at h1 h2;subst h1;subst h2
  show bindC kindOf ((p,w)::P.zip vs) m p=_
  unfold bindC
  rw [fO λv hv=>(List.nodup_cons.mp nd).1 (List.of_mem_zip hv).1,if_neg hk]
  simp
 | p::P,w::vs,i+1,m,nd,h1,h2,hk=>by
  show bindC kindOf ((p,w)::P.zip vs) m x=_
  unfold bindC
  exact fN (i:=i) (List.nodup_cons.mp nd).2 (by simpa using h1) (by simpa using h2) hk
def start (N:List Str) (vs:List V):St:=vs.map some++List.replicate (N.length-vs.length) none
def fG (CX:fD) (P:Program) (w:World) (K:PySem.W.Frag) (mg:Str->Option Value) (base:Heap) (N:List Str) (qual:Str) (scope:Scope) (f:Addr) (cd:Value) (A:Around) (outer:List Env) (s:Shared) (H:Hp) (E:XK):Cx where
 prog:=P
 w:=w
 K:=K
 mg:=mg
 base:=base
 A:=A.deeper (envOfC qual scope s.heap.objs.size f cd)
 N:=N
 s₀:=s
 H₀:=H
 env:=envOfC qual scope s.heap.objs.size f cd
 outer:=outer
 stack:=envOfC qual scope s.heap.objs.size f cd::outer
 ex:=[]
 calm:=true
 fn:=λ_=>true
 pn:=[]
 xe:=λe s'=>wpAny (model P w) (A.deeper (envOfC qual scope s.heap.objs.size f cd)) (leaving (envOfC qual scope s.heap.objs.size f cd) e) (λ_ s''=>CX outer H s E e s'') (λe' s''=>CX outer H s E e' s'') s'
theorem ia {sc:Scope} {n:Nat} {x:Str} (h:sc.names.lookup x=some .cell):∃ c,(cellsFrom n sc.names []).lookup x=some c:=by
 have q:=PySem.W.cellsFrom_some sc.names n [] (.inl h)
 exact Option.isSome_iff_exists.mp q
theorem km {CX:fD} {P:Program} {w:World} {K:PySem.W.Frag} {mg:Str->Option Value} {base:Heap} {N ps:List Str} {qual:Str} {scope:Scope} {f:Addr} {cd:Value} {A:Around} {outer:List Env} {s s1:Shared} {H:Hp} {E:XK} {us:List Value} {vs:List V}
  (S:aD N ps scope) (hd:A.handled=none) (e0:mD P w K mg base A outer s H) (hl:vs.length=ps.length) (r:Vals vs us)
  (x:InCallC s s.heap.objs.size (bindL (envOfC qual scope s.heap.objs.size f cd).kindOf (ps.zip us) λ_=>none) (cellsFrom (s.heap.objs.size+1) scope.names []) (bindC (envOfC qual scope s.heap.objs.size f cd).kindOf (ps.zip us) λ_=>none) s1) :
  Inv (fG CX P w K mg base N qual scope f cd A outer s H E) [] (start N vs) H s1:=by
 have hpl:ps.length<=N.length:=by have:=congrArg List.length S.pre;rw [List.length_take] at this;omega
 obtain⟨h1,tk,rfl,hk⟩:=x.done
 have noA:∀ b:Addr,b∉(fG CX P w K mg base N qual scope f cd A outer s H E).ex:=λb z=>absurd (show b∈([]:List Addr) from z) (by simp)
 refine⟨⟨e0.mod,S.kind,rfl,rfl,Nat.le_refl _,λy z c h1 h2=>?_,λy hy=>?_,λy c _ h=>?_,λ_=>hd,Around.frames_deeper e0.frames,.inr ⟨rfl,rfl⟩,λb z=>absurd z (noA b),e0.bs,e0.bsz,λb _ _=>noA b,λb z=>absurd z (noA b),e0.eU,e0.frf⟩,
  rfl,e0.bare,Un.kept hk,⟨_,x.toInCall.ns,λi y v h1 h2 h3=>?_⟩,λy c h=>⟨_,x.cell y c h⟩,e0.hok.fresh (Nat.le_refl _),λy c h=>?_,λp hp=>absurd (show p∈([]:List (Addr × Obj)) from hp) (by simp),e0.hok.kept hk,?_⟩
 ·exact name_of_addr x.apart (PySem.mem_of_lookup h1) (PySem.mem_of_lookup h2)
 ·have hy:scope.names.lookup y=some .cell∨scope.names.lookup y=some .free:=hy
  rcases hy with hy | hy
  ·exact ia hy
  ·exact absurd rfl (S.nofree _ (PySem.mem_of_lookup hy))
 ·exact Nat.le_of_lt (x.above y c (PySem.mem_of_lookup h))
 ·have hi:i<vs.length:=by
   unfold start at h2
   by_cases hi:i<vs.length
   ·exact hi
   ·rw [List.getElem?_append_right (by simpa using hi)] at h2
    rw [List.getElem?_replicate] at h2
    split at h2<;>cases h2
  have ha:vs[i]?=some v:=by
   unfold start at h2
   rw [List.getElem?_append_left (by simpa using hi),List.getElem?_map] at h2
   cases e:vs[i]? with
   | none=>rw [e] at h2;cases h2
   | some a=>rw [e] at h2;cases h2;rfl
  obtain⟨u,hu,rv⟩:=r.get ha
  have hp:ps[i]?=some y:=by
   rw [<- S.pre,List.getElem?_take_of_lt (by omega)];exact h1
  have ndP:ps.Nodup:=by rw [<- S.pre];exact S.nd.sublist (List.take_sublist _ _)
  refine⟨u,rv,?_⟩
  rcases S.par y (List.mem_of_getElem? hp) with k | k
  ·exact .inl ⟨k,fP ndP hp hu k⟩
  ·obtain⟨c,e⟩:=ia (n:=s.heap.objs.size+1) k
   refine .inr ⟨.inl k,c,e,?_⟩
   have q:=x.cell y c e
   rw [fN ndP hp hu (by show scope.names.lookup y≠_;rw [k];decide)] at q
   exact q
 ·exact e0.hok.fresh (Nat.le_of_lt (x.above y c (PySem.mem_of_lookup h)))
 ·unfold start
  show _=N.length
  rw [List.length_append,List.length_map,List.length_replicate]
  omega
theorem rh {CX:fD} {P:Program} {w:World} {K:PySem.W.Frag} {mg:Str->Option Value} {base:Heap} {k:Nat} {f:Addr} {name qual:Str} {params:Arguments} {body:List Stmt} {scope:Scope} {dV kV doc pm cdv ct oc:Value} {an od:Option Addr}
  {osl:Array (Option Value)} {N ps:List Str} {sp:Sp} (lk:K.lookup f=some ⟨oc,od,.func (PySem.W.fnOf name qual params body scope dV kV doc pm an cdv ct),osl⟩) (hcd:PySem.W.codeIn K cdv qual=true) (S:aD N ps scope)
  (len:∀ vs H Q E,sp vs H Q E->vs.length=ps.length)
  (hbody:∀(A:Around) (outer:List Env) (s:Shared) (H:Hp) (vs:List V) (Q:VK) (E:XK),bC k (A.deeper (envOfC qual scope s.heap.objs.size f cdv))->sp vs H Q E ->
   ∃ t,gq (fG CX P w K mg base N qual scope f cdv A outer s H E) body t/\t { nx:=λ_ H'=>Q .a9 H',rt:=Q } (start N vs) H) :
  bU P w K mg base CX (k+1) f (PySem.W.fnOf name qual params body scope dV kV doc pm an cdv ct) ps sp:=by
 refine⟨len,λA outer s H args us vs Q E hr e0 hb r hsp=>?_⟩
 have hl:=len _ _ _ _ hsp
 have KX:K.In s.heap:=e0.mod.kin.keeps λb o e=>(e0.bs b o e).1
 have lim:s.heap.NoLimit:=e0.mod.nolimit.keeps λb o e=>(e0.bs b o e).1
 have hkind:∀ y∈ps.zip us,scope.names.lookup y.1=some .local∨(scope.names.lookup y.1=some .cell/\((cellsFrom (s.heap.objs.size+1) scope.names []).lookup y.1).isSome=true):=fun⟨n,v⟩ hy=>by
  rcases S.par n (List.of_mem_zip hy).1 with q | q
  ·exact .inl q
  ·exact .inr ⟨q,PySem.W.cellsFrom_some _ _ _ (.inl q)⟩
 refine codeAny_call_function hr.depth (KX _ _ lk) rfl S.co S.gen rfl (PySem.W.codeRec_of KX hcd) (hb _ _ _ _ ?_)
 refine wpAny_newFunctionEnv_cells S.kind hkind λenv he s1 x=>?_
 subst he
 refine⟨lim.keeps x.toInCall.keep,codeAny_func ?_⟩
 obtain⟨t,ht,hq⟩:=hbody A outer s H vs Q E (hr.deeper _) hsp
 have I:Inv (fG CX P w K mg base N qual scope f cdv A outer s H E) [] (start N vs) H s1:=km S hr.hd e0 hl r x
 refine wpAny_mono (ht [] s1 (start N vs) H _ I hq) (λfl s' hs=>?_) λe s' hs=>hs
 have fin:∀{σ':St} {H':Hp} {v:V} {u:Value},Inv (fG CX P w K mg base N qual scope f cdv A outer s H E) [] σ' H' s'->RelV v u->Q v H'->CE outer P w H s Q u s' :=
  λ{σ' H' v u} J rv q=>⟨v,H',J.os,J.bare,J.base,J.hok,rv,q⟩
 cases fl with
 | ret u =>
  obtain⟨v,σ',H',J,rv,q⟩:=hs
  exact fin J rv q
 | next =>
  obtain⟨σ',H',J,q⟩:=hs
  exact fin (v:=V.a9) (u:=Value.none) J rfl q
 | brk =>
  obtain⟨_,_,_,q⟩:=hs
  exact False.elim q
 | cont =>
  obtain⟨_,_,_,q⟩:=hs
  exact False.elim q
section
variable {X:Cx} {x:Str} {p pos:Pos} {e:Expr} {es:List Expr} {t:TA} {id T:String} {r:List V->Hp->VK->Prop}
def tK (r:List V->Hp->VK->Prop) (t:TA):TE:=λσ H Q=>t σ H λvs H1=>r vs H1 Q
theorem ax (hc:bq X (.builtin id) r) (hg:Gl X x) (hm:X.mg x=none) (hv:bootBuiltins x=some (.builtin id)) (ha:PA X (e::es) t) (hn:x ≠ "__name__":=by decide) (hdb:(x==("__debug__":Str))=false:=by decide)
  (he:starEach (e::es) X.env=(false,eval e X.env)::starEach es X.env:=by rfl) (hpl:(backTo pos (starEach es X.env)).any (·.1)=false:=by rfl):PE X (.Call (.Name x p) (e::es) [] pos) (tK r t):=by
 intro pins s σ H Q I h
 refine wpAny_Call_Name_kw (e7 I hg hm hv ?_ hn hdb)
 exact PyProof.Rows.callWith_builtin1 (a8 (ha pos pins s σ H _ I h) λus s1 ⟨vs,H1,I1,r1,q1⟩=>hc pins s1 σ H1 vs us Q I1 r1 q1) he hpl
theorem a5 (hc:bq X (.type T) r) (hg:Gl X x) (hm:X.mg x=none) (hv:bootBuiltins x=some (.type T)) (ha:PA X (e::es) t) (hn:x ≠ "__name__":=by decide) (hdb:(x==("__debug__":Str))=false:=by decide)
  (he:starEach (e::es) X.env=(false,eval e X.env)::starEach es X.env:=by rfl) (hpl:(backTo pos (starEach es X.env)).any (·.1)=false:=by rfl):PE X (.Call (.Name x p) (e::es) [] pos) (tK r t):=by
 intro pins s σ H Q I h
 refine wpAny_Call_Name_kw (e7 I hg hm hv ?_ hn hdb)
 exact PyProof.Rows.callWith_type1 (a8 (ha pos pins s σ H _ I h) λus s1 ⟨vs,H1,I1,r1,q1⟩=>hc pins s1 σ H1 vs us Q I1 r1 q1) he hpl
end
end L2
namespace HT
open PySem PyProof.Rows
section
open PySem.SeqAt
open PySem.AutoSeq1 (wpAny_loadPart')
open PySem.MeetsSeq PySem.MeetsSeq2 PySem.MeetsSeq3
end
section
variable {prog:Program} {w:World} {A:Around} {E:Value->Shared->Prop} {s:Shared}
def jc (n d:Nat):Option Int->Nat
 | none=>d
 | some v=>if v<0 then (v+(n:Int)).toNat else min v.toNat n
end
end HT
namespace L2
open PySem PySem.Spec PyProof.Rows
abbrev TO:=St->Hp->(Option Int->Hp->Prop)->Prop
def PO (X:Cx) (e:Option Expr) (t:TO):Prop :=
 ∀(pins:List (Addr × Obj)) (s:Shared) (σ:St) (H:Hp) (Q:Option Int->Hp->Prop),Inv X pins σ H s->t σ H Q ->
  wpAny (model X.prog X.w) X.A (evalPart e X.env) (λu s'=>∃ o H',Inv X pins σ H' s'/\IsPart u o/\Q o H') X.xe s
def jY:TO:=λ_ H Q=>Q none H
def o9 (t:TE):TO:=λσ H Q=>t σ H λx H1=>∃ i,x=.int i/\Q (some i) H1
section
variable {X:Cx} {e:Expr} {te:TE} {lo hi:Option Expr} {tl th:TO} {pos p2:Pos}
theorem nM:PO X none jY:=by
 intro pins s σ H Q I h
 rw [evalPart_none]
 exact wpAny_pure ⟨none,H,I,.none,h⟩
theorem b3 (h:PE X e te):PO X (some e) (o9 te):=by
 intro pins s σ H Q I hw
 rw [evalPart_some]
 refine a8 (h pins s σ H _ I hw) λu s1 ⟨x,H1,I1,r1,q1⟩=>?_
 obtain⟨i,rfl,q⟩:=q1
 obtain⟨t,rfl⟩:=r1
 exact⟨some i,H1,I1,.int i t,q⟩
def pk (X:Cx) (r:V->Option Int->Option Int->Hp->VK->Prop):Prop :=
 ∀(pins:List (Addr × Obj)) (s:Shared) (σ:St) (H:Hp) (x:V) (v vl vu:Value) (lo hi:Option Int) (sl:Addr) (Q:VK),Inv X pins σ H s->RelV x v->s.heap.IsSliceOf sl vl vu .none->IsPart vl lo->IsPart vu hi->r x lo hi H Q ->
  ∃ T id,typeLookup (.type T) "__getitem__"=pure (some (.builtin id))/\s.TypeIs v T/\wpAny (model X.prog X.w) X.A (getItem v (.ref sl)) (EP X pins σ Q) X.xe s
theorem pk.or {r r':V->Option Int->Option Int->Hp->VK->Prop} (h:pk X r) (h':pk X r'):pk X (λx lo hi H Q=>r x lo hi H Q∨r' x lo hi H Q):=by
 intro pins s σ H x v vl vu lo hi sl Q I rx hs pl pu q
 rcases q with q | q
 ·exact h pins s σ H x v vl vu lo hi sl Q I rx hs pl pu q
 ·exact h' pins s σ H x v vl vu lo hi sl Q I rx hs pl pu q
def uk (r:V->Option Int->Option Int->Hp->VK->Prop) (te:TE) (tl th:TO):TE:=λσ H Q=>te σ H λx H1=>tl σ H1 λl H2=>th σ H2 λu H3=>r x l u H3 Q
theorem di {r:V->Option Int->Option Int->Hp->VK->Prop} (hr:pk X r) (he:PE X e te) (hl:PO X lo tl) (hu:PO X hi th):PE X (.Subscript e (.Slice lo hi none p2) pos) (uk r te tl th):=by
 intro pins s σ H Q I h
 refine Subscript_ (a8 (he pins s σ H _ I h) λv s1 ⟨x,H1,I1,r1,q1⟩=>?_)
 refine wpAny_Slice (a8 (hl pins s1 σ H1 _ I1 q1) λvl s2 ⟨l,H2,I2,pl,q2⟩=>a8 (hu pins s2 σ H2 _ I2 q2) λvu s3 ⟨u,H3,I3,pu,q3⟩=>?_)
 rw [evalPart_none]
 refine wpAny_pure ?_
 have I4:Inv X pins σ H3 { s3 with heap:=s3.heap.push { cls:=.type "slice",data:=.fields #[vl,vu,.none] } }:=I3.kept (t':=s3.toks) λb ob q=>Heap.get?_push_of_some _ q
 obtain⟨T,id,hT,ht,hg⟩:=hr pins { s3 with heap:=s3.heap.push { cls:=.type "slice",data:=.fields #[vl,vu,.none] } } σ H3 x v vl vu l u s3.heap.objs.size Q I4 r1 (Heap.IsSliceOf.new ..) pl pu q3
 show wpAny (model X.prog X.w) X.A (subscriptTail e (.Slice lo hi none p2) v (.ref s3.heap.objs.size)) (EP X pins σ Q) X.xe { s3 with heap:=s3.heap.push { cls:=.type "slice",data:=.fields #[vl,vu,.none] } }
 exact tail_any (ops:=[.ref s3.heap.objs.size,v]) ht hT hg (by with_unfolding_all rfl)
def iT (xs:List V) (lo hi:Option Int):List V:=(xs.drop (HT.jc xs.length 0 lo)).take (HT.jc xs.length xs.length hi-HT.jc xs.length 0 lo)
theorem d4 (xs:List V) (lo hi:Option Int):(iT xs lo hi).length<=xs.length:=by
 unfold iT
 rw [List.length_take,List.length_drop]
 omega
end
def oG (n:Nat) (i:Int):Option Nat:=if 0<=i then (if i<n then some i.toNat else none) else if -(n:Int)<=i then some (i+n).toNat else none
def oy {α:Type} (xs:List α) (i:Int):Option α:=(oG xs.length i).bind λj=>xs[j]?
theorem mY {n:Nat} {i:Int} {j:Nat} (h:oG n i=some j):seqIndex? i n=some j/\j<n /\ -(n:Int)<=i/\i<n:=by
 unfold oG at h
 by_cases h0:0<=i
 ·rw [if_pos h0] at h
  by_cases h1:i<n
  ·rw [if_pos h1] at h
   have e:i.toNat=j:=Option.some.inj h
   exact⟨by rw [seqIndex_of h0 h1,e],by omega,by omega,h1⟩
  ·rw [if_neg h1] at h;cases h
 ·rw [if_neg h0] at h
  by_cases h1:-(n:Int)<=i
  ·rw [if_pos h1] at h
   have e:(i+n).toNat=j:=Option.some.inj h
   exact⟨by rw [seqIndex_neg (by omega) h1,e],by omega,h1,by omega⟩
  ·rw [if_neg h1] at h;cases h
theorem mN {α:Type} {xs:List α} {i:Int} {v:α} (h:oy xs i=some v):∃ j,seqIndex? i xs.length=some j/\xs[j]?=some v/\j<xs.length /\ -(xs.length:Int)<=i/\i<xs.length:=by
 unfold oy at h
 cases e:oG xs.length i with
 | none=>rw [e] at h;cases h
 | some j =>
  rw [e] at h
  obtain⟨h1,h2,h3,h4⟩:=mY e
  exact⟨j,h1,h,h2,h3,h4⟩
theorem jk {α:Type} {xs:List α} {j:Nat} {v:α} (h:xs[j]?=some v):oy xs (j:Int)=some v:=by
 have hj:j<xs.length:=(List.getElem?_eq_some_iff.mp h).1
 have e:oG xs.length (j:Int)=some j:=by
  unfold oG
  rw [if_pos (by omega),if_pos (by omega)];simp
 unfold oy;rw [e];exact h
theorem hZ {α:Type} (xs:List α) (v:α):oy (xs++[v]) (-1)=some v:=by
 have hl:(xs++[v]).length=xs.length+1:=by simp
 have e:oG (xs++[v]).length (-1)=some xs.length:=by
  unfold oG
  rw [hl,if_neg (by decide),if_pos (by omega)]
  congr 1
  omega
 unfold oy
 rw [e]
 show (xs++[v])[xs.length]?=some v
 simp
def mI (b:Expr):Prop:=∀ o i,subscripted b false o i=operate [o,i] (getItem o i)
def qK (X:Cx) (r:R2):Prop :=
 ∀(value slice:Expr) (pins:List (Addr × Obj)) (s:Shared) (σ:St) (H:Hp) (x y:V) (v u:Value) (Q:VK),Inv X pins σ H s->RelV x v->RelV y u->r x y H Q ->
  subscripted slice false v u=operate [v,u] (getItem v u)->wpAny (model X.prog X.w) X.A (subscriptTail value slice v u) (EP X pins σ Q) X.xe s
def ow (X:Cx) (id:String) (r:V->List V->Hp->VK->Prop):Prop :=
 ∀(pins:List (Addr × Obj)) (s:Shared) (σ:St) (H:Hp) (x:V) (xs:List V) (v:Value) (us:List Value) (Q:VK),Inv X pins σ H s->RelV x v->Vals xs us->r x xs H Q ->
  wpAny (model X.prog X.w) X.A (call (.builtin id) (v::us)) (EP X pins σ Q) X.xe s
section
variable {X:Cx} {a b:Expr} {ta tb:TE} {pos:Pos}
theorem qK.or {r r':R2} (h:qK X r) (h':qK X r'):qK X (λx y H Q=>r x y H Q∨r' x y H Q):=by
 intro value slice pins s σ H x y v u Q I rx ry q hs
 rcases q with q | q
 ·exact h value slice pins s σ H x y v u Q I rx ry q hs
 ·exact h' value slice pins s σ H x y v u Q I rx ry q hs
theorem ow.or {id:String} {r r':V->List V->Hp->VK->Prop} (h:ow X id r) (h':ow X id r'):ow X id (λx xs H Q=>r x xs H Q∨r' x xs H Q):=by
 intro pins s σ H x xs v us Q I rx rs q
 rcases q with q | q
 ·exact h pins s σ H x xs v us Q I rx rs q
 ·exact h' pins s σ H x xs v us Q I rx rs q
theorem iz {r:R2} (hr:qK X r) (ha:PE X a ta) (hb:PE X b tb) (hs:mI b):PE X (.Subscript a b pos) (qC r ta tb):=by
 intro pins s σ H Q I h
 exact Subscript_ (mO ha hb I h λv u s2 x y H2 I2 rx ry q=>hr a b pins s2 σ H2 x y v u Q I2 rx ry q (hs _ _))
def qr (K:PySem.W.Frag):R2:=λx y H Q=>∃ p xs i v,x=.ref p/\y=.int i/\aS K H p xs/\oy xs i=some v/\Q v H
theorem dc:qK X (qr X.K):=by
 intro value slice pins s σ H x y v u Q I rx ry h hs
 obtain⟨p,xs,i,z,rfl,rfl,hq,he,q⟩:=h
 cases rx
 obtain⟨t,rfl⟩:=ry
 obtain⟨its,r,pl,hz⟩:=I.list hq
 obtain⟨j,h1,h2,h3,h4,h5⟩:=mN he
 obtain⟨w,ew,rw'⟩:=r.get h2
 have hl:=r.length
 have hn:=gH
 have fin:EP X pins σ Q w s:=⟨z,H,I,rw',q⟩
 by_cases h0:0<=i
 ·have hj:i.toNat=j:=by
   rw [seqIndex_of h0 h5] at h1
   exact Option.some.inj h1
  exact item_listR pl.isList h0 (by omega) (by rw [hj];simpa using ew) fin hs
 ·have hj:(i+(its.toArray.size:Int)).toNat=j:=by
   rw [seqIndex_neg (by omega) h4] at h1
   rw [List.size_toArray,<- hl]
   exact Option.some.inj h1
  exact subscriptTail_builtinR (x:=w) pl.isList.typeIs slot_list_getitem.lookup
   (wpAny_getItem_list_neg (Q:=λr s'=>r=w/\EP X pins σ Q r s') pl.isList (by omega) (by rw [List.size_toArray]<;>omega) (by omega) (by rw [hj];simpa using ew) ⟨rfl,fin⟩) hs
theorem Inv.lst {pins:List (Addr × Obj)} {σ:St} {H:Hp} {s:Shared} {p:Addr} {xs:List V} (I:Inv X pins σ H s) (h:H p=some (.lst xs)) :
  ∃(its:List Value) (n:Nat),Vals xs its/\s.heap.get? p=some { cls:=.type "list",data:=.seq its.toArray n }/\xs.length<=sizeLine:=by
 obtain⟨z,its,n,r,e⟩:=I.hok p _ h
 exact⟨its,n,r,e,z⟩
theorem gY (lo hi:Option Int) (n:Nat):(sliceBounds lo hi none n).1=((HT.jc n 0 lo:Nat):Int)/\(sliceBounds lo hi none n).2.1=((HT.jc n n hi:Nat):Int)/\(sliceBounds lo hi none n).2.2=1:=by
 refine⟨?_,?_,rfl⟩
 ·cases lo with
  | none=>simp [sliceBounds,HT.jc]
  | some i =>
   simp only [sliceBounds,HT.jc,Option.getD_none,show (1:Int) > 0 by decide,if_true]
   by_cases h:i<0
   ·simp only [h,if_true]<;>omega
   ·simp only [h,if_false]<;>omega
 ·cases hi with
  | none=>simp [sliceBounds,HT.jc]
  | some i =>
   simp only [sliceBounds,HT.jc,Option.getD_none,show (1:Int) > 0 by decide,if_true]
   by_cases h:i<0
   ·simp only [h,if_true]<;>omega
   ·simp only [h,if_false]<;>omega
theorem fJ (its:List Value) (lo hi:Option Int):slicePick its.toArray lo hi none=((its.drop (HT.jc its.length 0 lo)).take (HT.jc its.length its.length hi-HT.jc its.length 0 lo)).toArray:=by
 obtain⟨h1,h2,h3⟩:=gY lo hi its.toArray.size
 unfold slicePick
 rw [h1,h2,h3]
 simp only [sliceRange_one,pick_run,List.size_toArray]<;>rfl
def tH (K:PySem.W.Frag):V->Option Int->Option Int->Hp->VK->Prop:=λx lo hi H Q=>∃ a xs,x=.ref a/\aS K H a xs/\∀ p,H p=none->Q (.ref p) (upd H p (.lst (iT xs lo hi)))
theorem oa:pk X (tH X.K):=by
 intro pins s σ H x v vl vu lo hi sl Q I rx hs pl pu h
 obtain⟨a,xs,rfl,hx,q⟩:=h
 cases rx
 obtain⟨its,r,ht,hz⟩:=I.list hx
 have hlen:=r.length
 refine⟨"list",_,slot_list_getitem.lookup,ht.isList.typeIs,?_⟩
 refine wpAny_getItem_list_slice ht.isList hs pl pu .none (by simp) ?_ (by rw [List.size_toArray]<;>omega)
 rw [fJ,<- hlen]
 refine⟨.ref s.heap.objs.size,_,I.laid (t':=s.toks) (o:=.lst (iT xs lo hi)) (λb ob q=>Heap.get?_push_of_some _ q) (Nat.le_refl _) ?_,rfl,q _ (I.hok.fresh (Nat.le_refl _))⟩
 exact⟨Nat.le_trans (d4 xs lo hi) hz,_,0,(r.drop (HT.jc xs.length 0 lo)).take (HT.jc xs.length xs.length hi-HT.jc xs.length 0 lo),Heap.get?_push_size _ rfl⟩
def cI:V->Bool
 | .a9=>true
 | .bl _=>true
 | .int _=>true
 | .str _=>true
 | _=>false
def k8:V->V->Bool
 | .a9,.a9=>true
 | .bl a,.bl b=>a==b
 | .bl a,.int b=>(if a then 1 else 0)==b
 | .int a,.bl b=>a==(if b then 1 else 0)
 | .int a,.int b=>a==b
 | .str a,.str b=>a==b
 | _,_=>false
theorem pG {A:Around} {s:Shared} {y x:V} {u v:Value} (ry:RelV y u) (rx:RelV x v) (fy:cI y=true) (fx:cI x=true):SeqAt.EqAt A s u v (k8 y x):=by
 cases y with
 | a9 =>
  cases ry
  cases x with
  | a9=>cases rx;exact SeqAt.EqAt.same _
  | bl b=>cases rx;exact SeqAt.EqAt.none_bool b
  | int b=>obtain⟨t,rfl⟩:=rx;exact SeqAt.EqAt.none_int b t
  | str b=>obtain⟨t,rfl⟩:=rx;exact SeqAt.EqAt.none_str b t
  | _=>exact absurd (show false=true from fx) Bool.false_ne_true
 | bl a =>
  cases ry
  cases x with
  | a9=>cases rx;exact SeqAt.EqAt.bool_none a
  | bl b=>cases rx;exact SeqAt.EqAt.bool_bool a b
  | int b=>obtain⟨t,rfl⟩:=rx;exact SeqAt.EqAt.bool_int a b t
  | str b=>obtain⟨t,rfl⟩:=rx;exact SeqAt.EqAt.bool_str a b t
  | _=>exact absurd (show false=true from fx) Bool.false_ne_true
 | int a =>
  obtain⟨t',rfl⟩:=ry
  cases x with
  | a9=>cases rx;exact SeqAt.EqAt.int_none a t'
  | bl b=>cases rx;exact SeqAt.EqAt.int_bool a t' b
  | int b=>obtain⟨t,rfl⟩:=rx;exact SeqAt.EqAt.int_int a t' b t
  | str b=>obtain⟨t,rfl⟩:=rx;exact SeqAt.EqAt.int_str a t' b t
  | _=>exact absurd (show false=true from fx) Bool.false_ne_true
 | str a =>
  obtain⟨t',rfl⟩:=ry
  cases x with
  | a9=>cases rx;exact SeqAt.EqAt.str_none a t'
  | bl b=>cases rx;exact SeqAt.EqAt.str_bool a t' b
  | int b=>obtain⟨t,rfl⟩:=rx;exact SeqAt.EqAt.str_int a t' b t
  | str b=>obtain⟨t,rfl⟩:=rx;exact SeqAt.EqAt.str_str a t' b t
  | _=>exact absurd (show false=true from fx) Bool.false_ne_true
 | _=>exact absurd (show false=true from fy) Bool.false_ne_true
def iV (x:V) (u:Value):Bool:=match u with
 | .none=>k8 .a9 x
 | .bool b=>k8 (.bl b) x
 | .int i _=>k8 (.int i) x
 | .str z _=>k8 (.str z) x
 | _=>false
theorem k6 {x y:V} {u:Value} (r:RelV y u) (f:cI y=true):iV x u=k8 y x:=by
 cases y with
 | a9=>cases r;rfl
 | bl b=>cases r;rfl
 | int i=>obtain⟨t,rfl⟩:=r;rfl
 | str z=>obtain⟨t,rfl⟩:=r;rfl
 | _=>exact absurd (show false=true from f) Bool.false_ne_true
theorem c8 {x:V}:∀{xs:List V} {us:List Value},Vals xs us->xs.all cI=true->us.any (iV x)=xs.any λy=>k8 y x
 | _,_,.nil,_=>rfl
 | y::xs,u::us,.cons r t,f=>by
  rw [List.all_cons,Bool.and_eq_true] at f
  rw [List.any_cons,List.any_cons,k6 r f.1,c8 t f.2]
theorem ck {A:Around} {s:Shared} {x:V} {v:Value} (rx:RelV x v) (fx:cI x=true):∀{xs:List V} {us:List Value},Vals xs us->xs.all cI=true->∀ u∈us,SeqAt.EqAt A s u v (iV x u)
 | _,_,.nil,_=>λu hu=>by cases hu
 | y::xs,u::us,.cons r t,f=>λu' hu=>by
  rw [List.all_cons,Bool.and_eq_true] at f
  rcases List.mem_cons.mp hu with rfl | hu
  ·rw [k6 r f.1];exact pG r rx f.1 fx
  ·exact ck rx fx t f.2 u' hu
def pL (x:V) (xs:List V):Bool:=xs.any λy=>k8 y x
def ue (K:PySem.W.Frag) (neg:Bool):R2:=λx y H Q=>∃ p xs,y=.ref p/\(aS K H p xs∨aT K H p xs)/\cI x=true/\xs.all cI=true/\Q (.bl (if neg then !pL x xs else pL x xs)) H
theorem kC:c7 X (compareOp .In) (ue X.K false):=by
 intro pins s σ H x y v u Q I rx ry h
 obtain⟨p,xs,rfl,hq,fx,fs,q⟩:=h
 cases ry
 rcases hq with hq | hq
 ·obtain⟨its,r,pl,hz⟩:=I.list hq
  refine SeqAt.in_listAt (iV x) pl.isList (λw hw=>ck rx fx r fs w (by simpa using hw)) ⟨.bl _,H,I,rfl,?_⟩
  rw [show its.toArray.any (iV x)=its.any (iV x) by simp,c8 r fs]
  exact q
 ·obtain⟨its,r,pl,hz⟩:=I.tuple hq
  refine SeqAt.in_tupleAt (iV x) pl (λw hw=>ck rx fx r fs w (by simpa using hw)) ⟨.bl _,H,I,rfl,?_⟩
  rw [show its.toArray.any (iV x)=its.any (iV x) by simp,c8 r fs]
  exact q
theorem gK:c7 X (compareOp .NotIn) (ue X.K true):=by
 intro pins s σ H x y v u Q I rx ry h
 obtain⟨p,xs,rfl,hq,fx,fs,q⟩:=h
 cases ry
 rcases hq with hq | hq
 ·obtain⟨its,r,pl,hz⟩:=I.list hq
  refine SeqAt.notIn_listAt (iV x) pl.isList (λw hw=>ck rx fx r fs w (by simpa using hw)) ⟨.bl _,H,I,rfl,?_⟩
  rw [show its.toArray.any (iV x)=its.any (iV x) by simp,c8 r fs]
  exact q
 ·obtain⟨its,r,pl,hz⟩:=I.tuple hq
  refine SeqAt.notIn_tupleAt (iV x) pl (λw hw=>ck rx fx r fs w (by simpa using hw)) ⟨.bl _,H,I,rfl,?_⟩
  rw [show its.toArray.any (iV x)=its.any (iV x) by simp,c8 r fs]
  exact q
theorem gu:bq X (.builtin "len") (λxs H Q=>∃ p ys,xs=[.ref p]/\(aS X.K H p ys∨aT X.K H p ys)/\Q (.int ys.length) H):=by
 intro pins s σ H xs us Q I r h
 obtain⟨p,ys,rfl,hq,q⟩:=h
 obtain⟨u,rfl,rx⟩:=vals1 r
 cases rx
 have hn:=gH
 rcases hq with hq | hq
 ·obtain⟨its,r',pl,hz⟩:=I.list hq
  have hlen:=r'.length
  exact Calls.call_len_list pl.isList (by simp only [List.size_toArray]<;>omega) ⟨.int ys.length,H,I.tok _,⟨s.toks+1,by rw [List.size_toArray,hlen]⟩,q⟩
 ·obtain⟨its,r',pl,hz⟩:=I.tuple hq
  have hlen:=r'.length
  exact len_tuple pl (by simp only [List.size_toArray]<;>omega) ⟨.int ys.length,H,I.tok _,⟨s.toks+1,by rw [List.size_toArray,hlen]⟩,q⟩
theorem bV:bq X (.builtin "len") (λxs H Q=>∃ z,xs=[.str z]/\z.length<=sizeLine/\Q (.int z.length) H):=by
 intro pins s σ H xs us Q I r h
 obtain⟨z,rfl,hz,q⟩:=h
 obtain⟨u,rfl,t,rfl⟩:=vals1 r
 have hn:=gH
 exact len_str (by omega) ⟨.int z.length,H,I.tok _,⟨_,rfl⟩,q⟩
theorem bq.or {f:Value} {r r':List V->Hp->VK->Prop} (h:bq X f r) (h':bq X f r'):bq X f (λxs H Q=>r xs H Q∨r' xs H Q):=by
 intro pins s σ H xs us Q I rs q
 rcases q with q | q
 ·exact h pins s σ H xs us Q I rs q
 ·exact h' pins s σ H xs us Q I rs q
theorem bQ:bq X (.type "tuple") (λxs H Q=>∃ p ys,xs=[.ref p]/\((aS X.K H p ys/\∀ l,H l=none->Q (.ref l) (upd H l (.tup ys)))∨(aT X.K H p ys/\Q (.ref p) H))):=by
 intro pins s σ H xs us Q I r h
 obtain⟨p,ys,rfl,h⟩:=h
 obtain⟨u,rfl,rx⟩:=vals1 r
 cases rx
 rcases h with⟨hq,q⟩|⟨hq,q⟩
 ·obtain⟨its,r',pl,hz⟩:=I.list hq
  have hlen:=r'.length
  refine call_tuple_list pl.isList (λh' kp=>?_) (by simp only [List.size_toArray]<;>omega)
  have I1:Inv X pins σ H { s with heap:=h' }:=I.kept (t':=s.toks) kp
  have I2:Inv X pins σ (upd H h'.objs.size (.tup ys)) { s with heap:=h'.push { cls:=.type "tuple",data:=.seq its.toArray } } :=
   I1.laid (t':=s.toks) (λb o e=>Heap.get?_push_of_some _ e) (Nat.le_refl _) (show aK X.prog X.w _ _ _ (.tup ys) from ⟨hz,its,r',IsTup.new _ _⟩)
  exact⟨.ref h'.objs.size,_,I2,rfl,q _ (I1.hok.fresh (Nat.le_refl _))⟩
 ·obtain⟨its,r',pl,hz⟩:=I.tuple hq
  exact call_tuple_same pl ⟨.ref p,H,I,rfl,q⟩
def sD (K:PySem.W.Frag) (T:String) (x:V) (H:Hp):Prop:=match x with
 | .str _=>T = "str"
 | .int _=>T = "int"
 | .ref p=>(T = "list"/\∃ xs,aS K H p xs)∨(T = "tuple"/\∃ o,K.lookup p=some o/\o.cls=.type "tuple"/\o.dict=none) ∨
   (T = "dict"/\((∃ kvs,H p=some (.dK kvs))∨∃ kvs,H p=some (.dT kvs)))∨(T = "set"/\∃ S n,H p=some (.set S n))
 | _=>False
theorem mv {pins:List (Addr × Obj)} {σ:St} {H:Hp} {s:Shared} {T:String} {x:V} {v:Value} (I:Inv X pins σ H s) (r:RelV x v) (ty:sD X.K T x H) :
  s.TypeIs v T/\∀ a,v=.ref a->∃ ob,s.heap.get? a=some ob/\ob.dict=none:=by
 cases x with
 | str z =>
  obtain⟨t,rfl⟩:=r
  cases (show T = "str" from ty)
  exact⟨typeIs_str s z t,λ_ e=>nomatch e⟩
 | int i =>
  obtain⟨t,rfl⟩:=r
  cases (show T = "int" from ty)
  exact⟨typeIs_int s i t,λ_ e=>nomatch e⟩
 | ref p =>
  cases r
  rcases ty with⟨rfl,xs,hq⟩|⟨rfl,o,hk,hc,hd⟩|⟨rfl,hk⟩|⟨rfl,S,n,hk⟩
  ·obtain⟨its,_,pl,_⟩:=I.list hq
   refine⟨pl.isList.typeIs,λa e=>?_⟩
   cases e
   obtain⟨o,n,e,c,hd,_⟩:=pl
   exact⟨o,e,hd⟩
  ·refine⟨⟨o,I.eC p o hk,hc⟩,λa e=>?_⟩
   cases e
   exact⟨o,I.eC _ o hk,hd⟩
  ·have z:∃ o,s.heap.get? p=some o/\o.ExactDict:=by
    rcases hk with⟨kvs,hk⟩|⟨kvs,hk⟩
    ·obtain⟨_,_,_,_,o,_,_,e,ex,_⟩:=I.hok p _ hk
     exact⟨o,e,ex⟩
    ·obtain⟨_,_,_,_,o,_,_,e,ex,_⟩:=I.hok p _ hk
     exact⟨o,e,ex⟩
   obtain⟨o,e,ex⟩:=z
   refine⟨⟨o,e,ex.1⟩,λa e2=>?_⟩
   cases e2
   exact⟨o,e,ex.2.1⟩
  ·obtain⟨o,_,_,_,e,ex,_⟩:=I.hok p _ hk
   refine⟨⟨o,e,ex.1⟩,λa e2=>?_⟩
   cases e2
   exact⟨o,e,ex.2.1⟩
 | _=>exact False.elim ty
def rZ (K:PySem.W.Frag) (T:String) (r:V->List V->Hp->VK->Prop) (to:TE):TE:=λσ H Q=>to σ H λx H1=>sD K T x H1/\r x [] H1 Q
def uh (K:PySem.W.Frag) (T:String) (r:V->List V->Hp->VK->Prop) (to:TE) (t:TA):TE:=λσ H Q=>to σ H λx H1=>sD K T x H1/\t σ H1 λxs H2=>r x xs H2 Q
variable {o e:Expr} {es:List Expr} {to:TE} {t:TA} {name:Str} {apos cpos:Pos} {T id:String} {r:V->List V->Hp->VK->Prop}
theorem qf (pa:PlainAttrs T) (slot:Slot T name id) (hty:typeOf (.builtin id)=pure (.type "method_descriptor")) (hm:ow X id r) (ho:PE X o to)
  (hbase:attributeBase o name X.env (eval o X.env)=eval o X.env:=by rfl) (hline:(apos.endLine==cpos.line)=true:=by rfl):PE X (.Call (.Attribute o name apos) [] [] cpos) (rZ X.K T r to):=by
 intro pins s σ H Q I h
 refine wpAny_Call_method0_late hbase hline (a8 (ho pins s σ H _ I h) λv s1 ⟨x,H1,I1,r1,ty,q1⟩=>?_)
 obtain⟨h1,h2⟩:=mv I1 r1 ty
 exact⟨T,id,pa,slot,hty,h1,h2,Calls.callWith_builtin rfl (PySem.evalArgs_none (hm pins s1 σ H1 x [] v [] Q I1 r1 .nil q1))⟩
theorem fZ (pa:PlainAttrs T) (slot:Slot T name id) (hty:typeOf (.builtin id)=pure (.type "method_descriptor")) (hm:ow X id r) (ho:PE X o to) (ha:PA X (e::es) t)
  (hbase:attributeBase o name X.env (eval o X.env)=eval o X.env:=by rfl)
  (hfew:((backTo cpos (starEach (e::es) X.env)).all (λx=>!x.1) && (backToKw cpos (keywordEach [] X.env)).all (λx=>x.1.isSome)
   && decide ((e::es).length+([]:List Keyword).length+(if ([]:List Keyword).isEmpty then 0 else 1)<30))=true:=by rfl)
  (hline:(apos.endLine==cpos.line)=true:=by rfl) (hs:starEach (e::es) X.env=(false,eval e X.env)::starEach es X.env:=by rfl) (hplain:(backTo cpos (starEach es X.env)).any (·.1)=false:=by rfl) :
  PE X (.Call (.Attribute o name apos) (e::es) [] cpos) (uh X.K T r to t):=by
 intro pins s σ H Q I h
 refine wpAny_Call_method_late hbase hfew hline rfl (a8 (ho pins s σ H _ I h) λv s1 ⟨x,H1,I1,r1,ty,q1⟩=>?_)
 obtain⟨h1,h2⟩:=mv I1 r1 ty
 refine⟨T,id,pa,slot,hty,h1,h2,?_⟩
 have hA:=ha cpos pins s1 σ H1 _ I1 q1
 rw [hs] at hA ⊢
 refine Calls.callWith_builtin (by show (false || (backTo cpos (starEach es X.env)).any (·.1))=false;rw [hplain]<;>rfl) (Calls.evalArgs_plain ?_)
 exact a8 hA λus s2 ⟨vs,H2,I2,r2,q2⟩=>hm pins s2 σ H2 x vs v us Q I2 r1 r2 q2
/- xs.append(e),list.index on a module's tuple .. are ow facts of 06m -/
end
def tZ (X:Cx) (id:String) (r:V->List V->Hp->VK->Prop):Prop :=
 ∀(pins:List (Addr × Obj)) (s:Shared) (σ:St) (H:Hp) (x:V) (xs:List V) (v:Value) (us:List Value) (Q:VK),Inv X pins σ H s->RelV x v->Vals xs us->r x xs H Q ->
  wpAny (model X.prog X.w) X.A (call (.builtin id) (v::us)) (EP X pins σ Q) X.xe s
theorem Vals.one:∀{x:V} {us:List Value},Vals [x] us->∃ u,us=[u]/\RelV x u
 | _,_,.cons r .nil=>⟨_,rfl,r⟩
theorem Vals.two:∀{x y:V} {us:List Value},Vals [x,y] us->∃ u v,us=[u,v]/\RelV x u/\RelV y v
 | _,_,_,.cons r (.cons q .nil)=>⟨_,_,rfl,r,q⟩
theorem Vals.zero:∀{us:List Value},Vals [] us->us=[]
 | _,.nil=>rfl
theorem Vals.dropLast {xs:List V} {us:List Value} (h:Vals xs us):Vals xs.dropLast us.dropLast:=by
 induction h with
 | nil=>exact .nil
 | cons r t ih =>
  cases t with
  | nil=>exact .nil
  | cons q t'=>exact .cons r ih
theorem Vals.reverse {xs:List V} {us:List Value} (h:Vals xs us):Vals xs.reverse us.reverse:=by
 induction h with
 | nil=>exact .nil
 | cons r t ih=>rw [List.reverse_cons,List.reverse_cons];exact Vals.append ih (.cons r .nil)
theorem iW {α:Type} (l:List α):l.eraseIdx (l.length-1)=l.dropLast:=by
 induction l with
 | nil=>rfl
 | cons a r ih =>
  cases r with
  | nil=>rfl
  | cons b r =>
   have e:(a::b::r).length-1=((b::r).length-1)+1:=by
    have h1:(a::b::r).length=r.length+2:=rfl
    have h2:(b::r).length=r.length+1:=rfl
    omega
   rw [e,List.eraseIdx_cons_succ,ih]
   all_goals rfl
section
variable {X:Cx} {pins:List (Addr × Obj)} {σ:St} {H:Hp} {s:Shared} {l b:Addr} {xs ys zs:List V}
theorem Inv.rJ {its its':List Value} {n:Nat} {f:Array Value->Array Value} {t':Nat} (I:Inv X pins σ H s) (hH:H l=some (.lst xs))
  (e:s.heap.get? l=some { cls:=.type "list",data:=.seq its.toArray n }) (hf:f its.toArray=its'.toArray) (hv:Vals ys its') (hz:ys.length<=sizeLine) :
  Inv X pins σ (upd H l (.lst ys)) { s with heap:=s.heap.update l (Obj.mapSeq f),toks:=t' }:=by
 have q:=PySem.IsL.update e f
 rw [hf] at q
 refine I.write (x:=l) (e:=l) (by rw [hH];exact trivial) (.inl rfl) (λb' u hb hu=>(Heap.get?_update_other s.heap (Obj.mapSeq f) (Ne.symm hb)).trans hu) ⟨_,q⟩ ?_
 exact⟨hz,its',_,hv,q⟩
theorem Inv.rK (I:Inv X pins σ H s) (hH:H l=some (.lst xs)):xs.length<=sizeLine/\∃(its:List Value) (n:Nat),Vals xs its/\xs.length=its.length/\s.heap.get? l=some { cls:=.type "list",data:=.seq its.toArray n }:=by
 obtain⟨z,its,n,r,e⟩:=I.hok l _ hH
 exact⟨z,its,n,r,r.length,e⟩
end
section
variable {X:Cx}
def nR:V->List V->Hp->VK->Prop:=λx vs H Q=>∃ l xs y,x=.ref l/\vs=[y]/\H l=some (.lst xs)/\xs.length<sizeLine/\Q .a9 (upd H l (.lst (xs++[y])))
theorem cz:tZ X "list.append" nR:=by
 intro pins s σ H x vs v us Q I rx rv h
 obtain⟨l,xs,y,rfl,rfl,hH,hz,q⟩:=h
 cases rx
 obtain⟨u,rfl,ru⟩:=rv.one
 obtain⟨z,its,n,r,hl,e⟩:=I.rK hH
 refine call_meets F.slot_list_append ⟨_,e,rfl⟩ F.entry_list_append (F.args_list_append_2 _ _) (PySem.list_append l its.toArray n u (by rw [List.size_toArray];omega)) ⟨e,?_⟩
 refine⟨.a9,_,I.rJ (its':=its++[u]) hH e (by simp) (r.append (.cons ru .nil)) ?_,rfl,q⟩
 rw [List.length_append,List.length_singleton]
 omega
def tG:V->List V->Hp->VK->Prop:=λx vs H Q=>∃ l xs y,x=.ref l/\vs=[]/\H l=some (.lst xs)/\xs[xs.length-1]?=some y/\Q y (upd H l (.lst xs.dropLast))
theorem pT:tZ X "list.pop" tG:=by
 intro pins s σ H x vs v us Q I rx rv h
 obtain⟨l,xs,y,rfl,rfl,hH,hy,q⟩:=h
 cases rx
 have hus:=rv.zero
 subst hus
 obtain⟨z,its,n,r,hl,e⟩:=I.rK hH
 obtain⟨u,hu,ru⟩:=r.get hy
 have hy':its.toArray[its.toArray.size-1]?=some u:=by
  show its.toArray[its.length-1]?=some u
  rw [<- Array.getElem?_toList,<- hl]
  exact hu
 refine call_meets F.slot_list_pop ⟨_,e,rfl⟩ F.entry_list_pop (F.args_list_pop_1 _) (MeetsSeq.list_pop_last l its.toArray n u hy' (by rw [List.size_toArray];omega)) ⟨e,?_⟩
 refine⟨y,_,I.rJ (its':=its.dropLast) hH e ?_ r.dropLast ?_,ru,q⟩
 ·show its.toArray.eraseIdxIfInBounds (its.toArray.size-1)=its.dropLast.toArray
  rw [List.size_toArray,List.eraseIdxIfInBounds_toArray,iW]
 ·rw [List.length_dropLast]
  omega
end
section
variable {prog:Program} {w:World} {A:Around} {E:Value->Shared->Prop} {s:Shared}
end
section
variable {X:Cx}
end
end L2
namespace Att
open PySem PySem.W PySem.Calls PyProof.Rows
theorem eB {P:Params} {h:Heap}:∀(ns:List Int) (vs:List Value),WellAll P h vs (ns.map WData.int)->IntsAre vs ns:=by
 intro ns
 induction ns with
 | nil =>
  intro vs w
  rw [List.map_nil] at w
  cases w
  exact .nil
 | cons n ns ih =>
  intro vs w
  rw [List.map_cons] at w
  cases w with
  | cons a b =>
   cases a
   exact .cons _ _ (ih _ b)
theorem kE {l:OpenLaw} {n:Nat} (hn:l.most=some n) {P:Params} {h:Heap} {args:List WData} {vals:List Value}
  (hpre:l.row.toRowW.claim.pre args=true) (hwl:WellAll P h vals args) :
  ∃ a vs ns,vals=[Value.ref a]/\args=[WData.list (ns.map WData.int)]/\h.get? a=some { cls:=.type "list",data:=.seq vs.toArray }/\IntsAre vs ns/\ns.length<=n:=by
 have hsh:WShape.hasAll [] args [.list .int]=true:=(pre_splitW hpre).1
 have hc:l.pre.holds [] { args:=args }=true:=(pre_splitW hpre).2
 obtain⟨d,r,rfl,h1,h2⟩:=hasAllW_cons hsh
 obtain rfl:=hasAllW_nil h2
 obtain⟨xs,rfl,h3⟩:=hasW_list h1
 obtain⟨ns,rfl⟩:=items_int h3
 have hlen:ns.length<=n:=by
  unfold OpenLaw.pre at hc
  have h4:(WTm.not (.lt (.lit (.int (n:Int))) (.len (.arg 0)))).holds [] { args:=[.list (ns.map .int)] }=true:=by
   have h4:=(holds_andW hc).1
   rw [hn] at h4
   exact h4
  have h5:=condW_of h4 (w_not (w_lt w_lit (w_len_list (w_arg rfl))))
  rw [List.length_map] at h5
  refine Nat.le_of_not_lt λq=>?_
  have q':(n:Int)<((ns.length:Nat):Int):=by omega
  first
   | (rw [decide_eq_true q'] at h5;exact absurd h5 (by decide))
   | (simp at h5;omega)
 cases hwl with
 | cons w1 w2 =>
  cases w2
  cases w1 with
  | list ho hall=>exact⟨_,_,ns,rfl,rfl,ho,eB ns _ hall,hlen⟩
theorem kD (l:OpenLaw) (args:List WData):l.row.toRowW.claim.post args (.bool true) args=true :=
 postW_of (r:=l.row.toRowW) (X:=(true==true))
  (show WShape.has [] (.bool true) .bool=true by first | rfl | decide | simp [WShape.has,WShape.arms,WShape.armsAll])
  (show (WTm.eq .res (.lit (.bool true))).value [] { args:=args,res:=some (.bool true),after:=args }=some (.bool (true==true)) from w_eq_bool (w_res rfl) w_lit) rfl
theorem h9 {l:OpenLaw} {n:Nat} {q:Program} {loose:List Str} {XP:(Str->Option Value)->Heap->Prop} {YP:World->Heap->Prop} {d:DefRec}
  (hn:l.most=some n) (hdf:d.params.defaults=[])
  (call:∀(w:World) (s₀ s₁:Shared) (mg mb:Str->Option Value) (fa:Addr) (o:Obj) (pm cd doc:Value) (a:Addr) (vs:List Value) (ns:List Int),
   Ground q loose [] XP w s₀ mg mb s₁.heap->YP w s₁.heap ->
   s₁.heap.get? fa=some o->o.data=.func (docDef d.name d.params d.body d.scope pm cd doc)->s₁.heap.CodeRec cd d.name->mg d.name=some (.ref fa) ->
   s₁.heap.get? a=some { cls:=.type "list",data:=.seq vs.toArray }->IntsAre vs ns->ns.length<=n->s₁.gens=#[] ->
   codeAny (model l.prog w) callerA (.call (.ref fa) ⟨[.ref a],[]⟩) (λr s'=>r=.ok (.ret (.bool true))/\OldK s₁.heap s'.heap/\s'.os=s₁.os/\AllBare s'.gens) s₁) :
  WalkO q loose XP YP l.row.toRowW d [] (λf vs=>PySem.call f vs):=by
 intro w s₀ s₁ mg mb G Y fa o pm cd doc dV kV ho hd hcd hD hmg hg args vals as hpre hlay hrd hwl hlo
 obtain rfl:dV=.none:=Dflts.none hD hdf
 obtain rfl:kV=.none:=Dflts.noKw hD
 obtain⟨a,vs,ns,rfl,rfl,hobj,hints,hlen⟩:=kE hn hpre hwl
 refine enter_call (codeAny_mono (call w s₀ s₁ mg mb fa o pm cd doc a vs ns G Y ho (fd_plain hd) hcd hmg hobj hints hlen hg) λr s' hq=>?_)
 obtain⟨rfl,h2,h3,h4⟩:=hq
 exact⟨.inl ⟨.bool true,.bool true,[],rfl,λ_=>rfl,.bool true,kD l _,λ_=>⟨List.Pairwise.nil,λ_ hm=>(nomatch hm)⟩⟩,h2,h3,h4⟩
section
variable {prog:Program} {w:World} {A:Around} {E:Value->Shared->Prop} {s:Shared} {K:Frag}
end
end Att
namespace L2
open PySem PySem.Spec PyProof.Rows
theorem gj:∀{vs:List Value} {ns:List Int},IntsAre vs ns->Vals (ns.map V.int) vs
 | _,_,.nil=>.nil
 | _,_,.cons n t h=>.cons ⟨t,rfl⟩ (gj h)
def mG (H:Hp):Prop:=∀ b,H b=none∨∃ o xs,H b=some (.frz o (.lst xs))
theorem lz {P:Program} {w:World} {K:PySem.W.Frag} {mg mb:Str->Option Value} {CX:fD} {k:Nat} {fa a:Addr} {fd:FuncData} {x:Str} {sp:Sp} {s₁:Shared} {vs:List Value} {ns:List Int}
  (KX:K.In s₁.heap) (hns:s₁.heap.Ns mainGlobals mg) (hb:s₁.heap.Ns builtinsNs mb) (hbb:∀ x:Str,x ≠ "__name__"->mb x=bootBuiltins x) (hlim:s₁.heap.NoLimit) (hg:s₁.gens=#[])
  (ha:s₁.heap.get? a=some { cls:=.type "list",data:=.seq vs.toArray }) (hi:IntsAre vs ns) (hl:ns.length<=sizeLine) (hr:bC k callerA)
  (F:∀ base:Heap,K.In base->base.Ns mainGlobals mg->bU P w K mg base CX k fa fd [x] sp) (hbind:∀(s:Shared) (u:Value),BindsTo s fd ⟨[u],[]⟩ [(x,u)])
  (hsp:∀ H:Hp,mG H->aS K H a (ns.map V.int)->sp [.ref a] H (λv _=>v=.bl true) λ_ _ _=>False)
  (hCX:∀ H e s',CX [] H s₁ (λ_ _ _=>False) e s'->False) :
  codeAny (model P w) callerA (.call (.ref fa) ⟨[.ref a],[]⟩) (λr s'=>r=.ok (.ret (.bool true))/\OldK s₁.heap s'.heap/\s'.os=s₁.os/\AllBare s'.gens) s₁:=by
 have rv:=gj hi
 have lenV:=hi.length
 -- from an abstract heap in which nothing but the script may be tracked
 have core:∀ H:Hp,mG H->aS K H a (ns.map V.int)->cC P w H s₁.heap->(∀ b,H b≠none->b=a)->(H a≠none->K.lookup a=none) ->
   codeAny (model P w) callerA (.call (.ref fa) ⟨[.ref a],[]⟩) (λr s'=>r=.ok (.ret (.bool true))/\OldK s₁.heap s'.heap/\s'.os=s₁.os/\AllBare s'.gens) s₁:=by
  intro H hO hS hok hA hK
  have base_of:∀{b:Addr} {o:Obj},s₁.heap.get? b=some o->H b=none->(gF s₁.heap H).get? b=some o:=λe n=>lg e n
  have noA:∀{b:Addr} {o:Obj} {es:Array DictEntry} {ep:Nat},s₁.heap.get? b=some o->o.data=.dict es ep->H b=none:=λ{b o es ep} e d=>by
   cases q:H b with
   | none=>rfl
   | some u =>
    have e':b=a:=hA b (by rw [q];simp)
    subst e'
    rw [ha] at e;cases e
    have d':Data.seq vs.toArray _=Data.dict es ep:=d
    cases d'
  have nsK:∀{b:Addr} {m:Str->Option Value},s₁.heap.Ns b m->(gF s₁.heap H).Ns b m:=λ{b m} ⟨o,es,ep,e,d,r⟩=>⟨o,es,ep,base_of e (noA e d),d,r⟩
  have hKb:K.In (gF s₁.heap H):=λb o e=>base_of (KX b o e) (by
   cases q:H b with
   | none=>rfl
   | some u =>
    have e':b=a:=hA b (by rw [q];simp)
    subst e'
    rw [hK (by rw [q];simp)] at e;cases e)
  have hM:Mod K mg (gF s₁.heap H):=⟨hKb,nsK hns,⟨mb,nsK hb,hbb⟩,let ⟨mc,h1,h2⟩:=hlim;⟨mc,nsK h1,h2⟩⟩
  have e0:mD P w K mg (gF s₁.heap H) callerA [] s₁ H:=⟨rfl,hM,λb o e=>nc e,Nat.le_of_eq (kj _ _),trivial,λb hb=>absurd (show b∈([]:List Addr) from hb) (by simp),hok,.of_eq hg⟩
  refine codeAny_mono ((F _ hKb (nsK hns)).run callerA [] s₁ H ⟨[.ref a],[]⟩ [.ref a] [.ref a] _ _ hr e0 (hbind s₁ (.ref a)) (.cons rfl .nil) (hsp H hO hS)) λr s' h=>?_
  cases r with
  | error e=>exact (hCX H e s' h).elim
  | ok fl =>
   cases fl with
   | next=>exact False.elim h
   | brk=>exact False.elim h
   | cont=>exact False.elim h
   | ret u =>
    obtain⟨v,H',os,bare,un,hok',r',q⟩:=h
    have q':v=.bl true:=q
    subst q'
    obtain rfl:u=Value.bool true:=r'
    refine⟨rfl,OldK.of_keep λb o e=>?_,os,bare⟩
    cases q:H b with
    | none=>exact un.keep b o e q (by intro z;exact absurd (show b∈([]:List Addr) from z) (by simp)) (by simp)
    | some u =>
     rcases hO b with z | ⟨ob,xs,z⟩
     ·rw [q] at z;cases z
     ·have z2:=un.frzs b ob _ z
      obtain⟨e1,_⟩:=hok b _ z
      obtain⟨e2,_⟩:=hok' b _ z2
      rw [e] at e1;cases e1
      exact e2
 cases hk:K.lookup a with
 | some o =>
  -- the script is one of the module's own objects
  have e:=KX a o hk
  rw [ha] at e
  cases e
  refine core (λ_=>none) (λ_=>.inl rfl) (.inr ⟨_,vs.toArray,_,hk,rfl,rfl,rfl,by rw [List.size_toArray,lenV];exact hl,by simpa using rv⟩) (λb u z=>by have z':(none:Option HO)=some u:=z;cases z') (λb z=>absurd rfl z) λz=>absurd rfl z
 | none =>
  refine core (λb=>if b=a then some (.frz { cls:=.type "list",data:=.seq vs.toArray } (.lst (ns.map V.int))) else none) (λb=>?_) (.inl (.inr ⟨{ cls:=.type "list",data:=.seq vs.toArray },if_pos rfl⟩)) (λb u z=>?_) (λb z=>?_) λ_=>hk
  ·by_cases hb:b=a
   ·exact .inr ⟨_,_,if_pos hb⟩
   ·exact .inl (if_neg hb)
  ·by_cases hb:b=a
   ·have z':=(if_pos hb).symm.trans z
    cases z'
    subst hb
    exact⟨ha,by rw [List.length_map];exact hl,vs,_,rv,ha⟩
   ·have z':=(if_neg hb).symm.trans z
    cases z'
  ·by_cases hb:b=a
   ·exact hb
   ·exact absurd (if_neg hb) z
abbrev fE {K:PySem.W.Frag} {h:Heap} (_:K.In h):PySem.W.Frag:=K
theorem j4 {l:PySem.W.OpenLaw} {n k:Nat} {q:Program} {loose:List Str} {XP:(Str->Option Value)->Heap->Prop} {YP:World->Heap->Prop} {d:DefRec} {K:Params->PySem.W.Frag} {CX:World->fD} {sp:World->Sp} {x:Str}
  (hn:l.most=some n) (hn2:n<=sizeLine) (hdf:d.params.defaults=[]) (hr:bC k callerA)
  (hY:∀(w:World) (h:Heap),YP w h->(K w.params).In h)
  (F:∀(w:World) (mg:Str->Option Value) (fa:Addr) (h:Heap),(K w.params).In h->h.Ns mainGlobals mg->mg d.name=some (.ref fa) ->
   ∃ fd:FuncData,(∀(s:Shared) (u:Value),BindsTo s fd ⟨[u],[]⟩ [(x,u)]) /\
    ∀ base:Heap,(K w.params).In base->base.Ns mainGlobals mg->bU l.prog w (K w.params) mg base (CX w) k fa fd [x] (sp w))
  (hsp:∀(w:World) (H:Hp) (a:Addr) (ns:List Int),ns.length<=n->mG H->aS (K w.params) H a (ns.map V.int)->sp w [.ref a] H (λv _=>v=.bl true) λ_ _ _=>False)
  (hCX:∀(w:World) (H:Hp) (s:Shared) (e:Value) (s':Shared),CX w [] H s (λ_ _ _=>False) e s'->False) :
  PySem.W.WalkO q loose XP YP l.row.toRowW d [] (λf vs=>PySem.call f vs):=by
 refine Att.h9 hn hdf λw s₀ s₁ mg mb fa o pm cd doc a vs ns G Y ho hd hcd hmg hobj hints hlen hg=>?_
 have KX:=hY w _ Y
 obtain⟨fd,hb,hF⟩:=F w mg fa _ KX G.T.g hmg
 exact lz KX G.T.g G.T.b G.T.builtins G.T.nolimit hg hobj hints (Nat.le_trans hlen hn2) hr hF hb (λH hO hS=>hsp w H a ns hlen hO hS) λH e s'=>hCX w H s₁ e s'
theorem mx {l:PySem.W.OpenLaw} {n k:Nat} {q:Program} {loose:List Str} {XP:(Str->Option Value)->Heap->Prop} {YP:World->Heap->Prop} {d:DefRec} {K:Params->PySem.W.Frag} {CX:fD} {sp:PySem.W.Frag->Sp} {x:Str}
  (hn:l.most=some n) (hn2:n<=sizeLine) (hdf:d.params.defaults=[]) (hr:bC k callerA)
  (hY:∀(w:World) (h:Heap),YP w h->(K w.params).In h)
  (F:∀(w:World) (mg:Str->Option Value) (fa:Addr) (h:Heap),(K w.params).In h->h.Ns mainGlobals mg->mg d.name=some (.ref fa) ->
   ∃ fd:FuncData,(∀(s:Shared) (u:Value),BindsTo s fd ⟨[u],[]⟩ [(x,u)]) /\
    ∀ base:Heap,(K w.params).In base->base.Ns mainGlobals mg->bU l.prog w (K w.params) mg base CX k fa fd [x] (sp (K w.params)))
  (hsp:∀(K:PySem.W.Frag) (H:Hp) (a:Addr) (ns:List Int),ns.length<=n->mG H->aS K H a (ns.map V.int)->sp K [.ref a] H (λv _=>v=.bl true) λ_ _ _=>False)
  (hCX:∀(H:Hp) (s:Shared) (e:Value) (s':Shared),CX [] H s (λ_ _ _=>False) e s'->False) :
  PySem.W.WalkO q loose XP YP l.row.toRowW d [] (λf vs=>PySem.call f vs) :=
 j4 (K:=K) (CX:=λ_=>CX) (sp:=λw=>sp (K w.params)) hn hn2 hdf hr hY F (λw H a ns h1 h2 h3=>hsp (K w.params) H a ns h1 h2 h3) λ_ H s e s'=>hCX H s e s'
end L2
/- THE LAST THEOREM (shape;LID,My.* are yours):
   My.Adr: a structure of the addresses that your layer names (classes,functions);My.Txt K t: a structure (Prop) of the equations over K;
   My.txt_mk:{K} {implicit addresses ..} (e1:nsIn K mainGlobals "law"=some (some (.ref f))) (e2:K.lookup f=some ⟨oc,od,.func (fnOf "law" "law" params body scope dV kV doc pm an cdv ct),sl⟩) (e3:codeIn K cdv "law"=true) ..:∃ t,My.Txt K t
set_option maxRecDepth 100000 in
set_option maxHeartbeats 0 in
theorem PySem.Challenge.cw_LID_holds : PySem.Challenge.rw_LID.Holds := by
 w_on;o_law;k_head;(case hw=>w_witness2)
 k_fill
 refine L2.j4 (l:=PySem.Challenge.rw_LID) (n:=63) (k:=40) (x := "script") (CX:=λw=>..) (sp:=λ_=>My.sp_law) rfl (by decide) rfl ⟨rfl,by decide,by decide⟩ (λw h Y=>PySem.W.kIn_of Y) ?F ?S ?C
 case F =>
  intro w mg fa h KX G hmg
  have T:∃ t,My.Txt (L2.fE KX) t:=by
   dsimp only [L2.fE]                          -- K must stand as «<heap const> w.params» for k_is
   refine' My.txt_mk ?e1 ?e2 ?e3 ..
   (case e1=>PySem.W.k_is)                    -- in the order: a name -> its address -> its object -> its parts
   (case e2=>PySem.W.k_is)
   ..
  obtain⟨t,T⟩:=T
  have e0:=hmg.symm.trans (PySem.W.mg_of KX G T.law)
  cases e0                                       -- fa is the law's own address
  exact⟨_,λs u=>.of_eq rfl,λbase kb nb=>My.law_fn T kb nb⟩     -- if «.of_eq rfl» comes too early: refine' ⟨_,?b,λbase kb nb=>My.law_fn T kb nb⟩;exact λs u=>.of_eq rfl
 case S=>exact λw H a ns hl hO hS=>..
 case C=>exact ..
(the tactic k_is has no namespace: write k_is) -/
namespace L2
open PySem PySem.Spec PyProof.Rows
def bo (s:Stmt):Arguments:=match s with
 | .FunctionDef _ a _ _ _ _ _ _ _ _=>a
 | _=>{ posonlyargs:=[],args:=[],vararg:=none,kwonlyargs:=[],kw_defaults:=[],kwarg:=none,defaults:=[] }
def aW (s:Stmt):List Stmt:=match s with
 | .FunctionDef _ _ b _ _ _ _ _ _ _=>b
 | _=>[]
def ao (s:Stmt):Scope:=match s with
 | .FunctionDef _ _ _ _ _ _ sc _ _ _=>sc
 | _=>{ kind:=.function,names:=[],isGenerator:=false,isCoroutine:=false }
abbrev aZ:fD:=λ_ _ _ _ _ _=>False
abbrev E0:XK:=λ_ _ _=>False
theorem aA {X:Cx}:Passes aZ X E0:=λ_ _ _ _ _ _ _ h=>h.elim
structure mE (K:PySem.W.Frag) (x qual:Str) (st:Stmt) (f:Addr) (fd:FuncData):Prop where
 ex:∃(oc:Value) (od:Option Addr) (kV doc pm:Value) (an:Option Addr) (cdv ct:Value) (osl:Array (Option Value)),
  fd=PySem.W.fnOf x qual (bo st) (aW st) (ao st) .none kV doc pm an cdv ct/\K.lookup f=some ⟨oc,od,.func fd,osl⟩/\PySem.W.codeIn K cdv qual=true
 kp:PySem.W.keepIn K (.ref f)=true
section
variable {P:Program} {w:World} {K:PySem.W.Frag} {mg:Str->Option Value} {base:Heap}
theorem mE.ok {x qual:Str} {st:Stmt} {f:Addr} {fd:FuncData} {N ps:List Str} {k:Nat} {sp:Sp} (F:mE K x qual st f fd) (S:aD N ps (ao st)) (len:∀ vs H Q E,sp vs H Q E->vs.length=ps.length)
  (hbody:∀(cdv:Value) (A:Around) (outer:List Env) (s:Shared) (H:Hp) (vs:List V) (Q:VK) (E:XK),bC k (A.deeper (envOfC qual (ao st) s.heap.objs.size f cdv))->sp vs H Q E ->
   ∃ t,gq (fG aZ P w K mg base N qual (ao st) f cdv A outer s H E).kx (aW st) t/\t { nx:=λ_ H'=>Q .a9 H',rt:=Q } (start N vs) H):bU P w K mg base aZ (k+1) f fd ps sp:=by
 obtain⟨oc,od,kV,doc,pm,an,cdv,ct,osl,rfl,lk,hcd⟩:=F.ex
 refine rh lk hcd S len λA outer s H vs Q E hr hsp=>?_
 obtain⟨t,h,q⟩:=hbody cdv A outer s H vs Q E hr hsp
 exact⟨t,h.kx,q⟩
theorem mE.binds {x qual:Str} {st:Stmt} {f:Addr} {fd:FuncData} {ps:List Str} (F:mE K x qual st f fd)
  (h:∀(kV doc pm:Value) (an:Option Addr) (cdv ct:Value) (us:List Value),us.length=ps.length->bindArgs (PySem.W.fnOf x qual (bo st) (aW st) (ao st) .none kV doc pm an cdv ct) ⟨us,[]⟩=pure (ps.zip us)):Binds K fd ps []:=by
 obtain⟨oc,od,kV,doc,pm,an,cdv,ct,osl,rfl,lk,hcd⟩:=F.ex
 exact .all (h kV doc pm an cdv ct)
theorem pH {x qual:Str} {st:Stmt} {f:Addr} {oc:Value} {od an:Option Addr} {osl:Array (Option Value)} {kV doc pm cdv ct:Value} (l:K.lookup f=some ⟨oc,od,.func (PySem.W.fnOf x qual (bo st) (aW st) (ao st) .none kV doc pm an cdv ct),osl⟩)
  (c:PySem.W.codeIn K cdv qual=true) (k:PySem.W.keepIn K (.ref f)=true):mE K x qual st f (PySem.W.fnOf x qual (bo st) (aW st) (ao st) .none kV doc pm an cdv ct):=⟨⟨oc,od,kV,doc,pm,an,cdv,ct,osl,rfl,l,c⟩,k⟩
end
theorem d7 {A:Around} {k:Nat} (hr:bC k A):A.units+1<cLine:=Nat.lt_of_le_of_lt (Nat.add_le_add_left (by decide:1<=64) _) hr.units
section
variable {X:Cx}
theorem pv (i:Nat) {x:Str} {pos:Pos} (hN:X.N[i]?=some x:=by rfl) (hv:qL X.env.scope x:=by first | exact Or.inl rfl | exact Or.inr (Or.inl rfl) | exact Or.inr (Or.inr rfl)) (hd:(x==("__debug__":Str))=false:=by decide)
  (hcd:(x==("__classdict__":Str))=false:=by decide):PE X (.Name x pos) (cE i):=qg hN hv hd hcd
end
theorem aL {c A B:Prop} [Decidable c] (h1:c->A) (h2:¬c->B):if c then A else B:=by
 by_cases h:c
 ·rw [if_pos h]
  exact h1 h
 ·rw [if_neg h]
  exact h2 h
def aE (H H':Hp):Prop:=∀ b o,H b=some o->H' b=some o
theorem aE.refl (H:Hp):aE H H:=λ_ _ h=>h
theorem aE.trans {H H1 H2:Hp} (a:aE H H1) (b:aE H1 H2):aE H H2:=λc o h=>b c o (a c o h)
theorem aE.free {H H':Hp} (e:aE H H') {l:Addr} (h:H' l=Option.none):H l=Option.none:=by
 cases q:H l with
 | none=>rfl
 | some o =>
  rw [e l o q] at h
  cases h
theorem aE.seq {K:PySem.W.Frag} {H H':Hp} {a:Addr} {xs:List V} (e:aE H H') (h:aS K H a xs):aS K H' a xs:=by
 rcases h with (h | ⟨o,h⟩) | h
 ·exact .inl (.inl (e _ _ h))
 ·exact .inl (.inr ⟨o,e _ _ h⟩)
 ·exact .inr h
end L2
set_option maxHeartbeats 1000000
namespace L2
open PySem PySem.Spec PyProof.Rows
theorem gB {Ex:Value->Shared->Prop} {prog:Program} {w:World} {A:Around} {R:Result->Shared->Prop} {s:Shared} {elt target:Expr} {gens:List Comprehension} {scope:Scope} {pos ps:Pos} {ifs:List Expr} {d:Nat} {B:Sem Unit} {it acc:Value} {env:Env} (I:Nat->Shared->Prop)
  (ht:compTurn (.ListComp elt gens scope pos) d it acc env=(do
   standAt ps
   match <- pyNext it with
   | none=>pure (.done .next)
   | some v =>
    letOwnedTupleGo target it v
    assign target env v
    let mut ok:=true
    for c in ifs do
     if ok then ok <- isTrue c env (eval c env)
    if ok then B
    again (.compLoop (.ListComp elt gens scope pos) d it acc env)))
  (turn:∀ n s,I n s->wpAny (model prog w) A (pyNext it) (λr s₁=>match r with
   | none=>R (.ok .next) s₁
   | some v=>wpAny (model prog w) A (letOwnedTupleGo target it v) (λ_ s₁'=>wpAny (model prog w) A (assign target env v) (λ_ s₂ =>
     wpAny (model prog w) A (forIn ifs true λc r=>if r=true then do let ok <- isTrue c env (eval c env);pure (ForInStep.yield ok) else pure (ForInStep.yield r)) (λok s₃ =>
      if ok=true then wpAny (model prog w) A B (λ_ s₅=>∃ m,m<n/\I m s₅) Ex s₃
      else ∃ m,m<n/\I m s₃) Ex s₂) Ex s₁') Ex s₁) Ex s)
  (n:Nat) (h:I n s) (hE:∀ e s',Ex e s'->notedBy (model prog w) A env (λe s''=>R (.error e) s'') e s') :
  codeAny (model prog w) A (.compLoop (.ListComp elt gens scope pos) d it acc env) R s:=by
 refine codeAny_loop rfl I (λn s hI=>?_) n h
 show wpAny _ A ((compTurn (.ListComp elt gens scope pos) d it acc env).onRaise (λx=>do noteFrame x env;theTreesLotGoes x)) _ _ s
 refine wpAny_noted ?_
 rw [ht]
 refine wpAny_bind (wpAny_standAt (wpAny_bind (wpAny_mono (turn n s hI) (λr s₁ h₁=>?_) λ_ _ h'=>hE _ _ h')))
 cases r with
 | none=>exact wpAny_pure h₁
 | some v =>
  refine wpAny_bind (wpAny_mono h₁ (λ_ s₁' h₁'=>?_) λ_ _ h'=>hE _ _ h')
  refine wpAny_bind (wpAny_mono h₁' (λ_ s₂ h₂=>wpAny_bind (wpAny_mono h₂ (λok s₃ h₃=>?_) λ_ _ h'=>hE _ _ h')) λ_ _ h'=>hE _ _ h')
  cases ok with
  | false=>exact wpAny_pure ⟨rfl,h₃⟩
  | true=>exact wpAny_bind (wpAny_mono h₃ (λ_ s₅ h₅=>wpAny_pure ⟨rfl,h₅⟩) λ_ _ h'=>hE _ _ h')
def jo (elt:Expr) (acc:Value) (env:Env):Sem Unit:=do let _ <- call (.builtin "list.append") [acc,<- eval elt env]
theorem mq (elt target iter:Expr) (ifs:List Expr) (scope:Scope) (pos:Pos) (it acc:Value) (env:Env) :
  compTurn (.ListComp elt [⟨target,iter,ifs,0⟩] scope pos) 0 it acc env=(do
   standAt iter.pos
   match <- pyNext it with
   | none=>pure (.done .next)
   | some v =>
    letOwnedTupleGo target it v
    assign target env v
    let mut ok:=true
    for c in ifs do
     if ok then ok <- isTrue c env (eval c env)
    if ok then jo elt acc env
    again (.compLoop (.ListComp elt [⟨target,iter,ifs,0⟩] scope pos) 0 it acc env)):=by rfl
def bc (X:Cx) (Ex:Value->Shared->Prop) (N':List Str) (scope:Scope) (cl:List (Str × Addr)) (C:Addr) (s₂:Shared) (H₂:Hp) (fp:List Addr):Cx :=
 { X with N:=N',s₀:=s₂,H₀:=H₂,env:=compEnvC scope (cellsFrom (C+1) scope.names cl) C X.env,outer:=X.stack,stack:=X.stack,ex:=fp,fn:=λx=>scope.names.lookup x==some .cell,pn:=[],xe:=Ex }
abbrev gA (X:Cx):=bc X λ_ _=>False
def AllIn (env:Env):List (Str × Addr)->Prop
 | []=>True
 | p::r=>env.cells.lookup p.1=some p.2/\AllIn env r
theorem AllIn.get {env:Env}:∀{l:List (Str × Addr)},AllIn env l->∀ y c,l.lookup y=some c->env.cells.lookup y=some c
 | [],_,_,_,h=>by simp at h
 | (z,d)::r,a,y,c,h=>by
  rw [List.lookup_cons] at h
  cases e:y==z with
  | true =>
   rw [e] at h
   have q:y=z:=by simpa using e
   subst q
   cases h
   exact a.1
  | false =>
   rw [e] at h
   exact AllIn.get a.2 y c h
def br (js:List (Option Nat)) (σ:St):St:=js.map λo=>match o with | none=>none | some j=>(σ[j]?).join
structure eO (X:Cx) (N':List Str) (js:List (Option Nat)) (scope:Scope) (cl:List (Str × Addr)):Prop where
 clos:closureFor scope X.env=pure cl
 kind:scope.kind=.function
 nocell:∀ y∈scope.names,y.2=.cell->scope.names.lookup y.1=some .cell/\∀ p∈js.zip N',p.1.isSome=true->p.2≠y.1
 names:∀ y∈scope.names,y.2=.local->scope.names.lookup y.1=some .local
 sub:AllIn X.env cl
 has:∀ y∈scope.names,y.2=.free->(cl.lookup y.1).isSome=true
 jlen:js.length=N'.length
 jok:∀(i j:Nat) x,js[i]?=some (some j)->N'[i]?=some x->X.N[j]?=some x/\(cl.lookup x).isSome=true/\qL X.env.scope x/\X.env.kindOf x≠some .local/\((relabel scope X.env).names.lookup x=some .cell∨(relabel scope X.env).names.lookup x=some .free)
theorem d8 {scope:Scope} {env:Env} {x:Str} {k:NameKind} (h:(relabel scope env).names.lookup x=some k) (hk:k=.cell∨k=.free):∃ y∈scope.names,y.1=x/\(y.2=.free∨y.2=.cell):=by
 have hm:=PySem.mem_of_lookup h
 obtain⟨⟨n,q⟩,hm',e⟩:=List.mem_map.mp hm
 dsimp only at e
 split at e
 ·rename_i hc
  have e1:n=x:=congrArg Prod.fst e
  refine⟨(n,q),hm',e1,.inl ?_⟩
  have:(q==NameKind.free)=true:=by
   simp only [Bool.and_eq_true] at hc
   exact hc.1.1
  simpa using this
 ·have e1:n=x:=congrArg Prod.fst e
  have e2:q=k:=congrArg Prod.snd e
  refine⟨(n,q),hm',e1,?_⟩
  rcases hk with hk | hk
  ·exact .inr (e2.trans hk)
  ·exact .inl (e2.trans hk)
theorem c9 {x:Str} {c:Addr}:∀(ns:List (Str × NameKind)) (n:Nat) (acc:List (Str × Addr)),(cellsFrom n ns acc).lookup x=some c->acc.lookup x=some c∨n<=c
 | [],_,_,h=>.inl h
 | (y,k)::r,n,acc,h=>by
  unfold cellsFrom at h
  split at h
  ·rcases c9 r _ _ h with z | z
   ·rw [List.lookup_cons] at z
    split at z
    ·cases z;exact .inr (Nat.le_refl _)
    ·exact .inl z
   ·exact .inr (Nat.le_of_succ_le z)
  ·exact c9 r _ _ h
theorem iR {x:Str} {c:Addr}:∀(ns:List (Str × NameKind)) (n:Nat) (acc:List (Str × Addr)),ns.lookup x=some .cell->(cellsFrom n ns acc).lookup x=some c->n<=c
 | [],_,_,h,_=>by cases h
 | (y,k)::r,n,acc,h,e=>by
  rw [List.lookup_cons] at h
  unfold cellsFrom at e
  split at h
  ·rename_i hy
   cases h
   rcases c9 r _ _ e with z | z
   ·rw [List.lookup_cons,hy] at z
    cases z;exact Nat.le_refl _
   ·exact Nat.le_of_succ_le z
  ·split at e
   ·exact Nat.le_of_succ_le (iR r _ _ h e)
   ·exact iR r _ _ h e
theorem gy {x:Str}:∀(ns:List (Str × NameKind)) (n:Nat) (acc:List (Str × Addr)),(∀ y∈ns,y.2=.cell->x≠y.1)->(cellsFrom n ns acc).lookup x=acc.lookup x
 | [],_,_,_=>rfl
 | (y,k)::r,n,acc,h=>by
  unfold cellsFrom
  split
  ·rename_i hk
   rw [gy r _ _ λz hz=>h z (List.mem_cons_of_mem _ hz),List.lookup_cons]
   have:(x==y)=false:=by simpa using h (y,k) List.mem_cons_self (by simpa using hk)
   rw [this]
  ·exact gy r _ _ λz hz=>h z (List.mem_cons_of_mem _ hz)
theorem iQ:∀(ns:List (Str × NameKind)) (n:Nat) (acc:List (Str × Addr)),(∀ x c,acc.lookup x=some c->c<n)->(∀ x y c,acc.lookup x=some c->acc.lookup y=some c->x=y) ->
  ∀ x y c,(cellsFrom n ns acc).lookup x=some c->(cellsFrom n ns acc).lookup y=some c->x=y
 | [],_,_,_,h=>h
 | (z,k)::r,n,acc,hl,hi=>by
  unfold cellsFrom
  split
  ·refine iQ r _ _ (λx c e=>?_) λx y c e1 e2=>?_
   ·rw [List.lookup_cons] at e
    split at e
    ·cases e;exact Nat.lt_succ_self _
    ·exact Nat.lt_succ_of_lt (hl x c e)
   ·rw [List.lookup_cons] at e1 e2
    split at e1<;>split at e2
    ·rename_i a _ b
     rw [eq_of_beq a,eq_of_beq b]
    ·cases e1;exact absurd (hl y _ e2) (Nat.lt_irrefl _)
    ·cases e2;exact absurd (hl x _ e1) (Nat.lt_irrefl _)
    ·exact hi x y c e1 e2
  ·exact iQ r _ _ hl hi
theorem gw:∀(ns:List (Str × NameKind)) (h:Heap) (acc:List (Str × Addr)),(∀ x c,acc.lookup x=some c->∃ v,h.IsCell c v)->∀ x c,(cellsFrom h.objs.size ns acc).lookup x=some c->∃ v,(pushCells h ns).IsCell c v
 | [],_,_,h=>h
 | (z,k)::r,h,acc,hl=>by
  unfold cellsFrom pushCells
  split
  ·have:=gw r (h.push { cls:=.type "cell",data:=.cell none }) ((z,h.objs.size)::acc) λx c e=>by
    rw [List.lookup_cons] at e
    split at e
    ·cases e;exact⟨none,_,Heap.get?_push_size _ rfl,rfl⟩
    ·obtain⟨v,q⟩:=hl x c e
     exact⟨v,q.keeps λb o e=>Heap.get?_push_of_some _ e⟩
   rwa [Heap.size_push] at this
  ·exact gw r h acc hl
theorem fL {M:Model} {A:Around} {E:Value->Shared->Prop} {s:Shared} {scope:Scope} {g:Addr} {cl:List (Str × Addr)} {qual:Str} {env:Env} {Q:Env->Shared->Prop}
  (h:Q (newEnv scope s.heap.objs.size g (cellsFrom (s.heap.objs.size+1) scope.names cl) qual none .none (some env) builtinsNs) { s with heap:=pushCells (s.heap.push { cls:=.type "dict",data:=.dict #[] }) scope.names }) :
  wpAny M A (newFunctionEnv scope g cl [] qual none .none (some env)) Q E s:=by
 simp only [newFunctionEnv,Option.isSome_some,if_true]
 refine wpAny_bind (wpAny_alloc ?_)
 refine wpAny_bind (wpAny_layCells _ (λname kind cells=>by cases hkc:kind==NameKind.cell<;>simp [hkc]) _ _ _ _ ?_)
 rw [show ({ s with heap:=s.heap.push { cls:=.type "dict",data:=.dict #[] } }:Shared).heap.objs.size=s.heap.objs.size+1 from Heap.size_push ..]
 exact wpAny_bind (wpAny_pure (wpAny_pure h))
def lobj (ys:List Value):Obj:={ cls:=.type "list",data:=.seq ys.toArray ys.length }
def mH (X:Cx) (ifs:List Expr) (t:TT):Prop :=
 ∀(pins:List (Addr × Obj)) (s:Shared) (σ:St) (H:Hp) (Q:Bool->Hp->Prop),Inv X pins σ H s->t σ H Q ->
  wpAny (model X.prog X.w) X.A (forIn ifs true λc r=>if r=true then do let ok <- isTrue c X.env (eval c X.env);pure (ForInStep.yield ok) else pure (ForInStep.yield r)) (TP X pins σ Q) X.xe s
def gh:TT:=λ_ H Q=>Q true H
theorem dj {X:Cx}:mH X [] gh:=λpins s σ H Q I h=>wpAny_tests_nil ⟨H,I,h⟩
def aV:List (Option V)->List (Option V)->Prop
 | [],[]=>True
 | none::r,_::r'=>aV r r'
 | some v::r,some u::r'=>u=v/\aV r r'
 | _,_=>False
theorem aV.len:∀{a b:List (Option V)},aV a b->a.length=b.length
 | [],[],_=>rfl
 | none::r,_::r',h=>by simp [aV.len (a:=r) (b:=r') h]
 | some v::r,some u::r',h=>by simp [aV.len (a:=r) (b:=r') h.2]
 | some v::r,none::r',h=>h.elim
 | some v::r,[],h=>h.elim
 | none::r,[],h=>h.elim
 | [],_::_,h=>h.elim
theorem aV.get:∀{a b:List (Option V)},aV a b->∀(i:Nat) v,a[i]?=some (some v)->b[i]?=some (some v)
 | [],[],_,i,v,h=>by simp at h
 | none::r,_::r',h,0,v,e=>by simp at e
 | none::r,_::r',h,i+1,v,e=>by
  have:=aV.get (a:=r) (b:=r') h i v (by simpa using e)
  simpa using this
 | some v::r,some u::r',h,0,v',e=>by
  have q:v=v':=by simpa using e
  have:=h.1
  simp [this,q]
 | some v::r,some u::r',h,i+1,v',e=>by
  have:=aV.get (a:=r) (b:=r') h.2 i v' (by simpa using e)
  simpa using this
 | some v::r,none::r',h,_,_,_=>h.elim
 | some v::r,[],h,_,_,_=>h.elim
 | none::r,[],h,_,_,_=>h.elim
 | [],_::_,h,_,_,_=>h.elim
def ui (js:List (Option Nat)) (wi:TI) (g:TG) (tt:TT) (te:TE):TE:=λσ H Q=>wi σ H λJ H1=>∃ W:Nat->Nat->List V->Hp->Prop,(∃ m,W 0 m [] H1)/\∀ i m ys H,W i m ys H ->
 (J.stop i H/\ys.length<=sizeLine/\∀ p,H p=none->Q (.ref p) (upd H p (.lst ys))) ∨
 (J.go i H/\ys.length<sizeLine/\∃ N:List V->Hp->Prop,(∀ ys' H',N ys' H'->∃ m',m'<m/\W (i+1) m' ys' H') /\
  ∀ x H',J.yld i H x H'->g x (br js σ) H' λσ2 H2=>aV (br js σ) σ2/\tt σ2 H2 λb H3=>if b=true then te σ2 H3 λv H4=>N (ys++[v]) H4 else N ys H3)
structure iM (X:Cx) (C:Addr) (s₂:Shared) (H₂:Hp) (fp:List Addr):Prop where
 inv:∃ pins σ,Inv X pins σ H₂ s₂
 new:∀ b∈fp,X.s₀.heap.objs.size<=b∨b∈X.ex
 nof:∀ b∈kI X.stack,b∉fp
 le:s₂.heap.objs.size<=C
def pe (X:Cx) (elt target:Expr) (gens:List Comprehension) (ifs:List Expr) (scope:Scope) (pos:Pos) (Bd:(Value->Shared->Prop)->Value->Env->(Shared->Prop)->Shared->Prop):Prop :=
 ∀(Ex:Value->Shared->Prop) (R:Result->Shared->Prop) (s:Shared) (it acc:Value) (env:Env) (I:Nat->Shared->Prop),
  (∀ n s,I n s->wpAny (model X.prog X.w) X.A (pyNext it) (λr s₁=>match r with
   | none=>R (.ok .next) s₁
   | some v=>wpAny (model X.prog X.w) X.A (letOwnedTupleGo target it v) (λ_ s₁'=>wpAny (model X.prog X.w) X.A (assign target env v) (λ_ s₂ =>
     wpAny (model X.prog X.w) X.A (forIn ifs true λc r=>if r=true then do let ok <- isTrue c env (eval c env);pure (ForInStep.yield ok) else pure (ForInStep.yield r)) (λok s₃ =>
      if ok=true then Bd Ex acc env (λs₅=>∃ m,m<n/\I m s₅) s₃ else ∃ m,m<n/\I m s₃) Ex s₂) Ex s₁') Ex s₁) Ex s) ->
  ∀ n,I n s->(∀ e s',Ex e s'->notedBy (model X.prog X.w) X.A env (λe s''=>R (.error e) s'') e s')->codeAny (model X.prog X.w) X.A (.compLoop (.ListComp elt gens scope pos) 0 it acc env) R s
structure jj (Y:Cx) (D:Addr) (P:List (Addr × Obj)):Prop where
 ne:∀ p∈P,p.1≠D
 new:Y.s₀.heap.objs.size<=D
 cell:∀ x c,Y.env.cells.lookup x=some c->c≠D
theorem pR {X:Cx} {Ex:Addr->Shared->Hp->List Addr->Value->Shared->Prop} {elt target iter:Expr} {rest:List Comprehension} {ifs:List Expr} {scope:Scope} {pos:Pos} {N':List Str} {js:List (Option Nat)} {cl:List (Str × Addr)} {g:TG} {tt:TT} {Cc:List V->Prop} {tb:List V->St->Hp->(List V->Hp->Prop)->Prop} {Bd:(Value->Shared->Prop)->Value->Env->(Shared->Prop)->Shared->Prop} (hcalm:X.calm=true) (hloop:pe X elt target (⟨target,iter,ifs,0⟩::rest) ifs scope pos Bd)
  (K:eO X N' js scope cl)
  (hg:∀ C s₂ H₂ fp,iM X C s₂ H₂ fp->PG (bc X (Ex C s₂ H₂ fp) N' scope cl C s₂ H₂ fp) target g) (ht:∀ C s₂ H₂ fp,iM X C s₂ H₂ fp->mH (bc X (Ex C s₂ H₂ fp) N' scope cl C s₂ H₂ fp) ifs tt) (hB:∀ C s₂ H₂ fp,iM X C s₂ H₂ fp->∀(D:Addr) ys vys P σ H s N Ps,Inv (bc X (Ex C s₂ H₂ fp) N' scope cl C s₂ H₂ fp) ([(D,lobj ys)]++P) σ H s->Vals vys ys->jj (bc X (Ex C s₂ H₂ fp) N' scope cl C s₂ H₂ fp) D P->Cc vys->tb vys σ H N ->
   (∀ ys' vys' H' s',Inv (bc X (Ex C s₂ H₂ fp) N' scope cl C s₂ H₂ fp) ([(D,lobj ys')]++P) σ H' s'->Vals vys' ys'->N vys' H'->Ps s')->Bd (Ex C s₂ H₂ fp) (.ref D) (bc X (Ex C s₂ H₂ fp) N' scope cl C s₂ H₂ fp).env Ps s)
  (herr:∀ C s₂ H₂ fp use Q' acc e s',Ex C s₂ H₂ fp e s'->notedBy (model X.prog X.w) X.A (compEnvC scope (cellsFrom (C+1) scope.names cl) C X.env) (λe s''=>compPost (model X.prog X.w) X.A X.xe use Q' acc C (.error e) s'') e s')
  {pins:List (Addr × Obj)} {σ:St} {Q:VK} {use:Option (Value->Sem Unit)} {Q':Value->Shared->Prop} {itv:Value} {s2:Shared}
  (h2:sJ X pins σ target (λJ H1=>∃ W:Nat->Nat->List V->Hp->Prop,(∃ m,W 0 m [] H1)/\∀ i m ys H,W i m ys H ->
 (J.stop i H/\ys.length<=sizeLine/\∀ p,H p=none->Q (.ref p) (upd H p (.lst ys))) ∨
 (J.go i H/\Cc ys/\∃ N:List V->Hp->Prop,(∀ ys' H',N ys' H'->∃ m',m'<m/\W (i+1) m' ys' H') /\
  ∀ x H',J.yld i H x H'->g x (br js σ) H' λσ2 H2=>aV (br js σ) σ2/\tt σ2 H2 λb H3=>if b=true then tb ys σ2 H3 N else N ys H3)) itv s2)
  (hok:∀ C D vys H4 s5,(∃ m,s5.heap.Ns C m)->s2.heap.objs.size<=D->D<=C->D≠C->H4 D=none->H4 C=none->(∀ h',Heap.SameBut C s5.heap h'->Inv X pins σ (upd H4 D (.lst vys)) { s5 with heap:=h' })->Q (.ref D) (upd H4 D (.lst vys))->compPost (model X.prog X.w) X.A X.xe use Q' (.ref D) C (.ok .next) s5) :
  wpAny (model X.prog X.w) X.A (newList []) (λacc s₃=>wpAny (model X.prog X.w) X.A (newFunctionEnv scope X.env.globals cl [] X.env.qual none .none (some X.env)) (λcenv s₄ =>
   codeAny (model X.prog X.w) X.A (.compStart (.ListComp elt (⟨target,iter,ifs,0⟩::rest) scope pos) 0 itv acc { cenv with scope:=relabel scope X.env }) (compPost (model X.prog X.w) X.A X.xe use Q' acc cenv.locals) s₄) X.xe s₃) X.xe s2:=by
 obtain⟨it,fp,tn,J,H2,e,I2,T,st2,f2,W,⟨m0,w0⟩,turn⟩:=h2
 subst e
 refine wpAny_newObj_type (fL ?_)
 dsimp only
 generalize hP2:s2.heap.push { cls:=.type "list",dict:=none,data:=.seq ([]:List Value).toArray }=P2
 generalize hh₁:pushCells (P2.push { cls:=.type "dict",data:=.dict #[] }) scope.names=h₁
 have hns₁:h₁.Ns P2.objs.size λ_=>none:=hh₁▸(Heap.Ns.new P2 (.type "dict")).keeps (pushCells_keeps _ _)
 have upP:∀ b o,P2.get? b=some o->h₁.get? b=some o:=λb o e=>hh₁▸pushCells_keeps _ _ b o (Heap.get?_push_of_some _ e)
 have hcel:∀ x c,(cellsFrom (P2.objs.size+1) scope.names cl).lookup x=some c->∃ v,h₁.IsCell c v:=by
  have:=gw scope.names (P2.push { cls:=.type "dict",data:=.dict #[] }) cl λx c e=>by
   obtain⟨v,q⟩:=I2.cell x c (K.sub.get x c e)
   exact⟨v,q.keeps λb o e=>Heap.get?_push_of_some _ (hP2▸Heap.get?_push_of_some _ e)⟩
  rw [Heap.size_push,hh₁] at this
  exact this
 have hC:P2.objs.size=s2.heap.objs.size+1:=by rw [<- hP2,Heap.size_push]
 have hDC:s2.heap.objs.size≠P2.objs.size:=by rw [hC];exact Nat.ne_of_lt (Nat.lt_succ_self _)
 have below:∀ b,b<s2.heap.objs.size->b≠P2.objs.size/\b≠s2.heap.objs.size:=λb hb=>⟨by rw [hC];exact Nat.ne_of_lt (Nat.lt_succ_of_lt hb),Nat.ne_of_lt hb⟩
 have old:∀ b o,s2.heap.get? b=some o->h₁.get? b=some o:=λb o e=>upP b o (hP2▸Heap.get?_push_of_some _ e)
 have hacc:h₁.get? s2.heap.objs.size=some (lobj []):=upP _ _ (hP2▸Heap.get?_push_size _ rfl)
 generalize hCe:P2.objs.size=C at *
 generalize hDe:s2.heap.objs.size=D at *
 let Y:Cx:=bc X (Ex C s2 H2 fp) N' scope cl C s2 H2 fp
 have clLt:∀ y c,cl.lookup y=some c->c<D:=λy c e=>by
  obtain⟨v,q⟩:=I2.cell y c (K.sub.get y c e)
  rw [<- hDe]
  exact q.lt
 have cellsX:∀ y c,Y.env.cells.lookup y=some c->cl.lookup y=some c∨C+1<=c:=λy c e=>c9 _ _ _ e
 have cellNe:∀ y c,Y.env.cells.lookup y=some c->c≠D:=λy c e=>by
  rcases cellsX y c e with z | z
  ·exact Nat.ne_of_lt (clLt y c z)
  ·exact Nat.ne_of_gt (by omega)
 have freshH:∀ a,D<=a->H2 a=none:=λa ha=>I2.hok.fresh (by rw [hDe];exact ha)
 have hDleC:D<=C:=by rw [hC];exact Nat.le_succ _
 have lc:iM X C s2 H2 fp:=⟨⟨pins,σ,I2⟩,λb hb=>((f2 b hb).2.2.2.1).symm,λb hf hb=>by
   rcases List.mem_cons.mp (I2.d3 b hf) with z | z
   ·exact (f2 b hb).2.1 z
   ·exact (f2 b hb).2.2.1 z,by rw [hDe];exact hDleC⟩
 have hbelowfp:∀ b∈fp,b<D:=λb hb=>by
  obtain⟨o,e,_⟩:=T.obj _ _ st2 b hb
  rw [<- hDe]
  exact Heap.lt_size e
 have okY:Y.Ok:=by
  refine⟨I2.ok.mod,K.kind,I2.ok.glob,I2.ok.blt,?_,iQ _ _ _ (λx c e=>Nat.lt_succ_of_lt (Nat.lt_of_lt_of_le (clLt x c e) hDleC)) (λx y c e1 e2=>I2.ok.inj x y c (K.sub.get x c e1) (K.sub.get y c e2)),λx hx=>?_,λx c hf hc=>?_,I2.ok.hd,I2.ok.frames,.inl rfl,λb hb=>?_,I2.bs,Nat.le_trans I2.ok.bsz I2.sz,λb o e hb=>?_,λb hb hf=>?_,I2.stack,I2.jW⟩
  ·show s2.heap.objs.size<=C
   rw [hDe];exact hDleC
  ·have hx':(relabel scope X.env).names.lookup x=some .cell∨(relabel scope X.env).names.lookup x=some .free:=hx
   have:∃ y∈scope.names,y.1=x/\(y.2=.free∨y.2=.cell):=by
    rcases hx' with q | q
    ·exact d8 q (.inl rfl)
    ·exact d8 q (.inr rfl)
   obtain⟨y,hm,e1,e2⟩:=this
   refine Option.isSome_iff_exists.mp (PySem.W.cellsFrom_some _ _ _ ?_)
   rcases e2 with e2 | e2
   ·have q:=K.has y hm e2
    rw [e1] at q
    exact .inr q
   ·exact .inl (e1▸(K.nocell y hm e2).1)
  ·have hf':scope.names.lookup x=some .cell:=by simpa using (show (scope.names.lookup x==some .cell)=true from hf)
   have:=iR _ _ _ hf' hc
   show s2.heap.objs.size<=c
   rw [hDe];exact Nat.le_trans hDleC (Nat.le_of_succ_le this)
  ·refine⟨Nat.ne_of_lt (Nat.lt_of_lt_of_le (hbelowfp b hb) hDleC),λx c e=>?_⟩
   rcases cellsX x c e with z | z
   ·exact (f2 b hb).2.2.2.2.1 x c (K.sub.get x c z)
   ·exact Nat.ne_of_gt (Nat.lt_of_lt_of_le (Nat.lt_of_lt_of_le (hbelowfp b hb) hDleC) (Nat.le_of_succ_le z))
  ·rcases (f2 b hb).2.2.2.1 with z | z
   ·exact I2.ok.noex b o e z
   ·exact absurd (Nat.lt_of_lt_of_le (Heap.lt_size e) (Nat.le_trans I2.ok.bsz z)) (Nat.lt_irrefl _)
  ·rcases List.mem_cons.mp (I2.d3 b hf) with z | z
   ·exact (f2 b hb).2.1 z
   ·exact (f2 b hb).2.2.1 z
 -- the block's names
 have locY:∀{s':Shared} {H':Hp} {σ':St},True:=λ{_ _ _}=>trivial
 have invY0:Inv Y [(D,lobj [])] (br js σ) H2 { s2 with heap:=h₁ }:=by
  refine⟨okY,rfl,I2.bare,Un.kept old,⟨_,hns₁,λi x v e1 e2 vis=>?_⟩,hcel,freshH C hDleC,λy c e=>?_,λp hp=>?_,I2.hok.kept old,?_⟩
  ·-- a name of the block that has a value stands outside in a cell
   have e2':(br js σ)[i]?=some (some v):=e2
   unfold br at e2'
   rw [List.getElem?_map] at e2'
   cases ej:js[i]? with
   | none=>rw [ej] at e2';cases e2'
   | some o =>
    rw [ej] at e2'
    cases o with
    | none=>cases e2'
    | some j =>
     obtain⟨n1,n2,n3,n4,n5⟩:=K.jok i j x ej e1
     have e3:(σ[j]?).join=some v:=by simpa using e2'
     have e4:σ[j]?=some (some v):=by
      cases q:σ[j]? with
      | none=>rw [q] at e3;cases e3
      | some z=>rw [q] at e3;simpa using e3
     obtain⟨m,hn,hl⟩:=I2.loc
     obtain⟨u,r,l⟩:=hl j x v n1 e4 n3
     refine⟨u,r,.inr ⟨n5,?_⟩⟩
     rcases l with⟨k,_⟩|⟨k,c,ec,z⟩
     ·exact absurd k n4
     ·obtain⟨c',ec'⟩:=Option.isSome_iff_exists.mp n2
      have ee:=K.sub.get x c' ec'
      rw [ec] at ee
      cases ee
      refine⟨c,(gy _ _ _ λy hy hk=>(K.nocell y hy hk).2 (some j,x) ?_ rfl).trans ec',?_⟩
      ·exact List.mem_of_getElem? (i:=i) (by rw [List.getElem?_zip_eq_some];exact⟨ej,e1⟩)
      obtain⟨o,ho,hd⟩:=z
      exact⟨o,old c o ho,hd⟩
  ·rcases cellsX y c e with z | z
   ·exact I2.freeC y c (K.sub.get y c z)
   ·exact freshH c (by omega)
  ·have hp':p∈[(D,lobj [])]:=hp
   have e:p=(D,lobj []):=by simpa using hp'
   subst e
   refine⟨hacc,freshH D (Nat.le_refl _),hDC,λz=>?_,λv z=>by cases z⟩
   rcases List.mem_cons.mp (I2.d3 D z) with q | q
   ·exact absurd (q▸I2.lt) (by rw [hDe];exact Nat.lt_irrefl _)
   ·exact I2.pU (by rw [hDe];exact Nat.le_refl _) q
  ·show (br js σ).length=N'.length
   unfold br
   rw [List.length_map]
   exact K.jlen
 have hDfs:D∉Y.fs:=λz=>by
  rcases List.mem_cons.mp (I2.d3 D z) with q | q
  ·exact absurd (q▸I2.lt) (by rw [hDe];exact Nat.lt_irrefl _)
  ·exact I2.pU (by rw [hDe];exact Nat.le_refl _) q
 have stat:∀{H':Hp} {ys:List Value},(∀ b∈fp,H' b=none)->∀ b∈fp,gk Y [(D,lobj ys)] H' b:=λ{H' ys} hn b hb=>by
  refine⟨hn b hb,Nat.ne_of_lt (Nat.lt_of_lt_of_le (hbelowfp b hb) hDleC),okY.exfs b hb,.inl hb,okY.exf b hb |>.2,λp hp=>?_⟩
  have hp':p∈[(D,lobj ys)]:=hp
  have e:p=(D,lobj ys):=by simpa using hp'
  subst e
  exact Nat.ne_of_gt (hbelowfp b hb)
 have loop:∀ s3:Shared,s3={ s2 with heap:=h₁ } ->
   codeAny (model X.prog X.w) X.A (.compLoop (.ListComp elt (⟨target,iter,ifs,0⟩::rest) scope pos) 0 (.ref it) (.ref D) (compEnvC scope (cellsFrom (C+1) scope.names cl) C X.env)) (compPost (model X.prog X.w) X.A X.xe use Q' (.ref D) C) s3:=by
  rintro s3 rfl
  refine hloop _ _ _ _ _ _ (λn s'=>∃ i ys vys H',Inv Y [(D,lobj ys)] (br js σ) H' s'/\tn i s'.heap/\(∀ b∈fp,H' b=none)/\Vals vys ys/\W i n vys H') ?_ m0
   ⟨0,[],[],H2,invY0,T.keep _ _ _ st2 λb _ o e=>old b o e,λb hb=>(f2 b hb).1,.nil,w0⟩ λe s' z=>herr C s2 H2 fp use Q' (.ref D) e s' z
  rintro n s4 ⟨i,ys,vys,H4,I4,st4,fr4,rv,w4⟩
  rcases turn i n vys H4 w4 with⟨stop,hz,qn⟩|⟨go,hz,Nn,hN,step⟩
  ·refine a8 (T.done Y rfl rfl rfl hcalm i _ s4 _ H4 (Ex C s2 H2 fp) I4 (stat fr4) st4 stop) λr s5 ⟨hr,I5⟩=>?_
   subst hr
   obtain⟨m5,hn5,_⟩:=I5.loc
   obtain⟨pD,nD,_,_,_⟩:=I5.pin (D,lobj ys) (by show _∈[(D,lobj ys)];simp)
   have nC:H4 C=none:=I5.free
   refine hok C D vys H4 s5 ⟨m5,hn5⟩ (Nat.le_refl _) hDleC hDC nD nC (λh' hsb=>?_) (qn D nD)
   have pD':h'.get? D=some (lobj ys):=hsb.extBut _ _ hDC pD
   refine I2.qZ (s':={ s5 with heap:=h' }) (ch:=fp) I5.os ?_ ?_ I5.bare (λb hb=>?_)
   ·-- kept
    have u:=I5.base
    have neC:∀ b o,s2.heap.get? b=some o->b≠C/\b≠D:=λb o e=>by
     have:=Heap.lt_size e
     rw [hDe] at this
     exact⟨Nat.ne_of_lt (Nat.lt_of_lt_of_le this hDleC),Nat.ne_of_lt this⟩
    refine⟨λb o e nn hb hx=>hsb.extBut b o (neC b o e).1 (u.keep b o e nn hb hx),λb o e nn hb hx=>?_,λb o e nn hx=>?_,λb o e hx=>?_,λb xs e=>?_,λb o xs e=>?_,λb ps e=>?_⟩
    ·obtain⟨sl,q⟩:=u.slot b o e nn hb hx
     exact⟨sl,hsb.extBut b _ (neC b o e).1 q⟩
    ·rw [ak (neC b o e).2]
     exact u.free b o e nn hx
    ·obtain⟨o',q⟩:=u.there b o e hx
     exact⟨o',hsb.extBut b _ (neC b o e).1 q⟩
    ·rw [ak (aI (u.tups b xs e) nD)]
     exact u.tups b xs e
    ·rw [ak (aI (u.frzs b o xs e) nD)]
     exact u.frzs b o xs e
    ·obtain⟨more,q⟩:=u.tbls b ps e
     exact⟨more,by rw [ak (aI q nD)];exact q⟩
   ·intro b o e
    by_cases hb:b=D
    ·subst hb
     rw [aj] at e
     cases e
     exact⟨hz,ys,_,rv,pD'⟩
    ·rw [ak hb] at e
     refine (I5.hok b o e).iH (λc w' hc q=>hsb.extBut c w' ?_ q) (λc q=>by rw [ak (aI q nD)];exact q) λc xs q=>by rw [ak (aI q nD)];exact q
     rintro rfl
     rcases hc with rfl | hc
     ·rw [nC] at e;cases e
     ·rw [nC] at hc;cases hc
   ·exact⟨(f2 b hb).2.2.2.1,(f2 b hb).2.1,(f2 b hb).2.2.2.2.1,(f2 b hb).2.2.2.2.2⟩
  ·refine a8 (T.item Y rfl rfl rfl hcalm i _ s4 _ H4 (Ex C s2 H2 fp) I4 (stat fr4) st4 go) λr s5 ⟨u,hr,h5⟩=>?_
   subst hr
   refine a8 h5 λ_ s6 ⟨x,H6,I6,r6,y6,st6,fr6⟩=>?_
   have I6':=I6.pinned (stat fr6) (T.obj _ _ st6)
   refine a8 (hg C s2 H2 fp lc _ s6 _ H6 x u _ I6' r6 (step x H6 y6)) λ_ s7 ⟨σ7,H7,I7,k7,q7⟩=>?_
   refine a8 (ht C s2 H2 fp lc _ s7 σ7 H7 _ I7 q7) λb s8 ⟨H8,I8,q8⟩=>?_
   -- behind the tests and the element: the state goes back to what the next turn wants
   have again:∀{ys':List Value} {s9:Shared} {H9:Hp},Inv Y ([(D,lobj ys')]++dW fp s6.heap) σ7 H9 s9->Inv Y [(D,lobj ys')] (br js σ) H9 s9/\tn (i+1) s9.heap/\∀ b∈fp,H9 b=none:=λ{ys' s9 H9} I9=>by
    refine⟨(I9.dD).weak k7.len k7.get,T.keep _ _ _ st6 λb hb o e=>(I9.pin (b,o) (List.mem_append_right _ (List.mem_append_right _ (bY hb e)))).1,λb hb=>?_⟩
    obtain⟨o,e,d⟩:=T.obj _ _ st6 b hb
    exact (I9.pin (b,o) (List.mem_append_right _ (List.mem_append_right _ (bY hb e)))).2.1
   cases b with
   | false =>
    rw [if_neg Bool.false_ne_true] at q8 ⊢
    obtain⟨m',hm,w8⟩:=hN _ _ q8
    obtain⟨J8,t8,f8⟩:=again I8
    exact⟨m',hm,i+1,ys,vys,H8,J8,t8,f8,rv,w8⟩
   | true =>
    rw [if_pos rfl] at q8 ⊢
    have aok:jj Y D (dW fp s6.heap):=⟨λp hp z=>absurd (hbelowfp p.1 (fX hp).1) (by rw [z];exact Nat.lt_irrefl _),by show s2.heap.objs.size<=D;rw [hDe];exact Nat.le_refl _,λx c e=>cellNe x c e⟩
    refine hB C s2 H2 fp lc D ys vys _ σ7 H8 s8 Nn _ I8 rv aok hz q8 λys' vys' H9 s9 I9 rv' q9=>?_
    obtain⟨J9,t9,f9⟩:=again I9
    obtain⟨m',hm,w9⟩:=hN _ _ q9
    exact⟨m',hm,i+1,ys',vys',H9,J9,t9,f9,rv',w9⟩
 exact codeAny_compStart_list (loop _ rfl) (T.self _ 0 _ _ _ (T.keep _ _ _ st2 λb _ o e=>old b o e) (loop _ rfl))
theorem mM {Y:Cx} {D:Addr} {ys:List Value} {P:List (Addr × Obj)} {σ:St} {H:Hp} {s:Shared} {y:Value} {Q:Value->Shared->Prop} {E:Value->Shared->Prop} (hpn:Y.pn=[]) (I:Inv Y ([(D,lobj ys)]++P) σ H s) (ok:jj Y D P) (z:ys.length<sizeLine)
  (q:∀ s',Inv Y ([(D,lobj (ys++[y]))]++P) σ H s'->Q .none s'):wpAny (model Y.prog Y.w) Y.A (call (.builtin "list.append") [.ref D,y]) Q E s:=by
 obtain⟨pD,nD,neD,nfD,_⟩:=I.pin (D,lobj ys) (by rw [hpn];simp)
 refine append_at (hsz:=by show ys.toArray.size<=sizeLine;rw [List.size_toArray];exact Nat.le_of_lt z) (show s.heap.get? D=some { cls:=.type "list",data:=.seq ys.toArray ys.length } from pD) λh' hsb hD'=>q _ ?_
 have eD:h'.get? D=some (lobj (ys++[y])):=by
  rw [hD']
  unfold lobj
  rw [List.length_append,List.length_singleton,List.push_toArray]
 have J1:Inv Y P σ H s:=I.eI λp hp=>I.pin p (List.mem_append_right _ (List.mem_append_right _ hp))
 have J2:Inv Y P σ H { s with heap:=h' }:=J1.turned (t':=s.toks) (it:=D) (λb o hb e=>hsb.extBut b o hb e) nD neD (.inr ok.new) ok.cell λp hp=>ok.ne p (by rw [hpn] at hp;simpa using hp)
 refine J2.eI λp hp=>?_
 rcases List.mem_append.mp hp with hp | hp
 ·have e:p=(D,lobj (ys++[y])):=by simpa using hp
  subst e
  exact⟨eD,nD,neD,nfD,λv z=>by cases z⟩
 ·exact J2.pin p (List.mem_append_right _ hp)
theorem kO {Y:Cx} {D:Addr} {ys:List Value} {vys:List V} {P:List (Addr × Obj)} {σ:St} {H:Hp} {s:Shared} {elt:Expr} {te:TE} {N:List V->Hp->Prop} {Ps:Shared->Prop} (hpn:Y.pn=[]) (he:PE Y elt te) (I:Inv Y ([(D,lobj ys)]++P) σ H s) (rv:Vals vys ys) (ok:jj Y D P) (z:vys.length<sizeLine) (q:te σ H λv H4=>N (vys++[v]) H4)
  (k:∀ ys' vys' H' s',Inv Y ([(D,lobj ys')]++P) σ H' s'->Vals vys' ys'->N vys' H'->Ps s'):wpAny (model Y.prog Y.w) Y.A (jo elt (.ref D) Y.env) (λ_ s'=>Ps s') Y.xe s:=by
 unfold jo
 refine wpAny_bind (a8 (he _ s σ H _ I q) λy s9 ⟨vy,H9,I9,r9,q9⟩=>?_)
 exact wpAny_bind (mM hpn I9 ok (by rw [<- rv.length];exact z) λs' I'=>wpAny_pure (k _ _ _ _ I' (rv.append (.cons r9 .nil)) q9))
theorem m6 {X:Cx} {Ex:Addr->Shared->Hp->List Addr->Value->Shared->Prop} {elt target iter:Expr} {ifs:List Expr} {scope:Scope} {pos:Pos} {N':List Str} {js:List (Option Nat)} {cl:List (Str × Addr)} {g:TG} {tt:TT} {te:TE} (hcalm:X.calm=true)
  (K:eO X N' js scope cl)
  (hg:∀ C s₂ H₂ fp,iM X C s₂ H₂ fp->PG (bc X (Ex C s₂ H₂ fp) N' scope cl C s₂ H₂ fp) target g) (ht:∀ C s₂ H₂ fp,iM X C s₂ H₂ fp->mH (bc X (Ex C s₂ H₂ fp) N' scope cl C s₂ H₂ fp) ifs tt) (he:∀ C s₂ H₂ fp,iM X C s₂ H₂ fp->PE (bc X (Ex C s₂ H₂ fp) N' scope cl C s₂ H₂ fp) elt te)
  (herr:∀ C s₂ H₂ fp use Q' acc e s',Ex C s₂ H₂ fp e s'->notedBy (model X.prog X.w) X.A (compEnvC scope (cellsFrom (C+1) scope.names cl) C X.env) (λe s''=>compPost (model X.prog X.w) X.A X.xe use Q' acc C (.error e) s'') e s')
  {pins:List (Addr × Obj)} {σ:St} {Q:VK} {use:Option (Value->Sem Unit)} {Q':Value->Shared->Prop} {itv:Value} {s2:Shared}
  (h2:sJ X pins σ target (λJ H1=>∃ W:Nat->Nat->List V->Hp->Prop,(∃ m,W 0 m [] H1)/\∀ i m ys H,W i m ys H ->
 (J.stop i H/\ys.length<=sizeLine/\∀ p,H p=none->Q (.ref p) (upd H p (.lst ys))) ∨
 (J.go i H/\ys.length<sizeLine/\∃ N:List V->Hp->Prop,(∀ ys' H',N ys' H'->∃ m',m'<m/\W (i+1) m' ys' H') /\
  ∀ x H',J.yld i H x H'->g x (br js σ) H' λσ2 H2=>aV (br js σ) σ2/\tt σ2 H2 λb H3=>if b=true then te σ2 H3 λv H4=>N (ys++[v]) H4 else N ys H3)) itv s2)
  (hok:∀ C D vys H4 s5,(∃ m,s5.heap.Ns C m)->s2.heap.objs.size<=D->D<=C->D≠C->H4 D=none->H4 C=none->(∀ h',Heap.SameBut C s5.heap h'->Inv X pins σ (upd H4 D (.lst vys)) { s5 with heap:=h' })->Q (.ref D) (upd H4 D (.lst vys))->compPost (model X.prog X.w) X.A X.xe use Q' (.ref D) C (.ok .next) s5) :
  wpAny (model X.prog X.w) X.A (newList []) (λacc s₃=>wpAny (model X.prog X.w) X.A (newFunctionEnv scope X.env.globals cl [] X.env.qual none .none (some X.env)) (λcenv s₄ =>
   codeAny (model X.prog X.w) X.A (.compStart (.ListComp elt [⟨target,iter,ifs,0⟩] scope pos) 0 itv acc { cenv with scope:=relabel scope X.env }) (compPost (model X.prog X.w) X.A X.xe use Q' acc cenv.locals) s₄) X.xe s₃) X.xe s2 :=
 pR (Bd:=λEx acc env Ps s=>wpAny (model X.prog X.w) X.A (jo elt acc env) (λ_ s'=>Ps s') Ex s) (Cc:=λys=>ys.length<sizeLine) (tb:=λys σ2 H3 N=>te σ2 H3 λv H4=>N (ys++[v]) H4) hcalm
  (λ_ _ _ it acc env I turn n h hE=>gB I (mq elt target iter ifs scope pos it acc env) turn n h hE) K hg ht
  (λC s₂ H₂ fp lc D ys vys P σ H s N Ps I rv ok z q k=>kO rfl (he C s₂ H₂ fp lc) I rv ok z q k) herr h2 hok
theorem jK {X:Cx} {elt target iter:Expr} {ifs:List Expr} {scope:Scope} {pos:Pos} {N':List Str} {js:List (Option Nat)} {cl:List (Str × Addr)} {wi:TI} {g:TG} {tt:TT} {te:TE} (hcalm:X.calm=true)
  (K:eO X N' js scope cl) (hi:PI X target iter wi)
  (hg:∀ C s₂ H₂ fp,PG (gA X N' scope cl C s₂ H₂ fp) target g) (ht:∀ C s₂ H₂ fp,mH (gA X N' scope cl C s₂ H₂ fp) ifs tt) (he:∀ C s₂ H₂ fp,PE (gA X N' scope cl C s₂ H₂ fp) elt te)
  (hs:∀ x,foldedSetIterable iter X.env x=pure x:=by intro _;rfl):PE X (.ListComp elt [⟨target,iter,ifs,0⟩] scope pos) (ui js wi g tt te):=by
 intro pins s σ H Q I h
 rw [eval_ListComp]
 refine wpAny_comprehension_free (use:=none) rfl hs K.clos K.kind K.names (a8 (hi pins s σ H _ I h) λv s1 h1=>a8 h1 λitv s2 h2=>?_)
 exact m6 (Ex:=λ_ _ _ _ _ _=>False) hcalm K (λC s H f _=>hg C s H f) (λC s H f _=>ht C s H f) (λC s H f _=>he C s H f) (λ_ _ _ _ _ _ _ _ _ z=>z.elim) h2 λC D vys H4 s5 ⟨m,hn⟩ _ _ _ _ _ hI q=>⟨m,hn,λh' hsb=>⟨.ref D,_,hI h' hsb,rfl,q⟩⟩
def Bd (i:Int):Prop:=i.natAbs<2^4000
theorem kN:(10:Nat)^250<=2^4000:=by decide +kernel
theorem Bd.of {i:Int} (h1:-(10^250)<i) (h2:i<10^250):Bd i:=by
 refine Nat.lt_of_lt_of_le ?_ kN
 have:((10:Nat)^250:Nat)=((10:Int)^250).toNat:=by decide +kernel
 rw [this]
 omega
theorem Bd.mono {i j:Int} (h:Bd j) (h':i.natAbs<=j.natAbs):Bd i:=Nat.lt_of_le_of_lt h' h
theorem Bd.bits {i:Int} (h:Bd i):Builtin.Int.intBits i<=2^20 :=
 Nat.le_trans (intBits_le h) (by decide)
theorem Bd.uD {i j:Int} (h:Bd j):Builtin.divisionGoesByPylong i j=false:=by
 refine PyProof.noPylong_of_log2 ?_
 by_cases z:j.natAbs=0
 ·rw [z];decide
 ·exact Nat.lt_of_lt_of_le ((Nat.log2_lt z).mpr h) (by decide)
section
variable {X:Cx}
theorem df:c7 X (binaryOp .Mult) (rI (λi j=>Bd i/\Bd j) λi j=>.int (i*j)):=sN λ_ _ _ _ _ _ _ hc q=>mul_int q (IntMulOk.of_bits hc.1.bits hc.2.bits)
theorem de:c7 X (binaryOp .FloorDiv) (rI (λ_ j=>0<j/\Bd j) λi j=>.int (i/j)):=sN λi j _ _ _ _ _ hc q=>by
 have h1:(0:Int)<j:=hc.1
 exact floordiv_int (by omega) (by rw [Int.fdiv_eq_ediv_of_nonneg i (by omega)];exact q) (.inl hc.2.uD)
theorem oF {op:Operator} {r:R2} (ho:c7 X (inplaceOp op) r):t7 X op r:=λpins s σ H x y v u Q I r1 r2 h=>ho pins s σ H x y v u Q I r1 r2 h
def sx (i j k:Nat) (ta:TA):TS:=λD σ H=>ta σ H λvs H1=>∃ v w u,vs=[v,w,u]/\D.nx (((σ.set i (some v)).set j (some w)).set k (some u)) H1
def qp (K:PySem.W.Frag):List V->Hp->VK->Prop:=λxs H Q=>∃(a:Addr) (bs:List Bool),xs=[.ref a]/\aS K H a (bs.map V.bl)/\Q (.bl (bs.all id)) H
theorem kP (hc:X.calm=true):bq X (.builtin "all") (qp X.K):=by
 intro pins s σ H xs us Q I r h
 obtain⟨a,bs,rfl,hq,q⟩:=h
 obtain⟨u,rfl,ru⟩:=vals1 r
 cases ru
 obtain⟨its,rv,p,hz⟩:=I.list hq
 have hl:=p.isList
 have hlt:a<s.heap.objs.size:=by obtain⟨_,e,_⟩:=hl;exact Heap.lt_size e
 have hb:∀(i:Nat) v,its[i]?=some v->∃ b,bs[i]?=some b/\v=.bool b:=λi v e=>by
  have hi:i<its.length:=(List.getElem?_eq_some_iff.mp e).1
  have hi2:i<bs.length:=by have:=rv.length;rw [List.length_map] at this;omega
  obtain⟨u,e1,e2⟩:=rv.get (i:=i) (x:=V.bl bs[i]) (by rw [List.getElem?_map,List.getElem?_eq_getElem hi2];rfl)
  rw [e] at e1
  cases e1
  exact⟨bs[i],List.getElem?_eq_getElem hi2,e2⟩
 have hln:its.length=bs.length:=by have:=rv.length;rw [List.length_map] at this;omega
 refine call_all_walk (wpAny_pyIter_list hl ?_)
 refine⟨s.heap.objs.size,[s.heap.objs.size,a],[s.heap.objs.size],its.toArray.size,_,_,λi=>(bs[i]?).getD true,rfl,Walks.list (A:=X.A.in1) (I.ok.hd hc) _ a (Nat.ne_of_lt hlt) its.toArray,
  ⟨⟨_,Heap.get?_push_size _ rfl,rfl,rfl⟩,hl.push _⟩,λi v s' Q' E' hP hQ=>?_,λh' tk hk=>?_⟩
 ·obtain⟨b,e,rfl⟩:=hb i v (by simpa using hP)
  simp only [e,Option.getD_some] at hQ
  exact wpAny_truthy_bool hQ
 ·have e:((List.range its.toArray.size).all λi=>(bs[i]?).getD true)=bs.all id:=by
   rw [List.size_toArray,hln,Bool.eq_iff_iff]
   simp only [List.all_eq_true,List.mem_range,id]
   constructor
   ·intro z b hb'
    obtain⟨i,hi,rfl⟩:=List.mem_iff_getElem.mp hb'
    have:=z i hi
    rwa [List.getElem?_eq_getElem hi,Option.getD_some] at this
   ·intro z i hi
    rw [List.getElem?_eq_getElem hi,Option.getD_some]
    exact z _ (List.getElem_mem hi)
  rw [e]
  exact⟨.bl _,H,I.kept λb o eb=>hk b o (λhm=>by rw [List.mem_singleton.mp hm] at eb;exact Nat.lt_irrefl _ (Heap.lt_size eb)) (Heap.get?_push_of_some _ eb),rfl,q⟩
end
def az (K:PySem.W.Frag) (mg:Str->Option Value) (x:Str) (st:Stmt):Prop:=∃ f fd,mE K x x st f fd/\mg x=some (.ref f)
structure Callee (P:Program) (w:World) (K:PySem.W.Frag) (mg:Str->Option Value) (base:Heap) (CX:fD) (k:Nat) (x:Str) (ps:List Str) (sp:Sp):Prop where
 ex:∃ f fd,bU P w K mg base CX k f fd ps sp/\mg x=some (.ref f)/\PySem.W.keepIn K (.ref f)=true/\Binds K fd ps []
section
variable {P:Program} {w:World} {K:PySem.W.Frag} {mg:Str->Option Value} {base:Heap} {CX:fD} {k:Nat} {x:Str} {ps:List Str} {sp:Sp}
theorem Callee.mono {j:Nat} (C:Callee P w K mg base CX k x ps sp) (h:k<=j):Callee P w K mg base CX j x ps sp:=by
 obtain⟨f,fd,F,a,b,c⟩:=C.ex
 exact⟨f,fd,F.mono h,a,b,c⟩
theorem ba {X:Cx} {E:XK} {e:Expr} {es:List Expr} {t:TA} {p pos:Pos} (C:Callee X.prog X.w X.K X.mg X.base CX k x ps sp) (hr:bC k X.A) (hg:Gl X x) (hx:Passes CX X E)
  (ha:PA X (e::es) t) (hdb:(x==("__debug__":Str))=false:=by decide) (he:starEach (e::es) X.env=(false,eval e X.env)::starEach es X.env:=by rfl) (hpl:(backTo pos (starEach es X.env)).any (·.1)=false:=by rfl) :
  PE X (.Call (.Name x p) (e::es) [] pos) (cP sp [] E t):=by
 obtain⟨f,fd,F,hm,hk,hb⟩:=C.ex
 exact nF F hr hg hm hk hb .nil hx ha hdb he hpl
theorem j9 {st:Stmt} {N:List Str} (D:az K mg x st)
  (hb:∀(kV doc pm:Value) (an:Option Addr) (cdv ct:Value) (us:List Value),us.length=ps.length->bindArgs (PySem.W.fnOf x x (bo st) (aW st) (ao st) .none kV doc pm an cdv ct) ⟨us,[]⟩=pure (ps.zip us))
  (S:aD N ps (ao st)) (len:∀ vs H Q E,sp vs H Q E->vs.length=ps.length)
  (hbody:∀(f:Addr) (cdv:Value) (A:Around) (outer:List Env) (s:Shared) (H:Hp) (vs:List V) (Q:VK) (E:XK),bC k (A.deeper (envOfC x (ao st) s.heap.objs.size f cdv))->sp vs H Q E ->
   ∃ t,gq (fG aZ P w K mg base N x (ao st) f cdv A outer s H E).kx (aW st) t/\t { nx:=λ_ H'=>Q .a9 H',rt:=Q } (start N vs) H):Callee P w K mg base aZ (k+1) x ps sp:=by
 obtain⟨f,fd,F,hm⟩:=D
 exact⟨f,fd,F.ok S len λcdv A outer s H vs Q E hr h=>hbody f cdv A outer s H vs Q E hr h,hm,F.kp,F.binds hb⟩
theorem kU {h:Heap} {f:Addr} {st:Stmt} {oc:Value} {od an:Option Addr} {osl:Array (Option Value)} {kV doc pm cdv ct:Value} (X:K.In h) (G:h.Ns mainGlobals mg)
  (a:PySem.W.nsIn K mainGlobals x=some (some (.ref f))) (l:K.lookup f=some ⟨oc,od,.func (PySem.W.fnOf x x (bo st) (aW st) (ao st) .none kV doc pm an cdv ct),osl⟩)
  (c:PySem.W.codeIn K cdv x=true) (kk:PySem.W.keepIn K (.ref f)=true):az K mg x st:=⟨f,_,pH l c kk,PySem.W.mg_of X G a⟩
end
def dH (cl:List (Str × Addr)):List (Str × NameKind)->Prop
 | []=>True
 | y::r=>(match y.2 with | .free=>(cl.lookup y.1).isSome=true | _=>True)/\dH cl r
theorem dH.get {cl:List (Str × Addr)}:∀{l:List (Str × NameKind)},dH cl l->∀ y∈l,y.2=.free->(cl.lookup y.1).isSome=true
 | [],_,_,h,_=>nomatch h
 | z::r,a,y,h,e=>by
  rcases List.mem_cons.mp h with q | q
  ·subst q
   have:=a.1
   rw [e] at this
   exact this
  ·exact dH.get a.2 y q e
def cY (X:Cx) (scope:Scope) (cl:List (Str × Addr)):List (Option Nat)->List Str->Prop
 | none::r,_::n=>cY X scope cl r n
 | some j::r,x::n=>(X.N[j]?=some x/\(cl.lookup x).isSome=true/\(X.env.scope.names.lookup x=some .cell∨X.env.scope.names.lookup x=some .free)/\((relabel scope X.env).names.lookup x=some .cell∨(relabel scope X.env).names.lookup x=some .free))/\cY X scope cl r n
 | [],[]=>True
 | _,_=>False
theorem cY.len {X:Cx} {scope:Scope} {cl:List (Str × Addr)}:∀{js:List (Option Nat)} {N:List Str},cY X scope cl js N->js.length=N.length
 | [],[],_=>rfl
 | none::r,_::n,h=>by
  have h':cY X scope cl r n:=h
  simp [cY.len h']
 | some j::r,x::n,h=>by
  have h':cY X scope cl r n:=h.2
  simp [cY.len h']
 | [],_::_,h=>h.elim
 | none::_,[],h=>h.elim
 | some _::_,[],h=>h.elim
theorem cY.get {X:Cx} {scope:Scope} {cl:List (Str × Addr)}:∀{js:List (Option Nat)} {N:List Str},cY X scope cl js N->∀(i j:Nat) x,js[i]?=some (some j)->N[i]?=some x ->
  X.N[j]?=some x/\(cl.lookup x).isSome=true/\qL X.env.scope x/\X.env.kindOf x≠some .local/\((relabel scope X.env).names.lookup x=some .cell∨(relabel scope X.env).names.lookup x=some .free)
 | [],[],_,i,j,x,e,_=>by simp at e
 | none::r,y::n,h,0,j,x,e,_=>by simp at e
 | none::r,y::n,h,i+1,j,x,e,e2=>cY.get (js:=r) (N:=n) h i j x (by simpa using e) (by simpa using e2)
 | some k::r,y::n,h,0,j,x,e,e2=>by
  have q:k=j:=by simpa using e
  have q2:y=x:=by simpa using e2
  subst q;subst q2
  obtain⟨a,b,c,d⟩:=h.1
  refine⟨a,b,?_,?_,d⟩
  ·rcases c with c | c
   ·exact .inr (.inl c)
   ·exact .inr (.inr c)
  ·intro z
   have z':X.env.scope.names.lookup y=some .local:=z
   rcases c with c | c
   ·rw [c] at z';cases z'
   ·rw [c] at z';cases z'
 | some k::r,y::n,h,i+1,j,x,e,e2=>cY.get (js:=r) (N:=n) h.2 i j x (by simpa using e) (by simpa using e2)
 | [],_::_,h,_,_,_,_,_=>h.elim
 | none::_,[],h,_,_,_,_,_=>h.elim
 | some _::_,[],h,_,_,_,_,_=>h.elim
theorem pE {X:Cx} {N':List Str} {js:List (Option Nat)} {scope:Scope} {cl:List (Str × Addr)} (clos:closureFor scope X.env=pure cl) (kind:scope.kind=.function) (nocell:∀ y∈scope.names,y.2=.cell->scope.names.lookup y.1=some .cell/\∀ p∈js.zip N',p.1.isSome=true->p.2≠y.1)
  (names:∀ y∈scope.names,y.2=.local->scope.names.lookup y.1=some .local) (sub:AllIn X.env cl) (has:dH cl scope.names) (j:cY X scope cl js N'):eO X N' js scope cl :=
 ⟨clos,kind,nocell,names,sub,has.get,j.len,j.get⟩
theorem boot_int:bootBuiltins "int"=some (.type "int"):=by decide +kernel
theorem boot_bool:bootBuiltins "bool"=some (.type "bool"):=by decide +kernel
theorem boot_tuple:bootBuiltins "tuple"=some (.type "tuple"):=by decide +kernel
theorem boot_list:bootBuiltins "list"=some (.type "list"):=by decide +kernel
theorem boot_all:bootBuiltins "all"=some (.builtin "all"):=by decide +kernel
theorem ay {H:Hp} {p:Addr} {o:HO} (h:H p=none):aE H (upd H p o):=λb u q=>by rw [ak (aI q h)];exact q
theorem iL {α:Type} {c:TT} {tb:TS} {D:Ends} {σ:St} {H:Hp} (S:α->St) (Pv:α->Hp->Prop) (μ:α->Nat) (x₀:α) (hσ:σ=S x₀) (h0:Pv x₀ H)
  (hs:∀ x H,Pv x H->c (S x) H λb H1=>if b=true then (∃ N:St->Hp->Prop,(∀ σ' H',N σ' H'->∃ y,σ'=S y/\Pv y H'/\μ y<μ x)/\tb { D with nx:=N,ct:=N,bk:=D.nx } (S x) H1) else D.nx (S x) H1):mj c tb D σ H:=by
 subst hσ
 refine⟨λm σ H=>∃ x,σ=S x/\Pv x H/\m=μ x,⟨_,x₀,rfl,h0,rfl⟩,?_⟩
 rintro m σ H ⟨x,rfl,p,rfl⟩
 have q:=hs x H p
 have e:(λb H1=>if b=true then (∃ N:St->Hp->Prop,(∀ σ' H',N σ' H'->∃ y,σ'=S y/\Pv y H'/\μ y<μ x)/\tb { D with nx:=N,ct:=N,bk:=D.nx } (S x) H1) else D.nx (S x) H1) =
   (λb H1=>if b=true then (∃ N:St->Hp->Prop,(∀ σ' H',N σ' H'->∃ m',m'<μ x/\∃ y,σ'=S y/\Pv y H'/\m'=μ y)/\tb { D with nx:=N,ct:=N,bk:=D.nx } (S x) H1) else D.nx (S x) H1):=by
  funext b H1
  cases b with
  | false=>rfl
  | true =>
   simp only [if_true]
   refine propext ⟨fun⟨N,hN,z⟩=>⟨N,λσ' H' n=>?_,z⟩,fun⟨N,hN,z⟩=>⟨N,λσ' H' n=>?_,z⟩⟩
   ·obtain⟨y,e1,e2,e3⟩:=hN σ' H' n
    exact⟨_,e3,y,e1,e2,rfl⟩
   ·obtain⟨m',l,y,e1,e2,e3⟩:=hN σ' H' n
    exact⟨y,e1,e2,e3▸l⟩
 rw [e] at q
 exact q
end L2
namespace Gcd
structure J (A B g u v ng nu nv:Int):Prop where
 g0:0<=g
 n0:0<=ng
 e1:u*A+v*B=g
 e2:nu*A+nv*B=ng
 ex:∃ s U NU V NV:Int,(s=1∨s = -1)/\0<=U/\0<=NU/\0<=V/\0<=NV/\u=s*U/\nu = -s*NU/\v = -s*V/\nv=s*NV/\g*NU+ng*U=B/\g*NV+ng*V=A /\
  (U<=1∨U<=B)/\(NU<=1∨NU<=B)/\(V<=1∨V<=A)/\(NV<=1∨NV<=A)
theorem J.start {A B:Int} (ha:0<=A) (hb:0<=B):J A B A 1 0 B 0 1 :=
 ⟨ha,hb,by grind,by grind,1,1,0,0,1,.inl rfl,by decide,by decide,by decide,by decide,by grind,by grind,by grind,by grind,by grind,by grind,.inl (by decide),.inl (by decide),.inl (by decide),.inl (by decide)⟩
structure uH (a b g u v:Int):Prop where
 g0:0<=g
 lin:u*a+v*b=g
 da:g∣a
 db:g∣b
 bu:u.natAbs<=max 1 b.natAbs
 bv:v.natAbs<=max 1 a.natAbs
end Gcd
namespace L2
open PySem PySem.Spec PyProof.Rows
theorem aE.upd {H H1:Hp} {p:Addr} {o:HO} (h:aE H H1) (hp:H p=none):aE H (upd H1 p o):=λb u q=>by rw [ak (aI q hp)];exact h b u q
theorem px {α:Type} {xs:List α} {k:Int} (h0:0<=k) (h1:k<xs.length):∃ v,oy xs k=some v/\xs[k.toNat]?=some v:=by
 have hk:k.toNat<xs.length:=by omega
 refine⟨xs[k.toNat],?_,List.getElem?_eq_getElem hk⟩
 have:=jk (xs:=xs) (j:=k.toNat) (List.getElem?_eq_getElem hk)
 rwa [Int.toNat_of_nonneg h0] at this
theorem mZ {K:PySem.W.Frag} {H:Hp} {p:Addr} {xs:List V} {k:Int} {Q:VK} (h:aS K H p xs) (h0:0<=k) (h1:k<xs.length) (q:∀ v∈xs,Q v H):qr K (.ref p) (.int k) H Q:=by
 obtain⟨v,e,e2⟩:=px h0 h1
 exact⟨p,xs,k,v,rfl,rfl,h,e,q v (List.mem_of_getElem? e2)⟩
theorem lu {K:PySem.W.Frag} {H:Hp} {p:Addr} {xs:List V} {k:Int} {v:V} {Q:VK} (h:aS K H p xs) (h0:0<=k) (e:xs[k.toNat]?=some v) (q:Q v H):qr K (.ref p) (.int k) H Q:=by
 have:=jk e
 rw [Int.toNat_of_nonneg h0] at this
 exact⟨p,xs,k,v,rfl,rfl,h,this,q⟩
def Loop (J:It) (g:TG) (tb:TS) (D:Ends) (σ:St) (H:Hp):Prop:=∃ W:Nat->Nat->St->Hp->Prop,(∃ m,W 0 m σ H)/\∀ i m σ H,W i m σ H ->
 (J.stop i H/\D.nx σ H)∨(J.go i H/\∃ N:St->Hp->Prop,(∀ σ' H',N σ' H'->∃ m',m'<m/\W (i+1) m' σ' H')/\∀ x H',J.yld i H x H'->g x σ H' λσ2 H2=>tb { D with nx:=N,ct:=N,bk:=D.nx } σ2 H2)
theorem oj {wi:TI} {g:TG} {tb:TS} {D:Ends} {σ:St} {H:Hp}:sf wi g tb D σ H=wi σ H λJ H1=>Loop J g tb D σ H1:=rfl
theorem bX {lo:Int} {n:Nat} {g:TG} {tb:TS} {D:Ends} {σ:St} {H:Hp} (Pv:Nat->St->Hp->Prop) (h0:Pv 0 σ H)
  (hs:∀ i σ H,i<n->Pv i σ H->g (.int (lo+i)) σ H λσ2 H2=>tb { D with nx:=Pv (i+1),ct:=Pv (i+1),bk:=D.nx } σ2 H2) (hd:∀ σ H,Pv n σ H->D.nx σ H):Loop (mF lo n) g tb D σ H:=ki Pv h0 hs hd
def cX (J:It) (js:List (Option Nat)) (g:TG) (tt:TT) (te:TE) (σ:St) (Q:VK) (H1:Hp):Prop:=∃ W:Nat->Nat->List V->Hp->Prop,(∃ m,W 0 m [] H1)/\∀ i m ys H,W i m ys H ->
 (J.stop i H/\ys.length<=sizeLine/\∀ p,H p=none->Q (.ref p) (upd H p (.lst ys))) ∨
 (J.go i H/\ys.length<sizeLine/\∃ N:List V->Hp->Prop,(∀ ys' H',N ys' H'->∃ m',m'<m/\W (i+1) m' ys' H') /\
  ∀ x H',J.yld i H x H'->g x (br js σ) H' λσ2 H2=>aV (br js σ) σ2/\tt σ2 H2 λb H3=>if b=true then te σ2 H3 λv H4=>N (ys++[v]) H4 else N ys H3)
theorem qB {js:List (Option Nat)} {wi:TI} {g:TG} {tt:TT} {te:TE} {σ:St} {H:Hp} {Q:VK}:ui js wi g tt te σ H Q=wi σ H λJ H1=>cX J js g tt te σ Q H1:=rfl
theorem iS {K:PySem.W.Frag} {a:Addr} {xs:List V} {js:List (Option Nat)} {g:TG} {tt:TT} {te:TE} {σ:St} {Q:VK} {H1:Hp} (Pv:Nat->List V->Hp->Prop) (h0:Pv 0 [] H1) (hx:xs.length<=sizeLine) (hl:∀ i ys H,i<=xs.length->Pv i ys H->aS K H a xs/\ys.length<=i)
  (hs:∀ i x ys H,xs[i]?=some x->Pv i ys H->g x (br js σ) H λσ2 H2=>aV (br js σ) σ2/\tt σ2 H2 λb H3=>if b=true then te σ2 H3 λv H4=>Pv (i+1) (ys++[v]) H4 else Pv (i+1) ys H3)
  (hd:∀ ys H p,Pv xs.length ys H->H p=none->Q (.ref p) (upd H p (.lst ys))):cX (sG K a) js g tt te σ Q H1:=by
 refine⟨λi m ys H=>m=xs.length-i/\i<=xs.length/\Pv i ys H,⟨xs.length,by simp,Nat.zero_le _,h0⟩,?_⟩
 rintro i m ys H ⟨rfl,hi,p⟩
 obtain⟨q,hy⟩:=hl i ys H hi p
 by_cases hlt:i<xs.length
 ·refine .inr ⟨⟨xs,xs[i],q,by simp [hlt]⟩,by omega,Pv (i+1),λys' H' p'=>⟨xs.length-(i+1),by omega,rfl,hlt,p'⟩,λx H' y=>?_⟩
  obtain⟨e,y⟩:=y
  subst e
  exact hs i x ys _ (y xs q) p
 ·have e:i=xs.length:=by omega
  subst e
  exact .inl ⟨⟨xs,q,Nat.le_refl _⟩,by omega,λp' hp'=>hd ys H p' p hp'⟩
theorem kd {K:PySem.W.Frag} {a:Addr} {xs:List V} {js:List (Option Nat)} {g:TG} {tt:TT} {te:TE} {σ:St} {Q:VK} {H1:Hp} (Pv:Nat->List V->Hp->Prop) (h0:Pv 0 [] H1) (hx:xs.length<=sizeLine) (hl:∀ i ys H,i<=xs.length->Pv i ys H->aT K H a xs/\ys.length<=i)
  (hs:∀ i x ys H,xs[i]?=some x->Pv i ys H->g x (br js σ) H λσ2 H2=>aV (br js σ) σ2/\tt σ2 H2 λb H3=>if b=true then te σ2 H3 λv H4=>Pv (i+1) (ys++[v]) H4 else Pv (i+1) ys H3)
  (hd:∀ ys H p,Pv xs.length ys H->H p=none->Q (.ref p) (upd H p (.lst ys))):cX (sH K a) js g tt te σ Q H1:=by
 refine⟨λi m ys H=>m=xs.length-i/\i<=xs.length/\Pv i ys H,⟨xs.length,by simp,Nat.zero_le _,h0⟩,?_⟩
 rintro i m ys H ⟨rfl,hi,p⟩
 obtain⟨q,hy⟩:=hl i ys H hi p
 by_cases hlt:i<xs.length
 ·refine .inr ⟨⟨xs,xs[i],q,by simp [hlt]⟩,by omega,Pv (i+1),λys' H' p'=>⟨xs.length-(i+1),by omega,rfl,hlt,p'⟩,λx H' y=>?_⟩
  obtain⟨e,y⟩:=y
  subst e
  exact hs i x ys _ (y xs q) p
 ·have e:i=xs.length:=by omega
  subst e
  exact .inl ⟨⟨xs,q,Nat.le_refl _⟩,by omega,λp' hp'=>hd ys H p' p hp'⟩
theorem uA {CX:fD} {P:Program} {w:World} {K:PySem.W.Frag} {mg:Str->Option Value} {base:Heap} {N:List Str} {qual:Str} {scope:Scope} {f:Addr} {cd:Value} {A:Around} {outer:List Env} {s:Shared} {H:Hp} {E:XK} :
  (fG CX P w K mg base N qual scope f cd A outer s H E).K=K:=rfl
theorem q4 {X:Cx} {N':List Str} {scope:Scope} {cl:List (Str × Addr)} {C:Addr} {s₂:Shared} {H₂:Hp} {fp:List Addr}:(gA X N' scope cl C s₂ H₂ fp).K=X.K:=rfl
theorem aF {K:PySem.W.Frag} {b k:Bool} {H:Hp}:kM K (.bl b) H k=(k=b):=rfl
theorem mn {K:PySem.W.Frag} {i:Int} {k:Bool} {H:Hp}:kM K (.int i) H k=(k=(i != 0)):=rfl
def qt (K:PySem.W.Frag):List V->Hp->VK->Prop:=λxs H Q=>∃ p ys,xs=[.ref p]/\(aS K H p ys∨aT K H p ys)/\Q (.int ys.length) H
theorem bh {X:Cx}:bq X (.builtin "len") (qt X.K):=gu
theorem bW {K:PySem.W.Frag} {H:Hp} {p:Addr} {xs:List V} {Q:VK} (h:aS K H p xs) (q:Q (.int xs.length) H):qt K [.ref p] H Q:=⟨p,xs,rfl,.inl h,q⟩
theorem jE {K:PySem.W.Frag} {H:Hp} {p:Addr} {xs:List V} {Q:VK} (h:aT K H p xs) (q:Q (.int xs.length) H):qt K [.ref p] H Q:=⟨p,xs,rfl,.inr h,q⟩
theorem pw {K:PySem.W.Frag} {H:Hp} {p:Addr} {bs:List Bool} {Q:VK} (h:aS K H p (bs.map V.bl)) (q:Q (.bl (bs.all id)) H):qp K [.ref p] H Q:=⟨p,bs,rfl,h,q⟩
theorem nW {a b:Int}:fI (.int a) (.int b)=true:=rfl
theorem nU {a b:Bool}:fI (.bl a) (.bl b)=true:=rfl
theorem nX {a:Int}:fI (.int a) .a9=true:=rfl
theorem nY {a:Int}:fI .a9 (.int a)=true:=rfl
theorem nZ:fI .a9 .a9=true:=rfl
theorem nV {a:Bool}:fI (.bl a) .a9=true:=rfl
theorem n8 {a b:Str}:fI (.str a) (.str b)=true:=rfl
def tL (t:TS):TS:=λD σ H=>∃ R:St->Hp->Prop,t { D with nx:=R } σ H/\∀ σ' H',R σ' H'->D.nx σ' H'
theorem gO {X:Cx} {st:Stmt} {t:TS} (h:PS X st t):PS X st (tL t):=by
 intro pins s σ H D I ⟨R,hw,hR⟩
 refine a8 (h pins s σ H _ I hw) λf s' q=>?_
 cases f with
 | next=>obtain⟨σ',H',I',r⟩:=q;exact⟨σ',H',I',hR _ _ r⟩
 | brk=>exact q
 | cont=>exact q
 | ret u=>exact q
theorem mS {P:Program} {w:World} {K:PySem.W.Frag} {mg:Str->Option Value} {base:Heap} {k:Nat} {x:Str} {ps:List Str} {sp:Sp} {st:Stmt} {N:List Str} {f:Addr} {fd:FuncData} (F:mE K x x st f fd)
  (S:aD N ps (ao st)) (len:∀ vs H Q E,sp vs H Q E->vs.length=ps.length)
  (hbody:∀(cdv:Value) (A:Around) (outer:List Env) (s:Shared) (H:Hp) (vs:List V) (Q:VK) (E:XK),bC k (A.deeper (envOfC x (ao st) s.heap.objs.size f cdv))->sp vs H Q E ->
   ∃ t,gq (fG aZ P w K mg base N x (ao st) f cdv A outer s H E).kx (aW st) t/\t { nx:=λ_ H'=>Q .a9 H',rt:=Q } (start N vs) H):bU P w K mg base aZ (k+1) f fd ps sp :=
 F.ok S len λcdv A outer s H vs Q E hr h=>hbody cdv A outer s H vs Q E hr h
theorem m4 {P:Program} {w:World} {K:PySem.W.Frag} {mg:Str->Option Value} {k:Nat} {x y:Str} {sp:Sp} {st:Stmt} {fa:Addr} (hfa:mg x=some (.ref fa)) (D:az K mg x st)
  (hb:∀(kV doc pm:Value) (an:Option Addr) (cdv ct:Value) (u:Value),bindArgs (PySem.W.fnOf x x (bo st) (aW st) (ao st) .none kV doc pm an cdv ct) ⟨[u],[]⟩=pure [(y,u)])
  (ok:∀(base:Heap) (f:Addr) (fd:FuncData),K.In base->mE K x x st f fd->bU P w K mg base aZ k f fd [y] sp) :
  ∃ fd:FuncData,(∀(s:Shared) (u:Value),BindsTo s fd ⟨[u],[]⟩ [(y,u)])/\∀ base:Heap,K.In base->base.Ns mainGlobals mg->bU P w K mg base aZ k fa fd [y] sp:=by
 obtain⟨f,fd,F,hm⟩:=D
 have e:=hfa.symm.trans hm
 cases e
 refine⟨fd,λs u=>?_,λbase kb _=>ok base _ _ kb F⟩
 obtain⟨oc,od,kV,doc,pm,an,cdv,ct,osl,rfl,lk,hcd⟩:=F.ex
 exact .of_eq (hb kV doc pm an cdv ct u)
end L2
namespace L2
open PySem PySem.Spec PyProof.Rows PySem.W
def gE:List Value:=[.type "ValueError",.type "Exception",.type "BaseException",.type "object"]
def eT:List Value->Bool
 | .ref _::r=>eT r
 | l=>l==gE
theorem mR {l:List Value}:eT l=true->l.contains (.type "object")=true/\l.contains (.type "BaseException")=true/\l.isEmpty=false:=by
 intro h
 induction l with
 | nil=>cases h
 | cons a r ih =>
  cases a with
  | ref c =>
   obtain⟨h1,h2,_⟩:=ih h
   exact⟨by rw [List.contains_cons,h1,Bool.or_true],by rw [List.contains_cons,h2,Bool.or_true],rfl⟩
  | type n =>
   have e:Value.type n::r=gE:=by simpa [eT] using h
   rw [e]
   exact⟨by decide,by decide,rfl⟩
  | _=>simp [eT,gE] at h
section
variable {prog:Program} {w:World} {A:Around} {E:Value->Shared->Prop} {s:Shared} {K:PySem.W.Frag} {x C:Addr} {name:Str} {v:Value} {cd:ClassData}
structure hX (K:PySem.W.Frag) (C:Addr):Prop where
 cls:∃ cd,clsIn K C=some cd/\eT cd.mro=true/\cd.hasDict=true
 at_:∃ od cd sl,K.lookup C=some ⟨.type "type",od,.cls cd,sl⟩
 sa:findIn K (.ref C) "__setattr__"=some (some (.builtin "object.__setattr__"))
 ga:findIn K (.ref C) "__getattribute__"=some (some (.builtin "BaseException.__getattribute__"))
 gx:findIn K (.ref C) "__getattr__"=some none
 ca:findIn K (.ref C) "__class__"=some (some (.builtin "object.__class__"))
 gs:specialIn K (.builtin "object.__class__") "__get__"=some (some (.builtin "getset_descriptor.__get__"))
 tk:takesIn K (.builtin "object.__class__")=some true
theorem hX.there (c:hX K C) {h:Heap} (X:K.In h):∃ oc od cd sl,h.get? C=some ⟨oc,od,.cls cd,sl⟩:=by
 obtain⟨cd,hc,_⟩:=c.cls
 unfold clsIn at hc
 split at hc
 ·rename_i c' d' cd' sl' ho
  exact⟨_,_,_,_,X _ _ ho⟩
 ·cases hc
end
section
variable {prog:Program} {w:World} {A:Around} {E:Value->Shared->Prop} {h:Heap} {g:Array GenState} {d:Drawn} {t:Nat} {os:OsState}
variable {nm q:Str} {C N:Addr} {bs bm:List Value} {hdct:Bool} {sn:List Str} {sub:List Value} {ab:Bool} {col:Option Bool} {dd:Option Addr} {k0 k1 k2 k3 k5:Option Value}
end
structure Kp (fs ch:List Addr) (h h':Heap):Prop where
 keep:∀ b o,b∉ch->b∉fs->h.get? b=some o->h'.get? b=some o
 slot:∀ b o,b∉ch->h.get? b=some o->∃ sl,h'.get? b=some { o with slots:=sl }
theorem Kp.trans {fs ch:List Addr} {h h' h'':Heap} (a:Kp fs ch h h') (b:Kp fs ch h' h''):Kp fs ch h h'' :=
 ⟨λc o hc hf e=>b.keep c o hc hf (a.keep c o hc hf e),λc o hc e=>by
  obtain⟨sl,e1⟩:=a.slot c o hc e
  obtain⟨sl',e2⟩:=b.slot c _ hc e1
  exact⟨sl',e2⟩⟩
theorem Kp.mono {fs ch ch':List Addr} {h h':Heap} (a:Kp fs ch h h') (hs:∀ b∈ch,b∈ch'):Kp fs ch' h h' :=
 ⟨λc o hc hf e=>a.keep c o (λz=>hc (hs c z)) hf e,λc o hc e=>a.slot c o (λz=>hc (hs c z)) e⟩
section
variable {M:Model} {A:Around} {E:Value->Shared->Prop} {s:Shared} {base:Heap} {env:Env} {outer:List Env} {L e T:Addr} {C:Value} {dd:Option Addr} {fl:Value}
end
def XO (x C:Addr) (dd:Option Addr):HO:=.ext λh=>∃ vs sl,h.get? x=some ⟨.ref C,dd,.fields vs,sl⟩
def XN (x C:Addr) (dd:Option Addr):HO:=.ext λh=>∃ t sl,h.get? x=some ⟨.ref C,dd,.fields #[.ref t,.none,.none,.none,.bool false,.none],sl⟩
section
variable {P:Program} {w:World} {H H':Hp} {h h':Heap} {x C:Addr} {dd:Option Addr}
theorem XO.ok {vs:Array Value} {sl:Array (Option Value)} (e:h.get? x=some ⟨.ref C,dd,.fields vs,sl⟩):aK P w H h x (XO x C dd) :=
 ⟨⟨vs,sl,e⟩,⟨_,e⟩,λ_ _ ⟨vs,sl,q⟩ k=>⟨vs,sl,k _ q⟩⟩
theorem XN.ok {t:Addr} {sl:Array (Option Value)} (e:h.get? x=some ⟨.ref C,dd,.fields #[.ref t,.none,.none,.none,.bool false,.none],sl⟩):aK P w H h x (XN x C dd) :=
 ⟨⟨t,sl,e⟩,⟨_,e⟩,λ_ _ ⟨vs,sl,q⟩ k=>⟨vs,sl,k _ q⟩⟩
theorem XN.get (hok:cC P w H h) (e:H x=some (XN x C dd)):∃ t sl,h.get? x=some ⟨.ref C,dd,.fields #[.ref t,.none,.none,.none,.bool false,.none],sl⟩:=by
 obtain⟨q,_⟩:=(show aK P w H h x (XN x C dd) from hok x _ e)
 exact q
theorem XO.get (hok:cC P w H h) (e:H x=some (XO x C dd)):∃ vs sl,h.get? x=some ⟨.ref C,dd,.fields vs,sl⟩:=by
 obtain⟨q,_⟩:=(show aK P w H h x (XO x C dd) from hok x _ e)
 exact q
end
section
variable {prog:Program} {w:World} {A:Around} {E:Value->Shared->Prop} {s:Shared} {K:PySem.W.Frag} {env:Env}
end
def qD (K:PySem.W.Frag) (H₀:Hp) (E:XK) (te:TE):TS:=λ_ σ H=>te σ H λv H1=>∃ x C dd,v=.ref x/\H1 x=some (XN x C dd)/\hX K C/\H₀ x=none/\E (.ref C) (some x) (upd H1 x (XO x C dd))
section
variable {P:Program} {w:World} {K:PySem.W.Frag} {mg:Str->Option Value} {base:Heap} {N:List Str} {qual:Str} {scope:Scope} {f:Addr} {cd:Value} {A:Around} {outer:List Env} {s:Shared} {H:Hp} {E:XK}
end
section
variable {prog:Program} {w:World} {A:Around} {E:Value->Shared->Prop} {h:Heap} {g:Array GenState} {d:Drawn} {t:Nat} {os:OsState}
variable {nm q:Str} {C N:Addr} {bs bm:List Value} {hdct:Bool} {sn:List Str} {sub:List Value} {ab:Bool} {col:Option Bool} {dd:Option Addr} {k0 k1 k2 k3 k5:Option Value}
end
theorem bU.any {P:Program} {w:World} {K:PySem.W.Frag} {mg:Str->Option Value} {base:Heap} {CX:fD} {k:Nat} {f:Addr} {fd:FuncData} {ps:List Str} {sp:Sp} (F:bU P w K mg base aZ k f fd ps sp):bU P w K mg base CX k f fd ps sp :=
 ⟨F.len,λA outer s H args us vs Q E hr he hb hv hs=>codeAny_mono (F.run A outer s H args us vs Q E hr he hb hv hs) λr s' q=>by
  cases r with
  | error e=>exact False.elim q
  | ok fl =>
   cases fl with
   | ret u=>exact q
   | next=>exact q
   | brk=>exact q
   | cont=>exact q⟩
section
variable {X:Cx} {o value:Expr} {f:Str} {pos pos':Pos} {ta tv:TE}
end
def tT (C:Addr) (f:Str) (t:TA):TE:=λσ H Q=>t σ H λvs H1=>∃ v,vs=[v]/\∀ x dx,H1 x=none->H1 dx=none->dx≠x->Q (.ref x) (upd (upd (upd H1 x (XN x C none)) dx (.xd [(f,v)])) x (XN x C (some dx)))
def tS (C:Addr):TE:=λ_ H Q=>∀ x,H x=none->Q (.ref x) (upd H x (XN x C none))
section
variable {X:Cx} {C fi:Addr} {fd:FuncData} {p f x:Str} {k:Nat} {pos np:Pos} {e:Expr} {t:TA}
end
def sZ (H:Hp) (x C:Addr) (dd:Option Addr):Prop:=H x=some (XO x C dd)∨H x=some (XN x C dd)
theorem sZ.get {P:Program} {w:World} {H:Hp} {h:Heap} {x C:Addr} {dd:Option Addr} (a:sZ H x C dd) (hok:cC P w H h):∃ vs sl,h.get? x=some ⟨.ref C,dd,.fields vs,sl⟩:=by
 rcases a with a | a
 ·exact XO.get hok a
 ·obtain⟨t,sl,e⟩:=XN.get hok a
  exact⟨_,sl,e⟩
def uF (K:PySem.W.Frag) (ta:TE) (f:Str):TE:=λσ H Q=>ta σ H λxv H1=>∃ x C dx fs v,xv=.ref x/\sZ H1 x C (some dx)/\hX K C/\findIn K (.ref C) f=some none/\H1 dx=some (.xd fs)/\fs.lookup f=some v/\Q v H1
section
variable {X:Cx} {e:Expr} {f:Str} {pos:Pos} {ta:TE}
end
section
variable {prog:Program} {w:World} {A:Around} {E:Value->Shared->Prop} {K:PySem.W.Frag} {h:Heap} {g:Array GenState} {d:Drawn} {t:Nat} {os:OsState} {x C B:Addr}
theorem hX.base (c:hX K C):mroIn K C (.type "BaseException")=some true:=by
 obtain⟨cd,hc,hm,_⟩:=c.cls
 obtain⟨m1,m2,m3⟩:=mR hm
 unfold mroIn
 rw [hc,Option.bind_some,if_neg (by rw [m3];decide),m2]
end
section
variable {M:Model} {A:Around} {E:Value->Shared->Prop} {s:Shared}
end
section
variable {X:Cx} {pins:List (Addr × Obj)} {σ:St} {H:Hp} {s:Shared} {M:Model} {A:Around} {E:Value->Shared->Prop}
end
section
variable {X:Cx} {pins:List (Addr × Obj)} {σ:St} {H:Hp} {s:Shared} {x:Addr}
def mU (n:Option Nat) (x:Addr) (σ:St):St:=match n with | some i=>σ.set i (some (.ref x)) | none=>σ
def jy (n:Option Nat) (D:Ends):Ends:=match n with
 | some i=>{ nx:=λσ H=>D.nx (σ.set i none) H,rt:=D.rt,bk:=λσ H=>D.bk (σ.set i none) H,ct:=λσ H=>D.ct (σ.set i none) H }
 | none=>D
end
def tR (K:PySem.W.Frag) (B:Addr) (n:Option Nat) (sp:Sp) (ta:TA) (put:V->St->St) (ts:TS):TS:=λD σ H=>ta σ H λvs H1=>sp vs H1 (λv H2=>D.nx (put v σ) H2)
 (λcv xo H2=>∃ C x dd,cv=.ref C/\xo=some x/\H2 x=some (XO x C dd)/\hX K C/\mroIn K C (.ref B)=some true/\ts (jy n D) (mU n x σ) H2)
section
variable {X:Cx} {B:Addr} {n:Option Nat} {hd:ExceptHandler} {ts:TS}
variable {k:Nat} {f:Str} {ps:List Str} {sp:Sp} {e:Expr} {es:List Expr} {t:TA} {p cpos epos pos:Pos}
end
section
variable {P:Program} {w:World} {K:PySem.W.Frag} {mg:Str->Option Value} {base:Heap} {k:Nat} {x:Str} {ps:List Str} {sp:Sp}
theorem Callee.any {CX:fD} (C:Callee P w K mg base aZ k x ps sp):Callee P w K mg base CX k x ps sp:=by
 obtain⟨f,fd,F,a,b,c⟩:=C.ex
 exact⟨f,fd,F.any,a,b,c⟩
end
section
variable {X:Cx} {C:Addr} {f x:Str} {pos np:Pos} {e:Expr} {t:TA}
end
inductive pd (K:PySem.W.Frag) (H:Hp):Nat->V->V->Bool->Prop
 | flat {d:Nat} {y x:V}:cI y=true->cI x=true->pd K H d y x (k8 y x)
 | same {d:Nat} {p:Addr}:pd K H d (.ref p) (.ref p) true
 | lists {d:Nat} {p q:Addr} {xs ys:List V} {e:Nat->Bool}:p≠q->aS K H p xs->aS K H q ys->xs.length=ys.length->(∀ j y x,xs[j]?=some y->ys[j]?=some x->pd K H d y x (e j))->pd K H (d+1) (.ref p) (.ref q) ((List.range xs.length).all e)
 | unlike {d:Nat} {p q:Addr} {xs ys:List V}:p≠q->aS K H p xs->aS K H q ys->xs.length≠ys.length->pd K H (d+1) (.ref p) (.ref q) false
 | tups {d:Nat} {p q:Addr} {xs ys:List V} {e:Nat->Bool}:p≠q->aT K H p xs->aT K H q ys->(∀ j y x,xs[j]?=some y->ys[j]?=some x->pd K H d y x (e j))->pd K H (d+1) (.ref p) (.ref q) ((List.range (min xs.length ys.length)).all e && xs.length==ys.length)
section
variable {X:Cx} {pins:List (Addr × Obj)} {σ:St} {H:Hp} {s:Shared}
theorem Vals.at {xs:List V} {us:List Value} (r:Vals xs us):∀{j:Nat} {u:Value},us[j]?=some u->∃ x,xs[j]?=some x/\RelV x u:=by
 induction r with
 | nil=>intro j u h;simp at h
 | cons r t ih =>
  intro j u h
  cases j with
  | zero=>simp only [List.getElem?_cons_zero,Option.some.injEq] at h;subst h;exact⟨_,rfl,r⟩
  | succ j=>simp only [List.getElem?_cons_succ] at h ⊢;exact ih h
theorem Vals.len {xs:List V} {us:List Value} (r:Vals xs us):us.length=xs.length:=by
 induction r with
 | nil=>rfl
 | cons r t ih=>simp only [List.length_cons,ih]
end
theorem kS {A B:Prop} (a:A) (f:A->B):B:=f a
section
variable {K:PySem.W.Frag} {mg:Str->Option Value} {h:Heap} {x f p qual:Str} {C D fi N:Addr}
section
variable {nm q:Str} {bs bm:List Value} {hdct ab:Bool} {sn:Option Str} {od:Option Addr} {cd:ClassData} {sl:Array (Option Value)}
end
end
end L2
namespace Pw
theorem iB (x n:Int):∀ k:Nat,(x%n)^k%n=x^k%n
 | 0=>by rw [Int.pow_zero,Int.pow_zero]
 | k+1=>by rw [Int.pow_succ,Int.pow_succ,Int.mul_emod,iB x n k,Int.emod_emod,<- Int.mul_emod]
theorem me (b:Int):∀ k:Nat,(b*b)^k=b^(2*k)
 | 0=>by rw [Nat.mul_zero,Int.pow_zero,Int.pow_zero]
 | k+1=>by
  rw [Int.pow_succ,me b k,Nat.mul_add,Nat.mul_one,Int.pow_succ,Int.pow_succ,Int.mul_assoc]
theorem oJ {x x' y y' n:Int} (h:x%n=x'%n) (h':y%n=y'%n):x*y%n=x'*y'%n:=by rw [Int.mul_emod,h,h',<- Int.mul_emod]
theorem step (r b n:Int) (l:Nat):(if l%2=1 then r*b%n else r)*(b*b%n)^(l/2)%n=r*b^l%n:=by
 have e:(b*b%n)^(l/2)%n=b^(2*(l/2))%n:=by rw [iB,me]
 by_cases c:l%2=1
 ·rw [if_pos c]
  have h:l=2*(l/2)+1:=by omega
  have e2:b^l=b^(2*(l/2))*b:=by rw [<- Int.pow_succ];exact congrArg _ h
  rw [oJ (Int.emod_emod_of_dvd (r*b) (Int.dvd_refl n)) e,e2]
  congr 1
  rw [Int.mul_assoc,Int.mul_comm b]
 ·rw [if_neg c]
  have h:l=2*(l/2):=by omega
  rw [oJ (rfl:r%n=r%n) e,<- h]
theorem pow_add (a:Int) (m:Nat):∀ k:Nat,a^(m+k)=a^m*a^k
 | 0=>by rw [Nat.add_zero,Int.pow_zero,Int.mul_one]
 | k+1=>by rw [<- Nat.add_assoc,Int.pow_succ,pow_add a m k,Int.pow_succ,Int.mul_assoc]
theorem mul_pow (a b:Int):∀ k:Nat,(a*b)^k=a^k*b^k
 | 0=>by rw [Int.pow_zero,Int.pow_zero,Int.pow_zero,Int.mul_one]
 | k+1=>by
  rw [Int.pow_succ,Int.pow_succ,Int.pow_succ,mul_pow a b k]
  grind
theorem pow_mul (a:Int) (m:Nat):∀ k:Nat,a^(m*k)=(a^m)^k
 | 0=>by rw [Nat.mul_zero,Int.pow_zero,Int.pow_zero]
 | k+1=>by rw [Nat.mul_add,Nat.mul_one,pow_add,pow_mul a m k,Int.pow_succ]
theorem one_pow:∀ k:Nat,(1:Int)^k=1
 | 0=>Int.pow_zero 1
 | k+1=>by rw [Int.pow_succ,one_pow k,Int.mul_one]
theorem pq {n x y:Int}:x%n=y%n↔n∣x-y:=by
 rw [Int.emod_eq_emod_iff_emod_sub_eq_zero,Int.dvd_iff_emod_eq_zero]
end Pw
namespace L2
open PySem PySem.Spec PyProof.Rows
end L2
namespace L2
open PySem PySem.Spec PyProof.Rows PySem.W
def tQ (K:PySem.W.Frag) (te:TE) (tk:TO):TE:=λσ H Q=>te σ H λx H1=>tk σ H1 λo H2=>o=some (-1)/\∃ a xs,x=.ref a/\aS K H2 a xs/\∀ p,H2 p=none->Q (.ref p) (upd H2 p (.lst xs.reverse))
section
variable {X:Cx} {e k:Expr} {te:TE} {tk:TO} {p2 pos:Pos}
end
mutual
def dv (K:PySem.W.Frag) (H:Hp):PyData->V->Prop
 | .none,v=>v=.a9
 | .bool b,v=>v=.bl b
 | .int i,v=>v=.int i
 | .str x,v=>v=.str x
 | .list ds,v=>∃ p xs,v=.ref p/\aS K H p xs/\aO K H ds xs
 | .tuple ds,v=>∃ p xs,v=.ref p/\aT K H p xs/\aO K H ds xs
 | .dict _,_=>False
def aO (K:PySem.W.Frag) (H:Hp):List PyData->List V->Prop
 | [],xs=>xs=[]
 | d::ds,xs=>∃ x r,xs=x::r/\dv K H d x/\aO K H ds r
end
section
variable {K:PySem.W.Frag} {H H':Hp}
theorem Rd.same {a:Addr} {o:HO} (h:Rd H a o) (s:aE H H'):Rd H' a o:=by
 rcases h with h | ⟨b,h⟩
 ·exact .inl (s _ _ h)
 ·exact .inr ⟨b,s _ _ h⟩
theorem aS.same {a:Addr} {xs:List V} (h:aS K H a xs) (s:aE H H'):aS K H' a xs:=h.imp (λz=>z.same s) id
theorem aT.same {a:Addr} {xs:List V} (h:aT K H a xs) (s:aE H H'):aT K H' a xs:=h.imp (λz=>z.same s) id
mutual
theorem dv.same (s:aE H H'):∀(d:PyData) {v:V},dv K H d v->dv K H' d v
 | .none,_,h=>h
 | .bool _,_,h=>h
 | .int _,_,h=>h
 | .str _,_,h=>h
 | .list ds,_,⟨p,xs,e,h,t⟩=>⟨p,xs,e,h.same s,aO.same s ds t⟩
 | .tuple ds,_,⟨p,xs,e,h,t⟩=>⟨p,xs,e,h.same s,aO.same s ds t⟩
 | .dict _,_,h=>h.elim
theorem aO.same (s:aE H H'):∀(ds:List PyData) {xs:List V},aO K H ds xs->aO K H' ds xs
 | [],_,h=>h
 | d::ds,_,⟨x,r,e,h,t⟩=>⟨x,r,e,dv.same s d h,aO.same s ds t⟩
end
theorem aO.length:∀{ds:List PyData} {xs:List V},aO K H ds xs->xs.length=ds.length
 | [],_,h=>by cases h;rfl
 | d::ds,_,⟨x,r,e,h,t⟩=>by subst e;rw [List.length_cons,List.length_cons,aO.length t]
theorem aO.get:∀{ds:List PyData} {xs:List V},aO K H ds xs->∀{i:Nat} {x:V},xs[i]?=some x->∃ d,ds[i]?=some d/\dv K H d x
 | [],_,h,i,x,e=>by cases h;simp at e
 | d::ds,_,⟨y,r,ey,h,t⟩,0,x,e=>by subst ey;simp at e;subst e;exact⟨d,rfl,h⟩
 | d::ds,_,⟨y,r,ey,h,t⟩,i+1,x,e=>by subst ey;simp at e;simpa using aO.get t e
theorem aO.append:∀{ds es:List PyData} {xs ys:List V},aO K H ds xs->aO K H es ys->aO K H (ds++es) (xs++ys)
 | [],_,_,_,h,h'=>by cases h;exact h'
 | d::ds,_,_,_,⟨x,r,e,h,t⟩,h'=>by subst e;exact⟨x,_,rfl,h,t.append h'⟩
theorem aO.one {d:PyData} {x:V} (h:dv K H d x):aO K H [d] [x]:=⟨x,[],rfl,h,rfl⟩
theorem dv.lst {p:Addr} {xs:List V} {ds:List PyData} (h:H p=some (.lst xs)) (t:aO K H ds xs):dv K H (.list ds) (.ref p):=⟨p,xs,rfl,aS.of h,t⟩
theorem dv.tup {p:Addr} {xs:List V} {ds:List PyData} (h:H p=some (.tup xs)) (t:aO K H ds xs):dv K H (.tuple ds) (.ref p):=⟨p,xs,rfl,aT.of h,t⟩
mutual
def lD:PyData->Bool
 | .list _=>false
 | .tuple ds=>bZ ds
 | _=>true
def bZ:List PyData->Bool
 | []=>true
 | d::ds=>lD d && bZ ds
end
def SameBut (p:Addr) (H H':Hp):Prop:=∀ b o,b≠p->H b=some o->H' b=some o
theorem aT.but {p a:Addr} {us xs:List V} (hp:H p=some (.lst us)) (s:SameBut p H H') (h:aT K H a xs):aT K H' a xs:=by
 rcases h with (h | ⟨o,h⟩) | h
 ·exact .inl (.inl (s _ _ (λe=>by rw [e,hp] at h;cases h) h))
 ·exact .inl (.inr ⟨o,s _ _ (λe=>by rw [e,hp] at h;cases h) h⟩)
 ·exact .inr h
mutual
theorem dv.but {p:Addr} {us:List V} (hp:H p=some (.lst us)) (s:SameBut p H H'):∀(d:PyData) {v:V},lD d=true->dv K H d v->dv K H' d v
 | .none,_,_,h=>h
 | .bool _,_,_,h=>h
 | .int _,_,_,h=>h
 | .str _,_,_,h=>h
 | .list ds,_,z,_=>by cases z
 | .tuple ds,_,z,⟨q,xs,e,h,t⟩=>⟨q,xs,e,h.but hp s,aO.but hp s ds z t⟩
 | .dict _,_,_,h=>h.elim
theorem aO.but {p:Addr} {us:List V} (hp:H p=some (.lst us)) (s:SameBut p H H'):∀(ds:List PyData) {xs:List V},bZ ds=true->aO K H ds xs->aO K H' ds xs
 | [],_,_,h=>h
 | d::ds,_,z,⟨x,r,e,h,t⟩=>by
  have z':lD d=true/\bZ ds=true:=by simpa [bZ] using z
  exact⟨x,r,e,dv.but hp s d z'.1 h,aO.but hp s ds z'.2 t⟩
end
end
section
variable {X:Cx} {pins:List (Addr × Obj)} {σ:St} {H:Hp} {s:Shared}
mutual
theorem fm (I:Inv X pins σ H s):∀(d:PyData) {v:V} {u:Value},dv X.K H d v->RelV v u->∃ as,Reads s.heap u d as
 | .none,_,u,h,r=>by cases h;cases r;exact⟨_,.none⟩
 | .bool _,_,u,h,r=>by cases h;cases r;exact⟨_,.bool _⟩
 | .int _,_,u,h,r=>by cases h;obtain⟨t,rfl⟩:=r;exact⟨_,.int _ _⟩
 | .str _,_,u,h,r=>by cases h;obtain⟨t,rfl⟩:=r;exact⟨_,.str _ _⟩
 | .list ds,_,u,⟨p,xs,e,h,t⟩,r=>by
  subst e
  cases r
  obtain⟨its,rr,pl,_⟩:=I.list h
  obtain⟨o,h1,h2,n,h3⟩:=pl.isList
  obtain⟨as,ra⟩:=cu I ds t rr
  exact⟨_,.list h1 h2 h3 (by simpa using ra)⟩
 | .tuple ds,_,u,⟨p,xs,e,h,t⟩,r=>by
  subst e
  cases r
  obtain⟨its,rr,pl,_⟩:=I.tuple h
  obtain⟨o,h1,h2,n,h3⟩:=pl
  obtain⟨as,ra⟩:=cu I ds t rr
  exact⟨_,.tuple h1 h2 h3 (by simpa using ra)⟩
 | .dict _,_,_,h,_=>h.elim
theorem cu (I:Inv X pins σ H s):∀(ds:List PyData) {xs:List V} {us:List Value},aO X.K H ds xs->Vals xs us->∃ as,ReadsAll s.heap us ds as
 | [],_,us,h,r=>by cases h;cases r;exact⟨_,.nil⟩
 | d::ds,_,us,⟨x,r,e,h,t⟩,rr=>by
  subst e
  cases rr with
  | cons r1 r2 =>
   obtain⟨a1,q1⟩:=fm I d h r1
   obtain⟨a2,q2⟩:=cu I ds t r2
   exact⟨_,.cons q1 q2⟩
end
def rS (K:PySem.W.Frag) (neg:Bool):R2:=λy x H Q=>∃ d e,dv K H d y/\dv K H e x/\d.canLay0=true/\e.canLay0=true/\min d.depth e.depth<=60/\Q (.bl (if neg then !PyData.eqv d e else PyData.eqv d e)) H
theorem lO (hu:X.A.units+64<cLine):c7 X (compareOp .Eq) (rS X.K false):=by
 intro pins s σ H y x u v Q I ry rx h
 obtain⟨d,e,hd,he,c1,c2,c3,q⟩:=h
 obtain⟨as,ra⟩:=fm I d hd ry
 obtain⟨bs,rb⟩:=fm I e he rx
 exact SeqAt.compareEq_reads ra rb c1 c2 (by omega) ⟨.bl _,H,I,rfl,q⟩
end
end L2
namespace Pw
def lst (xs:List Nat):Nat:=xs.getLast?.getD 0
end Pw
namespace L2
open PySem PySem.Spec PyProof.Rows PySem.W
end L2
namespace Ld
structure eP (n r:Int):Prop where
 two:2<=r
 dv:r∣n
 no:∀ d:Int,2<=d->d<r->¬d∣n
theorem eP.one {n r r':Int} (h:eP n r) (h':eP n r'):r=r':=by
 rcases Int.lt_trichotomy r r' with c | c | c
 ·exact absurd h.dv (h'.no r h.two c)
 ·exact c
 ·exact absurd h'.dv (h.no r' h'.two c)
theorem eP.le {n r:Int} (h:eP n r) (hn:0<n):r<=n:=Int.le_of_dvd hn h.dv
structure Inv (n k:Int):Prop where
 two:2<=k
 odd:k=2∨k%2=1
 no:∀ d:Int,2<=d->d<k->¬d∣n
theorem Inv.step {n k:Int} (h:Inv n k) (hk:¬k∣n):Inv n (k+if k=2 then 1 else 2):=by
 have h2:=h.two
 by_cases c:k=2
 ·rw [if_pos c]
  refine⟨by omega,.inr (by omega),λd d0 d1=>?_⟩
  have:d=k:=by omega
  rw [this];exact hk
 ·rw [if_neg c]
  have ho:k%2=1:=by rcases h.odd with z | z;exact absurd z c;exact z
  refine⟨by omega,.inr (by omega),λd d0 d1 hd=>?_⟩
  rcases (by omega:d<k∨d=k∨d=k+1) with z | z | z
  ·exact h.no d d0 z hd
  ·subst z;exact hk hd
  ·have e2:(2:Int)∣d:=Int.dvd_of_emod_eq_zero (by omega)
   exact h.no 2 (by omega) (by omega) (Int.dvd_trans e2 hd)
end Ld
namespace L2
open PySem PySem.Spec PyProof.Rows PySem.W
section
variable {K:PySem.W.Frag} {H:Hp}
mutual
theorem eqv_refl:∀ d:PyData,d.canLay0=true->PyData.eqv d d=true
 | .none,_=>by simp [PyData.eqv]
 | .bool _,_=>by simp [PyData.eqv]
 | .int _,_=>by simp [PyData.eqv]
 | .str _,_=>by simp [PyData.eqv]
 | .list ds,h=>by simpa [PyData.eqv] using dQ ds h
 | .tuple ds,h=>by simpa [PyData.eqv] using dQ ds h
 | .dict _,h=>by simp [PyData.canLay0] at h
theorem dQ:∀ ds:List PyData,PyData.canLayAll0 ds=true->PyData.eqvAll ds ds=true
 | [],_=>by simp [PyData.eqvAll]
 | d::ds,h=>by
  have h':d.canLay0=true/\PyData.canLayAll0 ds=true:=by simpa [PyData.canLayAll0] using h
  simp [PyData.eqvAll,eqv_refl d h'.1,dQ ds h'.2]
end
end
end L2
namespace L2
open PySem PySem.Spec PyProof.Rows
def sS (lo k:Int) (n:Nat):It:=⟨λi _=>i<n,λi H x H'=>H'=H/\x=.int (lo+i*k),λi _=>n<=i⟩
def rL (lo hi k:Int):Nat:=if lo<hi then ((hi-lo-1)/k+1).toNat else 0
def ro (ta:TA):TI:=λσ H R=>ta σ H λvs H1=>∃ i j k:Int,vs=[.int i,.int j,.int k]/\(-(2^60)<=i/\i<2^60 /\ -(2^60)<=j/\j<2^60/\0<k/\k<2^29)/\R (sS i k (rL i j k)) H1
section
variable {X:Cx} {tg:Expr}
end
end L2
namespace Sv
def qw (d:Nat) (arr:Nat->Bool):Nat->Bool:=λj=>arr j || (decide (d*d<=j) && decide (j%d=0))
def sv:Nat->(Nat->Bool) × List Nat
 | 0=>(λ_=>false,[])
 | i+1=>if (sv i).1 (i+2) then sv i else (qw (i+2) (sv i).1,(sv i).2++[i+2])
theorem len:∀ i,(sv i).2.length<=i
 | 0=>Nat.le_refl _
 | i+1=>by
  have:=len i
  rw [sv]
  split
  ·omega
  ·rw [List.length_append,List.length_singleton];omega
end Sv
namespace L2
open PySem PySem.Spec PyProof.Rows
section
variable {X:Cx} {pins:List (Addr × Obj)} {σ:St} {H:Hp} {s:Shared} {h':Heap}
theorem Inv.j3 {t':Nat} {ch:List Addr} (I:Inv X pins σ H s) (k:∀ b o,b∉ch->s.heap.get? b=some o->h'.get? b=some o) (hf:∀ b∈ch,gk X pins H b):Inv X pins σ H { s with heap:=h',toks:=t' }:=by
 have nit:∀ b u,H b=some u->b∉ch:=λb u e z=>by rw [(hf b z).1] at e;cases e
 refine I.step (g':=s.gens) (d':=s.drawn) (ch:=ch) (λb hb=>?_) (λb o _ _ hc e _=>k b o hc e) (λb o _ _ hc e _=>⟨o.slots,k b o hc e⟩) (λ_ _ _ _ n=>n)
  (λb o hc e=>⟨o,k b o hc e⟩) (λ_ _ e=>e) (λ_ _ _ e=>e) (λb ps e=>⟨#[],by rw [e];simp⟩) (λm hm=>?_) (λb u e=>?_) I.bare
 ·obtain⟨_,f1,_,f3,f4,f5⟩:=hf b hb
  exact⟨f3,f1,f4,f5⟩
 ·obtain⟨o,es,ep,ho,r⟩:=hm
  exact⟨o,es,ep,k _ o (λz=>(hf _ z).2.1 rfl) ho,r⟩
 ·refine (I.hok b u e).iH (λc v hc q=>k c v ?_ q) (λ_ q=>q) λ_ _ q=>q
  rcases hc with z | z
  ·rw [z];exact nit b u e
  ·exact nit c _ z
theorem Inv.adopt {T:Addr} {o:HO} (I:Inv X pins σ H s) (hf:gk X pins H T) (new:aK X.prog X.w (upd H T o) s.heap T o):Inv X pins σ (upd H T o) s:=by
 have nT:∀ b u,H b=some u->b≠T:=λb u e z=>by rw [z,hf.1] at e;cases e
 refine I.step (h':=s.heap) (g':=s.gens) (d':=s.drawn) (t':=s.toks) (ch:=[T]) (λb hb=>?_) (λb o _ _ hc e _=>e) (λb o _ _ hc e _=>⟨o.slots,e⟩) (λb o hc e n=>by rw [ak (λz=>hc (by simp [z]))];exact n)
  (λb o hc e=>⟨o,e⟩) (λb xs e=>by rw [ak (nT _ _ e)];exact e) (λb o u e=>by rw [ak (nT _ _ e)];exact e) (λb ps e=>⟨#[],by rw [ak (nT _ _ e),e];simp⟩) (λm hm=>hm) (λb u e=>?_) I.bare
 ·have e:b=T:=by simpa using hb
  subst e
  obtain⟨_,f1,_,f3,f4,f5⟩:=hf
  exact⟨f3,f1,f4,f5⟩
 ·by_cases z:b=T
  ·subst z
   rw [aj] at e
   cases e
   exact new
  ·rw [ak z] at e
   exact (I.hok b u e).iH (λc v _ q=>q) (λc q=>by rw [ak (nT _ _ q)];exact q) λc xs q=>by rw [ak (nT _ _ q)];exact q
end
def uu (K:PySem.W.Frag) (a:Addr):It :=
 ⟨λi H=>∃ xs x,aS K H a xs/\xs[i]?=some x,λi H x H'=>∃ p v,H p=none/\x=.ref p/\(∀ xs,aS K H a xs->xs[i]?=some v)/\H'=upd H p (.tup [.int i,v]),λi H=>∃ xs,aS K H a xs/\xs.length<=i⟩
def rj (K:PySem.W.Frag) (ta:TA):TI:=λσ H R=>ta σ H λvs H1=>∃ a,vs=[.ref a]/\(∃ xs,aS K H1 a xs)/\R (uu K a) H1
end L2
namespace Crt
structure G (a b g:Int):Prop where
 pos:0<g
 da:g∣a
 db:g∣b
 lin:∃ u v:Int,u*a+v*b=g
theorem G.gr {a b g d:Int} (h:G a b g) (h1:d∣a) (h2:d∣b):d∣g:=by
 obtain⟨u,v,e⟩:=h.lin
 rw [<- e]
 exact Int.dvd_add (Int.dvd_mul_of_dvd_right h1) (Int.dvd_mul_of_dvd_right h2)
theorem G.one {a b g g':Int} (h:G a b g) (h':G a b g'):g=g':=Int.le_antisymm (Int.le_of_dvd h'.pos (h'.gr h.da h.db)) (Int.le_of_dvd h.pos (h.gr h'.da h'.db))
theorem a1 {g u A v L:Int} (e:u*(g*A)+v*(g*L)=g):g*(u*A+v*L)=g*1:=by grind
theorem a2 {g A k L l y:Int} (h1:y=g*A*k) (h2:y=g*L*l):g*(A*k)=g*(L*l):=by grind
theorem a6 {M L t q2 N x:Int} (ex:M*L*q2+x=N+M*t):x-N=M*(t-L*q2):=by grind
theorem a7 {g A L t q1 q2 c D r N x:Int} (z3:x=N+g*A*t-g*A*L*q2) (z1:A*t=A*(D*r)-A*(L*q1)) (z2:D*(r*A)-D=D*(L*c)):x-(N+g*D)=g*L*(c*D-q1*A-A*q2):=by grind
structure sP (M N m n W x:Int):Prop where
 pos:0<W
 dM:M∣W
 dm:m∣W
 le:∀ y:Int,M∣y->m∣y->W∣y
 x0:0<=x
 x1:x<W
 eM:M∣x-N
 em:m∣x-n
theorem sQ:∀(b a:Nat),0<a->∃ g,G (a:Int) (b:Int) g:=by
 intro b
 induction b using Nat.strongRecOn with
 | ind b ih =>
  intro a ha
  rcases Nat.eq_zero_or_pos b with z | z
  ·subst z
   exact⟨a,by omega,Int.dvd_refl _,Int.dvd_zero _,1,0,by simp⟩
  ·obtain⟨g,h⟩:=ih (a%b) (Nat.mod_lt a z) b z
   obtain⟨u,v,e⟩:=h.lin
   have ed:(a:Int)=(b:Int)*((a/b:Nat):Int)+((a%b:Nat):Int):=by
    have:=Nat.div_add_mod a b
    rw [<- Int.natCast_mul,<- Int.natCast_add,this]
   refine⟨g,h.pos,?_,h.da,v,u-v*((a/b:Nat):Int),?_⟩
   ·rw [ed]
    exact Int.dvd_add (Int.dvd_mul_of_dvd_left h.da) h.db
   ·rw [ed,<- e]
    generalize ((a/b:Nat):Int)=q
    generalize ((a%b:Nat):Int)=r
    generalize (b:Int)=b'
    grind
theorem qT {a b:Int} (ha:0<a) (hb:0<b):∃ g,G a b g:=by
 obtain⟨g,h⟩:=sQ b.toNat a.toNat (by omega)
 rw [Int.toNat_of_nonneg (by omega),Int.toNat_of_nonneg (by omega)] at h
 exact⟨g,h⟩
structure Told (ps:List (Int × Int)) (M N:Int):Prop where
 pos:0<M
 x0:0<=N
 x1:N<M
 dv:∀ p∈ps,p.1∣M
 le:∀ y:Int,(∀ p∈ps,p.1∣y)->M∣y
 al:∀ p∈ps,p.1∣N-p.2
theorem Told.nil:Told [] 1 0:=⟨by decide,by decide,by decide,λ_ h=>by simp at h,λy _=>⟨y,by omega⟩,λ_ h=>by simp at h⟩
theorem Told.step {ps:List (Int × Int)} {M N m n W x:Int} (h:Told ps M N) (b:sP M N m n W x):Told (ps++[(m,n)]) W x:=by
 refine⟨b.pos,b.x0,b.x1,λp hp=>?_,λy hy=>?_,λp hp=>?_⟩
 ·rcases List.mem_append.mp hp with z | z
  ·exact Int.dvd_trans (h.dv p z) b.dM
  ·rw [List.mem_singleton.mp z];exact b.dm
 ·exact b.le y (h.le y λp hp=>hy p (List.mem_append_left _ hp)) (hy (m,n) (List.mem_append_right _ (by simp)))
 ·rcases List.mem_append.mp hp with z | z
  ·have e1:=Int.dvd_trans (h.dv p z) b.eM
   have e2:=h.al p z
   have:=Int.dvd_add e1 e2
   rwa [show x-N+(N-p.2)=x-p.2 by omega] at this
  ·rw [List.mem_singleton.mp z];exact b.em
theorem Told.one {ps:List (Int × Int)} {M N M' N':Int} (h:Told ps M N) (h':Told ps M' N'):M=M'/\N=N':=by
 have e:M=M':=Int.le_antisymm (Int.le_of_dvd h'.pos (h.le _ h'.dv)) (Int.le_of_dvd h.pos (h'.le _ h.dv))
 subst e
 refine⟨rfl,?_⟩
 have z:M∣N-N':=h.le _ λp hp=>by
  have:=Int.dvd_sub (h.al p hp) (h'.al p hp)
  rwa [show N-p.2-(N' - p.2)=N-N' by omega] at this
 have w:=Int.emod_emod_of_dvd
 have:=(Int.emod_eq_emod_iff_emod_sub_eq_zero (m:=N) (n:=M) (k:=N')).mpr (Int.emod_eq_zero_of_dvd z)
 rwa [Int.emod_eq_of_lt h.x0 h.x1,Int.emod_eq_of_lt h'.x0 h'.x1] at this
end Crt
namespace Num
def Al (n x y:Int):Prop:=n∣x-y
theorem Al.refl (n x:Int):Al n x x:=⟨0,by omega⟩
theorem Al.symm {n x y:Int} (h:Al n x y):Al n y x:=by
 have:=(Int.dvd_neg).mpr h
 rwa [show -(x-y)=y-x by omega] at this
theorem Al.trans {n x y z:Int} (h:Al n x y) (h':Al n y z):Al n x z:=by
 have:=Int.dvd_add h h'
 rwa [show x-y+(y-z)=x-z by omega] at this
theorem Al.mul {n x y u v:Int} (h:Al n x y) (h':Al n u v):Al n (x*u) (y*v):=by
 have h1:n∣(x-y)*u:=Int.dvd_mul_of_dvd_left h
 have h2:n∣y*(u-v):=Int.dvd_mul_of_dvd_right h'
 have:=Int.dvd_add h1 h2
 rwa [show (x-y)*u+y*(u-v)=x*u-y*v by rw [Int.sub_mul,Int.mul_sub];omega] at this
theorem Al.pow {n x y:Int} (h:Al n x y):∀ k:Nat,Al n (x^k) (y^k)
 | 0=>by rw [Int.pow_zero,Int.pow_zero];exact Al.refl _ _
 | k+1=>by rw [Int.pow_succ,Int.pow_succ];exact (Al.pow h k).mul h
theorem Al.iff {n x y:Int}:Al n x y↔x%n=y%n:=Pw.pq.symm
theorem Al.rest (n x:Int):Al n (x%n) x:=Al.iff.mpr (Int.emod_emod_of_dvd x (Int.dvd_refl n))
def Co (a n:Int):Prop:=∃ u v:Int,u*a+v*n=1
theorem Co.dvd {a n b:Int} (h:Co a n) (hd:n∣a*b):n∣b:=by
 obtain⟨u,v,e⟩:=h
 have h1:n∣u*(a*b):=Int.dvd_mul_of_dvd_right hd
 have h2:n∣(v*b)*n:=⟨v*b,Int.mul_comm _ _⟩
 have:=Int.dvd_add h1 h2
 have e2:u*(a*b)+v*b*n=(u*a+v*n)*b:=by
  rw [Int.add_mul,Int.mul_assoc u a b,Int.mul_assoc v n b,Int.mul_comm n b,Int.mul_assoc v b n]
 rw [e2,e,Int.one_mul] at this
 exact this
theorem Co.cancel {a n x y:Int} (h:Co a n) (e:Al n (a*x) (a*y)):Al n x y:=by
 refine h.dvd ?_
 rw [Int.mul_sub]
 exact e
theorem Co.mul {a b n:Int} (h:Co a n) (h':Co b n):Co (a*b) n:=by
 obtain⟨u,v,e⟩:=h
 obtain⟨u',v',e'⟩:=h'
 refine⟨u*u',u*a*v'+v*(u'*b+v'*n),?_⟩
 have:(u*a+v*n)*(u'*b+v'*n)=1:=by rw [e,e'];rfl
 grind
theorem Co.pow {a n:Int} (h:Co a n):∀ k:Nat,Co (a^k) n
 | 0=>⟨1,0,by rw [Int.pow_zero];simp⟩
 | k+1=>by rw [Int.pow_succ];exact (Co.pow h k).mul h
theorem Co.rO {a b n:Int} (h:Co a n) (e:Al n a b):Co b n:=by
 obtain⟨u,v,e1⟩:=h
 obtain⟨c,hc⟩:=e
 refine⟨u,v+u*c,?_⟩
 have:b=a-n*c:=by omega
 rw [this]
 grind
theorem a0 {n a:Int} {d k:Nat} (h:Al n (a^d) 1):Al n (a^(d*k)) 1:=by
 rw [Pw.pow_mul]
 have:=h.pow k
 rwa [Pw.one_pow] at this
structure Ord (n a:Int) (m:Nat):Prop where
 pos:0<m
 one:Al n (a^m) 1
 dv:∀ j:Nat,Al n (a^j) 1->m∣j
theorem pow_mod {n a:Int} {m j:Nat} (h:Al n (a^m) 1) (hj:Al n (a^j) 1):Al n (a^(j%m)) 1:=by
 have e:a^j=a^(m*(j/m))*a^(j%m):=by rw [<- Pw.pow_add,Nat.div_add_mod]
 rw [e] at hj
 have h1:=(a0 (k:=j/m) h).mul (Al.refl n (a^(j%m)))
 rw [Int.one_mul] at h1
 exact h1.symm.trans hj
theorem gL {n a:Int} {m:Nat} (pos:0<m) (one:Al n (a^m) 1) (no:∀ j,0<j->j<m->¬Al n (a^j) 1):Ord n a m:=by
 refine⟨pos,one,λj hj=>?_⟩
 have h:=pow_mod one hj
 rcases Nat.eq_zero_or_pos (j%m) with z | z
 ·exact Nat.dvd_of_mod_eq_zero z
 ·exact absurd h (no _ z (Nat.mod_lt _ pos))
theorem lA {P:Nat->Prop}:∀ N:Nat,P N->∃ m,P m/\∀ j,j<m->¬P j:=by
 intro N
 induction N using Nat.strongRecOn with
 | ind N ih =>
  intro h
  by_cases z:∃ j,j<N/\P j
  ·obtain⟨j,hj,pj⟩:=z
   exact ih j hj pj
  ·exact⟨N,h,λj hj pj=>z ⟨j,hj,pj⟩⟩
theorem lR {n a:Int} {N:Nat} (pos:0<N) (h:Al n (a^N) 1):∃ m,Ord n a m/\m<=N:=by
 obtain⟨m,⟨m0,m1⟩,no⟩:=lA (P:=λj=>0<j/\Al n (a^j) 1) N ⟨pos,h⟩
 refine⟨m,gL m0 m1 λj j0 jm z=>no j jm ⟨j0,z⟩,?_⟩
 by_cases z:m<=N
 ·exact z
 ·exact absurd ⟨pos,h⟩ (no N (by omega))
theorem qj:∀(n:Nat) (l:List Nat),l.Nodup->(∀ x∈l,x<n)->l.length<=n:=by
 intro n
 induction n with
 | zero =>
  intro l _ h
  cases l with
  | nil=>exact Nat.le_refl _
  | cons x r=>exact absurd (h x (by simp)) (by omega)
 | succ n ih =>
  intro l nd h
  by_cases c:n∈l
  ·have h1:=ih (l.erase n) (nd.erase n) λx hx=>by
    have hx':=List.mem_of_mem_erase hx
    have ne:x≠n:=λz=>by
     subst z
     exact absurd hx (List.Nodup.not_mem_erase nd)
    have:=h x hx'
    omega
   rw [List.length_erase_of_mem c] at h1
   omega
  ·have h1:=ih l nd λx hx=>by
    have:=h x hx
    have ne:x≠n:=λz=>c (z▸hx)
    omega
   omega
end Num
namespace Num
structure Pm (p:Int):Prop where
 two:2<=p
 no:∀ d:Int,2<=d->d<p->¬d∣p
theorem Pm.co {p a:Int} (h:Pm p) (ha:¬p∣a):Co a p:=by
 have h2:=h.two
 have r0:=Int.emod_nonneg a (show p≠0 by omega)
 have r1:=Int.emod_lt_of_pos a (show 0<p by omega)
 have rn:a%p≠0:=λz=>ha (Int.dvd_of_emod_eq_zero z)
 obtain⟨g,G⟩:=Crt.qT (a:=a%p) (b:=p) (by omega) (by omega)
 have gl:=Int.le_of_dvd (show 0<a%p by omega) G.da
 have g1:g=1:=by
  have g0:=G.pos
  rcases (by omega:g=1∨2<=g) with z | z
  ·exact z
  ·exact absurd G.db (h.no g z (by omega))
 obtain⟨u,v,e⟩:=G.lin
 rw [g1] at e
 exact Co.rO ⟨u,v,e⟩ (Al.rest p a)
theorem Pm.or {p a b:Int} (h:Pm p) (hd:p∣a*b) (ha:¬p∣a):p∣b:=(h.co ha).dvd hd
def H:Int->List Int->Int->Int
 | acc,[],_=>acc
 | acc,c::cs,x=>H (acc*x+c) cs x
theorem ku {f:Nat->Nat} {n:Nat} (h:∀ i j,i<j->j<n->f i≠f j):((List.range n).map f).Nodup:=by
 show List.Pairwise _ _
 rw [List.pairwise_map]
 exact List.Pairwise.imp_of_mem (R:=(·<·)) (λ{a b} ha hb hab=>h a b hab (List.mem_range.mp hb)) List.pairwise_lt_range
theorem rest_eq {p x y:Int} (hp:0<p) (e:(x%p).toNat=(y%p).toNat):Al p x y:=by
 have h1:=Int.emod_nonneg x (show p≠0 by omega)
 have h2:=Int.emod_nonneg y (show p≠0 by omega)
 exact Al.iff.mpr (by omega)
theorem back {n a:Int} (hn:2<=n) (c:Co a n):∃ d:Nat,0<d/\(d:Int)<=n/\Al n (a^d) 1:=by
 by_cases z:∃ i j:Nat,i<j/\j<n.toNat+1/\Al n (a^i) (a^j)
 ·obtain⟨i,j,ij,jn,e⟩:=z
  refine⟨j-i,by omega,by omega,?_⟩
  have e1:a^j=a^i*a^(j-i):=by rw [<- Pw.pow_add];congr 1;omega
  rw [e1] at e
  have e2:Al n (a^i*1) (a^i*a^(j-i)):=by rw [Int.mul_one];exact e
  exact ((c.pow i).cancel e2).symm
 ·exfalso
  have nd:=ku (f:=λi=>(a^i%n).toNat) (n:=n.toNat+1) λi j ij jn e=>z ⟨i,j,ij,jn,rest_eq (by omega) e⟩
  have:=qj n.toNat _ nd λx hx=>by
   obtain⟨i,_,rfl⟩:=List.mem_map.mp hx
   have h1:=Int.emod_nonneg (a^i) (show n≠0 by omega)
   have h2:=Int.emod_lt_of_pos (a^i) (show 0<n by omega)
   show (a^i%n).toNat<n.toNat
   omega
  rw [List.length_map,List.length_range] at this
  omega
theorem Ord.mul {n a b:Int} {k m:Nat} (ha:Ord n a k) (hb:Ord n b m) (ca:Co a n) (cb:Co b n) (co:Nat.Coprime k m):Ord n (a*b) (k*m):=by
 refine⟨Nat.mul_pos ha.pos hb.pos,?_,λj hj=>?_⟩
 ·rw [Pw.mul_pow]
  have h1:=a0 (k:=m) ha.one
  have h2:=a0 (k:=k) hb.one
  rw [Nat.mul_comm m k] at h2
  exact h1.mul h2
 ·rw [Pw.mul_pow] at hj
  have d1:k∣j:=by
   have e:=hj.pow m
   rw [Pw.one_pow,Pw.mul_pow,<- Pw.pow_mul,<- Pw.pow_mul] at e
   have h2:=a0 (k:=j) hb.one
   rw [Nat.mul_comm m j] at h2
   have e2:Al n (a^(j*m)) 1:=by
    have:=(Al.refl n (a^(j*m))).mul h2.symm
    rw [Int.mul_one] at this
    exact this.trans e
   exact Nat.Coprime.dvd_of_dvd_mul_right co (ha.dv _ e2)
  have d2:m∣j:=by
   have e:=hj.pow k
   rw [Pw.one_pow,Pw.mul_pow,<- Pw.pow_mul,<- Pw.pow_mul] at e
   have h2:=a0 (k:=j) ha.one
   rw [Nat.mul_comm k j] at h2
   have e2:Al n (b^(j*k)) 1:=by
    have:=h2.symm.mul (Al.refl n (b^(j*k)))
    rw [Int.one_mul] at this
    exact this.trans e
   exact Nat.Coprime.dvd_of_dvd_mul_right co.symm (hb.dv _ e2)
  exact Nat.Coprime.mul_dvd_of_dvd_of_dvd co d1 d2
end Num
namespace Num
def Nm (q:Nat):Prop:=2<=q/\∀ d,2<=d->d<q->¬d∣q
theorem Nm.co {q m:Nat} (h:Nm q) (hm:¬q∣m):Nat.Coprime q m:=by
 have hg:=Nat.gcd_dvd_left q m
 have g0:0<Nat.gcd q m:=Nat.gcd_pos_of_pos_left m (by have:=h.1;omega)
 have gl:=Nat.le_of_dvd (by have:=h.1;omega) hg
 rcases (by omega:Nat.gcd q m=1∨(2<=Nat.gcd q m/\Nat.gcd q m<q)∨Nat.gcd q m=q) with z | ⟨z1,z2⟩ | z
 ·exact z
 ·exact absurd hg (h.2 _ z1 z2)
 ·exact absurd (z▸Nat.gcd_dvd_right q m) hm
theorem nN {q:Nat} (h:Nm q):∀(k d:Nat),d∣q^(k+1)->¬d∣q^k->d=q^(k+1):=by
 intro k
 induction k with
 | zero =>
  intro d h1 h2
  rw [Nat.zero_add,Nat.pow_one] at h1 ⊢
  rw [Nat.pow_zero] at h2
  have q2:=h.1
  have d0:0<d:=Nat.pos_of_dvd_of_pos h1 (by omega)
  have dl:=Nat.le_of_dvd (by omega) h1
  rcases (by omega:d=1∨(2<=d/\d<q)∨d=q) with z | ⟨z1,z2⟩ | z
  ·exact absurd (z▸Nat.dvd_refl 1) h2
  ·exact absurd h1 (h.2 d z1 z2)
  ·exact z
 | succ k ih =>
  intro d h1 h2
  by_cases c:q∣d
  ·obtain⟨t,ht⟩:=c
   have q0:0<q:=by have:=h.1;omega
   rw [ht,Nat.pow_succ,Nat.mul_comm (q^(k+1)) q] at h1
   rw [ht,Nat.pow_succ,Nat.mul_comm (q^k) q] at h2
   have e1:=Nat.dvd_of_mul_dvd_mul_left q0 h1
   have e2:¬t∣q^k:=λz=>h2 (Nat.mul_dvd_mul_left q z)
   rw [ht,ih t e1 e2,Nat.pow_succ q (k+1),Nat.mul_comm]
  ·have co:Nat.Coprime (q^(k+1+1)) d:=Nat.Coprime.pow_left _ (h.co c)
   have:d∣1:=by
    have:=Nat.dvd_gcd h1 (Nat.dvd_refl d)
    rwa [co] at this
   exact absurd (Nat.dvd_trans this (Nat.one_dvd _)) h2
section
variable {p:Int} {L:Nat}
structure Ex (p:Int) (L:Nat):Prop where
 pos:0<L
 all:∀ a:Int,¬p∣a->Al p (a^L) 1
 no:∀ j,0<j->j<L->∃ a:Int,¬p∣a/\¬Al p (a^j) 1
end
end Num
namespace Num
theorem Co.pV {n a:Int} {m:Nat} (h:Al n (a^(m+1)) 1):Co a n:=by
 obtain⟨c,hc⟩:=h
 refine⟨a^m,-c,?_⟩
 rw [Int.pow_succ] at hc
 rw [Int.neg_mul,Int.mul_comm c n]
 omega
end Num
namespace Num
theorem lU {n r:Int} (h:Ld.eP n r):Pm r:=⟨h.two,λd d2 dr hd=>h.no d d2 dr (Int.dvd_trans hd h.dv)⟩
def b6:List (Int × Int)->Int
 | []=>1
 | p::r=>p.1^p.2.toNat*b6 r
theorem ff:∀(ps:List (Int × Int)) (p:Int × Int),b6 (ps++[p])=b6 ps*p.1^p.2.toNat
 | [],p=>by show p.1^_*1=1*_;omega
 | q::r,p=>by
  show q.1^q.2.toNat*b6 (r++[p])=q.1^q.2.toNat*b6 r*_
  rw [ff r p,Int.mul_assoc]
structure Part (n:Int) (ps:List (Int × Int)):Prop where
 ok:∀ p∈ps,Pm p.1/\1<=p.2/\p.2<=30
 rise:ps.Pairwise λa b=>a.1<b.1
 prod:b6 ps=n
theorem bw {q:Int} (h:0<q):∀ k:Nat,0<q^k
 | 0=>by rw [Int.pow_zero];decide
 | k+1=>by rw [Int.pow_succ];exact Int.mul_pos (bw h k) h
theorem two_pow_le {q:Int} (h:2<=q):∀ k:Nat,(2:Int)^k<=q^k
 | 0=>by rw [Int.pow_zero,Int.pow_zero];exact Int.le_refl _
 | k+1=>by
  rw [Int.pow_succ,Int.pow_succ]
  exact Int.mul_le_mul (two_pow_le h k) h (by decide) (Int.le_of_lt (bw (by omega) k))
theorem two_le:∀{k:Nat},(2:Int)^k<=10^9->k<=29:=by
 intro k h
 by_cases c:k<=29
 ·exact c
 ·exfalso
  have e:k=30+(k-30):=by omega
  rw [e,Pw.pow_add] at h
  have:=bw (show (0:Int)<2 by decide) (k-30)
  have h2:=Int.mul_le_mul_of_nonneg_left (show (1:Int)<=2^(k-30) by omega) (show (0:Int)<=2^30 by decide)
  have:(2:Int)^30=1073741824:=by decide
  omega
structure Way (n:Int) (ps:List (Int × Int)) (left prime:Int):Prop where
 ok:∀ p∈ps,Pm p.1/\1<=p.2/\p.2<=30
 rise:ps.Pairwise λa b=>a.1<b.1
 prod:b6 ps*left=n
 pos:1<=left
 inv:Ld.Inv left prime
 le:∀ p∈ps,p.1<=prime
 gone:ps=[]∨¬prime∣left
 two:(2:Int)^ps.length*left<=n
theorem Way.start {n:Int} (h:1<=n):Way n [] n 2:=⟨λ_ z=>by simp at z,List.Pairwise.nil,by show 1*n=n;omega,h,⟨by decide,.inl rfl,λd d0 d1=>by omega⟩,λ_ z=>by simp at z,.inl rfl,by rw [List.length_nil,Int.pow_zero];omega⟩
theorem Way.step {n left prime r left':Int} {ps:List (Int × Int)} {k:Nat} (w:Way n ps left prime) (hn:n<=10^9) (hl:1<left) (h:Ld.eP left r) (e:left=r^k*left') (l0:1<=left') (hk:1<=k) (hg:¬r∣left'):Way n (ps++[(r,(k:Int))]) left' r:=by
 have r2:=h.two
 have pm:=lU h
 have rp:prime<=r:=by
  rcases (by omega:prime<=r∨r<prime) with z | z
  ·exact z
  ·exact absurd h.dv (w.inv.no r r2 z)
 have rk:=bw (show 0<r by omega) k
 have k2:=two_pow_le r2 k
 have kl:(2:Int)^k<=left:=by
  have:=Int.mul_le_mul k2 l0 (by decide) (Int.le_of_lt rk)
  rw [Int.mul_one] at this
  omega
 have ln:left<=n:=by
  have z:=w.two
  have p0:=bw (show (0:Int)<2 by decide) ps.length
  have:=Int.mul_le_mul_of_nonneg_right (show (1:Int)<=2^ps.length by omega) (show 0<=left by omega)
  omega
 have k29:=two_le (k:=k) (by omega)
 refine⟨λp hp=>?_,?_,?_,l0,?_,λp hp=>?_,.inr hg,?_⟩
 ·rcases List.mem_append.mp hp with z | z
  ·exact w.ok p z
  ·rw [List.mem_singleton.mp z]
   exact⟨pm,by show (1:Int)<=k;omega,by show (k:Int)<=30;omega⟩
 ·refine List.pairwise_append.mpr ⟨w.rise,List.pairwise_singleton _ _,λa ha b hb=>?_⟩
  rw [List.mem_singleton.mp hb]
  show a.1<r
  have:=w.le a ha
  rcases w.gone with z | z
  ·rw [z] at ha;simp at ha
  ·have:prime≠r:=λy=>z (y▸h.dv)
   omega
 ·rw [ff,<- w.prod,e]
  show b6 ps*r^((k:Int).toNat)*left'=_
  rw [Int.toNat_natCast,Int.mul_assoc]
 ·refine⟨r2,?_,λd d0 d1 hd=>h.no d d0 d1 (by rw [e];exact Int.dvd_mul_of_dvd_right hd)⟩
  rcases (by omega:r=2∨2<r) with z | z
  ·exact .inl z
  ·refine .inr ?_
   rcases (by omega:r%2=1∨r%2=0) with y | y
   ·exact y
   ·exact absurd (Int.dvd_of_emod_eq_zero y) (pm.no 2 (by decide) z)
 ·rcases List.mem_append.mp hp with z | z
  ·have:=w.le p z;omega
  ·rw [List.mem_singleton.mp z];exact Int.le_refl _
 ·rw [List.length_append,List.length_singleton,Pw.pow_add,Int.pow_succ,Int.pow_zero,Int.one_mul,Int.mul_assoc]
  refine Int.le_trans (Int.mul_le_mul_of_nonneg_left ?_ (Int.le_of_lt (bw (by decide) _))) w.two
  rw [e]
  obtain⟨k',rfl⟩:∃ k',k=k'+1:=⟨k-1,by omega⟩
  have p0:=bw (show 0<r by omega) k'
  have h1:r<=r^(k'+1):=by
   rw [Int.pow_succ]
   have:=Int.mul_le_mul_of_nonneg_right (show 1<=r^k' by omega) (show 0<=r by omega)
   omega
  exact Int.mul_le_mul_of_nonneg_right (show 2<=r^(k'+1) by omega) (show 0<=left' by omega)
theorem Way.len {n left prime:Int} {ps:List (Int × Int)} (w:Way n ps left prime) (hn:n<=10^9):ps.length<=29:=by
 refine two_le ?_
 have z:=w.two
 have p0:=bw (show (0:Int)<2 by decide) ps.length
 have:=Int.mul_le_mul_of_nonneg_left w.pos (Int.le_of_lt p0)
 omega
end Num
namespace Num
open PySem
theorem oK {p:Int} (h:Pm p):Nm p.toNat:=⟨by have:=h.two;omega,λd d2 dp hd=>h.no d (by omega) (by omega) (by
 have:=Int.natCast_dvd_natCast.mpr hd
 rwa [show (p.toNat:Int)=p by have:=h.two;omega] at this)⟩
theorem lV {p q:Int} (hp:Pm p) (hq:Pm q):∀ k:Nat,q∣p^k->q=p
 | 0,h=>by
  rw [Int.pow_zero] at h
  have:=Int.le_of_dvd (by decide) h
  have:=hq.two
  omega
 | k+1,h=>by
  rw [Int.pow_succ] at h
  by_cases c:q∣p^k
  ·exact lV hp hq k c
  ·have d:=hq.or h c
   have l:=Int.le_of_dvd (by have:=hp.two;omega) d
   rcases (by omega:q<p∨q=p) with z | z
   ·exact absurd d (hp.no q hq.two z)
   ·exact z
theorem iy {q:Int} (hq:Pm q):∀{ps:List (Int × Int)},(∀ p∈ps,Pm p.1)->q∣b6 ps->∃ p∈ps,p.1=q
 | [],_,h=>by
  have:=Int.le_of_dvd (by decide) (show q∣1 from h)
  have:=hq.two
  omega
 | a::r,hp,h=>by
  by_cases c:q∣a.1^a.2.toNat
  ·exact⟨a,by simp,(lV (hp a (by simp)) hq _ c).symm⟩
  ·obtain⟨p,h1,h2⟩:=iy hq (λp z=>hp p (List.mem_cons_of_mem _ z)) (hq.or h c)
   exact⟨p,List.mem_cons_of_mem _ h1,h2⟩
structure LF (p g:Int):Prop where
 one:1<=g
 lt:g<p
 ord:Ord p g (p-1).toNat
 no:∀ a:Int,1<=a->a<g->¬Ord p a (p-1).toNat
def rowsOf (ps:List (Int × Int)) (ds:Nat->PyData):List PyData:=(List.range ps.length).map λi=>.tuple [ds i,.int (ps.getD i (0,0)).2]
inductive ua:Int->PyData->Prop
 | mk (p g:Int) (ps:List (Int × Int)) (ds:Nat->PyData):Pm p->p<=10^9->LF p g->Part (p-1) ps->ps.length<=29->(∀ i q k,ps[i]?=some (q,k)->ua q (ds i))->ua p (.tuple [.int p,.int g,.tuple (rowsOf ps ds)])
end Num
namespace L2
open PySem PySem.Spec PyProof.Rows
def uo:PyData->String
 | .none => "NoneType"
 | .bool _ => "bool"
 | .int _ => "int"
 | .str _ => "str"
 | .list _ => "list"
 | .tuple _ => "tuple"
 | .dict _ => "dict"
def pM:PyData->Bool
 | .bool _=>true
 | _=>false
def rz:PyData->Bool
 | .tuple _=>true
 | _=>false
def rq:PyData->Bool
 | .list _=>true
 | _=>false
section
variable {X:Cx} {K:PySem.W.Frag}
def fh (K:PySem.W.Frag):List V->Hp->VK->Prop:=λxs H Q=>∃ d x n b,xs=[x,.ty n]/\dv K H d x/\PySem.W.kitOne K (.type (uo d)) (.type n)=some b/\Q (.bl b) H
theorem aJ:bq X (.builtin "isinstance") (fh X.K):=by
 intro pins s σ H xs us Q I r h
 obtain⟨d,x,n,b,rfl,hd,ek,q⟩:=h
 obtain⟨u,w',rfl,rx,rc⟩:=vals2 r
 have e:w'=.type n:=rc
 subst e
 have fin:∀ tk,∃ v' H',Inv X pins σ H' { s with toks:=tk }/\RelV v' (.bool b)/\Q v' H':=λtk=>⟨.bl b,H,I.tok _,rfl,q⟩
 cases d with
 | none=>cases hd;exact cx I rx cD.a9 ek fin
 | bool y=>cases hd;exact cx I rx (cD.bl _) ek fin
 | int y=>cases hd;exact cx I rx (cD.int _) ek fin
 | str y=>cases hd;exact cx I rx (cD.str _) ek fin
 | list ds =>
  obtain⟨p,ys,rfl,h,t⟩:=hd
  cases rx
  obtain⟨its,rr,pl,_⟩:=I.list h
  obtain⟨o,h1,h2,_⟩:=pl.isList
  exact PySem.W.kia_one PySem.W.kitx_list I.eC ⟨o,h1,h2⟩ ek (λz=>nomatch z) fin
 | tuple ds =>
  obtain⟨p,ys,rfl,h,t⟩:=hd
  cases rx
  obtain⟨its,rr,pl,_⟩:=I.tuple h
  obtain⟨o,h1,h2,_⟩:=pl
  exact PySem.W.kia_one PySem.W.kitx_tuple I.eC ⟨o,h1,h2⟩ ek (λz=>nomatch z) fin
 | dict _=>exact hd.elim
theorem ig {H:Hp} {d:PyData} {x:V} {Q:VK} (h:dv K H d x) (q:Q (.bl (pM d)) H):fh K [x,.ty "bool"] H Q:=by
 refine⟨d,x,"bool",_,rfl,h,?_,q⟩
 cases d<;>first | exact h.elim | with_unfolding_all rfl
theorem aX {H:Hp} {d:PyData} {x:V} {Q:VK} (h:dv K H d x) (q:Q (.bl (rz d)) H):fh K [x,.ty "tuple"] H Q:=by
 refine⟨d,x,"tuple",_,rfl,h,?_,q⟩
 cases d<;>first | exact h.elim | with_unfolding_all rfl
theorem a4 {H:Hp} {d:PyData} {x:V} {Q:VK} (h:dv K H d x) (q:Q (.bl (rq d)) H):fh K [x,.ty "list"] H Q:=by
 refine⟨d,x,"list",_,rfl,h,?_,q⟩
 cases d<;>first | exact h.elim | with_unfolding_all rfl
end
def ri (i:Int) (n:Nat):List V:=(List.range n).map fun(k:Nat)=>V.int (i+(k:Int))
def uE (ta:TA):TE:=λσ H Q=>ta σ H λvs H1=>∃ i j:Int,vs=[.int i,.int j]/\(-(2^62)<=i/\i<2^62 /\ -(2^62)<=j/\j<2^62)/\j-i<=10^6/\∀ l,H1 l=none->Q (.ref l) (upd H1 l (.lst (ri i (j-i).toNat)))
variable {X:Cx}
section
variable {X:Cx} {K:PySem.W.Frag}
end
section
variable {κ:Type} [DecidableEq κ]
def dF (kvs:List (κ × V)) (k:κ):Option V:=(kvs.find? λkv=>decide (kv.1=k)).map (·.2)
def putK (kvs:List (κ × V)) (k:κ) (v:V):List (κ × V) :=
 if (kvs.any λkv=>decide (kv.1=k))=true then kvs.map (λkv=>if kv.1=k then (kv.1,v) else kv) else kvs++[(k,v)]
def q5 (kvs:List (κ × V)) (k:κ):List (κ × V):=kvs.filter λkv=>decide (kv.1≠k)
theorem fC {p:κ × V} {r:List (κ × V)} {k:κ} (e:p.1=k):dF (p::r) k=some p.2:=by simp [dF,List.find?_cons,e]
theorem fB {p:κ × V} {r:List (κ × V)} {k:κ} (e:¬p.1=k):dF (p::r) k=dF r k:=by simp [dF,List.find?_cons,e]
theorem iK (k:κ):∀ kvs:List (κ × V),(kvs.any λkv=>decide (kv.1=k))=(dF kvs k).isSome
 | []=>rfl
 | p::r=>by
  rw [List.any_cons]
  by_cases e:p.1=k
  ·simp only [fC e,decide_eq_true e,Bool.true_or,Option.isSome_some]
  ·rw [fB e,decide_eq_false e,Bool.false_or];exact iK k r
theorem cg (kvs:List (κ × V)) (k:κ) (v:V):(putK kvs k v).length<=kvs.length+1:=by
 unfold putK
 split
 ·rw [List.length_map];omega
 ·rw [List.length_append,List.length_cons,List.length_nil];omega
theorem dI.kn {o:Option V} {u:Option Value} (r:dI o u):o.isSome=u.isSome:=by
 cases o with
 | none=>cases u with
  | none=>rfl
  | some _=>exact (show False from r).elim
 | some _=>cases u with
  | none=>exact (show False from r).elim
  | some _=>rfl
theorem dI.getD {o:Option V} {u:Option Value} {d:V} {d':Value} (r:dI o u) (rd:RelV d d'):RelV (o.getD d) (u.getD d'):=by
 cases o with
 | none=>cases u with
  | none=>exact rd
  | some _=>exact (show False from r).elim
 | some _=>cases u with
  | none=>exact (show False from r).elim
  | some _=>exact r
theorem KV.val {kvs:List (κ × V)} {vs:List (κ × Value)} (r:KV kvs vs) (k:κ):dI (dF kvs k) (valueAt vs k):=by
 unfold KV at r
 induction r with
 | nil=>exact True.intro
 | @cons p q ps qs h t ih =>
  obtain⟨h1,h2⟩:=h
  by_cases e:p.1=k
  ·have e':q.1=k:=h1.symm.trans e
   have b:valueAt (q::qs) k=some q.2:=by simp [valueAt,List.find?_cons,e']
   rw [fC e,b];exact h2
  ·have e':¬q.1=k:=λz=>e (h1.trans z)
   have b:valueAt (q::qs) k=valueAt qs k:=by simp [valueAt,List.find?_cons,e']
   rw [fB e,b];exact ih
theorem KV.any {kvs:List (κ × V)} {vs:List (κ × Value)} (r:KV kvs vs) (k:κ):(kvs.any λkv=>decide (kv.1=k))=vs.any λkv=>decide (kv.1=k):=by
 unfold KV at r
 induction r with
 | nil=>rfl
 | cons h t ih=>rw [List.any_cons,List.any_cons,ih,h.1]
theorem KV.qu {kvs:List (κ × V)} {vs:List (κ × Value)} (r:KV kvs vs) (k:κ) {y:V} {u:Value} (ry:RelV y u) :
  KV (kvs.map λkv=>if kv.1=k then (kv.1,y) else kv) (vs.map λkv=>if kv.1=k then (kv.1,u) else kv):=by
 unfold KV at r ⊢
 induction r with
 | nil=>exact .nil
 | @cons p q ps qs h t ih =>
  rw [List.map_cons,List.map_cons]
  refine .cons ?_ ih
  obtain⟨h1,h2⟩:=h
  by_cases e:p.1=k
  ·rw [if_pos e,if_pos (h1.symm.trans e)];exact⟨h1,ry⟩
  ·rw [if_neg e,if_neg (λz=>e (h1.trans z))];exact⟨h1,h2⟩
theorem KV.put {kvs:List (κ × V)} {vs:List (κ × Value)} (r:KV kvs vs) (k:κ) {y:V} {u:Value} (ry:RelV y u):KV (putK kvs k y) (stored vs k u):=by
 unfold putK stored
 rw [r.any k]
 by_cases e:(vs.any λkv=>decide (kv.1=k))=true
 ·rw [if_pos e,if_pos e];exact r.qu k ry
 ·rw [if_neg e,if_neg e];exact Paired.snoc r ⟨rfl,ry⟩
theorem KV.keys {kvs:List (κ × V)} {vs:List (κ × Value)} (r:KV kvs vs):kvs.map (·.1)=vs.map (·.1):=by
 unfold KV at r
 induction r with
 | nil=>rfl
 | cons h t ih=>rw [List.map_cons,List.map_cons,ih,h.1]
theorem KV.length {kvs:List (κ × V)} {vs:List (κ × Value)} (r:KV kvs vs):kvs.length=vs.length:=Paired.length r
end
theorem jB {P:Program} {w:World} {k:Key} {u:Value} (r:RelV (kV k) u):(aR P w).is k u=true:=by
 cases k with
 | inl i=>obtain⟨t,e⟩:=(show ∃ t,u=Value.int i t from r);subst e;exact ip P w i t
 | inr x=>obtain⟨t,e⟩:=(show ∃ t,u=Value.str x t from r);subst e;exact iq P w x t
theorem fU {P:Program} {w:World}:∀{ks:List Key} {us:List Value},Vals (ks.map kV) us->ItemsAre (aR P w) ks us
 | [],_,r=>by rw [List.map_nil] at r;cases r;exact .nil
 | k::ks,_,r=>by
  rw [List.map_cons] at r
  cases r with
  | cons h t=>exact .cons (jB h) (fU t)
abbrev KT (H:Hp):List (List Key × V)->List (List Key × Addr × Value)->Prop:=Paired λp q=>p.1=q.1/\H q.2.1=some (.tup (p.1.map kV))/\RelV p.2 q.2.2
theorem KT.val {H:Hp} {kvs:List (List Key × V)} {xs:List (List Key × Addr × Value)} (r:KT H kvs xs) (k:List Key):dI (dF kvs k) ((atKey xs k).map (·.2)):=by
 induction r with
 | nil=>exact True.intro
 | @cons p q ps qs h t ih =>
  obtain⟨h1,_,h2⟩:=h
  by_cases e:p.1=k
  ·have e':q.1=k:=h1.symm.trans e
   have b:atKey (q::qs) k=some q.2:=by simp [atKey,List.find?_cons,e']
   rw [fC e,b];exact h2
  ·have e':¬q.1=k:=λz=>e (h1.trans z)
   have b:atKey (q::qs) k=atKey qs k:=by simp [atKey,List.find?_cons,e']
   rw [fB e,b];exact ih
theorem KT.qu {H:Hp} {kvs:List (List Key × V)} {xs:List (List Key × Addr × Value)} (r:KT H kvs xs) (k:List Key) {y:V} {u:Value} (ry:RelV y u) :
  KT H (kvs.map λkv=>if kv.1=k then (kv.1,y) else kv) (xs.map (putAt k u)):=by
 induction r with
 | nil=>exact .nil
 | @cons p q ps qs h t ih =>
  rw [List.map_cons,List.map_cons]
  refine .cons ?_ ih
  obtain⟨h1,h2,h3⟩:=h
  unfold putAt
  by_cases e:p.1=k
  ·rw [if_pos e,if_pos (h1.symm.trans e)];exact⟨h1,h2,ry⟩
  ·rw [if_neg e,if_neg (λz=>e (h1.trans z))];exact⟨h1,h2,h3⟩
theorem KT.put {H:Hp} {kvs:List (List Key × V)} {xs:List (List Key × Addr × Value)} (r:KT H kvs xs) (k:List Key) {b:Addr} {y:V} {u:Value} (hb:H b=some (.tup (k.map kV))) (ry:RelV y u) :
  KT H (putK kvs k y) (storedH xs k b u):=by
 have e:(kvs.any λkv=>decide (kv.1=k))=(atKey xs k).isSome:=by
  rw [iK,(r.val k).kn,Option.isSome_map]
 unfold putK storedH
 rw [e]
 by_cases q:(atKey xs k).isSome=true
 ·rw [if_pos q,if_pos q];exact r.qu k ry
 ·rw [if_neg q,if_neg q];exact Paired.snoc r ⟨rfl,hb,ry⟩
theorem KT.keeps {H H':Hp} {kvs:List (List Key × V)} {xs:List (List Key × Addr × Value)} (r:KT H kvs xs) (ht:∀ b ys,H b=some (.tup ys)->H' b=some (.tup ys)):KT H' kvs xs :=
 Paired.pS r λ_ _ z=>⟨z.1,ht _ _ z.2.1,z.2.2⟩
section
variable {P:Program} {w:World} {H:Hp} {h:Heap} {a:Addr}
theorem oQ {u:HO} (ok:cC P w H h) (e:Rd H a u):aK P w H h a u:=e.ok ok
theorem kY {kvs:List (Key × V)} (ok:cC P w H h) (e:Rd H a (.dK kvs)):kvs.length<=sizeLine/\(a==sysModules)=false/\∃ vs,KV kvs vs/\h.DictOf (aR P w) a vs :=
 show aK P w H h a (.dK kvs) from oQ ok e
theorem oA {kvs:List (Key × V)} (ok:cC P w H h) (e:H a=some (.dK kvs)):kvs.length<=sizeLine/\(a==sysModules)=false/\∃ vs,KV kvs vs/\h.DictOf (aR P w) a vs:=kY ok (.inl e)
theorem i6 {ks:List Key} (ok:cC P w H h) (e:H a=some (.tup (ks.map kV))):(tupleKind (aR P w)).is h ks a:=by
 obtain⟨_,its,r,o,h1,h2,n,h3⟩:=(show aK P w H h a (.tup (ks.map kV)) from ok a _ e)
 exact⟨o,its.toArray,n,h1,h2,h3,by simpa using fU r⟩
theorem k4 {kvs:List (List Key × V)} (ok:cC P w H h) (e:Rd H a (.dT kvs)):kvs.length<=sizeLine/\(a==sysModules)=false /\
  ∃ xs,KT H kvs xs/\h.DictOfH (tupleKind (aR P w)) a xs:=by
 obtain⟨z,y,xs,r,o,es,ep,h1,h2,h3,h4,h5⟩:=(show aK P w H h a (.dT kvs) from oQ ok e)
 refine⟨z,y,xs,r,o,es,ep,h1,h2,h3,h4,λx hx=>?_,h5⟩
 have all:∀{l:List (List Key × V)} {m:List (List Key × Addr × Value)},KT H l m->∀ x∈m,(tupleKind (aR P w)).is h x.1 x.2.1:=by
  intro l m q
  induction q with
  | nil=>intro x hx;exact nomatch hx
  | @cons p q ps qs hq t ih =>
   intro x hx
   rcases List.mem_cons.mp hx with e | hx
   ·subst e
    exact i6 ok (by rw [<- hq.1];exact hq.2.1)
   ·exact ih x hx
 exact all r x hx
theorem rf {kvs:List (List Key × V)} (ok:cC P w H h) (e:H a=some (.dT kvs)):kvs.length<=sizeLine/\(a==sysModules)=false /\
  ∃ xs,KT H kvs xs/\h.DictOfH (tupleKind (aR P w)) a xs:=k4 ok (.inl e)
end
def cQ (H:Hp) (a:Addr) (y:V) (r:Option V):Prop :=
 (∃ kvs k,Rd H a (.dK kvs)/\y=kV k/\r=dF kvs k)∨∃ kvs k b,Rd H a (.dT kvs)/\y=.ref b/\H b=some (.tup (k.map kV))/\r=dF kvs k
def hU (H:Hp) (a:Addr) (y v:V) (H':Hp):Prop :=
 (∃ kvs k,H a=some (.dK kvs)/\y=kV k/\kvs.length<sizeLine/\H'=upd H a (.dK (putK kvs k v))) ∨
 ∃ kvs k b,H a=some (.dT kvs)/\y=.ref b/\H b=some (.tup (k.map kV))/\kvs.length<sizeLine/\H'=upd H a (.dT (putK kvs k v))
theorem cQ.k {H:Hp} {a:Addr} {kvs:List (Key × V)} {k:Key} (e:H a=some (.dK kvs)):cQ H a (kV k) (dF kvs k):=.inl ⟨kvs,k,.inl e,rfl,rfl⟩
theorem cQ.t {H:Hp} {a b:Addr} {kvs:List (List Key × V)} {k:List Key} (e:H a=some (.dT kvs)) (eb:H b=some (.tup (k.map kV))):cQ H a (.ref b) (dF kvs k):=.inr ⟨kvs,k,b,.inl e,rfl,eb,rfl⟩
theorem hU.k {H:Hp} {a:Addr} {kvs:List (Key × V)} {k:Key} {v:V} (e:H a=some (.dK kvs)) (hl:kvs.length<sizeLine):hU H a (kV k) v (upd H a (.dK (putK kvs k v))):=.inl ⟨kvs,k,e,rfl,hl,rfl⟩
theorem hU.t {H:Hp} {a b:Addr} {kvs:List (List Key × V)} {k:List Key} {v:V} (e:H a=some (.dT kvs)) (eb:H b=some (.tup (k.map kV))) (hl:kvs.length<sizeLine) :
  hU H a (.ref b) v (upd H a (.dT (putK kvs k v))):=.inr ⟨kvs,k,b,e,rfl,eb,hl,rfl⟩
section
variable {X:Cx} {pins:List (Addr × Obj)} {σ:St} {H:Hp} {s:Shared} {a:Addr} {y v:V} {u r:Value} {o:Option V} {A:Around} {E:Value->Shared->Prop}
theorem Inv.big (I:Inv X pins σ H s):sysModules<s.heap.objs.size:=by
 have h:mainGlobals<s.heap.objs.size:=(I.mod.glob.keeps I.bk).lt
 exact Nat.lt_trans (by decide) h
theorem kg {Q:Value->Shared->Prop} (hu:A.units+1<cLine) (I:Inv X pins σ H s) (g:cQ H a y (some v)) (ry:RelV y u) (h:∀ w' s',Inv X pins σ H s'->RelV v w'->Q w' s') :
  wpAny (model X.prog X.w) A (getItem (.ref a) u) Q E s:=by
 rcases g with⟨kvs,k,e,ey,l⟩|⟨kvs,k,b,e,ey,eb,l⟩
 ·subst ey
  obtain⟨z,hd,vs,rel,dd⟩:=kY I.hok e
  obtain⟨w',hw,rw'⟩:=dI.some_of (v:=v) (o:=valueAt vs k) (by rw [l];exact rel.val k)
  exact wpAny_getItem_of (jB ry) dd.mapOf hw (h w' _ (I.tok _) rw')
 ·subst ey
  cases (show u=Value.ref b from ry)
  obtain⟨z,hd,xs,rel,dd⟩:=k4 I.hok e
  obtain⟨w',hw,rw'⟩:=dI.some_of (v:=v) (o:=(atKey xs k).map (·.2)) (by rw [l];exact rel.val k)
  obtain⟨p,hp,hp2⟩:=Option.map_eq_some_iff.mp hw
  refine wpAny_getItem_heap (tupleKind_room_in1 hu) (i6 I.hok eb) dd hp ?_
  rw [hp2]
  exact h w' _ (I.tok _) rw'
theorem gC {h':Heap} {t':Nat} {ob:HO} (I:Inv X pins σ H s) (mu:qV (H a)) (hs:Heap.SameBut a s.heap h') (he:∃ q,h'.get? a=some q) (new:aK X.prog X.w (upd H a ob) h' a ob) :
  Inv X pins σ (upd H a ob) { s with heap:=h',toks:=t' } :=
 I.write (x:=a) (e:=a) mu (.inl rfl) (λb q hb z=>(hs.2 b hb).trans z) he new
theorem kX {P:Program} {w:World} {H':Hp} {h':Heap} {kvs:List (Key × V)} {vs:List (Key × Value)} (z:kvs.length<=sizeLine) (hd:(a==sysModules)=false) (rel:KV kvs vs) (dd:h'.DictOf (aR P w) a vs) :
  aK P w H' h' a (.dK kvs):=⟨z,hd,vs,rel,dd⟩
theorem kh {H':Hp} {Q:Unit->Shared->Prop} (hu:A.units+1<cLine) (I:Inv X pins σ H s) (g:hU H a y v H') (ry:RelV y u) (rv:RelV v r) (h:∀ s',Inv X pins σ H' s'->Q () s') :
  wpAny (model X.prog X.w) A (setItem (.ref a) u r) Q E s:=by
 rcases g with⟨kvs,k,e,ey,l,eH⟩|⟨kvs,k,b,e,ey,eb,l,eH⟩
 ·subst ey eH
  obtain⟨z,hd,vs,rel,dd⟩:=oA I.hok e
  have hz:vs.length<=sizeLine:=by rw [<- rel.length];exact z
  have hl:(putK kvs k v).length<=sizeLine:=by have:=cg kvs k v;omega
  refine wpAny_setItem_pairs (hsz:=hz) (jB ry) dd λh' dd' hs=>h _ ?_
  have he:∃ q,h'.get? a=some q:=let ⟨q,_,_,hq,_⟩:=dd';⟨q,hq⟩
  exact gC I (by rw [e];exact True.intro) hs he (kX hl hd (rel.put k rv) dd')
 ·subst ey eH
  cases (show u=Value.ref b from ry)
  obtain⟨z,hd,xs,rel,dd⟩:=rf I.hok e
  have hz:xs.length<=sizeLine:=by rw [<- Paired.length rel];exact z
  have hl:(putK kvs k v).length<=sizeLine:=by have:=cg kvs k v;omega
  refine wpAny_setItem_heap (hsz:=hz) (tupleKind_room_in1 hu) (i6 I.hok eb) dd λh' dd' hs=>h _ ?_
  obtain⟨q,es,ep,hq,h2,h3,h4,_,h5⟩:=dd'
  refine gC I (by rw [e];exact True.intro) hs ⟨q,hq⟩ ⟨hl,hd,_,(rel.put k eb rv).keeps λc ys ec=>?_,q,es,ep,hq,h2,h3,h4,h5⟩
  rw [ak (fW ec e (λz=>nomatch z))]
  exact ec
end
section
variable {X:Cx} {pins:List (Addr × Obj)} {σ:St} {H:Hp} {s:Shared} {a:Addr} {kvs:List (Key × V)} {k:Key} {u:Value} {A:Around} {E:Value->Shared->Prop}
end
def qW (i:Expr):Prop:=∀ ov iv,subscripted i false ov iv=operate [ov,iv] (getItem ov iv)
theorem og {prog:Program} {w:World} {A:Around} {E:Value->Shared->Prop} {s:Shared} {env:Env} {value slice:Expr} {pos:Pos} {T id:String} {Q:Value->Shared->Prop}
  (hl:typeLookup (.type T) "__getitem__"=pure (some (.builtin id))) (hs:qW slice)
  (h:wpAny (model prog w) A (eval value env) (λo s₁=>wpAny (model prog w) A (eval slice env) (λi s₂=>s₂.TypeIs o T/\wpAny (model prog w) A (getItem o i) Q E s₂) E s₁) E s) :
  wpAny (model prog w) A (eval (.Subscript value slice pos) env) Q E s:=by
 refine Subscript_ (wpAny_mono h (λo s₁ h₁=>wpAny_mono h₁ (λi s₂ h₂=>?_) λ_ _ x=>x) λ_ _ x=>x)
 obtain⟨hT,h₂⟩:=h₂
 unfold subscriptTail
 refine wpAny_bind ?_
 rw [getitemInPython_of_ne hT.not_modules]
 refine wpAny_bind (wpAny_specialOf hT hl ?_)
 have fin:wpAny (model prog w) A (subscripted slice false o i) (λr s₃=>wpAny (model prog w) A (letTemporaryGo value o r >>= λ_=>pure r) Q E s₃) E s₂:=by
  rw [hs o i]
  exact wpAny_operating (wpAny_mono h₂ (λr s₃ h₃=>wpAny_bind (wpAny_letTemporaryGo (wpAny_pure h₃))) λ_ _ x=>x)
 first
  | exact wpAny_pure (wpAny_bind fin)
  | exact wpAny_bind (wpAny_pure (wpAny_bind fin))
  | exact wpAny_bind fin
theorem ic {X:Cx} {pins:List (Addr × Obj)} {σ:St} {H:Hp} {s:Shared} {a:Addr} {y:V} {o:Option V} (I:Inv X pins σ H s) (g:cQ H a y o):s.TypeIs (.ref a) "dict":=by
 rcases g with⟨kvs,k,e,_,_⟩|⟨kvs,k,b,e,_,_,_⟩
 ·obtain⟨_,_,vs,_,dd⟩:=kY I.hok e
  exact dd.typeIs
 ·obtain⟨_,_,xs,_,dd⟩:=k4 I.hok e
  exact dd.typeIs
def oX (td ty:TE):TE:=λσ H Q=>td σ H λx H1=>ty σ H1 λy H2=>∃ a v,x=.ref a/\cQ H2 a y (some v)/\Q v H2
def tM (ty td:TE):TE:=λσ H Q=>ty σ H λy H1=>td σ H1 λx H2=>∃ a o,x=.ref a/\cQ H2 a y o/\Q (.bl o.isSome) H2
def oi (ty td:TE):TE:=λσ H Q=>ty σ H λy H1=>td σ H1 λx H2=>∃ a o,x=.ref a/\cQ H2 a y o/\Q (.bl (!o.isSome)) H2
def oR (td ty tv:TE):TS:=λD σ H=>tv σ H λv H1=>td σ H1 λx H2=>ty σ H2 λy H3=>∃ a H4,x=.ref a/\hU H3 a y v H4/\D.nx σ H4
section
variable {X:Cx} {o i e value:Expr} {pos pos' tpos:Pos} {td ty tv:TE}
theorem dh (hu:X.A.units+1<cLine) (ho:PE X o td) (hi:PE X i ty) (hs:qW i):PE X (.Subscript o i pos) (oX td ty):=by
 intro pins s σ H Q I h
 refine og PySem.F.slot_dict_getitem.lookup hs (a8 (ho pins s σ H _ I h) λu s1 ⟨x,H1,I1,rx,q1⟩=>a8 (hi pins s1 σ H1 _ I1 q1) λiv s2 ⟨y,H2,I2,ry,a,v,ex,g,q2⟩=>?_)
 subst ex
 obtain rfl:u=Value.ref a:=rx
 exact⟨ic I2 g,kg hu I2 g ry λw' s3 I3 rw'=>⟨v,H2,I3,rw',q2⟩⟩
theorem gP (hu:X.A.units+1<cLine) (ho:PE X o td) (hi:PE X i ty) (hv:PE X value tv) (hs:swapsWith value (some (.Subscript o i pos')) pos.line X.env=pure false) :
  PS X (.Assign [.Subscript o i pos'] value pos) (oR td ty tv):=by
 intro pins s σ H D I h
 refine wpAny_Assign_Subscript (a8 (hv pins s σ H _ I h) λr s1 ⟨v,H1,I1,rv,q1⟩=>a8 (ho pins s1 σ H1 _ I1 q1) λu s2 ⟨x,H2,I2,rx,q2⟩=>a8 (hi pins s2 σ H2 _ I2 q2) λiv s3 ⟨y,H3,I3,ry,a,H4,ex,g,q3⟩=>?_) hs
 subst ex
 obtain rfl:u=Value.ref a:=rx
 exact kh hu I3 g ry rv λs4 I4=>⟨σ,H4,I4,q3⟩
end
theorem kW {P:Program} {w:World} {H:Hp} (h:Heap) (hb:sysModules<h.objs.size):aK P w H (h.push { cls:=.type "dict",data:=.dict #[] }) h.objs.size (.dK []) :=
 ⟨Nat.zero_le _,beq_eq_false_iff_ne.mpr (Ne.symm (Nat.ne_of_lt hb)),[],.nil,Heap.DictOf.new h⟩
def qx:TE:=λ_ H Q=>∀ p,H p=none->Q (.ref p) (upd H p (.dK []))
def qy:TE:=λ_ H Q=>∀ p,H p=none->Q (.ref p) (upd H p (.dT []))
section
variable {X:Cx} {pos:Pos}
end
def gZ:List (TE × TE)->St->Hp->(List (V × V)->Hp->Prop)->Prop
 | [],_,H,Q=>Q [] H
 | (tk,tv)::r,σ,H,Q=>tk σ H λx H1=>tv σ H1 λy H2=>gZ r σ H2 λps H3=>Q ((x,y)::ps) H3
abbrev VV:List (V × V)->List (Value × Value)->Prop:=Paired λp q=>RelV p.1 q.1/\RelV p.2 q.2
def sL (X:Cx) (pos:Pos) (keys:List (Option Expr)) (values:List Expr) (trs:List (TE × TE)):Prop :=
 ∀(pins:List (Addr × Obj)) (s:Shared) (σ:St) (H:Hp) (Q:List (V × V)->Hp->Prop),Inv X pins σ H s->gZ trs σ H Q ->
  wpAny (model X.prog X.w) X.A (evalPairs (pairTrees keys values X.env pos)) (λvs s'=>∃ ps H',Inv X pins σ H' s'/\VV ps vs/\Q ps H') X.xe s
theorem nO {X:Cx} {pos:Pos}:sL X pos [] [] []:=λpins s σ H Q I h=>pairTrees_nil_walk ⟨[],H,I,.nil,h⟩
theorem fe {X:Cx} {pos:Pos} {k v:Expr} {ks:List (Option Expr)} {vs:List Expr} {tk tv:TE} {trs:List (TE × TE)} (hk:PE X k tk) (hv:PE X v tv) (hr:sL X pos ks vs trs) :
  sL X pos (some k::ks) (v::vs) ((tk,tv)::trs):=λpins s σ H Q I h =>
 pairTrees_cons_walk (a8 (hk pins s σ H _ I h) λu s1 ⟨x,H1,I1,rx,q1⟩=>a8 (hv pins s1 σ H1 _ I1 q1) λw2 s2 ⟨y,H2,I2,ry,q2⟩ =>
  a8 (hr pins s2 σ H2 _ I2 q2) λws s3 ⟨ps,H3,I3,rel,q3⟩=>⟨(x,y)::ps,H3,I3,.cons ⟨rx,ry⟩ rel,q3⟩)
def e8 (kvs more:List (Key × V)):List (Key × V):=more.foldl (λacc kv=>putK acc kv.1 kv.2) kvs
theorem KV.merge:∀{more:List (Key × V)} {rs:List (Key × Value)} {kvs:List (Key × V)} {vs:List (Key × Value)},KV more rs->KV kvs vs->KV (e8 kvs more) (merged vs rs):=by
 intro more rs kvs vs r
 unfold KV at r
 induction r generalizing kvs vs with
 | nil=>intro q;exact q
 | @cons p q ps qs h t ih =>
  intro r0
  have e:KV (putK kvs p.1 p.2) (stored vs q.1 q.2):=by
   have:=r0.put p.1 h.2
   rw [<- h.1];exact this
  exact ih e
theorem cK:∀(more kvs:List (Key × V)),(e8 kvs more).length<=kvs.length+more.length
 | [],kvs=>by show kvs.length<=kvs.length+0;omega
 | p::r,kvs=>by
  have h1:=cK r (putK kvs p.1 p.2)
  have h2:=cg kvs p.1 p.2
  show (e8 (putK kvs p.1 p.2) r).length<=_
  rw [List.length_cons];omega
theorem eR {P:Program} {w:World}:∀{kvs:List (Key × V)} {ws:List (Value × Value)},VV (kvs.map λkv=>(kV kv.1,kv.2)) ws->∃ rs,Carries (aR P w) ws rs/\KV kvs rs
 | [],_,r=>by rw [List.map_nil] at r;cases r;exact⟨[],True.intro,.nil⟩
 | p::kvs,_,r=>by
  rw [List.map_cons] at r
  cases r with
  | @cons a b as bs h t =>
   obtain⟨rs,c,q⟩:=eR (P:=P) (w:=w) t
   obtain⟨b1,b2⟩:=b
   exact⟨(p.1,b2)::rs,⟨jB h.1,rfl,c⟩,.cons ⟨rfl,h.2⟩ q⟩
def oY (trs:List (TE × TE)):TE:=λσ H Q=>∀ p,H p=none->gZ trs σ (upd H p (.dK [])) λps H2=>H2 p=some (.dK [])/\∃ kvs:List (Key × V),ps=kvs.map (λkv=>(kV kv.1,kv.2))/\kvs.length<=15/\Q (.ref p) (upd H2 p (.dK (e8 [] kvs)))
theorem nG {X:Cx} {pos:Pos} {keys:List (Option Expr)} {values:List Expr} {trs:List (TE × TE)} (h:sL X pos keys values trs) (hall:keys.all (·.isSome)=true) (hl:keys.length=values.length) (h0:keys≠[])
  (h15:keys.length<=15):PE X (.Dict keys values pos) (oY trs):=by
 intro pins s σ H Q I q
 have hn:=I.hok.fresh (Nat.le_refl s.heap.objs.size)
 have I1:=I.laid (a:=s.heap.objs.size) (o:=.dK []) (h':=s.heap.push { cls:=.type "dict",data:=.dict #[] }) (t':=s.toks) (λ_ _ q=>Heap.get?_push_of_some _ q) (Nat.le_refl _) (kW s.heap I.big)
 refine wpAny_Dict_walk (knd:=aR X.prog X.w) hall hl h0 h15 (a8 (h pins _ σ _ _ I1 (q _ hn)) λws s2 ⟨ps,H2,I2,rel,e,kvs,ep,lk,q2⟩=>?_)
 subst ep
 obtain⟨rs,c,rk⟩:=eR (P:=X.prog) (w:=X.w) rel
 obtain⟨z,hd,vs0,r0,dd⟩:=oA I2.hok e
 cases r0
 refine⟨rs,c,dd,λh' dd' hs=>⟨.ref s.heap.objs.size,_,?_,rfl,q2⟩⟩
 have hz:(e8 [] kvs).length<=sizeLine:=by
  have h1:=cK kvs []
  rw [List.length_nil] at h1
  rw [sizeLine_eq];omega
 have he:∃ q,h'.get? s.heap.objs.size=some q:=let ⟨q,_,_,hq,_⟩:=dd';⟨q,hq⟩
 exact gC I2 (by rw [e];exact True.intro) hs he (kX hz hd (rk.merge .nil) dd')
structure M1 (X:Cx) (o:Expr) (m:Str) (apos:Pos) (e:Expr) (cpos:Pos):Prop where
 base:attributeBase o m X.env (eval o X.env)=eval o X.env
 few:((backTo cpos (starEach [e] X.env)).all (λx=>!x.1) && (backToKw cpos (keywordEach [] X.env)).all (λx=>x.1.isSome)
  && decide (([e]:List Expr).length+([]:List Keyword).length+(if ([]:List Keyword).isEmpty then 0 else 1)<30))=true
 line:(apos.endLine==cpos.line)=true
 trees:backTo cpos (starEach [e] X.env)=[(false,eval e X.env)]
structure M2 (X:Cx) (o:Expr) (m:Str) (apos:Pos) (e f:Expr) (cpos:Pos):Prop where
 base:attributeBase o m X.env (eval o X.env)=eval o X.env
 few:((backTo cpos (starEach [e,f] X.env)).all (λx=>!x.1) && (backToKw cpos (keywordEach [] X.env)).all (λx=>x.1.isSome)
  && decide (([e,f]:List Expr).length+([]:List Keyword).length+(if ([]:List Keyword).isEmpty then 0 else 1)<30))=true
 line:(apos.endLine==cpos.line)=true
 trees:backTo cpos (starEach [e,f] X.env)=[(false,eval e X.env),(false,eval f X.env)]
def ur (H:Hp) (a:Addr):Prop:=(∃ kvs,Rd H a (.dK kvs))∨∃ kvs,Rd H a (.dT kvs)
section
variable {X:Cx} {pins:List (Addr × Obj)} {σ:St} {H:Hp} {s:Shared} {a:Addr} {y d:V} {u r:Value} {o:Option V} {A:Around} {E:Value->Shared->Prop}
end
section
variable {X:Cx} {o e f:Expr} {apos cpos:Pos} {td ty tx:TE}
end
section
variable {X:Cx} {pins:List (Addr × Obj)} {σ:St} {H:Hp} {s:Shared} {a:Addr} {kvs:List (Key × V)} {A:Around} {E:Value->Shared->Prop}
end
section
variable {X:Cx} {pins:List (Addr × Obj)} {σ:St} {H:Hp} {s:Shared} {a:Addr} {y:V} {u:Value} {A:Around} {E:Value->Shared->Prop}
end
def qO (l:Int) (b:Bool):HO:=.dK [(Sum.inr "left",.int l),(Sum.inr "free",.bl b)]
def rP (l:Int) (b:Bool):Prop:=b=true∨(0<=l/\l<2147483647)
def Up (p:Addr) (b:Bool) (H H':Hp):Prop:=∃ l,rP l b/\H'=upd H p (qO l b)
theorem kH {H:Hp} {p:Addr} {o o':HO}:upd (upd H p o) p o'=upd H p o':=by
 funext c
 by_cases e:c=p
 ·subst e;rw [aj,aj]
 ·rw [ak e,ak e,ak e]
theorem Up.trans {p:Addr} {b:Bool} {H H1 H2:Hp} (h:Up p b H H1) (h':Up p b H1 H2):Up p b H H2:=by
 obtain⟨l,_,rfl⟩:=h
 obtain⟨l',k',rfl⟩:=h'
 exact⟨l',k',kH⟩
theorem Up.at {p:Addr} {b:Bool} {H H1:Hp} (h:Up p b H H1):∃ l,rP l b/\H1 p=some (qO l b):=by
 obtain⟨l,k,rfl⟩:=h
 exact⟨l,k,aj⟩
theorem Up.ne {p q:Addr} {b:Bool} {H H1:Hp} (h:Up p b H H1) (n:q≠p):H1 q=H q:=by
 obtain⟨l,k,rfl⟩:=h
 exact ak n
def Us (p:Addr) (b:Bool) (H H':Hp):Prop:=(∃ l,rP l b/\H' p=some (qO l b))/\∀ q o,q≠p->H q=some o->H' q=some o
theorem Up.us {p:Addr} {b:Bool} {H H':Hp} (h:Up p b H H'):Us p b H H':=⟨h.at,λq o n e=>by rw [h.ne n];exact e⟩
theorem Us.trans {p:Addr} {b:Bool} {H H1 H2:Hp} (h:Us p b H H1) (h':Us p b H1 H2):Us p b H H2:=⟨h'.1,λq o n e=>h'.2 q o n (h.2 q o n e)⟩
theorem Us.refl {p:Addr} {b:Bool} {H:Hp} {l:Int} (h:H p=some (qO l b)) (k:rP l b):Us p b H H:=⟨⟨l,k,h⟩,λ_ _ _ e=>e⟩
theorem Us.free {p q:Addr} {b:Bool} {H H1:Hp} (h:Us p b H H1) (f:H1 q=none):H q=none:=by
 cases e:H q with
 | none=>rfl
 | some o =>
  by_cases n:q=p
  ·subst n
   obtain⟨l,_,z⟩:=h.1
   rw [z] at f;cases f
  ·rw [h.2 q o n e] at f;cases f
theorem Us.set {p q:Addr} {b:Bool} {H H1:Hp} {o:HO} (h:Us p b H H1) (f:H q=none) (n:q≠p):Us p b H (upd H1 q o):=by
 obtain⟨⟨l,k,e⟩,s⟩:=h
 exact⟨⟨l,k,by rw [ak (Ne.symm n)];exact e⟩,λr u n er=>by rw [ak (λz=>by rw [z,f] at er;cases er)];exact s r u n er⟩
section
variable {K:PySem.W.Frag} {H H':Hp}
theorem aT.cJ {a:Addr} {xs:List V} (k:∀ a xs,Rd H a (.tup xs)->Rd H' a (.tup xs)) (h:aT K H a xs):aT K H' a xs:=h.imp (λz=>k _ _ z) id
mutual
theorem dv.cJ (k:∀ a xs,Rd H a (.tup xs)->Rd H' a (.tup xs)):∀(d:PyData) {v:V},lD d=true->dv K H d v->dv K H' d v
 | .none,_,_,h=>h
 | .bool _,_,_,h=>h
 | .int _,_,_,h=>h
 | .str _,_,_,h=>h
 | .list ds,_,z,_=>by cases z
 | .tuple ds,_,z,⟨q,xs,e,h,t⟩=>⟨q,xs,e,h.cJ k,aO.cJ k ds z t⟩
 | .dict _,_,_,h=>h.elim
theorem aO.cJ (k:∀ a xs,Rd H a (.tup xs)->Rd H' a (.tup xs)):∀(ds:List PyData) {xs:List V},bZ ds=true->aO K H ds xs->aO K H' ds xs
 | [],_,_,h=>h
 | d::ds,_,z,⟨x,r,e,h,t⟩=>by
  have z':lD d=true/\bZ ds=true:=by simpa [bZ] using z
  exact⟨x,r,e,dv.cJ k d z'.1 h,aO.cJ k ds z'.2 t⟩
end
theorem aO.set:∀{ds:List PyData} {us:List V} (i:Nat) {d:PyData} {v:V},aO K H ds us->dv K H d v->aO K H (ds.set i d) (us.set i v)
 | [],_,_,_,_,h,_=>by cases h;exact rfl
 | e::ds,_,0,_,_,⟨x,r,ex,h,t⟩,hv=>by subst ex;exact⟨_,_,rfl,hv,t⟩
 | e::ds,_,i+1,_,_,⟨x,r,ex,h,t⟩,hv=>by subst ex;exact⟨_,_,rfl,h,aO.set i t hv⟩
theorem Us.cJ {p:Addr} {b:Bool} {l:Int} (h:Us p b H H') (hp:H p=some (qO l b)):∀ a xs,Rd H a (.tup xs)->Rd H' a (.tup xs):=by
 intro a xs z
 rcases z with z | ⟨o,z⟩
 ·exact .inl (h.2 _ _ (λe=>by rw [e,hp] at z;cases z) z)
 ·exact .inr ⟨o,h.2 _ _ (λe=>by rw [e,hp] at z;cases z) z⟩
end
theorem Us.ref {p:Addr} {b:Bool} {H H1:Hp} (h:Us p b H H1):∃ l,rP l b/\H1 p=some (qO l b):=h.1
theorem iD {X:Cx} {ss:List Stmt}:gq X ss (λ_ _ _=>False):=by
 intro _ _ _ _ _ _ h
 exact False.elim h
theorem g8 (it t:Addr) (i:Nat) (items:Array Value) (x:Value) (hx:items[i]?=some x):Meets (Builtin.«tuple_iterator.__next__» ⟨[.ref it],[]⟩)
  (λ_ R s=>s.heap.IsTupleIter it t i/\s.heap.IsTuple t items/\∀ h',h'.IsTupleIter it t (i+1)->Heap.SameBut it s.heap h'->R (.ok (.ret x)) { s with heap:=h' }) :=
 .of_wp λprog w A R s h=>by
  obtain⟨⟨o,e,c,d⟩,⟨o2,e2,c2,n2,d2⟩,q⟩:=h
  have hx':items[(i:Int).toNat]?=some x:=by simpa using hx
  wp_walk using wpAny_field (i:=0) (x:=Value.ref t) e d rfl,wpAny_field (i:=1) (x:=Value.int i 0) e d rfl,wpAny_seqItems e2 d2
  rw [hx']
  refine wpAny_bind (wpAny_setField e d (show 1<2 by decide) ?_)
  obtain⟨oc,od,odt,os⟩:=o
  cases c
  cases d
  wp_walk
  refine⟨x,rfl,q _ ⟨_,Heap.get?_update_self _ e rfl,rfl,?_⟩ (Heap.SameBut.update ..)⟩
  show Data.fields _=_
  simp [rawInt]
theorem iJ (it t:Addr) (i:Nat) (items:Array Value) (hx:items[i]?=none):Meets (Builtin.«tuple_iterator.__next__» ⟨[.ref it],[]⟩)
  (λA R s=>A.handled=none/\s.heap.IsTupleIter it t i/\s.heap.IsTuple t items/\∀ h' e,Heap.ExtBut it s.heap h'->(∃ o,h'.get? e=some o/\o.cls=.type "StopIteration")->R (.error (.ref e)) { s with heap:=h' }) :=
 .of_wp λprog w A R s h=>by
  obtain⟨hn,⟨o,e,c,d⟩,⟨o2,e2,c2,n2,d2⟩,q⟩:=h
  have hx':items[(i:Int).toNat]?=none:=by simpa using hx
  wp_walk using wpAny_field (i:=0) (x:=Value.ref t) e d rfl,wpAny_field (i:=1) (x:=Value.int i 0) e d rfl,wpAny_seqItems e2 d2
  rw [hx']
  wp_walk using wpAny_setField e d (show 0<2 by decide)
  refine wpAny_raiseNew_none hn (q _ _ (λb o hb e=>Heap.get?_push_of_some _ (Heap.get?_push_of_some _ ((Heap.get?_update_other _ _ (Ne.symm hb)).trans e))) ⟨_,Heap.get?_push_size _ rfl,rfl⟩)
section
variable {prog:Program} {w:World} {A:Around} {E:Value->Shared->Prop} {s:Shared} {it t:Addr} {i:Nat} {items:Array Value} {Q:Value->Shared->Prop}
theorem eE {x:Value} (h1:s.heap.IsTupleIter it t i) (h2:s.heap.IsTuple t items) (hx:items[i]?=some x) (q:∀ h',h'.IsTupleIter it t (i+1)->Heap.SameBut it s.heap h'->Q x { s with heap:=h' }) :
  wpAny (model prog w) A (Builtin.SmallTypes.nextOf (.ref it)) Q E s:=by
 have ty:s.TypeIs (.ref it) "tuple_iterator":=by obtain⟨o,e,c,_⟩:=h1;exact⟨o,e,c⟩
 unfold Builtin.SmallTypes.nextOf
 refine wpAny_bind (wpAny_callSpecial?_slot ty slot_tupleiter_next (call_meets slot_tupleiter_next ty entry_tupleiter_next (args_tupleiter_next _) (g8 it t i items x hx) ⟨h1,h2,λh' a b=>?_⟩))
 exact wpAny_pure (q h' a b)
theorem e9 (hn:A.handled=none) (h1:s.heap.IsTupleIter it t i) (h2:s.heap.IsTuple t items) (hx:items[i]?=none) (q:∀ h' e,Heap.ExtBut it s.heap h'->(∃ o,h'.get? e=some o/\o.cls=.type "StopIteration")->E (.ref e) { s with heap:=h' }) :
  wpAny (model prog w) A (Builtin.SmallTypes.nextOf (.ref it)) Q E s:=by
 have ty:s.TypeIs (.ref it) "tuple_iterator":=by obtain⟨o,e,c,_⟩:=h1;exact⟨o,e,c⟩
 unfold Builtin.SmallTypes.nextOf
 exact wpAny_bind (wpAny_callSpecial?_slot ty slot_tupleiter_next (call_meets slot_tupleiter_next ty entry_tupleiter_next (args_tupleiter_next _) (iJ it t i items hx) ⟨hn,h1,h2,λh' e a b=>q h' e a b⟩))
end
inductive Sd
 | l
 | t
def Sd.It:Sd->Heap->Addr->Addr->Nat->Prop
 | .l=>Heap.IsListIter
 | .t=>Heap.IsTupleIter
def Sd.Sq:Sd->Heap->Addr->Array Value->Prop
 | .l=>Heap.IsList
 | .t=>Heap.IsTuple
def Sd.io (k:Sd) (a:Addr):Obj:=match k with
 | .l=>{ cls:=.type "list_iterator",data:=.fields #[.ref a,.int 0 0] }
 | .t=>{ cls:=.type "tuple_iterator",data:=.fields #[.ref a,.int 0 0] }
theorem Sd.It.at {k:Sd} {h h':Heap} {it a:Addr} {i:Nat} (x:k.It h it a i) (e:∀ o,h.get? it=some o->h'.get? it=some o):k.It h' it a i:=by
 cases k<;>(obtain⟨o,e1,r⟩:=x;exact⟨o,e o e1,r⟩)
theorem Sd.It.there {k:Sd} {h:Heap} {it a:Addr} {i:Nat} (x:k.It h it a i):∃ o,h.get? it=some o/\∀ v,o.data≠.cell v:=by
 cases k<;>(obtain⟨o,e1,_,d⟩:=x;exact⟨o,e1,λv z=>by rw [d] at z;cases z⟩)
theorem Sd.Sq.at {k:Sd} {h h':Heap} {a:Addr} {xs:Array Value} (x:k.Sq h a xs) (e:∀ o,h.get? a=some o->h'.get? a=some o):k.Sq h' a xs:=by
 cases k<;>(obtain⟨o,e1,r⟩:=x;exact⟨o,e o e1,r⟩)
theorem Sd.Sq.lt {k:Sd} {h:Heap} {a:Addr} {xs:Array Value} (x:k.Sq h a xs):a<h.objs.size:=by
 cases k<;>(obtain⟨o,e1,r⟩:=x;exact Heap.lt_size e1)
theorem Sd.start (k:Sd) {h:Heap} {it a:Addr} (e:h.get? it=some (k.io a)):k.It h it a 0:=by
 cases k<;>exact⟨_,e,rfl,rfl⟩
section
variable {prog:Program} {w:World} {A:Around} {E:Value->Shared->Prop} {s:Shared} {it a:Addr} {i:Nat} {xs:Array Value} {Q:Value->Shared->Prop} {k:Sd}
theorem Sd.item {x:Value} (h1:k.It s.heap it a i) (h2:k.Sq s.heap a xs) (hx:xs[i]?=some x) (q:∀ h',k.It h' it a (i+1)->Heap.SameBut it s.heap h'->Q x { s with heap:=h' }) :
  wpAny (model prog w) A (Builtin.SmallTypes.nextOf (.ref it)) Q E s:=by
 cases k
 ·exact wpAny_nextOf_list_item h1 h2 hx q
 ·exact eE h1 h2 hx q
theorem Sd.fin (hn:A.handled=none) (h1:k.It s.heap it a i) (h2:k.Sq s.heap a xs) (hx:xs[i]?=none) (q:∀ h' e,Heap.ExtBut it s.heap h'->(∃ o,h'.get? e=some o/\o.cls=.type "StopIteration")->E (.ref e) { s with heap:=h' }) :
  wpAny (model prog w) A (Builtin.SmallTypes.nextOf (.ref it)) Q E s:=by
 cases k
 ·exact wpAny_nextOf_list_end hn h1 h2 hx q
 ·exact e9 hn h1 h2 hx q
theorem Sd.iter (h2:k.Sq s.heap a xs) (q:Q (.ref s.heap.objs.size) { s with heap:=s.heap.push (k.io a) }):wpAny (model prog w) A (pyIter (.ref a)) Q E s:=by
 cases k
 ·exact wpAny_pyIter_list h2 q
 ·exact wpAny_pyIter_tuple h2 q
end
theorem ou (k1 k2:Sd) (l1 l2:Addr) (xs ys:Array Value):Meets (Builtin.«zip.__new__» ⟨[.type "zip",.ref l1,.ref l2],[]⟩)
  (λ_ R s=>k1.Sq s.heap l1 xs/\k2.Sq s.heap l2 ys/\∀ h',IsZip h' (s.heap.objs.size+4) (s.heap.objs.size+2) (s.heap.objs.size+3) .none->IsPair h' (s.heap.objs.size+2) (.ref s.heap.objs.size) (.ref (s.heap.objs.size+1)) ->
   IsPair h' (s.heap.objs.size+3) .none .none->k1.It h' s.heap.objs.size l1 0->k2.It h' (s.heap.objs.size+1) l2 0->(∀ c o,s.heap.get? c=some o->h'.get? c=some o)->R (.ok (.ret (.ref (s.heap.objs.size+4)))) { s with heap:=h' }) :=
 .of_wp λprog w A R s h=>by
  obtain⟨h1,h2,q⟩:=h
  have f1:=sub_zip
  have h2':k2.Sq (s.heap.push (k1.io l1)) l2 ys:=h2.at λo e=>Heap.get?_push_of_some _ e
  wp_walk using Sd.iter h1,Sd.iter (s:={ s with heap:=s.heap.push (k1.io l1) }) h2'
  refine⟨_,rfl,?_⟩
  have e5:((((s.heap.push (k1.io l1)).push (k2.io l2)).push { cls:=.type "tuple",data:=.seq #[.ref s.heap.objs.size,.ref (s.heap.push (k1.io l1)).objs.size] }).push { cls:=.type "tuple",data:=.seq #[.none,.none] }).objs.size=s.heap.objs.size+4:=by simp only [Heap.size_push]
  have e4:(((s.heap.push (k1.io l1)).push (k2.io l2)).push { cls:=.type "tuple",data:=.seq #[.ref s.heap.objs.size,.ref (s.heap.push (k1.io l1)).objs.size] }).objs.size=s.heap.objs.size+3:=by simp only [Heap.size_push]
  have e3:((s.heap.push (k1.io l1)).push (k2.io l2)).objs.size=s.heap.objs.size+2:=by simp only [Heap.size_push]
  have e2:(s.heap.push (k1.io l1)).objs.size=s.heap.objs.size+1:=by simp only [Heap.size_push]
  show R (.ok (.ret (.ref ((((s.heap.push (k1.io l1)).push (k2.io l2)).push { cls:=.type "tuple",data:=.seq #[.ref s.heap.objs.size,.ref (s.heap.push (k1.io l1)).objs.size] }).push { cls:=.type "tuple",data:=.seq #[.none,.none] }).objs.size))) { s with heap:=((((s.heap.push (k1.io l1)).push (k2.io l2)).push { cls:=.type "tuple",data:=.seq #[.ref s.heap.objs.size,.ref (s.heap.push (k1.io l1)).objs.size] }).push { cls:=.type "tuple",data:=.seq #[.none,.none] }).push { cls:=.type "zip",data:=.fields #[.none,.bool false,.bool false,.ref ((s.heap.push (k1.io l1)).push (k2.io l2)).objs.size,.ref (((s.heap.push (k1.io l1)).push (k2.io l2)).push { cls:=.type "tuple",data:=.seq #[.ref s.heap.objs.size,.ref (s.heap.push (k1.io l1)).objs.size] }).objs.size] } }
  have g0:(s.heap.push (k1.io l1)).get? s.heap.objs.size=some (k1.io l1):=Heap.get?_push_size _ (by cases k1<;>rfl)
  have g1:((s.heap.push (k1.io l1)).push (k2.io l2)).get? (s.heap.objs.size+1)=some (k2.io l2):=by rw [<- e2];exact Heap.get?_push_size _ (by cases k2<;>rfl)
  rw [e5,e4,e3,e2]
  refine q _ ?_ ?_ ?_ (k1.start (Heap.get?_push_of_some _ (Heap.get?_push_of_some _ (Heap.get?_push_of_some _ (Heap.get?_push_of_some _ g0))))) (k2.start (Heap.get?_push_of_some _ (Heap.get?_push_of_some _ (Heap.get?_push_of_some _ g1)))) λc o e=>Heap.get?_push_of_some _ (Heap.get?_push_of_some _ (Heap.get?_push_of_some _ (Heap.get?_push_of_some _ (Heap.get?_push_of_some _ e))))
  ·exact (show _=_ from by
    have:=Heap.get?_push_size (((((s.heap.push (k1.io l1)).push (k2.io l2)).push { cls:=.type "tuple",data:=.seq #[.ref s.heap.objs.size,.ref (s.heap.objs.size+1)] }).push { cls:=.type "tuple",data:=.seq #[.none,.none] })) (o:={ cls:=.type "zip",data:=.fields #[.none,.bool false,.bool false,.ref (s.heap.objs.size+2),.ref (s.heap.objs.size+3)] }) rfl
    simp only [Heap.size_push] at this
    exact this)
  ·refine Heap.get?_push_of_some _ (Heap.get?_push_of_some _ ?_)
   have:=Heap.get?_push_size ((s.heap.push (k1.io l1)).push (k2.io l2)) (o:={ cls:=.type "tuple",data:=.seq #[.ref s.heap.objs.size,.ref (s.heap.objs.size+1)] }) rfl
   simp only [Heap.size_push] at this
   exact this
  ·refine Heap.get?_push_of_some _ ?_
   have:=Heap.get?_push_size (((s.heap.push (k1.io l1)).push (k2.io l2)).push { cls:=.type "tuple",data:=.seq #[.ref s.heap.objs.size,.ref (s.heap.objs.size+1)] }) (o:={ cls:=.type "tuple",data:=.seq #[.none,.none] }) rfl
   simp only [Heap.size_push] at this
   exact this
theorem mz (k1 k2:Sd) (z TI TO i1 i2 l1 l2:Addr) (ap:ZipApart z TI TO i1 i2 l1 l2) (n1 n2:Nat) (xs ys:Array Value) (x y a b:Value) (hx:xs[n1]?=some x) (hy:ys[n2]?=some y):Meets (Builtin.«zip.__next__» ⟨[.ref z],[]⟩)
  (λ_ R s=>IsZip s.heap z TI TO .none/\IsPair s.heap TI (.ref i1) (.ref i2)/\IsPair s.heap TO a b/\k1.It s.heap i1 l1 n1/\k2.It s.heap i2 l2 n2/\k1.Sq s.heap l1 xs/\k2.Sq s.heap l2 ys /\
   ∀ h',IsZip h' z TI TO (rawInt s.heap.objs.size)->IsPair h' TO x y->k1.It h' i1 l1 (n1+1)->k2.It h' i2 l2 (n2+1)->IsPair h' s.heap.objs.size x y ->
    (∀ c o,c≠z->c≠TO->c≠i1->c≠i2->s.heap.get? c=some o->h'.get? c=some o)->R (.ok (.ret (.ref s.heap.objs.size))) { s with heap:=h' }) :=
 .of_wp λprog w A R s h=>by
  obtain⟨hz,hTI,hTO,j1,j2,q1,q2,q⟩:=h
  wp_walk using wpAny_field (i:=2) (x:=Value.bool false) hz rfl rfl,wpAny_field (i:=3) (x:=Value.ref TI) hz rfl rfl,wpAny_field (i:=0) (x:=Value.none) hz rfl rfl,wpAny_field (i:=4) (x:=Value.ref TO) hz rfl rfl,wpAny_seqItems hTI rfl,wpAny_setField_rec hz (show 0<5 by decide)
  intro ha za sa
  have ka:∀ c o,c≠z->s.heap.get? c=some o->ha.get? c=some o:=λc o hc e=>(sa.2 c hc).trans e
  have j1a:=j1.at (h':=ha) λo e=>ka i1 o ap.i1z e
  have q1a:=q1.at (h':=ha) λo e=>ka l1 o ap.l1z e
  wp_walk using wpAny_onRaise,Sd.item (s:={ s with heap:=ha }) j1a q1a hx
  intro hb jb sb
  have kb:∀ c o,c≠z->c≠i1->s.heap.get? c=some o->hb.get? c=some o:=λc o h1 h2 e=>(sb.2 c h2).trans (ka c o h1 e)
  have TOb:IsPair hb TO a b:=kb TO _ ap.TOz ap.TOi1 hTO
  wp_walk using wpAny_seqItems TOb rfl,wpAny_updateSeq_pair (s:={ s with heap:=hb }) TOb
  intro hc TOc' sc
  have TOc:IsPair hc TO x b:=TOc'
  have kc:∀ c o,c≠z->c≠i1->c≠TO->s.heap.get? c=some o->hc.get? c=some o:=λc o h1 h2 h3 e=>(sc.2 c h3).trans (kb c o h1 h2 e)
  have zc:hc.get? z=some { cls:=.type "zip",data:=.fields #[.ellipsis,.bool false,.bool false,.ref TI,.ref TO] }:=(sc.2 z (Ne.symm ap.TOz)).trans ((sb.2 z (Ne.symm ap.i1z)).trans za)
  have j1c:=jb.at (h':=hc) λo e=>(sc.2 i1 (Ne.symm ap.TOi1)).trans e
  have j2c:=j2.at (h':=hc) λo e=>kc i2 o ap.i2z (Ne.symm ap.i12) (Ne.symm ap.TOi2) e
  have q2c:=q2.at (h':=hc) λo e=>kc l2 o ap.l2z ap.l2i1 ap.l2TO e
  wp_walk using wpAny_letGo,wpAny_onRaise,Sd.item (s:={ s with heap:=hc }) j2c q2c hy
  intro hd jd sd
  have TOd:IsPair hd TO x b:=(sd.2 TO ap.TOi2).trans TOc
  have zd:=(sd.2 z (Ne.symm ap.i2z)).trans zc
  wp_walk using wpAny_seqItems TOd rfl,wpAny_updateSeq_pair (s:={ s with heap:=hd }) TOd
  intro he TOe' se
  have TOe:IsPair he TO x y:=TOe'
  have ze:=(se.2 z (Ne.symm ap.TOz)).trans zd
  wp_walk using wpAny_letGo,wpAny_seqItems TOe rfl
  have sz:he.objs.size=s.heap.objs.size:=se.1.trans (sd.1.trans (sc.1.trans (sb.1.trans sa.1)))
  have zn:z≠he.objs.size:=Nat.ne_of_lt (Heap.lt_size ze)
  have zf:(he.push { cls:=.type "tuple",data:=.seq #[x,y] }).get? z=some { cls:=.type "zip",data:=.fields #[.ellipsis,.bool false,.bool false,.ref TI,.ref TO] }:=Heap.get?_push_of_some _ ze
  have ke:∀ c o,c≠z->he.get? c=some o->(((he.push { cls:=.type "tuple",data:=.seq #[x,y] }).update z (Obj.mapFields λx=>x.setIfInBounds 0 (rawInt ↑he.objs.size))).update z (Obj.mapFields λx=>x.setIfInBounds 1 (Value.bool false))).get? c=some o:=λc o hc e=>(Heap.get?_update_other _ _ (Ne.symm hc)).trans ((Heap.get?_update_other _ _ (Ne.symm hc)).trans (Heap.get?_push_of_some _ e))
  have g1:=Heap.get?_update_self (Obj.mapFields λx=>x.setIfInBounds 0 (rawInt ↑he.objs.size)) zf rfl
  have g2:=Heap.get?_update_self (Obj.mapFields λx=>x.setIfInBounds 1 (Value.bool false)) g1 rfl
  have gn:(((he.push { cls:=.type "tuple",data:=.seq #[x,y] }).update z (Obj.mapFields λx=>x.setIfInBounds 0 (rawInt ↑he.objs.size))).update z (Obj.mapFields λx=>x.setIfInBounds 1 (Value.bool false))).get? he.objs.size=some { cls:=.type "tuple",data:=.seq #[x,y] }:=(Heap.get?_update_other _ _ zn).trans ((Heap.get?_update_other _ _ zn).trans (Heap.get?_push_size _ rfl))
  refine⟨_,rfl,?_⟩
  show R (.ok (.ret (.ref he.objs.size))) { s with heap:=(((he.push { cls:=.type "tuple",data:=.seq #[x,y] }).update z (Obj.mapFields λx=>x.setIfInBounds 0 (rawInt ↑he.objs.size))).update z (Obj.mapFields λx=>x.setIfInBounds 1 (Value.bool false))) }
  generalize (((he.push { cls:=.type "tuple",data:=.seq #[x,y] }).update z (Obj.mapFields λx=>x.setIfInBounds 0 (rawInt ↑he.objs.size))).update z (Obj.mapFields λx=>x.setIfInBounds 1 (Value.bool false)))=hf at *
  rw [sz]
  refine q hf (by rw [<- sz];exact g2) (ke TO _ ap.TOz TOe) (j1c.at λo e=>ke i1 o ap.i1z ((se.2 i1 (Ne.symm ap.TOi1)).trans ((sd.2 i1 ap.i12).trans e))) (jd.at λo e=>ke i2 o ap.i2z ((se.2 i2 (Ne.symm ap.TOi2)).trans e)) (by rw [<- sz];exact gn) λc o h1 h2 h3 h4 e=>ke c o h1 ((se.2 c h2).trans ((sd.2 c h4).trans (kc c o h1 h3 h2 e)))
theorem my (k1:Sd) (z TI TO i1 i2 l1:Addr) (i1z:i1≠z) (l1z:l1≠z) (n1:Nat) (xs:Array Value) (a b:Value) (hx:xs[n1]?=none):Meets (Builtin.«zip.__next__» ⟨[.ref z],[]⟩)
  (λA R s=>A.handled=none/\IsZip s.heap z TI TO .none/\IsPair s.heap TI (.ref i1) (.ref i2)/\IsPair s.heap TO a b/\k1.It s.heap i1 l1 n1/\k1.Sq s.heap l1 xs /\
   ∀ h' e,(∀ c o,c≠z->c≠i1->s.heap.get? c=some o->h'.get? c=some o)->(∃ o,h'.get? e=some o/\o.cls=.type "StopIteration")->R (.error (.ref e)) { s with heap:=h' }) :=
 .of_wp λprog w A R s h=>by
  obtain⟨hn,hz,hTI,hTO,j1,q1,q⟩:=h
  wp_walk using wpAny_field (i:=2) (x:=Value.bool false) hz rfl rfl,wpAny_field (i:=3) (x:=Value.ref TI) hz rfl rfl,wpAny_field (i:=0) (x:=Value.none) hz rfl rfl,wpAny_field (i:=4) (x:=Value.ref TO) hz rfl rfl,wpAny_seqItems hTI rfl,wpAny_setField_rec hz (show 0<5 by decide)
  intro ha za sa
  have ka:∀ c o,c≠z->s.heap.get? c=some o->ha.get? c=some o:=λc o hc e=>(sa.2 c hc).trans e
  have j1a:=j1.at (h':=ha) λo e=>ka i1 o i1z e
  have q1a:=q1.at (h':=ha) λo e=>ka l1 o l1z e
  wp_walk using wpAny_onRaise,Sd.fin (A:=A.in1) (s:={ s with heap:=ha }) hn j1a q1a hx
  intro hb e kb oe
  have zb:=kb z _ (Ne.symm i1z) za
  refine wpAny_setField_rec (s:={ s with heap:=hb }) zb (show 0<5 by decide) λhc zc sc=>?_
  obtain⟨o,eo,co⟩:=oe
  have ez:e≠z:=λx=>by
   subst x
   rw [zb] at eo
   cases eo
   injection co with x
   exact absurd x (by decide)
  exact q hc e (λc o h1 h2 x=>(sc.2 c h1).trans (kb c o h2 (ka c o h1 x))) ⟨o,(sc.2 e ez).trans eo,co⟩
section
variable {prog:Program} {w:World} {A:Around} {E:Value->Shared->Prop} {s:Shared}
theorem gb {it:Addr} {T id:String} {Q:Option Value->Shared->Prop} (ty:s.TypeIs (.ref it) T) (sl:Slot T "__next__" id)
  (h:wpAny (model prog w) A (call (.builtin id) [.ref it]) (λv s'=>Q (some v) s') (λe s'=>(∃ x o,e=.ref x/\s'.heap.get? x=some o/\o.cls=.type "StopIteration")/\Q none s') s):wpAny (model prog w) A (pyNext (.ref it)) Q E s:=by
 unfold pyNext
 refine wpAny_bind (wpAny_attempt (wpAny_callSpecial?_slot ty sl (wpAny_mono h (λv s' q=>wpAny_pure q) λe s' q=>?_)))
 obtain⟨⟨x,o,rfl,eo,co⟩,q⟩:=q
 refine wpAny_bind (wpAny_isInstance (T := "StopIteration") (b:=true) ⟨o,eo,co⟩ ?_ ?_)
 ·with_unfolding_all rfl
 ·rw [if_pos rfl]
  exact wpAny_pure q
theorem kQ {k1 k2:Sd} {l1 l2:Addr} {xs ys:Array Value} {Q:Value->Shared->Prop} (h1:k1.Sq s.heap l1 xs) (h2:k2.Sq s.heap l2 ys)
  (q:∀ h',IsZip h' (s.heap.objs.size+4) (s.heap.objs.size+2) (s.heap.objs.size+3) .none->IsPair h' (s.heap.objs.size+2) (.ref s.heap.objs.size) (.ref (s.heap.objs.size+1)) ->
   IsPair h' (s.heap.objs.size+3) .none .none->k1.It h' s.heap.objs.size l1 0->k2.It h' (s.heap.objs.size+1) l2 0->(∀ c o,s.heap.get? c=some o->h'.get? c=some o)->Q (.ref (s.heap.objs.size+4)) { s with heap:=h' }) :
  wpAny (model prog w) A (call (.type "zip") [.ref l1,.ref l2]) Q E s :=
 callType_new F.called_zip (by decide) (F.typeCall_zip_2 _ _) (F.newCall_zip_2 _ _) (λobj=>F.args_object_init_3 _ _ _) F.entry_zip_new (ou k1 k2 l1 l2 xs ys) ⟨h1,h2,λh' z a b c d e=>⟨⟨_,z,rfl⟩,q h' z a b c d e⟩⟩
theorem fH {k1 k2:Sd} {z TI TO i1 i2 l1 l2:Addr} {n1 n2:Nat} {xs ys:Array Value} {x y a b:Value} {Q:Option Value->Shared->Prop} (ap:ZipApart z TI TO i1 i2 l1 l2) (hz:IsZip s.heap z TI TO .none) (hTI:IsPair s.heap TI (.ref i1) (.ref i2)) (hTO:IsPair s.heap TO a b)
  (j1:k1.It s.heap i1 l1 n1) (j2:k2.It s.heap i2 l2 n2) (q1:k1.Sq s.heap l1 xs) (q2:k2.Sq s.heap l2 ys) (hx:xs[n1]?=some x) (hy:ys[n2]?=some y)
  (q:∀ h',IsZip h' z TI TO (rawInt s.heap.objs.size)->IsPair h' TO x y->k1.It h' i1 l1 (n1+1)->k2.It h' i2 l2 (n2+1)->IsPair h' s.heap.objs.size x y ->
    (∀ c o,c≠z->c≠TO->c≠i1->c≠i2->s.heap.get? c=some o->h'.get? c=some o)->Q (some (.ref s.heap.objs.size)) { s with heap:=h' }):wpAny (model prog w) A (pyNext (.ref z)) Q E s :=
 gb ⟨_,hz,rfl⟩ F.slot_zip_next (call_meets F.slot_zip_next ⟨_,hz,rfl⟩ F.entry_zip_next (F.args_zip_next_1 _) (mz k1 k2 z TI TO i1 i2 l1 l2 ap n1 n2 xs ys x y a b hx hy) ⟨hz,hTI,hTO,j1,j2,q1,q2,λh' a b c d e f=>q h' a b c d e f⟩)
theorem gI {k1:Sd} {z TI TO i1 i2 l1:Addr} {n1:Nat} {xs:Array Value} {a b:Value} {Q:Option Value->Shared->Prop} (hn:A.handled=none) (i1z:i1≠z) (l1z:l1≠z) (hz:IsZip s.heap z TI TO .none) (hTI:IsPair s.heap TI (.ref i1) (.ref i2)) (hTO:IsPair s.heap TO a b)
  (j1:k1.It s.heap i1 l1 n1) (q1:k1.Sq s.heap l1 xs) (hx:xs[n1]?=none)
  (q:∀ h',(∀ c o,c≠z->c≠i1->s.heap.get? c=some o->h'.get? c=some o)->Q none { s with heap:=h' }):wpAny (model prog w) A (pyNext (.ref z)) Q E s :=
 gb ⟨_,hz,rfl⟩ F.slot_zip_next (call_meets F.slot_zip_next ⟨_,hz,rfl⟩ F.entry_zip_next (F.args_zip_next_1 _) (my k1 z TI TO i1 i2 l1 i1z l1z n1 xs a b hx) ⟨hn,hz,hTI,hTO,j1,q1,λh' e k ⟨o,eo,co⟩=>⟨⟨e,o,rfl,eo,co⟩,q h' k⟩⟩)
end
def eQ (k:Sd) (K:PySem.W.Frag) (H:Hp) (a:Addr) (xs:List V):Prop:=match k with
 | .l=>aS K H a xs
 | .t=>aT K H a xs
theorem Inv.rW {X:Cx} {pins:List (Addr × Obj)} {σ:St} {H:Hp} {s:Shared} {k:Sd} {a:Addr} {xs:List V} (I:Inv X pins σ H s) (h:eQ k X.K H a xs):∃ its:List Value,Vals xs its/\k.Sq s.heap a its.toArray:=by
 cases k
 ·obtain⟨its,r,p,_⟩:=I.list h
  exact⟨its,r,p.isList⟩
 ·obtain⟨its,r,p,_⟩:=I.tuple h
  exact⟨its,r,p⟩
theorem Inv.jV {X:Cx} {pins:List (Addr × Obj)} {σ:St} {H:Hp} {s:Shared} {k:Sd} {a:Addr} {xs ys:List V} (I:Inv X pins σ H s) (h:eQ k X.K H a xs) (h':eQ k X.K H a ys):xs=ys:=by
 cases k
 ·exact I.ik h h'
 ·exact I.gi h h'
def qU (k1 k2:Sd) (K:PySem.W.Frag) (a b:Addr):It :=
 ⟨λi H=>∃ xs ys x y,eQ k1 K H a xs/\eQ k2 K H b ys/\xs[i]?=some x/\ys[i]?=some y,λi H x H'=>∃ p u v,H p=none/\x=.ref p/\(∀ xs,eQ k1 K H a xs->xs[i]?=some u)/\(∀ ys,eQ k2 K H b ys->ys[i]?=some v)/\H'=upd H p (.tup [u,v]),
  λi H=>∃ xs,eQ k1 K H a xs/\xs.length<=i⟩
theorem mr {P:Program} {w:World} {K:PySem.W.Frag} {elts:List Expr} {x1} {pos:Pos} {k1 k2:Sd} {a b z TI TO i1 i2:Addr} (ap:ZipApart z TI TO i1 i2 a b):Turn P w K (.Tuple elts x1 pos) (qU k1 k2 K a b) [z,TI,TO,i1,i2] z (λi h=>IsZip h z TI TO .none/\IsPair h TI (.ref i1) (.ref i2)/\(∃ u v,IsPair h TO u v)/\k1.It h i1 a i/\k2.It h i2 b i) where
 mem:=by simp
 obj:=λi h st c hc=>by
  obtain⟨h1,h2,⟨u,v,h3⟩,h4,h5⟩:=st
  simp only [List.mem_cons,List.not_mem_nil,or_false] at hc
  rcases hc with rfl | rfl | rfl | rfl | rfl
  ·exact⟨_,h1,λv z=>by cases z⟩
  ·exact⟨_,h2,λv z=>by cases z⟩
  ·exact⟨_,h3,λv z=>by cases z⟩
  ·exact h4.there
  ·exact h5.there
 keep:=λi h h' st k=>by
  obtain⟨h1,h2,⟨u,v,h3⟩,h4,h5⟩:=st
  exact⟨k z (by simp) _ h1,k TI (by simp) _ h2,⟨u,v,k TO (by simp) _ h3⟩,h4.at λo x=>k i1 (by simp) o x,h5.at λo x=>k i2 (by simp) o x⟩
 item:=by
  intro X hP hw hK hc i pins s σ H E I hf st hg
  subst hP hw hK
  obtain⟨xs,ys,x,y,hq1,hq2,hx,hy⟩:=hg
  obtain⟨its1,rv1,p1⟩:=I.rW hq1
  obtain⟨its2,rv2,p2⟩:=I.rW hq2
  obtain⟨u,hu,ru⟩:=rv1.get hx
  obtain⟨v,hv,rv⟩:=rv2.get hy
  obtain⟨h1,h2,⟨u0,v0,h3⟩,h4,h5⟩:=st
  refine fH ap h1 h2 h3 h4 h5 p1 p2 (x:=u) (y:=v) (by simpa using hu) (by simpa using hv) λh' z' TO' j1 j2 hT hk=>?_
  refine⟨_,rfl,?_⟩
  have fT:H s.heap.objs.size=none:=I.hok.fresh (Nat.le_refl _)
  refine wpAny_letOwnedTupleGo_zip z' λh'' z2 s2=>?_
  have hke:∀ c o,c∉[z,TI,TO,i1,i2]->s.heap.get? c=some o->h''.get? c=some o:=λc o hc q=>by
   simp only [List.mem_cons,List.not_mem_nil,or_false,not_or] at hc
   exact (s2.2 c hc.1).trans (hk c o hc.1 hc.2.2.1 hc.2.2.2.1 hc.2.2.2.2 q)
  have I1:Inv X pins σ H { s with heap:=h'',toks:=s.toks }:=I.j3 hke hf
  have nz:∀ c∈[z,TI,TO,i1,i2],c≠s.heap.objs.size:=λc hc e=>by
   have:∃ o,s.heap.get? c=some o:=by
    simp only [List.mem_cons,List.not_mem_nil,or_false] at hc
    rcases hc with rfl | rfl | rfl | rfl | rfl
    ·exact⟨_,h1⟩
    ·exact⟨_,h2⟩
    ·exact⟨_,h3⟩
    ·obtain⟨o,e,_⟩:=h4.there;exact⟨o,e⟩
    ·obtain⟨o,e,_⟩:=h5.there;exact⟨o,e⟩
   obtain⟨o,eo⟩:=this
   exact Nat.ne_of_lt (Heap.lt_size eo) e
  have hT2:h''.get? s.heap.objs.size=some { cls:=.type "tuple",data:=.seq #[u,v] }:=(s2.2 _ (Ne.symm (nz z (by simp)))).trans hT
  refine⟨.ref s.heap.objs.size,upd H s.heap.objs.size (.tup [x,y]),?_,rfl,⟨_,x,y,fT,rfl,λzs hz=>by rw [I.jV hz hq1];exact hx,λzs hz=>by rw [I.jV hz hq2];exact hy,rfl⟩,
   ⟨z2,(s2.2 TI ap.TIz).trans (hk TI _ ap.TIz ap.TITO ap.TIi1 ap.TIi2 h2),⟨_,_,(s2.2 TO ap.TOz).trans TO'⟩,j1.at λo q=>(s2.2 i1 ap.i1z).trans q,j2.at λo q=>(s2.2 i2 ap.i2z).trans q⟩,λc hc=>?_⟩
  ·exact I1.adopt (T:=s.heap.objs.size) (o:=.tup [x,y]) (I.la (Nat.le_refl _) fT) ⟨by show 2<=sizeLine;decide,[u,v],.cons ru (.cons rv .nil),⟨_,hT2,rfl,_,rfl⟩⟩
  ·rw [ak (nz c hc)]
   exact (hf c hc).1
 done:=by
  intro X hP hw hK hc i pins s σ H E I hf st hg
  subst hP hw hK
  obtain⟨xs,hq,hx⟩:=hg
  obtain⟨its,rv,p⟩:=I.rW hq
  have hl:=rv.length
  obtain⟨h1,h2,⟨u0,v0,h3⟩,h4,h5⟩:=st
  exact gI (I.ok.hd hc) ap.i1z ap.l1z h1 h2 h3 h4 p (by simp;omega) λh' eb=>⟨rfl,I.j3 (t':=s.toks) (ch:=[z,i1]) (λc o hc q=>by
   simp only [List.mem_cons,List.not_mem_nil,or_false,not_or] at hc
   exact eb c o hc.1 hc.2 q) (λc hc=>hf c (by
    simp only [List.mem_cons,List.not_mem_nil,or_false] at hc
    rcases hc with rfl | rfl<;>simp))⟩
 self:=λ_ _ _ _ _ st h=>wpAny_pyIter_zip st.1 h
def tu (k1 k2:Sd) (K:PySem.W.Frag) (ta:TA):TI:=λσ H R=>ta σ H λvs H1=>∃ a b,vs=[.ref a,.ref b]/\(∃ xs,eQ k1 K H1 a xs)/\(∃ ys,eQ k2 K H1 b ys)/\R (qU k1 k2 K a b) H1
theorem j6:bootBuiltins "zip"=some (.type "zip"):=by decide +kernel
theorem kf {K:PySem.W.Frag} {k1 k2:Sd} {a b:Addr} {xs ys:List V} {js:List (Option Nat)} {g:TG} {tt:TT} {te:TE} {σ:St} {Q:VK} {H1:Hp} (Pv:Nat->List V->Hp->Prop) (h0:Pv 0 [] H1) (hxy:xs.length=ys.length) (hx:xs.length<=sizeLine) (hl:∀ i zs H,i<=xs.length->Pv i zs H->eQ k1 K H a xs/\eQ k2 K H b ys/\zs.length<=i)
  (hs:∀ i x y zs H p,xs[i]?=some x->ys[i]?=some y->Pv i zs H->H p=none->g (.ref p) (br js σ) (upd H p (.tup [x,y])) λσ2 H2=>aV (br js σ) σ2/\tt σ2 H2 λc H3=>if c=true then te σ2 H3 λv H4=>Pv (i+1) (zs++[v]) H4 else Pv (i+1) zs H3)
  (hd:∀ zs H p,Pv xs.length zs H->H p=none->Q (.ref p) (upd H p (.lst zs))):cX (qU k1 k2 K a b) js g tt te σ Q H1:=by
 refine⟨λi m zs H=>m=xs.length-i/\i<=xs.length/\Pv i zs H,⟨xs.length,by simp,Nat.zero_le _,h0⟩,?_⟩
 rintro i m zs H ⟨rfl,hi,p⟩
 obtain⟨q,q',hy⟩:=hl i zs H hi p
 by_cases hlt:i<xs.length
 ·refine .inr ⟨⟨xs,ys,xs[i],ys[i],q,q',by simp [hlt],by simp⟩,by omega,Pv (i+1),λys' H' p'=>⟨xs.length-(i+1),by omega,rfl,hlt,p'⟩,λx H' y=>?_⟩
  obtain⟨pt,u,v,f,e1,e2,e3,e4⟩:=y
  subst e1 e4
  exact hs i u v zs _ pt (e2 xs q) (e3 ys q') p f
 ·have e:i=xs.length:=by omega
  subst e
  exact .inl ⟨⟨xs,q,Nat.le_refl _⟩,by omega,λp' hp'=>hd zs H p' p hp'⟩
end L2
namespace Num
theorem qb {p x y:Int} {m:Nat} (h:Al p x y) (o:Ord p x m):Ord p y m:=⟨o.pos,(h.pow m).symm.trans o.one,λj z=>o.dv j ((h.pow j).trans z)⟩
def eN:List (Int × Int)->Nat
 | []=>1
 | p::r=>p.1.toNat^p.2.toNat*eN r
theorem dP:∀ a b:List (Int × Int),eN (a++b)=eN a*eN b
 | [],b=>by simp [eN]
 | p::r,b=>by
  show p.1.toNat^p.2.toNat*eN (r++b)=p.1.toNat^p.2.toNat*eN r*eN b
  rw [dP r b,Nat.mul_assoc]
theorem jv:∀ a:List (Int × Int),(∀ p∈a,Pm p.1)->(eN a:Int)=b6 a
 | [],_=>rfl
 | p::r,h=>by
  have t:=(h p (List.mem_cons_self ..)).two
  show ((p.1.toNat^p.2.toNat*eN r:Nat):Int)=p.1^p.2.toNat*b6 r
  rw [Int.natCast_mul,Int.natCast_pow,jv r λx z=>h x (List.mem_cons_of_mem _ z),show (p.1.toNat:Int)=p.1 by omega]
theorem iU:∀ a:List (Int × Int),(∀ p∈a,Pm p.1)->0<eN a
 | [],_=>Nat.one_pos
 | p::r,h=>by
  have t:=(h p (List.mem_cons_self ..)).two
  exact Nat.mul_pos (Nat.pow_pos (by omega)) (iU r λx z=>h x (List.mem_cons_of_mem _ z))
theorem pC {q m:Nat} (h:Nm q) (hm:¬q∣m) (k:Nat):Nat.Coprime (q^k) m:=Nat.Coprime.pow_left k (h.co hm)
theorem rg {q:Int} (hq:Pm q) {b:List (Int × Int)} (hb:∀ p∈b,Pm p.1) (ne:∀ p∈b,p.1≠q):¬q.toNat∣eN b:=λz=>by
 have t:=hq.two
 have:q∣b6 b:=by
  rw [<- jv b hb]
  have:=Int.natCast_dvd_natCast.mpr z
  rwa [show (q.toNat:Int)=q by omega] at this
 obtain⟨p,hp,e⟩:=iy hq hb this
 exact ne p hp e
theorem oB {b:List (Int × Int)} (hb:∀ p∈b,Pm p.1):∀ a:List (Int × Int),(∀ p∈a,Pm p.1)->(∀ x∈a,∀ y∈b,y.1≠x.1)->Nat.Coprime (eN a) (eN b)
 | [],_,_=>Nat.coprime_one_left _
 | p::r,h,ne=>by
  have hp:=h p (List.mem_cons_self ..)
  exact Nat.Coprime.mul_left (pC (oK hp) (rg hp hb (ne p (List.mem_cons_self ..))) _) (oB hb r (λx z=>h x (List.mem_cons_of_mem _ z)) λx z=>ne x (List.mem_cons_of_mem _ z))
theorem nA {n a:Int} {q t:Nat} (hq:Nm q) (h:Al n (a^q^t) 1) (no:∀ j,j<t->¬Al n (a^q^j) 1):Ord n a (q^t):=by
 have q2:=hq.1
 obtain⟨m,o,_⟩:=lR (N:=q^t) (Nat.pow_pos (by omega)) h
 have d:=o.dv _ h
 cases t with
 | zero =>
  have:m=1:=Nat.eq_one_of_dvd_one (by simpa using d)
  rw [this] at o
  simpa using o
 | succ k =>
  have:m=q^(k+1):=nN hq k m d λz=>no k (Nat.lt_succ_self _) (by
   obtain⟨c,hc⟩:=z
   rw [hc]
   exact a0 o.one)
  rw [<- this]
  exact o
theorem bO {a:Int} {x y:Nat}:(a^x)^y=a^(x*y):=by rw [Int.pow_mul]
theorem i8 {n a:Int} {M1 M2 E1 E2:Nat} (co:Nat.Coprime M1 M2) (p1:0<M1) (p2:0<M2) (h:Al n (a^(M1*M2)) 1) (o1:Ord n (a^M2) E1) (o2:Ord n (a^M1) E2):Ord n a (E1*E2):=by
 have d1:E1∣M1:=o1.dv M1 (by rw [bO,Nat.mul_comm];exact h)
 have d2:E2∣M2:=o2.dv M2 (by rw [bO];exact h)
 obtain⟨c1,hc1⟩:=d1
 obtain⟨c2,hc2⟩:=d2
 obtain⟨e,o,_⟩:=lR (Nat.mul_pos p1 p2) h
 have x1:e∣M2*E1:=o.dv _ (by rw [<- bO];exact o1.one)
 have x2:e∣M1*E2:=o.dv _ (by rw [<- bO];exact o2.one)
 have cc:Nat.Coprime c2 c1:=by
  have:Nat.Coprime c1 c2:=Nat.Coprime.coprime_dvd_left ⟨E1,by rw [hc1,Nat.mul_comm]⟩ (Nat.Coprime.coprime_dvd_right ⟨E2,by rw [hc2,Nat.mul_comm]⟩ co)
  exact this.symm
 have x3:e∣E1*E2:=by
  have:=Nat.dvd_gcd x1 x2
  rw [show M2*E1=E1*E2*c2 by rw [hc2];rw [Nat.mul_comm (E2*c2) E1,Nat.mul_assoc],show M1*E2=E1*E2*c1 by rw [hc1];rw [Nat.mul_assoc,Nat.mul_comm c1 E2,Nat.mul_assoc],Nat.gcd_mul_left,cc.gcd_eq_one,Nat.mul_one] at this
  exact this
 have ce:Nat.Coprime E1 E2:=Nat.Coprime.coprime_dvd_left ⟨c1,hc1⟩ (Nat.Coprime.coprime_dvd_right ⟨c2,hc2⟩ co)
 refine⟨Nat.mul_pos o1.pos o2.pos,?_,λj hj=>?_⟩
 ·obtain⟨c,hc⟩:=x3
  rw [hc]
  exact a0 o.one
 ·refine ce.mul_dvd_of_dvd_of_dvd (o1.dv j ?_) (o2.dv j ?_)
  ·rw [bO,Nat.mul_comm,<- bO]
   have:=hj.pow M2
   rwa [Int.one_pow] at this
  ·rw [bO,Nat.mul_comm,<- bO]
   have:=hj.pow M1
   rwa [Int.one_pow] at this
structure TO (n a:Int) (ps:List (Int × Int)) (ts:List Int):Prop where
 len:ts.length=ps.length
 nn:∀ t∈ts,0<=t
 ord:Ord n a (eN ((ps.map (·.1)).zip ts))
theorem TO.al {n a b:Int} {ps:List (Int × Int)} {ts:List Int} (h:TO n a ps ts) (e:Al n a b):TO n b ps ts:=⟨h.len,h.nn,qb e h.ord⟩
theorem TO.none {n a:Int} (h:Al n a 1):TO n a [] []:=⟨rfl,λ_ z=>by simp at z,⟨Nat.one_pos,by show Al n (a^1) 1;rw [Int.pow_one];exact h,λj _=>Nat.one_dvd j⟩⟩
theorem TO.one {n a q k:Int} {t:Nat} (hq:Pm q) (h:Al n (a^q.toNat^t) 1) (no:∀ j,j<t->¬Al n (a^q.toNat^j) 1):TO n a [(q,k)] [(t:Int)]:=by
 refine⟨rfl,λx z=>?_,?_⟩
 ·rw [List.mem_singleton.mp z];omega
 ·show Ord n a (q.toNat^(t:Int).toNat*1)
  rw [Nat.mul_one,Int.toNat_natCast]
  exact nA (oK hq) h no
theorem TO.two {n a:Int} {as bs:List (Int × Int)} {ts us:List Int} (ha:∀ p∈as,Pm p.1) (hb:∀ p∈bs,Pm p.1) (ne:∀ x∈as,∀ y∈bs,y.1≠x.1) (h:Al n (a^eN (as++bs)) 1) (h1:TO n (a^eN bs) as ts) (h2:TO n (a^eN as) bs us):TO n a (as++bs) (ts++us):=by
 refine⟨by rw [List.length_append,List.length_append,h1.len,h2.len],λt z=>(List.mem_append.mp z).elim (h1.nn t) (h2.nn t),?_⟩
 rw [List.map_append,List.zip_append (by rw [List.length_map,h1.len]),dP]
 rw [dP] at h
 exact i8 (oB hb as ha ne) (iU as ha) (iU bs hb) h h1.ord h2.ord
end Num
namespace L2
open PySem PySem.Spec PyProof.Rows
section
variable {prog:Program} {w:World} {A:Around} {E:Value->Shared->Prop} {s:Shared}
end
def sR (K:PySem.W.Frag) (a:Addr):It :=
 ⟨λi H=>∃ xs x,aT K H a xs/\xs[i]?=some x,λi H x H'=>∃ p v,H p=none/\x=.ref p/\(∀ xs,aT K H a xs->xs[i]?=some v)/\H'=upd H p (.tup [.int i,v]),λi H=>∃ xs,aT K H a xs/\xs.length<=i⟩
def pJ (K:PySem.W.Frag) (ta:TA):TI:=λσ H R=>ta σ H λvs H1=>∃ a,vs=[.ref a]/\(∃ xs,aT K H1 a xs)/\R (sR K a) H1
def oD (K:PySem.W.Frag) (ta:TA):TI:=λσ H R=>ta σ H λvs H1=>∃ a b k1 k2,vs=[.ref a,.ref b]/\(∃ xs,eQ k1 K H1 a xs)/\(∃ ys,eQ k2 K H1 b ys)/\R (qU k1 k2 K a b) H1
theorem nK {X:Cx} {elts:List Expr} {x1} {tpos:Pos} {a b:Expr} {ta:TA} {p pos:Pos} (hg:Gl X "zip") (hm:X.mg "zip"=none) (ha:PA X [a,b] ta) (hs:starEach [a,b] X.env=[(false,eval a X.env),(false,eval b X.env)]:=by rfl) (hs2:starEach [b] X.env=[(false,eval b X.env)]:=by rfl) :
  PI X (.Tuple elts x1 tpos) (.Call (.Name "zip" p) [a,b] [] pos) (oD X.K ta):=by
 intro pins s σ H R I h
 refine Call_ (e7 I hg hm j6 (PyProof.Rows.callWith_type1 (a8 (ha pos pins s σ H _ I h) λus s1 ⟨vs,H1,I1,r1,q1⟩=>?_) (by rw [hs,hs2]) (by rw [hs2];rfl)))
 obtain⟨a',b',k1,k2,e,⟨xs,hq1⟩,⟨ys,hq2⟩,q⟩:=q1
 subst e
 cases r1 with
 | cons r rr =>
  cases rr with
  | cons r' rr' =>
   cases rr'
   cases r
   cases r'
   obtain⟨its1,rv1,p1⟩:=I1.rW hq1
   obtain⟨its2,rv2,p2⟩:=I1.rW hq2
   refine kQ p1 p2 λh' hz hTI hTO j1 j2 hk=>?_
   refine wpAny_pyIter_zip hz ?_
   have I2:Inv X pins σ H1 { s1 with heap:=h' }:=I1.kept (t':=s1.toks) hk
   refine⟨_,[s1.heap.objs.size+4,s1.heap.objs.size+2,s1.heap.objs.size+3,s1.heap.objs.size,s1.heap.objs.size+1],_,_,H1,rfl,I2,mr (PyProof.Rows.zipApart_new p1.lt p2.lt),⟨hz,hTI,⟨_,_,hTO⟩,j1,j2⟩,λc hc=>?_,q⟩
   simp only [List.mem_cons,List.not_mem_nil,or_false] at hc
   rcases hc with rfl | rfl | rfl | rfl | rfl<;>exact I1.la (by omega) (I1.hok.fresh (by omega))
end L2
namespace L2
open PySem PySem.Spec PyProof.Rows PySem.W
end L2
namespace L2
open PySem PySem.Spec PyProof.Rows
end L2
namespace L2
open PySem PySem.Spec PyProof.Rows PySem.W
section
variable {prog:Program} {w:World} {A:Around} {E:Value->Shared->Prop} {K:PySem.W.Frag} {h:Heap} {g:Array GenState} {d:Drawn} {t:Nat} {os:OsState} {x C B:Addr}
end
section
variable {X:Cx} {pins:List (Addr × Obj)} {σ:St} {H:Hp} {s:Shared} {x:Addr}
end
section
variable {X:Cx} {B:Addr} {n:Option Nat} {hd:ExceptHandler} {ts:TS}
variable {B2:Addr} {n2:Option Nat} {hd2:ExceptHandler} {ts2:TS}
def sC (K:PySem.W.Frag) (B:Addr) (n:Option Nat) (B2:Addr) (n2:Option Nat) (sp:Sp) (ta:TA) (put:V->St->St) (ts ts2:TS):TS:=λD σ H=>ta σ H λvs H1=>sp vs H1 (λv H2=>D.nx (put v σ) H2)
 (λcv xo H2=>∃ C x dd,cv=.ref C/\xo=some x/\H2 x=some (XO x C dd)/\hX K C/\((mroIn K C (.ref B)=some true/\ts (jy n D) (mU n x σ) H2)∨(mroIn K C (.ref B)=some false/\mroIn K C (.ref B2)=some true/\ts2 (jy n2 D) (mU n2 x σ) H2)))
variable {k:Nat} {f:Str} {ps:List Str} {sp:Sp} {e:Expr} {es:List Expr} {t:TA} {p cpos epos pos:Pos}
end
namespace HT
section
variable {prog:Program} {w:World} {A:Around} {E:Value->Shared->Prop} {s:Shared}
end
end HT
end L2
namespace L2
open PySem PySem.Spec PyProof.Rows PySem.W
namespace Tsl
open _root_.HT
section
variable {prog:Program} {w:World} {A:Around} {E:Value->Shared->Prop} {s:Shared}
end
end Tsl
section
variable {X:Cx} {e k:Expr} {te:TE} {tk:TO} {p2 pos:Pos}
end
end L2
namespace L2
open PySem PySem.Spec PyProof.Rows
section
variable {prog:Program} {w:World} {K:Type} [DecidableEq K] {knd:HeapKind prog w K} {A:Around} {E:Value->Shared->Prop} {s:Shared}
end
end L2
namespace L2
open PySem PySem.Spec PyProof.Rows PySem.W
def qS (h:Heap) (d:Addr) (es:Array DictEntry) (ep:Nat):Prop:=∃ o,h.get? d=some o/\o.ExactDict/\o.data=.dict es ep
section
variable {P:Program} {w:World} {A:Around} {E:Value->Shared->Prop} {s:Shared} {d:Addr} {es:Array DictEntry} {ep:Nat}
theorem qS.type (x:qS s.heap d es ep):s.TypeIs (.ref d) "dict":=by obtain⟨o,a,c,_⟩:=x;exact⟨o,a,c.1⟩
end
section
variable {X:Cx} {pins:List (Addr × Obj)} {σ:St} {H:Hp} {s:Shared} {A:Around} {E:Value->Shared->Prop}
def qz (td ty:TE):TE:=λσ H Q=>td σ H λx H1=>∃ a,x=.ref a/\ur H1 a/\ty σ H1 λy H2=>∃ kvs k b v,H2 a=some (.dT kvs)/\y=.ref b/\H2 b=some (.tup (k.map kV))/\dF kvs k=some v/\Q v (upd H2 a (.dT (q5 kvs k)))
end
section
variable {P:Program} {w:World} {K:PySem.W.Frag} {mg:Str->Option Value} {base:Heap} {CX:fD} {k:Nat} {C:Addr} {m qual x:Str} {ps:List Str} {sp:Sp} {st:Stmt}
structure sI (P:Program) (w:World) (K:PySem.W.Frag) (mg:Str->Option Value) (base:Heap) (CX:fD) (k:Nat) (C:Addr) (m:Str) (ps:List Str) (sp:Sp):Prop where
 ex:∃ f fd,Meth K C m f/\bU P w K mg base CX k f fd ps sp/\Binds K fd ps []
variable {X:Cx} {E:XK} {o e:Expr} {es:List Expr} {ta:TE} {t:TA} {p apos pos:Pos}
structure uq (K:PySem.W.Frag) (x qual:Str) (st:Stmt) (f:Addr) (fd:FuncData) (ds:Array Value):Prop where
 ex:∃(oc:Value) (od:Option Addr) (T:Addr) (o:Obj) (n:Nat) (kV doc pm:Value) (an:Option Addr) (cdv ct:Value) (osl:Array (Option Value)),
  fd=fnOf x qual (bo st) (aW st) (ao st) (.ref T) kV doc pm an cdv ct/\K.lookup f=some ⟨oc,od,.func fd,osl⟩/\codeIn K cdv qual=true/\K.lookup T=some o/\o.data=.seq ds n
 kp:keepIn K (.ref f)=true
end
end L2
namespace L2
open PySem PySem.Spec PyProof.Rows
def ug (q:Nat):Nat->Nat->Nat
 | 0,m=>m
 | f+1,m=>if q<=m*m then m else ug q f (m+1)
def rt (q:Nat):Nat:=ug q q 0
def tU (p w:Int) (m:Nat):List (Key × V):=(List.range m).map λi:Nat=>(Sum.inl (w^i%p),V.int (i:Int))
end L2
namespace Num
theorem Ord.co {n a:Int} {m:Nat} (o:Ord n a m):Co a n:=by
 obtain⟨k,hk⟩:∃ k,m=k+1:=⟨m-1,by have:=o.pos;omega⟩
 exact Co.pV (m:=k) (by rw [<- hk];exact o.one)
end Num
namespace L2
open PySem PySem.Spec PyProof.Rows
def kJ (a d:Addr) (H H':Hp):Prop:=∀ b o,b≠a->b≠d->H b=some o->H' b=some o
theorem kJ.refl {a d:Addr} {H:Hp}:kJ a d H H:=λ_ _ _ _ e=>e
theorem kJ.trans {a d:Addr} {H H1 H2:Hp} (h:kJ a d H H1) (h':kJ a d H1 H2):kJ a d H H2:=λb o x y e=>h' b o x y (h b o x y e)
theorem kJ.of {a d:Addr} {H H':Hp} (h:aE H H'):kJ a d H H':=λb o _ _ e=>h b o e
structure KH where
 a:Addr
 dx:Addr
 d:Addr
 most:Int
 c:Int
 ks:List (Int × Int × Int)
def k3 (x:Int × Int × Int):List Key:=[.inl x.1,.inl x.2.1,.inl x.2.2]
def uC (k:KH):List (Str × V):=[("most",.int k.most),("counted",.int k.c),("laid",.ref k.d)]
def KTab (H:Hp) (x:Int × Int × Int) (v:V):Prop:=∃ t,v=.ref t/\H t=some (.dK (tU x.1 x.2.2 (rt x.2.1.toNat)))
structure sU (H:Hp) (k:KH) (kvs:List (List Key × V)):Prop where
 dict:H k.d=some (.dT kvs)
 keys:kvs.map (·.1)=k.ks.map k3
 nd:k.ks.Nodup
 tab:∀ x v,dF kvs (k3 x)=some v->KTab H x v
structure fF (C:Addr) (k:KH) (H:Hp):Prop where
 ins:H k.a=some (.ins C k.dx (uC k))
 ex:∃ kvs,sU H k kvs
 m0:0<=k.most
 m1:k.most<=10^6
section
variable {C:Addr} {k:KH} {H H':Hp} {kvs:List (List Key × V)}
theorem sU.len (h:sU H k kvs):kvs.length=k.ks.length:=by have:=congrArg List.length h.keys;simpa using this
theorem fF.ne (h:fF C k H):k.a≠k.d:=by
 obtain⟨kvs,z⟩:=h.ex
 exact fW h.ins z.dict (by intro z;cases z)
theorem fF.apart (h:fF C k H) {b:Addr} {o:HO} (e:H b=some o) (h1:∀ C dx fs,o≠.ins C dx fs) (h2:∀ kvs,o≠.dT kvs):b≠k.a/\b≠k.d:=by
 obtain⟨kvs,z⟩:=h.ex
 exact⟨fW e h.ins (h1 _ _ _),fW e z.dict (h2 _)⟩
theorem fF.keep (h:fF C k H) (bt:kJ k.a k.d H H') {b:Addr} {o:HO} (e:H b=some o) (h1:∀ C dx fs,o≠.ins C dx fs:=by intro _ _ _ z;cases z) (h2:∀ kvs,o≠.dT kvs:=by intro _ z;cases z):H' b=some o :=
 let ⟨x,y⟩:=h.apart e h1 h2;bt b o x y e
theorem fF.cJ (h:fF C k H) (bt:kJ k.a k.d H H'):∀ a xs,Rd H a (.tup xs)->Rd H' a (.tup xs):=by
 intro a xs z
 rcases z with z | ⟨o,z⟩
 ·exact .inl (h.keep bt z)
 ·exact .inr ⟨o,h.keep bt z⟩
theorem fF.dv {K:PySem.W.Frag} (h:fF C k H) (bt:kJ k.a k.d H H') {d:PyData} {v:V} (nl:lD d=true) (x:dv K H d v):dv K H' d v:=dv.cJ (h.cJ bt) d nl x
end
section
variable {K:PySem.W.Frag} {H H':Hp}
mutual
theorem dv.eY (kt:∀ a xs,aT K H a xs->aT K H' a xs) (kl:∀ a xs,aS K H a xs->aS K H' a xs):∀(d:PyData) {v:V},dv K H d v->dv K H' d v
 | .none,_,h=>h
 | .bool _,_,h=>h
 | .int _,_,h=>h
 | .str _,_,h=>h
 | .list ds,_,⟨q,xs,e,h,t⟩=>⟨q,xs,e,kl _ _ h,aO.eY kt kl ds t⟩
 | .tuple ds,_,⟨q,xs,e,h,t⟩=>⟨q,xs,e,kt _ _ h,aO.eY kt kl ds t⟩
 | .dict _,_,h=>h.elim
theorem aO.eY (kt:∀ a xs,aT K H a xs->aT K H' a xs) (kl:∀ a xs,aS K H a xs->aS K H' a xs):∀(ds:List PyData) {xs:List V},aO K H ds xs->aO K H' ds xs
 | [],_,h=>h
 | d::ds,_,⟨x,r,e,h,t⟩=>⟨x,r,e,dv.eY kt kl d h,aO.eY kt kl ds t⟩
end
mutual
def gd:PyData->Prop
 | .none=>True
 | .bool _=>True
 | .int i => -(10^90)<=i/\i<=10^90
 | .str x=>PyData.canLay0 (.str x)=true
 | .list ds=>iX ds
 | .tuple ds=>iX ds
 | _=>False
def iX:List PyData->Prop
 | []=>True
 | d::ds=>gd d/\iX ds
end
theorem eG:∀{ds:List PyData},iX ds↔∀ d∈ds,gd d
 | []=>⟨λ_ d h=>(List.not_mem_nil h).elim,λ_=>by simp only [iX]⟩
 | d::ds=>by
  simp only [iX]
  rw [eG,List.forall_mem_cons]
mutual
theorem gd.lay:∀(d:PyData),gd d->d.canLay0=true
 | .none,_=>rfl
 | .bool _,_=>rfl
 | .int _,_=>rfl
 | .str x,h=>by simp only [gd] at h;exact h
 | .list ds,h=>by simp only [gd] at h;simp only [PyData.canLay0];exact iX.lay ds h
 | .tuple ds,h=>by simp only [gd] at h;simp only [PyData.canLay0];exact iX.lay ds h
 | .dict _,h=>by simp only [gd] at h
theorem iX.lay:∀(ds:List PyData),iX ds->PyData.canLayAll0 ds=true
 | [],_=>rfl
 | d::ds,h=>by
  simp only [iX] at h
  simp only [PyData.canLayAll0]
  rw [gd.lay d h.1,iX.lay ds h.2]
  rfl
end
def GV (K:PySem.W.Frag) (H:Hp) (x:V):Prop:=∃ d,dv K H d x/\gd d
def hV (K:PySem.W.Frag) (H:Hp) (xs:List V):Prop:=∃ ds,aO K H ds xs/\iX ds
theorem GV.keep (kt:∀ a xs,aT K H a xs->aT K H' a xs) (kl:∀ a xs,aS K H a xs->aS K H' a xs) {x:V} (h:GV K H x):GV K H' x:=by
 obtain⟨d,h1,h2⟩:=h
 exact⟨d,dv.eY kt kl d h1,h2⟩
theorem hV.keep (kt:∀ a xs,aT K H a xs->aT K H' a xs) (kl:∀ a xs,aS K H a xs->aS K H' a xs) {xs:List V} (h:hV K H xs):hV K H' xs:=by
 obtain⟨d,h1,h2⟩:=h
 exact⟨d,aO.eY kt kl d h1,h2⟩
theorem hV.nil:hV K H []:=⟨[],rfl,by simp only [iX]⟩
theorem hV.cons {x:V} {xs:List V} (h:GV K H x) (g:hV K H xs):hV K H (x::xs):=by
 obtain⟨d,h1,h2⟩:=h
 obtain⟨ds,g1,g2⟩:=g
 exact⟨d::ds,⟨x,xs,rfl,h1,g1⟩,by simp only [iX];exact⟨h2,g2⟩⟩
theorem hV.all {xs:List V} (h:hV K H xs):∀ x∈xs,GV K H x:=by
 obtain⟨ds,h1,h2⟩:=h
 intro x hx
 obtain⟨i,hi,e⟩:=List.mem_iff_getElem.mp hx
 have hx':xs[i]?=some x:=by rw [<- e];exact List.getElem?_eq_getElem hi
 obtain⟨d,e1,hv⟩:=h1.get hx'
 exact⟨d,hv,eG.mp h2 d (List.mem_of_getElem? e1)⟩
theorem hV.of:∀{xs:List V},(∀ x∈xs,GV K H x)->hV K H xs
 | [],_=>hV.nil
 | x::xs,h=>hV.cons (h x (List.mem_cons_self ..)) (hV.of λy hy=>h y (List.mem_cons_of_mem _ hy))
theorem GV.tup {p:Addr} {xs:List V} (hS:aT K H p xs) (h:hV K H xs):GV K H (.ref p):=by
 obtain⟨ds,h1,h2⟩:=h
 exact⟨.tuple ds,⟨p,xs,rfl,hS,h1⟩,by simp only [gd];exact h2⟩
theorem GV.lst {p:Addr} {xs:List V} (hS:aS K H p xs) (h:hV K H xs):GV K H (.ref p):=by
 obtain⟨ds,h1,h2⟩:=h
 exact⟨.list ds,⟨p,xs,rfl,hS,h1⟩,by simp only [gd];exact h2⟩
theorem GV.int {i:Int} (h0:-(10^90)<=i) (h1:i<=10^90):GV K H (.int i):=⟨.int i,rfl,by simp only [gd];exact⟨h0,h1⟩⟩
theorem GV.a9:GV K H .a9:=⟨.none,rfl,by simp only [gd]⟩
theorem GV.bl {b:Bool}:GV K H (.bl b):=⟨.bool b,rfl,by simp only [gd]⟩
theorem GV.str {x:Str} (h:PyData.canLay0 (.str x)=true):GV K H (.str x):=⟨.str x,rfl,by simp only [gd];exact h⟩
end
section
variable {X:Cx}
end
structure Z0 (d:PyData):Prop where
 g:gd d
 s:d.showable=true
 n:d.hasDict=false
 dp:d.depth<=3
 ln:d.shown.length<=100
def gz:Nat->PyData->Prop
 | 0,d=>Z0 d
 | n+1,d=>gz n d∨∃ ds,(d=.list ds∨d=.tuple ds)/\ds.length<=54/\∀ e∈ds,gz n e
theorem gz.up {n:Nat} {d:PyData} (h:gz n d):gz (n+1) d:=.inl h
theorem gz.gd:∀{n:Nat} {d:PyData},gz n d->L2.gd d
 | 0,_,h=>Z0.g h
 | n+1,_,h=>by
  rcases h with h | ⟨ds,rfl | rfl,_,h⟩
  ·exact gz.gd h
  ·simp only [L2.gd];exact eG.mpr λd hd=>gz.gd (h d hd)
  ·simp only [L2.gd];exact eG.mpr λd hd=>gz.gd (h d hd)
mutual
def mB (K:PySem.W.Frag) (H:Hp):PyData->V->Prop
 | .none,v=>v=.a9
 | .bool b,v=>v=.bl b
 | .int i,v=>v=.int i
 | .str x,v=>v=.str x
 | .list ds,v=>∃ p xs,v=.ref p/\H p=some (.lst xs)/\b8 K H ds xs
 | .tuple ds,v=>∃ p xs,v=.ref p/\aT K H p xs/\b8 K H ds xs
 | .dict _,_=>False
def b8 (K:PySem.W.Frag) (H:Hp):List PyData->List V->Prop
 | [],xs=>xs=[]
 | d::ds,xs=>∃ x r,xs=x::r/\mB K H d x/\b8 K H ds r
end
section
variable {K:PySem.W.Frag} {H H':Hp}
mutual
theorem mB.dv:∀{d:PyData} {v:V},mB K H d v->L2.dv K H d v
 | .none,_,h=>h
 | .bool _,_,h=>h
 | .int _,_,h=>h
 | .str _,_,h=>h
 | .list ds,_,⟨p,xs,e,h1,h2⟩=>⟨p,xs,e,aS.of h1,b8.aO h2⟩
 | .tuple ds,_,⟨p,xs,e,h1,h2⟩=>⟨p,xs,e,h1,b8.aO h2⟩
 | .dict _,_,h=>h.elim
theorem b8.aO:∀{ds:List PyData} {xs:List V},b8 K H ds xs->L2.aO K H ds xs
 | [],_,h=>h
 | d::ds,_,⟨x,r,e,h1,h2⟩=>⟨x,r,e,mB.dv h1,b8.aO h2⟩
end
mutual
theorem mB.keep (kt:∀ a xs,aT K H a xs->aT K H' a xs) (kl:∀(a:Addr) (xs:List V),H a=some (.lst xs)->H' a=some (.lst xs)):∀{d:PyData} {v:V},mB K H d v->mB K H' d v
 | .none,_,h=>h
 | .bool _,_,h=>h
 | .int _,_,h=>h
 | .str _,_,h=>h
 | .list ds,_,⟨p,xs,e,h1,h2⟩=>⟨p,xs,e,kl _ _ h1,b8.keep kt kl h2⟩
 | .tuple ds,_,⟨p,xs,e,h1,h2⟩=>⟨p,xs,e,kt _ _ h1,b8.keep kt kl h2⟩
 | .dict _,_,h=>h.elim
theorem b8.keep (kt:∀ a xs,aT K H a xs->aT K H' a xs) (kl:∀(a:Addr) (xs:List V),H a=some (.lst xs)->H' a=some (.lst xs)):∀{ds:List PyData} {xs:List V},b8 K H ds xs->b8 K H' ds xs
 | [],_,h=>h
 | d::ds,_,⟨x,r,e,h1,h2⟩=>⟨x,r,e,mB.keep kt kl h1,b8.keep kt kl h2⟩
end
theorem b8.get:∀{ds:List PyData} {xs:List V} {i:Nat} {x:V},b8 K H ds xs->xs[i]?=some x->∃ d,ds[i]?=some d/\mB K H d x
 | [],_,i,x,h,e=>by cases h;simp at e
 | d::ds,_,0,x,⟨y,r,h0,h1,h2⟩,e=>by
  subst h0
  cases e
  exact⟨d,rfl,h1⟩
 | d::ds,_,i+1,x,⟨y,r,h0,h1,h2⟩,e=>by
  subst h0
  exact b8.get (ds:=ds) (i:=i) h2 (by simpa using e)
end
def GZ (K:PySem.W.Frag) (n:Nat) (H:Hp) (x:V):Prop:=∃ d,mB K H d x/\gz n d
def cF (K:PySem.W.Frag) (n:Nat) (H:Hp) (xs:List V):Prop:=∃ ds,b8 K H ds xs/\∀ d∈ds,gz n d
section
variable {K:PySem.W.Frag} {n:Nat} {H H':Hp}
theorem GZ.up {x:V} (h:GZ K n H x):GZ K (n+1) H x:=by
 obtain⟨d,h1,h2⟩:=h
 exact⟨d,h1,h2.up⟩
theorem GZ.keep (kt:∀ a xs,aT K H a xs->aT K H' a xs) (kl:∀(a:Addr) (xs:List V),H a=some (.lst xs)->H' a=some (.lst xs)) {x:V} (h:GZ K n H x):GZ K n H' x:=by
 obtain⟨d,h1,h2⟩:=h
 exact⟨d,h1.keep kt kl,h2⟩
theorem cF.keep (kt:∀ a xs,aT K H a xs->aT K H' a xs) (kl:∀(a:Addr) (xs:List V),H a=some (.lst xs)->H' a=some (.lst xs)) {xs:List V} (h:cF K n H xs):cF K n H' xs:=by
 obtain⟨d,h1,h2⟩:=h
 exact⟨d,h1.keep kt kl,h2⟩
theorem cF.nil:cF K n H []:=⟨[],rfl,by simp⟩
theorem cF.cons {x:V} {xs:List V} (h:GZ K n H x) (g:cF K n H xs):cF K n H (x::xs):=by
 obtain⟨d,h1,h2⟩:=h
 obtain⟨ds,g1,g2⟩:=g
 exact⟨d::ds,⟨x,xs,rfl,h1,g1⟩,λe he=>(List.mem_cons.mp he).elim (λz=>z▸h2) (g2 e)⟩
theorem cF.all {xs:List V} (h:cF K n H xs):∀ x∈xs,GZ K n H x:=by
 obtain⟨ds,h1,h2⟩:=h
 intro x hx
 obtain⟨i,hi,e⟩:=List.mem_iff_getElem.mp hx
 have hx':xs[i]?=some x:=by rw [<- e];exact List.getElem?_eq_getElem hi
 obtain⟨d,e1,hv⟩:=h1.get hx'
 exact⟨d,hv,h2 d (List.mem_of_getElem? e1)⟩
theorem cF.of:∀{xs:List V},(∀ x∈xs,GZ K n H x)->cF K n H xs
 | [],_=>cF.nil
 | x::xs,h=>cF.cons (h x (List.mem_cons_self ..)) (cF.of λy hy=>h y (List.mem_cons_of_mem _ hy))
theorem cF.up {xs:List V} (h:cF K n H xs):cF K (n+1) H xs:=cF.of λx hx=>(h.all x hx).up
theorem cF.len {xs:List V} {ds:List PyData} (h:L2.aO K H ds xs):ds.length=xs.length:=by
 induction ds generalizing xs with
 | nil=>cases h;rfl
 | cons d ds ih =>
  obtain⟨x,r,rfl,_,h2⟩:=h
  rw [List.length_cons,List.length_cons,ih h2]
theorem GZ.tup {p:Addr} {xs:List V} (hS:aT K H p xs) (l:xs.length<=54) (h:cF K n H xs):GZ K (n+1) H (.ref p):=by
 obtain⟨ds,h1,h2⟩:=h
 exact⟨.tuple ds,⟨p,xs,rfl,hS,h1⟩,.inr ⟨ds,.inr rfl,by rw [cF.len h1.aO];exact l,h2⟩⟩
theorem GZ.lst {p:Addr} {xs:List V} (hS:H p=some (.lst xs)) (l:xs.length<=54) (h:cF K n H xs):GZ K (n+1) H (.ref p):=by
 obtain⟨ds,h1,h2⟩:=h
 exact⟨.list ds,⟨p,xs,rfl,hS,h1⟩,.inr ⟨ds,.inl rfl,by rw [cF.len h1.aO];exact l,h2⟩⟩
theorem qH {i:Int} (h0:-(10^90)<=i) (h1:i<=10^90):Z0 (.int i):=by
 have hb:i.natAbs<10^91:=by
  have e:(10:Nat)^91=10*10^90:=by decide
  have e1:((10^90:Nat):Int)=10^90:=by decide
  omega
 refine⟨by simp only [gd];exact⟨h0,h1⟩,?_,rfl,by simp only [PyData.depth];omega,?_⟩
 ·simp only [PyData.showable,decide_eq_true_eq]
  by_cases z:i.natAbs=0
  ·rw [z];decide
  ·rw [Nat.log2_lt z]
   exact Nat.lt_trans hb (by decide +kernel)
 ·show (Str.ofString (toString i)).length<=100
  rw [PySem.ofString_length]
  exact Nat.le_trans (int_text_length_le10 (by decide) hb) (by decide)
theorem GZ.int {i:Int} (h0:-(10^90)<=i) (h1:i<=10^90):GZ K 0 H (.int i):=⟨.int i,rfl,qH h0 h1⟩
theorem GZ.a9:GZ K 0 H .a9:=⟨.none,rfl,by simp only [gd],rfl,rfl,by decide,by decide +kernel⟩
theorem GZ.bl {b:Bool}:GZ K 0 H (.bl b):=⟨.bool b,rfl,by simp only [gd],rfl,rfl,by simp only [PyData.depth];omega,by cases b<;>decide +kernel⟩
theorem GZ.str {x:Str} (h:PyData.canLay0 (.str x)=true) (l:(reprText x).length<=100):GZ K 0 H (.str x):=⟨.str x,rfl,by simp only [gd];exact h,rfl,rfl,by simp only [PyData.depth];omega,l⟩
theorem gz.le {m:Nat}:∀{n:Nat} {d:PyData},m<=n->gz m d->gz n d
 | 0,_,l,h=>by
  obtain rfl:m=0:=by omega
  exact h
 | n+1,_,l,h=>by
  rcases (by omega:m=n+1∨m<=n) with rfl | z
  ·exact h
  ·exact (gz.le z h).up
theorem GZ.le {m n:Nat} {H:Hp} {x:V} (h:GZ K m H x) (l:m<=n):GZ K n H x:=by
 obtain⟨d,h1,h2⟩:=h
 exact⟨d,h1,h2.le l⟩
end
def tI:V->Option Int->Option Int->Hp->VK->Prop:=λx lo hi H Q=>∃ z:Str,x=.str z/\z.length<=sizeLine/\Q (.str (Txt.slice z lo hi)) H
theorem part_of {v:Value} {lo:Option Int} (h:IsPart v lo):∃ l:Option (Int × Tok),v=partValue l/\l.map (·.1)=lo:=by
 cases h with
 | none=>exact⟨none,rfl,rfl⟩
 | int i t=>exact⟨some (i,t),rfl,rfl⟩
theorem je {X:Cx}:pk X tI:=by
 intro pins s σ H x v vl vu lo hi sl Q I rx hs pl pu h
 obtain⟨z,rfl,hz,q⟩:=h
 obtain⟨t,rfl⟩:=rx
 obtain⟨l,rfl,rfl⟩:=part_of pl
 obtain⟨u,rfl,rfl⟩:=part_of pu
 obtain⟨o,h1,h2,h3⟩:=hs
 refine⟨"str",_,F.slot_str_getitem.lookup,typeIs_str _ _ _,wpAny_getItem_str_slice (l:=l) (u:=u) (st:=none) ⟨o,h1,h2,h3⟩ rfl ?_⟩
 refine post_val_or_str ⟨Nat.le_trans (Txt.slice_le z _ _) hz,λt' k=>⟨.str (Txt.slice z (l.map (·.1)) (u.map (·.1))),H,I.kept (t':=k) λ_ _ w=>w,⟨t',rfl⟩,q⟩⟩
def rJoin (K:PySem.W.Frag):V->List V->Hp->VK->Prop:=λx xs H Q=>∃(sep:Str) (a:Addr) (ts:List Str),x=.str sep/\xs=[.ref a]/\aS K H a (ts.map V.str)/\JoinOk sep ts=true/\Q (.str (Txt.join sep ts)) H
theorem jX:∀{ts:List Str} {us:List Value},Vals (ts.map V.str) us->∃ l:List (Str × Tok),us=strValues l/\l.map (·.1)=ts
 | [],us,h=>by
  cases h
  exact⟨[],rfl,rfl⟩
 | t::ts,us,h=>by
  cases h with
  | cons r h =>
   obtain⟨k,rfl⟩:=r
   obtain⟨l,rfl,rfl⟩:=jX h
   exact⟨(t,k)::l,rfl,rfl⟩
theorem jF {X:Cx}:ow X "str.join" (rJoin X.K):=by
 intro pins s σ H x xs v us Q I rx r h
 obtain⟨sep,a,ts,rfl,rfl,hl,ok,q⟩:=h
 obtain⟨t,rfl⟩:=rx
 obtain⟨u,rfl,ru⟩:=vals1 r
 cases ru
 obtain⟨its,rv,pl,hz⟩:=I.list hl
 obtain⟨l,rfl,e⟩:=jX rv
 exact SC.join pl.isList e ok λt' k=>⟨.str (Txt.join sep ts),H,I.kept (t':=k) λ_ _ w=>w,⟨t',rfl⟩,q⟩
def rT:List V->Hp->VK->Prop:=λxs H Q=>∃(x:Str) (n:Int),xs=[.str x]/\intText? x=some n/\x.length<=640/\Q (.int n) H
theorem fR {X:Cx}:bq X (.type "int") rT:=by
 intro pins s σ H xs us Q I r h
 obtain⟨x,n,rfl,hn,hl,q⟩:=h
 obtain⟨u,rfl,ru⟩:=vals1 r
 obtain⟨t,rfl⟩:=ru
 exact PySem.W.KIN.call_text hn hl ⟨.int n,H,I.kept (t':=s.toks+1) λ_ _ w=>w,⟨_,rfl⟩,q⟩
def rV:R2:=λx y H Q=>∃(z:Str) (n:Int),x=.str z/\y=.int n/\MulOk z n/\Q (.str (Txt.mul z n)) H
theorem ny {X:Cx}:c7 X (binaryOp .Mult) rV:=by
 intro pins s σ H x y v u Q I rx ry h
 obtain⟨z,n,rfl,rfl,ok,q⟩:=h
 obtain⟨t,rfl⟩:=rx
 obtain⟨t2,rfl⟩:=ry
 exact SB.mul ok λt' k=>⟨.str (Txt.mul z n),H,I.kept (t':=k) λ_ _ w=>w,⟨t',rfl⟩,q⟩
def uB:PyData->Bool
 | .str _=>true
 | _=>false
theorem boot_str:bootBuiltins "str"=some (.type "str"):=by rfl
theorem j5:bootBuiltins "str"=some (.type "str"):=by rfl
theorem gG {K:PySem.W.Frag} {H:Hp} {d:PyData} {x:V} {Q:VK} (h:dv K H d x) (q:Q (.bl (uB d)) H):fh K [x,.ty "str"] H Q:=by
 refine⟨d,x,"str",_,rfl,h,?_,q⟩
 cases d<;>first | exact h.elim | with_unfolding_all rfl
def jM (K:PySem.W.Frag):List V->Hp->VK->Prop:=λxs H Q=>∃ d x p b,xs=[x,.ref p]/\dv K H d x/\H p=some (.tup [.ty "tuple",.ty "list"])/\PySem.W.kitAny K (.type (uo d)) [.type "tuple",.type "list"]=some b/\Q (.bl b) H
theorem j8 {X:Cx}:bq X (.builtin "isinstance") (jM X.K):=by
 intro pins s σ H xs us Q I r h
 obtain⟨d,x,p,b,rfl,hd,hp,ek,q⟩:=h
 obtain⟨u,w',rfl,rx,rc⟩:=vals2 r
 cases rc
 obtain⟨its,rv,pl,hz⟩:=I.tuple (aT.of hp)
 obtain⟨o,h1,h2,n,h3⟩:=pl
 have ei:its=[.type "tuple",.type "list"]:=by
  cases rv with
  | cons r1 r2 =>
   cases r2 with
   | cons r3 r4 =>
    cases r4
    cases (show _=Value.type "tuple" from r1)
    cases (show _=Value.type "list" from r3)
    rfl
 subst ei
 obtain⟨oc,od,odt,os⟩:=o
 cases h2
 cases h3
 have fin:∀ tk,∃ v' H',Inv X pins σ H' { s with toks:=tk }/\RelV v' (.bool b)/\Q v' H':=λtk=>⟨.bl b,H,I.tok _,rfl,q⟩
 cases d with
 | none=>cases hd;cases (show u=Value.none from rx);exact PySem.W.kia_tup PySem.W.kitx_none I.eC True.intro h1 ek (λz=>nomatch z) fin
 | bool y=>cases hd;cases (show u=Value.bool y from rx);exact PySem.W.kia_tup PySem.W.kitx_bool I.eC True.intro h1 ek (λz=>nomatch z) fin
 | int y=>cases hd;obtain⟨t,e⟩:=(show ∃ t,u=Value.int y t from rx);cases e;exact PySem.W.kia_tup PySem.W.kitx_int I.eC True.intro h1 ek (λz=>nomatch z) fin
 | str y=>cases hd;obtain⟨t,e⟩:=(show ∃ t,u=Value.str y t from rx);cases e;exact PySem.W.kia_tup PySem.W.kitx_str I.eC True.intro h1 ek (λz=>nomatch z) fin
 | list ds =>
  obtain⟨p',ys,rfl,h,t⟩:=hd
  cases rx
  obtain⟨its,rr,pl,_⟩:=I.list h
  obtain⟨o,g1,g2,_⟩:=pl.isList
  exact PySem.W.kia_tup PySem.W.kitx_list I.eC ⟨o,g1,g2⟩ h1 ek (λz=>nomatch z) fin
 | tuple ds =>
  obtain⟨p',ys,rfl,h,t⟩:=hd
  cases rx
  obtain⟨its,rr,pl,_⟩:=I.tuple h
  obtain⟨o,g1,g2,_⟩:=pl
  exact PySem.W.kia_tup PySem.W.kitx_tuple I.eC ⟨o,g1,g2⟩ h1 ek (λz=>nomatch z) fin
 | dict _=>exact hd.elim
theorem lq {K:PySem.W.Frag} {H:Hp} {d:PyData} {x:V} {p:Addr} {Q:VK} (h:dv K H d x) (hp:H p=some (.tup [.ty "tuple",.ty "list"])) (q:Q (.bl (rq d || rz d)) H):jM K [x,.ref p] H Q:=by
 refine⟨d,x,p,_,rfl,h,hp,?_,q⟩
 cases d<;>first | exact h.elim | with_unfolding_all rfl
def lj (K:PySem.W.Frag) (tl:TE):TI:=λσ H R=>lh K tl σ H R∨pK K tl σ H R
theorem i9 {X:Cx} {tg l:Expr} {tl:TE} (hl:PE X l tl):PI X tg l (lj X.K tl):=by
 intro pins s σ H R I h
 rcases h with h | h
 ·exact nJ hl pins s σ H R I h
 ·exact qi hl pins s σ H R I h
def tW (k:Sd) (K:PySem.W.Frag) (a:Addr):It:=match k with
 | .l=>sG K a
 | .t=>sH K a
theorem eW {K:PySem.W.Frag} {i:Nat} {σ:St} {H:Hp} {R:It->Hp->Prop} {a:Addr} {k:Sd} {xs:List V} (e:σ[i]?=some (some (.ref a))) (h:eQ k K H a xs) (r:R (tW k K a) H):lj K (cE i) σ H R:=by
 cases k
 ·exact .inl ⟨.ref a,e,a,rfl,⟨xs,h⟩,r⟩
 ·exact .inr ⟨.ref a,e,a,rfl,⟨xs,h⟩,r⟩
theorem dO {K:PySem.W.Frag} {k:Sd} {a:Addr} {xs:List V} {js:List (Option Nat)} {g:TG} {tt:TT} {te:TE} {σ:St} {Q:VK} {H1:Hp} (Pv:Nat->List V->Hp->Prop) (h0:Pv 0 [] H1) (hx:xs.length<=sizeLine) (hl:∀ i ys H,i<=xs.length->Pv i ys H->eQ k K H a xs/\ys.length<=i)
  (hs:∀ i x ys H,xs[i]?=some x->Pv i ys H->g x (br js σ) H λσ2 H2=>aV (br js σ) σ2/\tt σ2 H2 λb H3=>if b=true then te σ2 H3 λv H4=>Pv (i+1) (ys++[v]) H4 else Pv (i+1) ys H3)
  (hd:∀ ys H p,Pv xs.length ys H->H p=none->Q (.ref p) (upd H p (.lst ys))):cX (tW k K a) js g tt te σ Q H1:=by
 cases k
 ·exact iS Pv h0 hx hl hs hd
 ·exact kd Pv h0 hx hl hs hd
def lZ:List V->Hp->VK->Prop:=λxs H Q=>(∃ i,xs=[.int i]/\i.natAbs.log2<1920/\Q (.str (toString i)) H)∨∃ x,xs=[.str x]/\Q (.str x) H
theorem dJ {X:Cx}:bq X (.type "str") lZ:=by
 intro pins s σ H xs us Q I r h
 rcases h with h | ⟨x,rfl,q⟩
 ·exact gv pins s σ H xs us Q I r h
 ·obtain⟨u,rfl,ru⟩:=vals1 r
  obtain⟨t,rfl⟩:=ru
  exact PySem.P.str_of_str ⟨.str x,H,I,⟨t,rfl⟩,q⟩
end L2
set_option maxHeartbeats 8000000
namespace K
open PySem PySem.Spec PyProof.Rows L2
def top (i:Nat):Stmt:=PySem.Challenge.pw_rootprime_k78_things_written_and_read.main.body.getD i (.Pass ⟨0,0,0,0⟩)
theorem rC {us:List Value} (h:us.length=1):∃ a,us=[a]:=match us,h with | [a],_=>⟨a,rfl⟩
theorem rD {us:List Value} (h:us.length=2):∃ a b,us=[a,b]:=match us,h with | [a,b],_=>⟨a,b,rfl⟩
theorem rE {us:List Value} (h:us.length=3):∃ a b c,us=[a,b,c]:=match us,h with | [a,b,c],_=>⟨a,b,c,rfl⟩
theorem rF {us:List Value} (h:us.length=4):∃ a b c d,us=[a,b,c,d]:=match us,h with | [a,b,c,d],_=>⟨a,b,c,d,rfl⟩
theorem rG {us:List Value} (h:us.length=5):∃ a b c d e,us=[a,b,c,d,e]:=match us,h with | [a,b,c,d,e],_=>⟨a,b,c,d,e,rfl⟩
theorem rH {us:List Value} (h:us.length=6):∃ a b c d e f,us=[a,b,c,d,e,f]:=match us,h with | [a,b,c,d,e,f],_=>⟨a,b,c,d,e,f,rfl⟩
theorem hJ {N P:List Str} {sc:Scope} (a:sc.kind=.function:=by exact rfl) (b:sc.isCoroutine=false:=by exact rfl) (c:sc.isGenerator=false:=by exact rfl) (d:N.Nodup:=by decide +kernel) (e:N.take P.length=P:=by exact rfl) (f:∀ x∈P,sc.names.lookup x=some .local∨sc.names.lookup x=some .cell:=by decide +kernel) (g:∀ y∈sc.names,y.2≠.free:=by decide +kernel):aD N P sc:=⟨a,b,c,d,e,f,g⟩
theorem hG {F:PySem.W.Frag} {mg:Str->Option Value} {x:Str} {h:Heap} {f:Addr} {st:Stmt} {oc:Value} {od an:Option Addr} {osl:Array (Option Value)} {kV doc pm cdv ct:Value} (X:F.In h) (G:h.Ns mainGlobals mg) (a:PySem.W.nsIn F mainGlobals x=some (some (.ref f)):=by k_is) (l:F.lookup f=some ⟨oc,od,.func (PySem.W.fnOf x x (bo st) (aW st) (ao st) .none kV doc pm an cdv ct),osl⟩:=by k_is) (c:PySem.W.codeIn F cdv x=true:=by k_is) (kk:PySem.W.keepIn F (.ref f)=true:=by k_is):az (fE X) mg x st:=kU X G a l c kk
theorem sM {X:Cx} {N':List Str} {js:List (Option Nat)} {scope:Scope} {cl:List (Str × Addr)} (clos:closureFor scope X.env=pure cl) (kind:scope.kind=.function) (nocell:∀ y∈scope.names,y.2=.cell->scope.names.lookup y.1=some .cell/\∀ p∈js.zip N',p.1.isSome=true->p.2≠y.1:=by decide +kernel) (names:∀ y∈scope.names,y.2=.local->scope.names.lookup y.1=some .local:=by decide +kernel) (sub:AllIn X.env cl:=by repeat (first | exact True.intro | refine⟨rfl,?_⟩)) (has:dH cl scope.names:=by repeat (first | exact True.intro | refine⟨rfl,?_⟩ | refine⟨True.intro,?_⟩)) (j:cY X scope cl js N':=by repeat (first | exact True.intro | refine⟨⟨rfl,rfl,.inl rfl,.inl rfl⟩,?_⟩)):eO X N' js scope cl:=pE clos kind nocell names sub has j
theorem cL {X:Cx} {pos:Pos} {i:Nat} {x:Str} {e:Expr} {te:TE} {pos':Pos} (hN:X.N.Nodup) (he:PE X e te) (hi:X.N[i]?=some x:=by exact rfl) (hx:Loc X.env.scope x:=by exact Or.inl rfl) (hs:swapsWith e (some (.Name x pos')) pos.line X.env=pure false:=by rfl) (hf:X.fn x=true∨X.env.scope.names.lookup x=some .local:=by first | exact .inl rfl | exact .inr rfl | assumption):PS X (.Assign [.Name x pos'] e pos) (oh te (cf i)):=qk hN hi hx he hs hf
theorem bT {X:Cx} {CX:fD} {k n:Nat} {x:Str} {ps:List Str} {sp:Sp} {E:XK} {e:Expr} {es:List Expr} {t:TA} {p pos:Pos} (C:Callee X.prog X.w X.K X.mg X.base CX k x ps sp) (hr:bC n X.A) (hx:Passes CX X E) (ha:PA X (e::es) t) (hm:k<=n:=by decide) (hg:Gl X x:=by exact rfl) (hdb:(x==("__debug__":Str))=false:=by decide) (he:starEach (e::es) X.env=(false,eval e X.env)::starEach es X.env:=by rfl) (hpl:(backTo pos (starEach es X.env)).any (·.1)=false:=by rfl):PE X (.Call (.Name x p) (e::es) [] pos) (cP sp [] E t):=ba C (hr.mono hm) hg hx ha hdb he hpl
theorem cO {P:Program} {w:World} {F:PySem.W.Frag} {mg:Str->Option Value} {base:Heap} {k:Nat} {x:Str} {ps:List Str} {sp:Sp} {st:Stmt} {N:List Str} (D:az F mg x st) (S:aD N ps (ao st))
  (hbody:∀(f:Addr) (cdv:Value) (A:Around) (outer:List Env) (s:Shared) (H:Hp) (vs:List V) (Q:VK) (E:XK),bC k (A.deeper (envOfC x (ao st) s.heap.objs.size f cdv))->sp vs H Q E->∃ t,gq (fG aZ P w F mg base N x (ao st) f cdv A outer s H E).kx (aW st) t/\t { nx:=λ_ H'=>Q .a9 H',rt:=Q } (start N vs) H)
  (hb:∀(kV doc pm:Value) (an:Option Addr) (cdv ct:Value) (us:List Value),us.length=ps.length->bindArgs (PySem.W.fnOf x x (bo st) (aW st) (ao st) .none kV doc pm an cdv ct) ⟨us,[]⟩=pure (ps.zip us):=by
    intro _ _ _ _ _ _ us hl
    first | (obtain⟨_,rfl⟩:=rC hl;exact rfl) | (obtain⟨_,_,rfl⟩:=rD hl;exact rfl) | (obtain⟨_,_,_,rfl⟩:=rE hl;exact rfl) | (obtain⟨_,_,_,_,rfl⟩:=rF hl;exact rfl) | (obtain⟨_,_,_,_,_,rfl⟩:=rG hl;exact rfl) | (obtain⟨_,_,_,_,_,_,rfl⟩:=rH hl;exact rfl))
  (len:∀ vs H Q E,sp vs H Q E->vs.length=ps.length:=by
    intro _ _ _ _ h
    first | (obtain⟨_,rfl,_⟩:=h;rfl) | (obtain⟨_,_,rfl,_⟩:=h;rfl) | (obtain⟨_,_,_,rfl,_⟩:=h;rfl) | (obtain⟨_,_,_,_,rfl,_⟩:=h;rfl) | (obtain⟨_,_,_,_,_,rfl,_⟩:=h;rfl) | (obtain⟨_,_,_,_,_,_,rfl,_⟩:=h;rfl) | (obtain⟨_,_,_,_,_,_,_,rfl,_⟩:=h;rfl) | (obtain⟨_,_,_,_,_,_,_,_,rfl,_⟩:=h;rfl) | (obtain⟨_,_,_,_,_,_,_,_,_,rfl,_⟩:=h;rfl) | (obtain⟨_,_,_,_,_,_,_,_,_,_,rfl,_⟩:=h;rfl) | (obtain⟨_,_,_,_,_,_,_,_,_,_,_,rfl,_⟩:=h;rfl) | (obtain⟨_,_,_,_,_,_,_,_,_,_,_,_,rfl,_⟩:=h;rfl) | (obtain⟨_,_,_,_,_,_,_,_,_,_,_,_,_,rfl,_⟩:=h;rfl) | (obtain⟨_,_,_,_,_,_,_,_,_,_,_,_,_,_,rfl,_⟩:=h;rfl) | (obtain⟨_,_,_,_,_,_,_,_,_,_,_,_,_,_,_,rfl,_⟩:=h;rfl)):Callee P w F mg base aZ (k+1) x ps sp:=j9 D hb S len hbody
end K
local macro_rules | `(tactic| k_data) => `(tactic| (iterate 2 ((try dsimp only [L2.b9, L2.tP, L2.sx, L2.bP, L2.fK, L2.tK, L2.cE, L2.tC, L2.qC, L2.rI, L2.oP, L2.rU, L2.um, L2.mi, L2.oh, L2.cf, L2.qE, L2.sy, L2.om, L2.sh, L2.tO, L2.qA, L2.o7, L2.rX, L2.uj, L2.so, L2.oW, L2.su, L2.sr, L2.tB, L2.rY, L2.oZ, L2.jx, L2.pI, L2.cP, L2.oj, L2.qB, L2.oC, L2.rm, L2.ro, L2.lh, L2.pK, L2.uk, L2.tQ, L2.o9, L2.jY, L2.gh, L2.tF, L2.uf, L2.uh, L2.rZ, L2.uE, L2.tm, L2.oX, L2.oR, L2.oY, L2.gZ, L2.rj, L2.pJ, L2.tu, L2.oD, L2.qD, L2.tT, L2.tS, L2.uF, L2.tR, L2.sC, L2.mU, L2.jy, L2.sj, L2.si, L2.tN, L2.tJ, L2.nS, L2.tM, L2.oi, L2.qz, L2.qy, L2.qx, List.getElem?_cons_zero, List.getElem?_cons_succ, List.set_cons_zero, List.set_cons_succ, List.nil_append, List.cons_append, L2.qR, L2.uA, L2.q4]); (try simp only [Option.some.injEq, exists_eq_left', exists_and_left, List.cons.injEq, L2.V.int.injEq, L2.V.bl.injEq, and_true, true_and, and_assoc, decide_eq_true_eq, List.append_nil, Int.reduceToNat, Int.reducePow, Int.reduceLT, Int.reduceLE, Int.reduceNeg, Int.zero_add, Nat.reducePow, Nat.reduceLT, Int.reduceAdd, Int.reduceSub, Int.reduceMul, L2.V.ref.injEq, L2.aF, L2.mn, exists_eq_left, exists_eq', exists_eq, exists_const, L2.nW, L2.nU, L2.nX, L2.nY, L2.nZ, L2.nV, L2.n8, reduceIte, reduceCtorEq, Bool.not_eq_true', decide_eq_false_iff_not, Int.reduceAbs, Bool.not_true, Bool.not_false, if_true, Bool.false_eq_true, if_false]))))
namespace K
open PySem PySem.Spec PyProof.Rows L2
section
variable {P:Program} {w:World} {K:PySem.W.Frag} {mg:Str->Option Value} {base:Heap}
theorem qM {i:Int} (h:(decide (i.natAbs<10^250))=true):Bd i:=Nat.lt_of_lt_of_le (of_decide_eq_true h) kN
def jZ (l:Addr) (i j:Int):HO:=.dK [(Sum.inr "cells",.ref l),(Sum.inr "spot",.int i),(Sum.inr "left",.int j)]
def Tp (p:Addr) (n:Nat) (H:Hp):Prop:=∃(l:Addr) (i j:Int) (ns:List Int),H p=some (jZ l i j)/\H l=some (.lst (ns.map V.int))/\ns.length<=63/\0<=i/\i<=n
def Off (p:Addr) (H H':Hp):Prop:=∀ b,b≠p->H' b=H b
def cZ (p:Addr) (H H':Hp):Prop:=∀ b o,b≠p->H b=some o->H' b=some o
theorem Off.cV {p:Addr} {H H':Hp} (h:Off p H H'):cZ p H H':=λb o n e=>by rw [h b n];exact e
theorem cZ.trans {p:Addr} {H H1 H2:Hp} (h:cZ p H H1) (h':cZ p H1 H2):cZ p H H2:=λb o n e=>h' b o n (h b o n e)
theorem Off.trans {p:Addr} {H H1 H2:Hp} (h:Off p H H1) (h':Off p H1 H2):Off p H H2:=λb n=>(h' b n).trans (h b n)
theorem cZ.of {p:Addr} {H H':Hp} (h:aE H H'):cZ p H H':=λb o _ e=>h b o e
theorem Off.qG {p:Addr} {H:Hp} {o:HO}:Off p H (upd H p o):=λb n=>ak n
theorem Tp.ne {p b:Addr} {n:Nat} {H:Hp} {o:HO} (h:Tp p n H) (e:H b=some o) (z:∀ kvs,o≠.dK kvs):b≠p:=by
 obtain⟨l,i,j,ns,a,_⟩:=h
 exact fW e a (z _)
theorem jH:∀{L:List V},(∀ x∈L,∃ c,x=V.int c)->∃ ns:List Int,L=ns.map V.int
 | [],_=>⟨[],rfl⟩
 | x::L,h=>by
  obtain⟨c,e⟩:=h x (List.mem_cons_self ..)
  obtain⟨ns,z⟩:=jH (L:=L) λy hy=>h y (List.mem_cons_of_mem _ hy)
  exact⟨c::ns,by rw [e,z];rfl⟩
theorem kR {ns:List Int} {lo hi:Option Int}:∃ ns':List Int,iT (ns.map V.int) lo hi=ns'.map V.int/\ns'.length<=ns.length:=by
 obtain⟨ns',e⟩:=jH (L:=iT (ns.map V.int) lo hi) λx hx=>by
  unfold iT at hx
  obtain⟨c,_,e⟩:=List.mem_map.mp (List.mem_of_mem_drop (List.mem_of_mem_take hx))
  exact⟨c,e.symm⟩
 refine⟨ns',e,?_⟩
 have:=d4 (ns.map V.int) lo hi
 rw [e,List.length_map,List.length_map] at this
 exact this
theorem dA:aD ["_law_script"] ["_law_script"] (ao (top 19)):=hJ
section
variable {H:Hp} {p l:Addr} {i j i' j':Int}
theorem g7 (h:H p=some (jZ l i j)):cQ H p (.str "left") (some (.int j)):=cQ.k (k:=Sum.inr "left") h
theorem oo (h:H p=some (jZ l i j)):cQ H p (.str "spot") (some (.int i)):=cQ.k (k:=Sum.inr "spot") h
theorem ml (h:H p=some (jZ l i j)):cQ H p (.str "cells") (some (.ref l)):=cQ.k (k:=Sum.inr "cells") h
theorem iI (h:H p=some (jZ l i j)):hU H p (.str "left") (.int j') (upd H p (jZ l i j')):=.inl ⟨_,Sum.inr "left",h,rfl,by show 3<sizeLine;decide,rfl⟩
theorem mm (h:H p=some (jZ l i j)):hU H p (.str "spot") (.int i') (upd H p (jZ l i' j)):=.inl ⟨_,Sum.inr "spot",h,rfl,by show 3<sizeLine;decide,rfl⟩
end
theorem dy:aD ["_law_tape_here","_law_many","_law_found","_law_spot","_law_cells","_law_cell","_law_seed"] ["_law_tape_here","_law_many"] (ao (top 20)):=hJ
end
end K
namespace L2
open PySem PySem.Spec PyProof.Rows
theorem nH {X:Cx} {pos:Pos} {es:List Expr} {k:Nat} {t:ox} {n:Nat} (K:PySem.W.Frag) (e:X.K=K) (hc:X.calm=true) (h:qX X es t)
  (hn:(assignEach es X.env).length=n:=by rfl) (hst:(assignEach es X.env).findIdx? (·.1)=none:=by rfl):PG X (.Tuple es k pos) (mT K n t):=e▸qh hc h hn hst
end L2
namespace K
open PySem PySem.Spec PyProof.Rows L2
section
variable {P:Program} {w:World} {K:PySem.W.Frag} {mg:Str->Option Value} {base:Heap}
def S (l:List Nat):Str:=⟨l.toArray⟩
theorem fM (l:List Nat):(S l).cps.toList=l:=rfl
theorem aN (l:List Nat):(S l).length=l.length:=rfl
theorem iP (x:Str):x=S x.cps.toList:=by cases x;rfl
theorem cG (l m:List Nat):S l++S m=S (l++m):=by
 show (⟨l.toArray++m.toArray⟩:Str)=⟨(l++m).toArray⟩
 simp
theorem kL {l m:List Nat} (h:S l=S m):l=m:=by
 have:=congrArg (λx:Str=>x.cps.toList) h
 exact this
theorem ph {l:List Nat} {i:Nat}:(S l).cps[i]?=l[i]?:=by
 show l.toArray[i]?=l[i]?
 simp
theorem oE {l:List Nat} {a:Nat}:∀{c:Nat},a+c<=l.length->((List.range c).map λk=>a+k).filterMap ((S l).cps[·]?)=(l.drop a).take c
 | 0,_=>by simp
 | c+1,h=>by
  have hl:a+c<l.length:=by omega
  rw [List.range_succ,List.map_append,List.filterMap_append,oE (by omega),List.take_add_one]
  congr 1
  simp only [List.map_cons,List.map_nil,List.filterMap_cons,List.filterMap_nil,List.getElem?_drop]
  rw [ph,List.getElem?_eq_getElem hl]
  rfl
theorem idx_eq {i j n:Nat}:Builtin.Str.strSliceIndices (some (i:Int)) (some (j:Int)) 1 n=(List.range (min j n-min i n)).map λk=>min i n+k:=by
 unfold Builtin.Str.strSliceIndices sliceRange
 simp only [show (1:Int) > 0 by decide,if_true,if_neg (show ¬(i:Int)<0 by omega),if_neg (show ¬(j:Int)<0 by omega)]
 have e1:max 0 (min (i:Int) n)=((min i n:Nat):Int):=by omega
 have e2:max 0 (min (j:Int) n)=((min j n:Nat):Int):=by omega
 rw [e1,e2]
 have e3:(if ((min i n:Nat):Int)<((min j n:Nat):Int) then (((min j n:Nat):Int)-((min i n:Nat):Int)+1-1)/1 else 0).toNat=min j n-min i n:=by
  split
  ·rw [Int.ediv_one];omega
  ·simp;omega
 rw [e3]
 refine List.map_congr_left λk _=>?_
 omega
theorem jS {l:List Nat} {i j:Nat}:Txt.slice (S l) (some (i:Int)) (some (j:Int))=S ((l.drop i).take (j-i)):=by
 have key:(l.drop (min i l.length)).take (min j l.length-min i l.length)=(l.drop i).take (j-i):=by
  rcases Nat.lt_or_ge i l.length with h | h
  ·rw [Nat.min_eq_left (Nat.le_of_lt h)]
   rcases Nat.lt_or_ge j l.length with h2 | h2
   ·rw [Nat.min_eq_left (Nat.le_of_lt h2)]
   ·rw [Nat.min_eq_right h2,List.take_of_length_le (by rw [List.length_drop];omega),List.take_of_length_le (by rw [List.length_drop];omega)]
  ·rw [Nat.min_eq_right h,List.drop_length,List.drop_of_length_le h]
   simp
 unfold Txt.slice
 rw [aN,idx_eq]
 split
 ·rename_i h
  simp only [beq_self_eq_true,Bool.true_and,beq_iff_eq,List.length_map,List.length_range] at h
  rw [<- key]
  have:min i l.length=0/\min j l.length=l.length∨l.length=0:=by omega
  rcases this with⟨h1,h2⟩ | h1
  ·rw [h1,h2,List.drop_zero,Nat.sub_zero,List.take_length]
  ·have:l=[]:=List.length_eq_zero_iff.mp h1
   subst this
   simp
 ·rw [oE (by omega),key]
  rfl
def run (sg:List Nat):Nat->List Nat->Nat
 | 0,_=>0
 | _+1,[]=>0
 | m+1,c::r=>if c∈sg then run sg m r+1 else 0
theorem bI {sg:List Nat}:∀{m:Nat} {r:List Nat},run sg m r<=m/\run sg m r<=r.length
 | 0,r=>⟨Nat.le_refl _,Nat.zero_le _⟩
 | m+1,[]=>⟨Nat.zero_le _,Nat.zero_le _⟩
 | m+1,c::r=>by
  have:=bI (sg:=sg) (m:=m) (r:=r)
  unfold run
  split
  ·exact⟨by omega,by rw [List.length_cons];omega⟩
  ·exact⟨Nat.zero_le _,Nat.zero_le _⟩
theorem l7 {sg:List Nat}:∀{k m:Nat} {r:List Nat},k<=run sg m r->run sg m r=k+run sg (m-k) (r.drop k)
 | 0,m,r,_=>by simp
 | k+1,0,r,h=>by simp [run] at h
 | k+1,m+1,[],h=>by simp [run] at h
 | k+1,m+1,c::r,h=>by
  have e:run sg (m+1) (c::r)=if c∈sg then run sg m r+1 else 0:=rfl
  rw [e] at h ⊢
  by_cases hc:c∈sg
  ·rw [if_pos hc] at h ⊢
   have:=l7 (sg:=sg) (k:=k) (m:=m) (r:=r) (by omega)
   rw [List.drop_succ_cons,Nat.add_sub_add_right]
   omega
  ·rw [if_neg hc] at h
   omega
def md:Sp:=λvs H Q _=>∃(l sg:List Nat) (i m:Nat),vs=[.str (S l),.int i,.str (S sg),.int m]/\i<=l.length/\l.length<=10^6/\Q (.int ((i+run sg m (l.drop i):Nat):Int)) H
theorem fv:aD ["text","at","signs","most","end"] ["text","at","signs","most"] (ao (top 6)):=hJ
theorem pZ (D:az K mg "run_end" (top 6)) (n_len:mg "len"=none):Callee P w K mg base aZ 1 "run_end" ["text","at","signs","most"] md:=by
 refine cO D fv (λf cdv A outer s H vs Q E hr h=>?_)
 obtain⟨l,sg,i,m,rfl,il,l6,q⟩:=h
 have nd:=fv.nd
 refine⟨_,(af (cL (i:=4) nd (pv 1)) (af (iC PassesOwn.never (PW.pt (gR (aq ix (pv 4) (ax bV rfl n_len PySem.boot_len (aa (pv 0) ae)) (ar _)) (gR (aq ix (av bx (pv 4) (pv 1)) (pv 3) (ar _)) (jL (aq fY (cn (pv 0) (pv 4) (λ_ _=>rfl)) (pv 2) (by with_unfolding_all rfl)))))) (ai (lW (i:=4) nd rfl (Or.inl rfl) ag (oF jz)))) (ai (aw (pv 4))))),?_⟩
 show b9 _ _ _ [some (.str (S l)),some (.int i),some (.str (S sg)),some (.int m),none] H
 k_data
 refine iL (α:=Nat) (λk=>[some (.str (S l)),some (.int (i:Int)),some (.str (S sg)),some (.int (m:Int)),some (.int ((i+k:Nat):Int))]) (λk H'=>H'=H/\k<=run sg m (l.drop i)) (λk=>l.length-k) 0 rfl ⟨rfl,Nat.zero_le _⟩ ?_
 rintro k H' ⟨rfl,hk⟩
 replace hk:k<=run sg m (l.drop i):=hk
 k_data
 have sz:l.length<=sizeLine:=Nat.le_trans l6 (by decide)
 have rl:=bI (sg:=sg) (m:=m) (r:=l.drop i)
 rw [List.length_drop] at rl
 have ra:=l7 hk
 rw [List.drop_drop] at ra
 refine⟨_,rfl,sz,?_⟩
 have done:run sg (m-k) (l.drop (i+k))=0->Q (V.int ((i+k:Nat):Int)) H':=λz=>by
  rw [z,Nat.add_zero] at ra
  rw [ra] at q
  exact q
 refine aL (λc1=>?_) (λc1=>done ?_)
 rotate_left
 ·rw [aN] at c1
  rw [List.drop_of_length_le (by omega)]
  cases m-k<;>rfl
 rw [aN] at c1
 refine aL (λc2=>?_) (λc2=>done ?_)
 rotate_left
 ·rw [show m-k=0 by omega]
  rfl
 have hl:i+k<l.length:=by omega
 obtain⟨m',hm⟩:∃ m',m-k=m'+1:=⟨m-k-1,by omega⟩
 have hd:l.drop (i+k)=l[i+k]::l.drop (i+k+1):=List.drop_eq_getElem_cons hl
 refine⟨_,rfl,by omega,by omega,by rw [aN];omega,l[i+k],by rw [Int.toNat_natCast,ph];exact List.getElem?_eq_getElem hl,?_⟩
 have fo:=PySem.StrLaws.found_one (S sg) l[i+k]
 rw [fM] at fo
 refine⟨_,rfl,_,rfl,?_⟩
 refine aL (λc3=>?_) (λc3=>done ?_)
 rotate_left
 ·rw [hm,hd]
  show (if l[i+k]∈sg then _ else 0)=0
  rw [if_neg λz=>c3 (by rw [decide_eq_true z] at fo;simpa using fo)]
 replace c3:l[i+k]∈sg:=by
  rw [c3] at fo
  simpa using fo
 refine⟨_,λ_ _ z=>z,k+1,?_,rfl,?_,?_⟩
 ·rw [show ((i+(k+1):Nat):Int)=((i+k:Nat):Int)+1 by omega]
 ·have e:run sg (m-k) (l.drop (i+k))=run sg m' (l.drop (i+k+1))+1:=by
   rw [hm,hd]
   show (if l[i+k]∈sg then _ else 0)=_
   rw [if_pos c3]
  show k+1<=run sg m (l.drop i)
  omega
 ·show l.length-(k+1)<l.length-k
  omega
def cR:List Nat:=[48,49,50,51,52,53,54,55,56,57]
def cj:List Nat:=[97,98,99,100,101,102,103,104,105,106,107,108,109,110,111,112,113,114,115,116,117,118,119,120,121,122]
def pz:List Nat:=[45,40,41,32]
theorem oz:Str.ofString "0123456789"=S cR:=by decide +kernel
theorem lC:Str.ofString "abcdefghijklmnopqrstuvwxyz"=S cj:=by decide +kernel
theorem qY:Str.ofString "-() "=S pz:=by decide +kernel
theorem m8:Str.ofString "-"=S [45]:=by decide +kernel
theorem qI:Str.ofString "0"=S [48]:=by decide +kernel
def aG (r:List Nat):Nat:=if r.head?=some 45 then (if r.tail.head?=some 48 then 0 else if run cR 60 r.tail=0 then 0 else run cR 60 r.tail+1) else if r.head?=some 48 then 1 else run cR 60 r
theorem take1 {r:List Nat} {c:Nat}:V.str (S (r.take 1))=V.str (S [c])↔r.head?=some c:=by
 constructor
 ·intro h
  have h:=kL (V.str.inj h)
  cases r with
  | nil=>cases h
  | cons x xs=>cases h;rfl
 ·intro h
  cases r with
  | nil=>cases h
  | cons x xs=>cases h;rfl
theorem jf {l:List Nat} {i:Nat}:Txt.slice (S l) (some (i:Int)) (some ((i:Int)+1))=S ((l.drop i).take 1):=by
 rw [show (i:Int)+1=((i+1:Nat):Int) by omega,jS,show i+1-i=1 by omega]
theorem ky {r:List Nat}:aG r<=r.length:=by
 have h1:=(bI (sg:=cR) (m:=60) (r:=r)).2
 have h2:=(bI (sg:=cR) (m:=60) (r:=r.tail)).2
 unfold aG
 rw [List.length_tail] at h2
 split
 ·split
  ·omega
  ·split
   ·omega
   ·omega
 ·split
  ·cases r with
   | nil=>simp at *
   | cons x xs=>simp
  ·omega
def iF:Sp:=λvs H Q _=>∃(l:List Nat) (i:Nat),vs=[.str (S l),.int i]/\i<=l.length/\l.length<=10^6/\Q (.int ((i+aG (l.drop i):Nat):Int)) H
theorem cM:aD ["text","at","first","end"] ["text","at"] (ao (top 7)):=hJ
theorem kz (D:az K mg "number_end" (top 7)) (c_run_end:Callee P w K mg base aZ 1 "run_end" ["text","at","signs","most"] md) (g_FIGURES:∃ t,mg "FIGURES"=some (.str "0123456789" t)) (g_MOST_FIGURES:∃ t,mg "MOST_FIGURES"=some (.int 60 t)):Callee P w K mg base aZ 2 "number_end" ["text","at"] iF:=by
 refine cO D cM (λf cdv A outer s H vs Q E hr h=>?_)
 obtain⟨l,i,rfl,il,l6,q⟩:=h
 obtain⟨t1,g_FIGURES⟩:=g_FIGURES
 obtain⟨t2,g_MOST_FIGURES⟩:=g_MOST_FIGURES
 have nd:=cM.nd
 refine⟨_,(af (cL (i:=2) nd (bH (aq aY (di je (pv 0) (b3 (pv 1)) (b3 (av bf (pv 1) ag))) au (ar _)) (av bf (pv 1) ag) (pv 1))) (af (aM (aq aY (di je (pv 0) (b3 (pv 2)) (b3 (av bf (pv 2) ag))) au (ar _)) (ai (aw (bH (aq aY (pv 2) (pv 1) (ar _)) (av bf (pv 1) ag) (pv 1)))) aB) (af (cL (i:=3) nd (bT c_run_end hr aA (aa (pv 0) (aa (pv 2) (aa (cA (v:=.str "0123456789") rfl g_FIGURES ⟨_,rfl⟩) (aa (cA (v:=.int 60) rfl g_MOST_FIGURES ⟨_,rfl⟩) ae)))))) (ai (aw (bH (aq d9 (pv 3) (pv 2) (ar _)) (pv 3) (pv 1))))))),?_⟩
 show b9 _ _ _ [some (.str (S l)),some (.int i),none,none] H
 have sz:l.length<=sizeLine:=Nat.le_trans l6 (by decide)
 k_data
 refine⟨_,rfl,sz,rfl,?_⟩
 rw [jf,m8]
 refine aL (λc1=>?_) (λc1=>?_)
 ·rw [take1] at c1
  have hne:l.drop i≠[]:=λz=>by rw [z] at c1;cases c1
  have il':i<l.length:=by
   rcases Nat.lt_or_ge i l.length with z | z
   ·exact z
   ·exact absurd (List.drop_of_length_le z) hne
  have et:(l.drop i).tail=l.drop (i+1):=by rw [List.tail_drop]
  have en:aG (l.drop i)=if (l.drop (i+1)).head?=some 48 then 0 else if run cR 60 (l.drop (i+1))=0 then 0 else run cR 60 (l.drop (i+1))+1:=by
   unfold aG
   rw [if_pos c1,et]
  refine⟨_,rfl,sz,rfl,?_⟩
  rw [show (i:Int)+1=((i+1:Nat):Int) by omega,jf,qI]
  refine aL (λc2=>?_) (λc2=>?_)
  ·rw [take1] at c2
   rw [if_neg (by omega)]
   rw [en,if_pos c2,Nat.add_zero] at q
   exact q
  ·rw [take1] at c2
   rw [if_neg c2] at en
   rw [oz]
   refine⟨l,cR,i+1,60,rfl,by omega,l6,_,rfl,?_⟩
   refine aL (λc3=>?_) (λc3=>?_)
   ·rw [if_neg (by omega)] at en
    rw [en] at q
    rw [show i+1+run cR 60 (l.drop (i+1))=i+(run cR 60 (l.drop (i+1))+1) by omega]
    exact q
   ·rw [if_pos (by omega)] at en
    rw [en,Nat.add_zero] at q
    exact q
 ·rw [take1] at c1
  have en:aG (l.drop i)=if (l.drop i).head?=some 48 then 1 else run cR 60 (l.drop i):=by
   unfold aG
   rw [if_neg c1]
  refine⟨_,rfl,sz,rfl,?_⟩
  rw [jf,qI]
  refine aL (λc2=>?_) (λc2=>?_)
  ·rw [take1] at c2
   rw [en,if_pos c2] at q
   exact q
  ·rw [take1] at c2
   rw [en,if_neg c2] at q
   rw [oz]
   refine⟨l,cR,i,60,rfl,il,l6,_,rfl,?_⟩
   refine aL (λc3=>q) (λc3=>?_)
   rw [show run cR 60 (l.drop i)=0 by omega,Nat.add_zero] at q
   exact q
def aH (r:List Nat):Nat:=if aG r=0 then (if run cj 8 r=0 then run pz 1 r else run cj 8 r) else aG r
def pc (r:List Nat):List Nat:=r.take (aH r)
theorem lS {r:List Nat}:aH r<=r.length:=by
 have h1:=(bI (sg:=cj) (m:=8) (r:=r)).2
 have h2:=(bI (sg:=pz) (m:=1) (r:=r)).2
 have h3:=ky (r:=r)
 unfold aH
 split
 ·split<;>omega
 ·omega
def jT:Sp:=λvs H Q _=>∃(l:List Nat) (i:Nat),vs=[.str (S l),.int i]/\i<=l.length/\l.length<=10^6/\Q (.str (S (pc (l.drop i)))) H
def tY (H0:Hp) (l:List Nat) (i k:Nat) (σ':L2.St) (H':Hp):Prop:=H'=H0/\σ'=[some (.str (S l)),some (.int (i:Int)),some (.int ((i+k:Nat):Int))]
theorem eu:aD ["text","at","end"] ["text","at"] (ao (top 14)):=hJ
theorem lH (D:az K mg "piece_at" (top 14)) (c_run_end:Callee P w K mg base aZ 1 "run_end" ["text","at","signs","most"] md) (c_number_end:Callee P w K mg base aZ 2 "number_end" ["text","at"] iF) (g_LETTERS:∃ t,mg "LETTERS"=some (.str "abcdefghijklmnopqrstuvwxyz" t)) (g_MOST_LETTERS:∃ t,mg "MOST_LETTERS"=some (.int 8 t)):Callee P w K mg base aZ 3 "piece_at" ["text","at"] jT:=by
 refine cO D eu (λf cdv A outer s H vs Q E hr h=>?_)
 obtain⟨l,i,rfl,il,l6,q⟩:=h
 obtain⟨t1,g_LETTERS⟩:=g_LETTERS
 obtain⟨t2,g_MOST_LETTERS⟩:=g_MOST_LETTERS
 have nd:=eu.nd
 refine⟨_,(af (cL (i:=2) nd (bT c_number_end hr aA (aa (pv 0) (aa (pv 1) ae)))) (af (gO (aM (aq aY (pv 2) (pv 1) (ar _)) (ai (cL (i:=2) nd (bT c_run_end hr aA (aa (pv 0) (aa (pv 1) (aa (cA (v:=.str "abcdefghijklmnopqrstuvwxyz") rfl g_LETTERS ⟨_,rfl⟩) (aa (cA (v:=.int 8) rfl g_MOST_LETTERS ⟨_,rfl⟩) ae))))))) aB)) (af (gO (aM (aq aY (pv 2) (pv 1) (ar _)) (ai (cL (i:=2) nd (bT c_run_end hr aA (aa (pv 0) (aa (pv 1) (aa au (aa ag ae))))))) aB)) (ai (aw (di je (pv 0) (b3 (pv 1)) (b3 (pv 2)))))))),?_⟩
 show b9 _ _ _ [some (.str (S l)),some (.int i),none] H
 have sz:l.length<=sizeLine:=Nat.le_trans l6 (by decide)
 k_data
 refine⟨l,i,rfl,il,l6,?_⟩
 refine⟨λσ' H'=>tY H l i (if aG (l.drop i)=0 then run cj 8 (l.drop i) else aG (l.drop i)) σ' H',?_,?_⟩
 ·k_data
  refine aL (λc=>?_) (λc=>?_)
  ·rw [lC]
   refine⟨l,cj,i,8,rfl,il,l6,rfl,?_⟩
   rw [if_pos (by omega)]
  ·refine⟨rfl,?_⟩
   rw [if_neg (by omega)]
 rintro σ' H' ⟨rfl,rfl⟩
 refine⟨λσ' H''=>tY H' l i (aH (l.drop i)) σ' H'',?_,?_⟩
 ·k_data
  refine aL (λc=>?_) (λc=>?_)
  ·rw [qY]
   refine⟨l,pz,i,1,rfl,il,l6,rfl,?_⟩
   unfold aH
   have c':(if aG (l.drop i)=0 then run cj 8 (l.drop i) else aG (l.drop i))=0:=by omega
   by_cases z:aG (l.drop i)=0
   ·rw [if_pos z] at c' ⊢
    rw [if_pos c']
   ·rw [if_neg z] at c'
    exact absurd c' z
  ·refine⟨rfl,?_⟩
   unfold aH
   have c':(if aG (l.drop i)=0 then run cj 8 (l.drop i) else aG (l.drop i))≠0:=by omega
   by_cases z:aG (l.drop i)=0
   ·rw [if_pos z] at c'
    rw [if_pos z,if_pos z,if_neg c']
   ·rw [if_neg z,if_neg z]
 rintro σ' H'' ⟨rfl,rfl⟩
 k_data
 refine⟨_,rfl,sz,?_⟩
 rw [jS,show i+aH (l.drop i)-i=aH (l.drop i) by omega]
 exact q
theorem nt:Str.ofString "("=S [40]:=by decide +kernel
theorem mQ:Str.ofString ")"=S [41]:=by decide +kernel
theorem mP:Str.ofString " "=S [32]:=by decide +kernel
theorem pF:Str.ofString ""=S []:=by decide +kernel
def ms (ah p:List Nat) (d:Nat):Bool:=if p=[] then false else if p=[41] then decide (0<d) && decide (ah≠[32]) else if p=[32] then decide (0<d) && decide (ah≠[40]/\ah≠[32]) else decide (ah=[]∨ah=[40]∨ah=[32]) && decide (p≠[40]∨d<80)
theorem mJ {a b:List Nat}:V.str (S a)=V.str (S b)↔a=b:=⟨λh=>kL (V.str.inj h),λh=>by rw [h]⟩
theorem uc {a b:List Nat}:S a=S b↔a=b:=⟨kL,λh=>by rw [h]⟩
def oT:Sp:=λvs H Q _=>∃(ah p:List Nat) (d:Nat),vs=[.str (S ah),.str (S p),.int d]/\∀ H',aE H H'->Q (.bl (ms ah p d)) H'
theorem dB:aD ["ahead","piece","depth"] ["ahead","piece","depth"] (ao (top 15)):=hJ
theorem pX (D:az K mg "may_stand" (top 15)) (g_DEEPEST:∃ t,mg "DEEPEST"=some (.int 80 t)):Callee P w K mg base aZ 1 "may_stand" ["ahead","piece","depth"] oT:=by
 refine cO D dB (λf cdv A outer s H vs Q E hr h=>?_)
 obtain⟨ah,p,d,rfl,q⟩:=h
 obtain⟨t1,g_DEEPEST⟩:=g_DEEPEST
 have nd:=dB.nd
 refine⟨_,(af (aM (aq aY (pv 1) au (ar _)) (ai (aw jJ)) aB) (af (aM (aq aY (pv 1) au (ar _)) (ai (aw (dU (bg d9 (pv 2) ag (ar _)) (cW (bg fb (pv 0) au (ar _)))))) aB) (af (aM (aq aY (pv 1) au (ar _)) (ai (aw (dU (bg d9 (pv 2) ag (ar _)) (cW (bg gK (pv 0) (b0 (aa au (aa au ae))) (by with_unfolding_all rfl)))))) aB) (ai (aw (dU (bg kC (pv 0) (b0 (aa au (aa au (aa au ae)))) (by with_unfolding_all rfl)) (cW (rR (bg fb (pv 1) au (ar _)) (cW (bg ix (pv 2) (cA (v:=.int 80) rfl g_DEEPEST ⟨_,rfl⟩) (ar _))))))))))),?_⟩
 show b9 _ _ _ [some (.str (S ah)),some (.str (S p)),some (.int d)] H
 k_data
 simp only [pF,mQ,mP,nt,mJ]
 have qq:∀ b H',aE H H'->b=ms ah p d->Q (.bl b) H':=λb H' s' e=>e▸q H' s'
 refine aL (λc0=>?_) (λc0=>?_)
 ·refine qq _ _ (aE.refl _) ?_
  unfold ms
  rw [if_pos c0]
 refine aL (λc1=>?_) (λc1=>?_)
 ·have e:ms ah p d=(decide (0<d) && decide (ah≠[32])):=by
   unfold ms
   rw [if_neg c0,if_pos c1]
  refine aL (λc=>?_) (λc=>?_)
  ·refine qq _ _ (aE.refl _) ?_
   rw [e,decide_eq_true (show 0<d by omega),Bool.true_and]
   simp
  ·refine qq _ _ (aE.refl _) ?_
   rw [e,decide_eq_false (show ¬0<d by omega),Bool.false_and]
 refine aL (λc2=>?_) (λc2=>?_)
 ·have e:ms ah p d=(decide (0<d) && decide (ah≠[40]/\ah≠[32])):=by
   unfold ms
   rw [if_neg c0,if_neg c1,if_pos c2]
  refine aL (λc=>?_) (λc=>?_)
  ·refine⟨by show 2<=sizeLine;decide,λa1 h1=>?_⟩
   have s1:=ay (o:=.tup [V.str (S [40]),V.str (S [32])]) h1
   refine⟨a1,_,rfl,.inr (aT.of aj),rfl,rfl,qq _ _ s1 ?_⟩
   rw [e,decide_eq_true (show 0<d by omega),Bool.true_and,Bool.eq_iff_iff]
   simp [pL,k8,uc]
   exact⟨fun⟨z,y⟩=>⟨λh=>z h.symm,λh=>y h.symm⟩,fun⟨z,y⟩=>⟨λh=>z h.symm,λh=>y h.symm⟩⟩
  ·refine qq _ _ (aE.refl _) ?_
   rw [e,decide_eq_false (show ¬0<d by omega),Bool.false_and]
 ·have e:ms ah p d=(decide (ah=[]∨ah=[40]∨ah=[32]) && decide (p≠[40]∨d<80)):=by
   unfold ms
   rw [if_neg c0,if_neg c1,if_neg c2]
  refine⟨by show 3<=sizeLine;decide,λa1 h1=>?_⟩
  have s1:=ay (o:=.tup [V.str (S []),V.str (S [40]),V.str (S [32])]) h1
  refine⟨a1,_,rfl,.inr (aT.of aj),rfl,rfl,_,rfl,?_⟩
  have ei:pL (V.str (S ah)) [V.str (S []),V.str (S [40]),V.str (S [32])]=decide (ah=[]∨ah=[40]∨ah=[32]):=by
   rw [Bool.eq_iff_iff]
   simp [pL,k8,uc]
   exact⟨λz=>z.imp id (λy=>y.imp Eq.symm Eq.symm),λz=>z.imp id (λy=>y.imp Eq.symm Eq.symm)⟩
  refine aL (λc=>?_) (λc=>?_)
  ·have c':pL (V.str (S ah)) [V.str (S []),V.str (S [40]),V.str (S [32])]=true:=c
   rw [<- ei,c',Bool.true_and] at e
   refine aL (λc3=>qq _ _ s1 ?_) (λc3=>qq _ _ s1 ?_)
   ·rw [e,decide_eq_true (.inl c3)]
   ·have c3:p=[40]:=Classical.byContradiction c3
    rw [e,Bool.eq_iff_iff,decide_eq_true_eq,decide_eq_true_eq,c3]
    constructor
    ·exact λz=>.inr (by omega)
    ·exact λz=>z.elim (λy=>absurd rfl y) λy=>by omega
  ·have c':pL (V.str (S ah)) [V.str (S []),V.str (S [40]),V.str (S [32])]=false:=by
    rw [<- Bool.not_eq_true];exact c
   refine qq _ _ s1 ?_
   rw [e,<- ei,c',Bool.false_and]
def val (p:List Nat):PyData:=if p=[45] then .none else if p.headD 0∈cj then .str (S p) else .int ((intText? (S p)).getD 0)
def tE (p:List Nat):Prop:=p≠[]/\(p=[45]∨p.headD 0∈cj∨(p.length<=100/\∃ n,intText? (S p)=some n))
def oV (K:PySem.W.Frag):Sp:=λvs H Q _=>∃ p:List Nat,vs=[.str (S p)]/\tE p/\∀ v,dv K H (val p) v->Q v H
theorem eA:aD ["piece"] ["piece"] (ao (top 17)):=hJ
theorem p6 (D:az K mg "value_of" (top 17)) (g_LETTERS:∃ t,mg "LETTERS"=some (.str "abcdefghijklmnopqrstuvwxyz" t)) (n_int:mg "int"=none):Callee P w K mg base aZ 1 "value_of" ["piece"] (oV K):=by
 refine cO D eA (λf cdv A outer s H vs Q E hr h=>?_)
 obtain⟨p,rfl,ok,q⟩:=h
 obtain⟨t1,g_LETTERS⟩:=g_LETTERS
 have nd:=eA.nd
 refine⟨_,(af (aM (aq aY (pv 0) au (ar _)) (ai (aw gN)) aB) (ai (aw (bH (aq fY (cn (pv 0) ag (λ_ _=>rfl)) (cA (v:=.str "abcdefghijklmnopqrstuvwxyz") rfl g_LETTERS ⟨_,rfl⟩) (by with_unfolding_all rfl)) (pv 0) (a5 fR rfl n_int L2.boot_int (aa (pv 0) ae)))))),?_⟩
 show b9 _ _ _ [some (.str (S p))] H
 k_data
 simp only [m8,mJ]
 refine aL (λc=>q _ ?_) (λc=>?_)
 ·unfold val
  rw [if_pos c]
  exact rfl
 obtain⟨ne,ok⟩:=ok
 obtain⟨x,r,rfl⟩:∃ x r,p=x::r:=by
  cases p with
  | nil=>exact absurd rfl ne
  | cons x r=>exact⟨x,r,rfl⟩
 refine⟨_,rfl,by rw [aN,List.length_cons];omega,x,rfl,_,rfl,_,rfl,?_⟩
 have fo:=PySem.StrLaws.found_one (S cj) x
 rw [fM] at fo
 rw [lC]
 refine aL (λc3=>q _ ?_) (λc3=>?_)
 ·rw [c3] at fo
  unfold val
  rw [if_neg c,if_pos (by simpa using fo)]
  exact rfl
 ·have nl:x∉cj:=λz=>c3 (by rw [decide_eq_true z] at fo;simpa using fo)
  rcases ok with z | z | ⟨l1,n,hn⟩
  ·exact absurd z c
  ·exact absurd z nl
  ·refine⟨S (x::r),n,rfl,hn,by rw [aN];omega,q _ ?_⟩
   unfold val
   rw [if_neg c,if_neg (show ¬(x::r).headD 0∈cj from nl),hn]
   exact rfl
structure g9 (K:PySem.W.Frag) (H:Hp) (op:Addr) (ls:List Addr) (st:List (List PyData)):Prop where
 top:H op=some (.lst (ls.map V.ref))
 len:ls.length=st.length
 nd:(op::ls).Nodup
 it:∀(i:Nat) (l:Addr) (ds:List PyData),ls[i]?=some l->st[i]?=some ds->∃ vs,H l=some (.lst vs)/\aO K H ds vs
 nl:∀ ds∈st,bZ ds=true
 few:st.length<=100
 sm:∀ ds∈st,ds.length<=10^6
def put (st:List (List PyData)) (p:List Nat):List (List PyData) :=
 if p=[40] then st++[[]] else if p=[41] then (st.dropLast).dropLast++[(st.dropLast).getLast?.getD []++[.tuple (st.getLast?.getD [])]] else if p=[32] then st else st.dropLast++[st.getLast?.getD []++[val p]]
theorem oq {p:List Nat}:lD (val p)=true:=by
 unfold val
 split
 ·rfl
 ·split<;>rfl
theorem lE {a b:List PyData}:bZ (a++b)=(bZ a && bZ b):=by
 induction a with
 | nil=>simp [bZ]
 | cons x xs ih=>simp [bZ,ih,Bool.and_assoc]
theorem g9.app {H:Hp} {op l:Addr} {ls:List Addr} {st:List (List PyData)} {ds:List PyData} {vs:List V} {d:PyData} {v:V} (h:g9 K H op (ls++[l]) (st++[ds])) (hl:H l=some (.lst vs)) (hd:dv K H d v) (nd:lD d=true) (sz:ds.length<10^6):g9 K (upd H l (.lst (vs++[v]))) op (ls++[l]) (st++[ds++[d]]):=by
 have nd0:=h.nd
 have ol:op≠l:=λz=>by
  rw [List.nodup_cons] at nd0
  exact nd0.1 (by rw [z];simp)
 have sb:SameBut l H (upd H l (.lst (vs++[v]))):=λb o nb e=>by rw [ak nb];exact e
 have ll:ls.length=st.length:=by
  have:=h.len
  rw [List.length_append,List.length_append,List.length_singleton,List.length_singleton] at this
  omega
 have nld:bZ ds=true:=h.nl ds (by simp)
 refine⟨by rw [ak ol];exact h.top,by rw [List.length_append,List.length_append,ll];rfl,h.nd,λi l' ds' e1 e2=>?_,λds' h'=>?_,?_,λds' h'=>?_⟩
 ·rcases Nat.lt_or_ge i ls.length with z | z
  ·rw [List.getElem?_append_left z] at e1
   rw [List.getElem?_append_left (by omega)] at e2
   obtain⟨vs',a1,a2⟩:=h.it i l' ds' (by rw [List.getElem?_append_left z];exact e1) (by rw [List.getElem?_append_left (by omega)];exact e2)
   have nl':l'≠l:=λz'=>by
    rw [List.nodup_cons] at nd0
    have:=(List.nodup_append.mp nd0.2).2.2 l' (List.mem_of_getElem? e1) l (by simp)
    exact this z'
   exact⟨vs',by rw [ak nl'];exact a1,aO.but hl sb ds' (h.nl ds' (List.mem_append_left _ (List.mem_of_getElem? e2))) a2⟩
  ·have i0:i=ls.length:=by
    have:=(List.getElem?_eq_some_iff.mp e1).1
    rw [List.length_append,List.length_singleton] at this
    omega
   subst i0
   rw [List.getElem?_append_right (Nat.le_refl _),Nat.sub_self] at e1
   rw [List.getElem?_append_right (by omega),show ls.length-st.length=0 by omega] at e2
   cases e1
   cases e2
   obtain⟨vs',a1,a2⟩:=h.it ls.length l ds (by rw [List.getElem?_append_right (Nat.le_refl _),Nat.sub_self];rfl) (by rw [List.getElem?_append_right (by omega),show ls.length-st.length=0 by omega];rfl)
   rw [hl] at a1
   cases a1
   exact⟨_,aj,(aO.but hl sb ds nld a2).append ⟨v,[],rfl,dv.but hl sb d nd hd,rfl⟩⟩
 ·rcases List.mem_append.mp h' with z | z
  ·exact h.nl ds' (List.mem_append_left _ z)
  ·cases List.mem_singleton.mp z
   rw [lE,nld]
   simp [bZ,nd]
 ·have:=h.few
  rw [List.length_append,List.length_singleton] at this ⊢
  exact this
 ·rcases List.mem_append.mp h' with z | z
  ·exact h.sm ds' (List.mem_append_left _ z)
  ·cases List.mem_singleton.mp z
   rw [List.length_append,List.length_singleton]
   omega
theorem g9.same {H H':Hp} {op:Addr} {ls:List Addr} {st:List (List PyData)} (h:g9 K H op ls st) (s:aE H H'):g9 K H' op ls st :=
 ⟨s _ _ h.top,h.len,h.nd,λi l ds e1 e2=>by
  obtain⟨vs,a1,a2⟩:=h.it i l ds e1 e2
  exact⟨vs,s _ _ a1,aO.same s _ a2⟩,h.nl,h.few,h.sm⟩
theorem g9.ne {H:Hp} {op l:Addr} {ls:List Addr} {st:List (List PyData)} (h:g9 K H op ls st) (hl:l∈ls):l≠op:=λz=>by
 have:=h.nd
 rw [List.nodup_cons] at this
 exact this.1 (z▸hl)
theorem g9.pop {H:Hp} {op l:Addr} {ls:List Addr} {st:List (List PyData)} {ds:List PyData} (h:g9 K H op (ls++[l]) (st++[ds])):g9 K (upd H op (.lst (ls.map V.ref))) op ls st:=by
 have nd0:=h.nd
 have sb:SameBut op H (upd H op (.lst (ls.map V.ref))):=λb o nb e=>by rw [ak nb];exact e
 have ll:ls.length=st.length:=by
  have:=h.len
  rw [List.length_append,List.length_append,List.length_singleton,List.length_singleton] at this
  omega
 refine⟨aj,ll,?_,λi l' ds' e1 e2=>?_,λds' h'=>h.nl ds' (List.mem_append_left _ h'),?_,λds' h'=>h.sm ds' (List.mem_append_left _ h')⟩
 ·rw [<- List.cons_append] at nd0
  exact (List.nodup_append.mp nd0).1
 ·have z1:=(List.getElem?_eq_some_iff.mp e1).1
  have z2:=(List.getElem?_eq_some_iff.mp e2).1
  obtain⟨vs,a1,a2⟩:=h.it i l' ds' (by rw [List.getElem?_append_left z1];exact e1) (by rw [List.getElem?_append_left z2];exact e2)
  have hne:=h.ne (List.mem_append_left _ (List.mem_of_getElem? e1))
  exact⟨vs,by rw [ak hne];exact a1,aO.but h.top sb ds' (h.nl ds' (List.mem_append_left _ (List.mem_of_getElem? e2))) a2⟩
 ·have:=h.few
  rw [List.length_append,List.length_singleton] at this
  omega
theorem g9.push {H:Hp} {op n:Addr} {ls:List Addr} {st:List (List PyData)} (h:g9 K H op ls st) (f:H n=none) (l9:st.length<100):g9 K (upd (upd H n (.lst [])) op (.lst (ls.map V.ref++[V.ref n]))) op (ls++[n]) (st++[[]]):=by
 have nd0:=h.nd
 have s1:=ay (o:=.lst []) f
 have on:n≠op:=λz=>by rw [z,h.top] at f;cases f
 have nin:n∉ls:=λz=>by
  obtain⟨i,hi,e⟩:=List.mem_iff_getElem.mp z
  have e1:ls[i]?=some n:=by rw [<- e];exact List.getElem?_eq_getElem hi
  obtain⟨vs,a1,_⟩:=h.it i n (st[i]'(by have:=h.len;omega)) e1 (List.getElem?_eq_getElem _)
  rw [f] at a1
  cases a1
 have t1:=s1 _ _ h.top
 have sb:SameBut op (upd H n (.lst [])) (upd (upd H n (.lst [])) op (.lst (ls.map V.ref++[V.ref n]))):=λb o nb e=>by rw [ak nb];exact e
 refine⟨by rw [aj,List.map_append];rfl,by rw [List.length_append,List.length_append,h.len];rfl,?_,λi l' ds' e1 e2=>?_,λds' h'=>?_,by rw [List.length_append,List.length_singleton];omega,λds' h'=>?_⟩
 ·rw [List.nodup_cons] at nd0 ⊢
  refine⟨λz=>?_,List.nodup_append.mpr ⟨nd0.2,by simp,λa ha b hb=>?_⟩⟩
  ·rcases List.mem_append.mp z with y | y
   ·exact nd0.1 y
   ·exact on (List.mem_singleton.mp y).symm
  ·cases List.mem_singleton.mp hb
   exact λz=>nin (z▸ha)
 ·rcases Nat.lt_or_ge i ls.length with z | z
  ·have ll:=h.len
   rw [List.getElem?_append_left z] at e1
   rw [List.getElem?_append_left (by omega)] at e2
   obtain⟨vs,a1,a2⟩:=h.it i l' ds' e1 e2
   have hne:=h.ne (List.mem_of_getElem? e1)
   exact⟨vs,by rw [ak hne];exact s1 _ _ a1,aO.but t1 sb ds' (h.nl ds' (List.mem_of_getElem? e2)) (aO.same s1 _ a2)⟩
  ·have ll:=h.len
   have i0:i=ls.length:=by
    have:=(List.getElem?_eq_some_iff.mp e1).1
    rw [List.length_append,List.length_singleton] at this
    omega
   subst i0
   rw [List.getElem?_append_right (Nat.le_refl _),Nat.sub_self] at e1
   rw [List.getElem?_append_right (by omega),show ls.length-st.length=0 by omega] at e2
   cases e1
   cases e2
   exact⟨[],by rw [ak on,aj],rfl⟩
 ·rcases List.mem_append.mp h' with z | z
  ·exact h.nl ds' z
  ·cases List.mem_singleton.mp z
   rfl
 ·rcases List.mem_append.mp h' with z | z
  ·exact h.sm ds' z
  ·cases List.mem_singleton.mp z
   decide
theorem cy {α:Type} {l:List α} (h:1<=l.length):∃ a x,l=a++[x]:=by
 rcases List.eq_nil_or_concat l with z | ⟨a,x,z⟩
 ·subst z;simp at h
 ·exact⟨a,x,by rw [z,List.concat_eq_append]⟩
def oU (K:PySem.W.Frag):Sp:=λvs H Q _=>∃(op:Addr) (ls:List Addr) (st:List (List PyData)) (p:List Nat),vs=[.ref op,.str (S p)]/\g9 K H op ls st/\1<=st.length/\st.length<=90/\(p=[41]->2<=st.length)/\(p≠[40]->p≠[41]->p≠[32]->tE p)/\(∀ ds∈st,ds.length<10^6)/\∀ ls' H',g9 K H' op ls' (put st p)->(∀ b o,b∉op::ls->H b=some o->H' b=some o)->(∀ b∈ls',b∈ls∨H b=none)->Q .a9 H'
theorem cN:aD ["opened","piece","things"] ["opened","piece"] (ao (top 16)):=hJ
theorem pY (D:az K mg "put_behind" (top 16)) (c_value_of:Callee P w K mg base aZ 1 "value_of" ["piece"] (oV K)) (n_tuple:mg "tuple"=none):Callee P w K mg base aZ 2 "put_behind" ["opened","piece"] (oU K):=by
 refine cO D cN (λf cdv A outer s H vs Q E hr h=>?_)
 obtain⟨op,ls,st,p,rfl,sk,s1,s9,pc2,ok,sm,q⟩:=h
 have nd:=cN.nd
 refine⟨_,(ai (aM (aq aY (pv 1) au (ar _)) (ai (dk (fZ PySem.F.plainAttrs_list PySem.F.slot_list_append PySem.F.type_list_append cz (pv 0) (aa (gM ae) ae)))) (ai (aM (aq aY (pv 1) au (ar _)) (af (cL (i:=2) nd (qf PySem.F.plainAttrs_list PySem.F.slot_list_pop PySem.F.type_list_pop pT (pv 0))) (ai (dk (fZ PySem.F.plainAttrs_list PySem.F.slot_list_append PySem.F.type_list_append cz (iz dc (pv 0) (oO mw ag) (λ_ _=>rfl)) (aa (a5 bQ rfl n_tuple L2.boot_tuple (aa (pv 2) ae)) ae))))) (ai (aM (aq fb (pv 1) au (ar _)) (ai (dk (fZ PySem.F.plainAttrs_list PySem.F.slot_list_append PySem.F.type_list_append cz (iz dc (pv 0) (oO mw ag) (λ_ _=>rfl)) (aa (bT c_value_of hr aA (aa (pv 1) ae)) ae)))) aB)))))),?_⟩
 show qA _ _ _ _ [some (.ref op),some (.str (S p)),none] H
 k_data
 simp only [nt,mQ,mP,mJ]
 refine aL (λc0=>?_) (λc0=>?_)
 ·subst c0
  refine⟨.inl ⟨rfl,_,aS.of sk.top⟩,by show 0<=sizeLine;decide,λn hn=>?_⟩
  have s1':=ay (o:=.lst []) hn
  have lsz:ls.length<=100:=by have:=sk.len;have:=sk.few;omega
  refine⟨op,_,_,rfl,rfl,s1' _ _ sk.top,by rw [List.length_map];exact Nat.lt_of_le_of_lt lsz (by decide),?_⟩
  refine q (ls++[n]) _ (by unfold put;rw [if_pos rfl];exact sk.push hn (by omega)) (λb o nb e=>?_) λb hb=>?_
  ·rw [ak (λz=>nb (by rw [z];exact List.mem_cons_self))]
   exact s1' _ _ e
  ·rcases List.mem_append.mp hb with z | z
   ·exact .inl z
   ·rw [List.mem_singleton.mp z]
    exact .inr hn
 refine aL (λc1=>?_) (λc1=>?_)
 ·subst c1
  obtain⟨st1,ds,rfl⟩:=cy s1
  have p2:=pc2 rfl
  rw [List.length_append,List.length_singleton] at p2
  obtain⟨st0,ds1,rfl⟩:=cy (show 1<=st1.length by omega)
  have ll:=sk.len
  obtain⟨ls1,l,rfl⟩:=cy (l:=ls) (by rw [ll];exact s1)
  rw [List.length_append,List.length_append,List.length_singleton,List.length_singleton] at ll
  obtain⟨ls0,l1,rfl⟩:=cy (l:=ls1) (by omega)
  rw [List.length_append,List.length_append,List.length_singleton,List.length_singleton] at ll
  obtain⟨vs,a1,a2⟩:=sk.it (ls0.length+1) l ds (by rw [List.getElem?_append_right (by simp)];simp) (by rw [List.getElem?_append_right (by simp;omega)];simp [show ls0.length=st0.length by omega])
  have P:=sk.pop
  have lo:l≠op:=sk.ne (by simp)
  refine⟨.inl ⟨rfl,_,aS.of sk.top⟩,op,_,V.ref l,rfl,rfl,sk.top,by simp,?_⟩
  have ed:(((ls0++[l1])++[l]).map V.ref).dropLast=(ls0++[l1]).map V.ref:=by rw [List.map_append];exact List.dropLast_concat
  rw [ed]
  have b1:∀ b o,b≠op->H b=some o->upd H op (.lst ((ls0++[l1]).map V.ref)) b=some o:=λb o nb e=>by rw [ak nb];exact e
  have a1':=b1 _ _ lo a1
  have sb:SameBut op H (upd H op (.lst ((ls0++[l1]).map V.ref))):=λb o nb e=>b1 b o nb e
  have a2':=aO.but sk.top sb ds (sk.nl ds (by simp)) a2
  generalize upd H op (.lst ((ls0++[l1]).map V.ref))=H1 at *
  obtain⟨vs1,c1',c2'⟩:=P.it ls0.length l1 ds1 (by simp) (by rw [List.getElem?_append_right (by omega)];simp [show ls0.length=st0.length by omega])
  refine⟨op,_,-1,V.ref l1,rfl,rfl,aS.of P.top,by rw [List.map_append];exact hZ _ _,.inl ⟨rfl,_,aS.of c1'⟩,l,rfl,vs,.inl ⟨aS.of a1',λn hn=>?_⟩⟩
  have s2:=ay (o:=.tup vs) hn
  have P2:=P.same s2
  have ht:dv K (upd H1 n (.tup vs)) (.tuple ds) (.ref n):=⟨n,vs,rfl,aT.of aj,aO.same s2 _ a2'⟩
  have c3:=s2 _ _ c1'
  have lv:vs1.length=ds1.length:=(cF.len c2').symm
  have sm1:=sm ds1 (by simp)
  refine⟨l1,_,_,rfl,rfl,c3,by rw [lv];exact Nat.lt_trans sm1 (by decide),?_⟩
  refine q (ls0++[l1]) _ ?_ (λb o nb e=>?_) λb hb=>.inl (List.mem_append_left _ hb)
  ·have e:put ((st0++[ds1])++[ds]) [41]=st0++[ds1++[.tuple ds]]:=by
    unfold put
    rw [if_neg (by decide),if_pos rfl,List.dropLast_concat,List.dropLast_concat]
    simp
   rw [e]
   exact P2.app c3 ht (by show bZ ds=true;exact sk.nl ds (by simp)) sm1
  ·have n1:b≠op:=λz=>nb (by rw [z];exact List.mem_cons_self)
   have n2:b≠l1:=λz=>nb (by rw [z];simp)
   rw [ak n2]
   exact s2 _ _ (b1 _ _ n1 e)
 refine aL (λc2=>?_) (λc2=>?_)
 ·obtain⟨st0,ds,rfl⟩:=cy s1
  have ll:=sk.len
  obtain⟨ls0,l,rfl⟩:=cy (l:=ls) (by rw [ll];exact s1)
  rw [List.length_append,List.length_append,List.length_singleton,List.length_singleton] at ll
  obtain⟨vs,a1,a2⟩:=sk.it ls0.length l ds (by simp) (by rw [List.getElem?_append_right (by omega)];simp [show ls0.length=st0.length by omega])
  refine⟨op,_,-1,V.ref l,rfl,rfl,aS.of sk.top,by rw [List.map_append];exact hZ _ _,.inl ⟨rfl,_,aS.of a1⟩,p,rfl,ok c0 c1 c2,λv hv=>?_⟩
  have lv:vs.length=ds.length:=(cF.len a2).symm
  have sm1:=sm ds (by simp)
  refine⟨l,_,_,rfl,rfl,a1,by rw [lv];exact Nat.lt_trans sm1 (by decide),?_⟩
  refine q (ls0++[l]) _ ?_ (λb o nb e=>?_) λb hb=>.inl hb
  ·have e:put (st0++[ds]) p=st0++[ds++[val p]]:=by
    unfold put
    rw [if_neg c0,if_neg c1,if_neg c2,List.dropLast_concat]
    simp
   rw [e]
   exact sk.app a1 hv oq sm1
  ·rw [ak (λz=>nb (by rw [z];simp))]
   exact e
 ·have c2:p=[32]:=Classical.byContradiction c2
  refine q ls H ?_ (λb o _ e=>e) λb hb=>.inl hb
  unfold put
  rw [if_neg c0,if_neg c1,if_pos c2]
  exact sk
def iE:Nat->List Nat->List Nat->List (List PyData)->Option PyData
 | 0,_,_,_=>none
 | f+1,r,ah,st=>if r=[] then (if 1<st.length∨ah=[] then none else st[0]?.bind λds=>ds[0]?) else if ms ah (pc r) (st.length-1)=true then iE f (r.drop (aH r)) (pc r) (put st (pc r)) else none
theorem dq {sg:List Nat}:∀{m:Nat} {r:List Nat},∀ c∈r.take (run sg m r),c∈sg
 | 0,r,c,h=>by simp [run] at h
 | m+1,[],c,h=>by simp [run] at h
 | m+1,x::r,c,h=>by
  have e:run sg (m+1) (x::r)=if x∈sg then run sg m r+1 else 0:=rfl
  rw [e] at h
  by_cases hx:x∈sg
  ·rw [if_pos hx,List.take_succ_cons] at h
   rcases List.mem_cons.mp h with z | z
   ·rw [z];exact hx
   ·exact dq c z
  ·rw [if_neg hx] at h
   simp at h
theorem ju {cs:List Nat} (h:∀ c∈cs,c∈cR):PySem.NumText.AllDigits cs:=λc hc=>by
 have:=h c hc
 simp only [cR,List.mem_cons,List.not_mem_nil,or_false] at this
 omega
theorem qe {r:List Nat} (ne:pc r≠[]) (h1:pc r≠[40]) (h2:pc r≠[41]) (h3:pc r≠[32]):tE (pc r):=by
 refine⟨ne,?_⟩
 have e:pc r=r.take (aH r):=rfl
 unfold aH at e
 by_cases z:aG r=0
 ·rw [if_pos z] at e
  by_cases y:run cj 8 r=0
  ·rw [if_pos y] at e
   have l1:=(bI (sg:=pz) (m:=1) (r:=r)).1
   have all:=dq (sg:=pz) (m:=1) (r:=r)
   rw [<- e] at all
   have len:(pc r).length<=1:=by rw [e,List.length_take];omega
   obtain⟨c,hc⟩:∃ c,pc r=[c]:=by
    cases h:pc r with
    | nil=>exact absurd h ne
    | cons c cs =>
     rw [h] at len
     cases cs with
     | nil=>exact⟨c,rfl⟩
     | cons _ _=>simp at len
   have hm:=all c (by rw [hc];simp)
   rw [hc] at h1 h2 h3 ⊢
   simp only [pz,List.mem_cons,List.not_mem_nil,or_false] at hm
   rcases hm with rfl | rfl | rfl | rfl
   ·exact .inl rfl
   ·exact absurd rfl h1
   ·exact absurd rfl h2
   ·exact absurd rfl h3
  ·rw [if_neg y] at e
   refine .inr (.inl ?_)
   have all:=dq (sg:=cj) (m:=8) (r:=r)
   rw [<- e] at all
   cases h:pc r with
   | nil=>exact absurd h ne
   | cons c cs=>exact all c (by rw [h];simp)
 ·rw [if_neg z] at e
  refine .inr (.inr ?_)
  have len:(pc r).length<=61:=by
   have h1:=(bI (sg:=cR) (m:=60) (r:=r)).1
   have h2:=(bI (sg:=cR) (m:=60) (r:=r.tail)).1
   rw [e,List.length_take]
   unfold aG
   split
   ·split
    ·omega
    ·split<;>omega
   ·split<;>omega
  refine⟨by omega,?_⟩
  have dig:∀ cs:List Nat,(∀ c∈cs,c∈cR)->cs≠[]->cs.length<=100->∃ n,intText? (S cs)=some n:=λcs h1 h2 h3=>⟨_,PySem.intText_digits (x:=S cs) (ju h1) h2 (by rw [aN];omega)⟩
  unfold aG at e z
  by_cases c1:r.head?=some 45
  ·rw [if_pos c1] at e z
   by_cases c2:r.tail.head?=some 48
   ·rw [if_pos c2] at z
    exact absurd rfl z
   ·rw [if_neg c2] at e z
    by_cases c3:run cR 60 r.tail=0
    ·rw [if_pos c3] at z
     exact absurd rfl z
    ·rw [if_neg c3] at e
     obtain⟨x,r',rfl⟩:∃ x r',r=x::r':=by
      cases r with
      | nil=>cases c1
      | cons x r'=>exact⟨x,r',rfl⟩
     cases c1
     rw [List.tail_cons] at e c3
     rw [e,List.take_succ_cons]
     have hne:r'.take (run cR 60 r')≠[]:=λz'=>by
      have:=congrArg List.length z'
      rw [List.length_take,List.length_nil] at this
      have:=(bI (sg:=cR) (m:=60) (r:=r')).2
      omega
     exact⟨_,PySem.intText_neg (x:=S (45::r'.take (run cR 60 r'))) rfl (ju dq) hne (by
      rw [aN,List.length_cons,List.length_take]
      have:=(bI (sg:=cR) (m:=60) (r:=r')).1
      omega)⟩
  ·rw [if_neg c1] at e
   by_cases c2:r.head?=some 48
   ·rw [if_pos c2] at e
    obtain⟨x,r',rfl⟩:∃ x r',r=x::r':=by
     cases r with
     | nil=>cases c2
     | cons x r'=>exact⟨x,r',rfl⟩
    cases c2
    rw [e]
    exact dig [48] (by simp [cR]) (by simp) (by simp)
   ·rw [if_neg c2] at e
    exact dig (pc r) (by rw [e];exact dq) ne (by omega)
structure ub (K:PySem.W.Frag) (H0:Hp) (op:Addr) (l:List Nat) (d:PyData) (i:Nat) (ah:List Nat) (ls:List Addr) (st:List (List PyData)) (H:Hp):Prop where
 il:i<=l.length
 sk:g9 K H op ls st
 sm:aE H0 H
 f0:H0 op=none
 fl:∀ b∈ls,H0 b=none
 s1:1<=st.length
 s8:st.length<=81
 few:∀ ds∈st,ds.length<=i
 go:∃ f,iE f (l.drop i) ah st=some d
def jg (K:PySem.W.Frag):Sp:=λvs H Q _=>∃(l:List Nat) (d:PyData) (f:Nat),vs=[.str (S l)]/\l.length<=10^5/\iE f l [] [[]]=some d/\∀ v H',aE H H'->dv K H' d v->lD d=true->Q v H'
theorem nQ {st:List (List PyData)} {p:List Nat} (h:1<=st.length):(put st p).length=if p=[40] then st.length+1 else if p=[41] then (if st.length=1 then 1 else st.length-1) else st.length:=by
 unfold put
 split
 ·simp
 ·split
  ·simp
   split<;>omega
  ·split
   ·rfl
   ·simp
    omega
theorem nP {st:List (List PyData)} {p:List Nat} {i k:Nat} (h:∀ ds∈st,ds.length<=i) (hk:i<k):∀ ds∈put st p,ds.length<=k:=by
 have last:∀ st:List (List PyData),(∀ ds∈st,ds.length<=i)->(st.getLast?.getD []).length<=i:=λst h=>by
  cases e:st.getLast? with
  | none=>simp
  | some x=>exact h x (List.mem_of_getLast? e)
 have dl:∀ ds∈st.dropLast,ds.length<=i:=λds hd=>h ds ((List.dropLast_sublist _).subset hd)
 intro ds hd
 unfold put at hd
 split at hd
 ·rcases List.mem_append.mp hd with z | z
  ·have:=h ds z;omega
  ·cases List.mem_singleton.mp z;simp
 ·split at hd
  ·rcases List.mem_append.mp hd with z | z
   ·have:=dl ds ((List.dropLast_sublist _).subset z);omega
   ·cases List.mem_singleton.mp z
    have:=last _ dl
    rw [List.length_append,List.length_singleton]
    omega
  ·split at hd
   ·have:=h ds hd;omega
   ·rcases List.mem_append.mp hd with z | z
    ·have:=dl ds z;omega
    ·cases List.mem_singleton.mp z
     have:=last _ h
     rw [List.length_append,List.length_singleton]
     omega
theorem jQ:aD ["text","opened","ahead","at","piece"] ["text"] (ao (top 13)):=hJ
theorem nj (D:az K mg "read" (top 13)) (c_piece_at:Callee P w K mg base aZ 3 "piece_at" ["text","at"] jT) (c_may_stand:Callee P w K mg base aZ 1 "may_stand" ["ahead","piece","depth"] oT) (c_put_behind:Callee P w K mg base aZ 2 "put_behind" ["opened","piece"] (oU K)) (n_len:mg "len"=none):Callee P w K mg base aZ 4 "read" ["text"] (jg K):=by
 refine cO D jQ (λf cdv A outer s H vs Q E hr h=>?_)
 obtain⟨l,d,F,rfl,l5,go,q⟩:=h
 have nd:=jQ.nd
 refine⟨_,(af (cL (i:=1) nd (gM (aa (gM ae) ae))) (af (cL (i:=2) nd au) (af (cL (i:=3) nd ag) (af (iC PassesOwn.never (aq ix (pv 3) (ax bV rfl n_len PySem.boot_len (aa (pv 0) ae)) (ar _)) (af (cL (i:=4) nd (bT c_piece_at hr aA (aa (pv 0) (aa (pv 3) ae)))) (af (aM (ja (a3 (bT c_may_stand hr aA (aa (pv 2) (aa (pv 4) (aa (av bx (ax bh rfl n_len PySem.boot_len (aa (pv 1) ae)) ag) ae)))) (λ_=>rfl))) iD aB) (gq.kx (af (dk (bT c_put_behind hr aA (aa (pv 1) (aa (pv 4) ae)))) (af (cL (i:=2) nd (pv 4)) (ai (lW (i:=3) nd rfl (Or.inl rfl) (ax bV rfl n_len PySem.boot_len (aa (pv 4) ae)) (oF jz))))))))) (af (aM (PW.pt (eh (aq d9 (ax bh rfl n_len PySem.boot_len (aa (pv 1) ae)) ag (ar _)) (cp (aq aY (pv 2) au (ar _))))) iD aB) (gq.kx (ai (aw (iz dc (iz dc (pv 1) ag (λ_ _=>rfl)) ag (λ_ _=>rfl)))))))))),?_⟩
 show b9 _ _ _ [some (.str (S l)),none,none,none,none] H
 k_data
 refine⟨by show 0<=sizeLine;decide,λl0 h0=>⟨by show 1<=sizeLine;decide,λop hop=>?_⟩⟩
 have b1:=ay (o:=.lst []) h0
 have b2:=ay (o:=.lst [V.ref l0]) hop
 have ne:l0≠op:=λz=>by rw [z,aj] at hop;cases hop
 have o0:H op=none:=b1.free hop
 have el:upd (upd H l0 (.lst [])) op (.lst [V.ref l0]) l0=some (.lst []):=b2 _ _ aj
 have eo:upd (upd H l0 (.lst [])) op (.lst [V.ref l0]) op=some (.lst [V.ref l0]):=aj
 have sk0:g9 K (upd (upd H l0 (.lst [])) op (.lst [V.ref l0])) op [l0] [[]]:=by
  refine⟨eo,rfl,?_,λi l' ds e1 e2=>?_,λds hd=>by cases List.mem_singleton.mp hd;rfl,by decide,λds hd=>by cases List.mem_singleton.mp hd;decide⟩
  ·rw [List.nodup_cons]
   exact⟨λz=>ne (List.mem_singleton.mp z).symm,by simp⟩
  ·cases i with
   | zero =>
    cases e1
    cases e2
    exact⟨[],el,rfl⟩
   | succ i=>simp at e1
 have sm0:=b1.trans b2
 generalize upd (upd H l0 (.lst [])) op (.lst [V.ref l0])=H1 at *
 have sz:l.length<=sizeLine:=Nat.le_trans l5 (by decide)
 rw [pF]
 refine iL (α:=Nat × List Nat × Option V) (λx=>[some (.str (S l)),some (.ref op),some (.str (S x.2.1)),some (.int (x.1:Int)),x.2.2]) (λx H'=>∃ ls st,ub K H op l d x.1 x.2.1 ls st H') (λx=>l.length-x.1) (0,[],none) rfl ⟨[l0],[[]],⟨Nat.zero_le _,sk0,sm0,o0,λb hb=>by cases List.mem_singleton.mp hb;exact h0,by decide,by decide,λds hd=>by cases List.mem_singleton.mp hd;exact Nat.zero_le _,F,go⟩⟩ ?_
 rintro⟨i,ah,o⟩ H' ⟨ls,st,I⟩
 replace I:ub K H op l d i ah ls st H':=I
 obtain⟨f,go⟩:=I.go
 have ll:=I.sk.len
 have s1:=I.s1
 have s8:=I.s8
 have f':∃ f',f=f'+1:=by
  cases f with
  | zero=>cases go
  | succ f'=>exact⟨f',rfl⟩
 obtain⟨f',rfl⟩:=f'
 have go':(if l.drop i=[] then (if 1<st.length∨ah=[] then none else st[0]?.bind λds=>ds[0]?) else if ms ah (pc (l.drop i)) (st.length-1)=true then iE f' ((l.drop i).drop (aH (l.drop i))) (pc (l.drop i)) (put st (pc (l.drop i))) else none)=some d:=go
 k_data
 refine⟨_,rfl,sz,?_⟩
 rw [aN]
 refine aL (λc=>?_) (λc=>?_)
 ·have il:i<l.length:=by omega
  have dn:l.drop i≠[]:=λz=>by
   have:=congrArg List.length z
   rw [List.length_drop,List.length_nil] at this
   omega
  rw [if_neg dn] at go'
  have hms:ms ah (pc (l.drop i)) (st.length-1)=true:=Classical.byContradiction λz=>by rw [if_neg z] at go';cases go'
  rw [if_pos hms,List.drop_drop] at go'
  have pne:pc (l.drop i)≠[]:=λz=>by
   unfold ms at hms
   rw [if_pos z] at hms
   cases hms
  have pl:=lS (r:=l.drop i)
  have plen:(pc (l.drop i)).length=aH (l.drop i):=by
   show (List.take _ _).length=_
   rw [List.length_take]
   omega
  have ppos:0<aH (l.drop i):=by
   rw [<- plen]
   exact List.length_pos_iff.mpr pne
  rw [List.length_drop] at pl
  refine⟨_,λ_ _ z=>z,?_⟩
  refine⟨l,i,rfl,I.il,by omega,?_⟩
  refine bW (aS.of I.sk.top) ⟨_,rfl,ah,pc (l.drop i),st.length-1,?_,λH2 s2=>⟨_,aF.mpr rfl,?_⟩⟩
  ·rw [List.length_map,ll,show ((st.length:Int)-1)=((st.length-1:Nat):Int) by omega]
  rw [hms,if_neg (by decide)]
  have sk2:=I.sk.same s2
  have c41:pc (l.drop i)=[41]->2<=st.length:=λz=>by
   unfold ms at hms
   rw [if_neg pne,if_pos z,Bool.and_eq_true,decide_eq_true_eq] at hms
   omega
  have c40:pc (l.drop i)=[40]->st.length<=80:=λz=>by
   unfold ms at hms
   rw [if_neg pne,if_neg (by rw [z];decide),if_neg (by rw [z];decide),Bool.and_eq_true,decide_eq_true_eq,decide_eq_true_eq] at hms
   rcases hms.2 with y | y
   ·exact absurd z y
   ·omega
  refine⟨op,ls,st,_,rfl,sk2,s1,by omega,c41,qe pne,λds hd=>by have:=I.few ds hd;omega,λls' H3 sk3 k3 n3=>?_⟩
  refine⟨_,rfl,by rw [aN,plen];exact Nat.le_trans (show aH (l.drop i)<=l.length by omega) sz,(i+aH (l.drop i),pc (l.drop i),some (.str (S (pc (l.drop i))))),?_,⟨ls',put st (pc (l.drop i)),?_⟩,?_⟩
  ·rw [aN,plen]
   rfl
  ·have sm3:aE H H3:=λb o e=>by
    refine k3 b o (λz=>?_) (s2 _ _ (I.sm _ _ e))
    rcases List.mem_cons.mp z with y | y
    ·rw [y,I.f0] at e;cases e
    ·rw [I.fl b y] at e;cases e
   have pl2:=nQ (p:=pc (l.drop i)) s1
   refine⟨by show i+aH (l.drop i)<=l.length;omega,sk3,sm3,I.f0,λb hb=>?_,?_,?_,nP I.few (by show i<i+aH (l.drop i);omega),f',go'⟩
   ·rcases n3 b hb with y | y
    ·exact I.fl b y
    ·cases e:H b with
     | none=>rfl
     | some o=>rw [s2 _ _ (I.sm _ _ e)] at y;cases y
   ·rw [pl2]
    split
    ·omega
    ·split
     ·split<;>omega
     ·omega
   ·rw [pl2]
    split
    ·rename_i z;have:=c40 z;omega
    ·split
     ·split<;>omega
     ·omega
  ·show l.length-(i+aH (l.drop i))<l.length-i
   omega
 ·have dn:l.drop i=[]:=List.drop_of_length_le (by omega)
  rw [if_pos dn] at go'
  have hn:¬(1<st.length∨ah=[]):=λz=>by rw [if_pos z] at go';cases go'
  rw [if_neg hn] at go'
  obtain⟨ds,rfl⟩:∃ ds,st=[ds]:=by
   match st,s1,(show st.length<=1 by omega) with
   | [ds],_,_=>exact⟨ds,rfl⟩
  obtain⟨l1,rfl⟩:∃ l1,ls=[l1]:=by
   match ls,ll with
   | [l1],_=>exact⟨l1,rfl⟩
  obtain⟨vs,a1,a2⟩:=I.sk.it 0 l1 ds rfl rfl
  have hd:ds[0]?=some d:=go'
  obtain⟨d',r',rfl⟩:∃ d' r',ds=d'::r':=by
   cases ds with
   | nil=>cases hd
   | cons x y=>exact⟨x,y,rfl⟩
  cases hd
  obtain⟨v,vr,rfl,hv,_⟩:=a2
  have nl:=I.sk.nl _ List.mem_cons_self
  have nl':lD d=true:=by
   have:lD d=true/\bZ r'=true:=by simpa [bZ] using nl
   exact this.1
  refine bW (aS.of I.sk.top) ⟨_,rfl,?_⟩
  rw [if_neg (by show ¬(1:Int)<1;decide)]
  simp only [mJ]
  rw [if_neg (λz=>hn (.inr z))]
  refine lu (aS.of I.sk.top) (by decide) (v:=V.ref l1) rfl ?_
  exact lu (aS.of a1) (by decide) (v:=v) rfl (q v H' I.sm hv nl')
end
end K
namespace K
open PySem PySem.Spec PyProof.Rows L2
def gt:Nat->PyData->Prop
 | _,.none=>True
 | _,.str x=>1<=x.length/\x.length<=8/\∀ c∈x.cps.toList,c∈cj
 | _,.int i => -(10^60)<i/\i<10^60
 | n+1,.list ds=>∀ d∈ds,gt n d
 | n+1,.tuple ds=>∀ d∈ds,gt n d
 | _,_=>False
def jn:List (List Nat)->List Nat
 | []=>[]
 | [x]=>x
 | x::y::r=>x++32::jn (y::r)
mutual
def aQ:PyData->List Nat
 | .none=>[45]
 | .str x=>x.cps.toList
 | .int i=>(Str.ofString (toString i)).cps.toList
 | .list ds=>40::jn (bL ds)++[41]
 | .tuple ds=>40::jn (bL ds)++[41]
 | _=>[]
def bL:List PyData->List (List Nat)
 | []=>[]
 | d::ds=>aQ d::bL ds
end
mutual
def bB:PyData->PyData
 | .list ds=>.tuple (bM ds)
 | .tuple ds=>.tuple (bM ds)
 | d=>d
def bM:List PyData->List PyData
 | []=>[]
 | d::ds=>bB d::bM ds
end
def Ends (r:List Nat):Prop:=r=[]∨r.head?=some 32∨r.head?=some 41
theorem Ends.no {r:List Nat} (h:Ends r) (sg:List Nat) (h1:32∉sg) (h2:41∉sg):∀ m,run sg m r=0:=λm=>by
 cases m with
 | zero=>rfl
 | succ m =>
  cases r with
  | nil=>rfl
  | cons x r =>
   show (if x∈sg then _ else 0)=0
   rw [if_neg]
   rcases h with h | h | h
   ·cases h
   ·cases h;exact h1
   ·cases h;exact h2
theorem eJ {sg r:List Nat}:∀{x:List Nat} {m:Nat},(∀ c∈x,c∈sg)->x.length<=m->(∀ m,run sg m r=0)->run sg m (x++r)=x.length
 | [],m,_,_,h=>h m
 | c::x,0,_,h,_=>by simp at h
 | c::x,m+1,h1,h2,h3=>by
  show (if c∈sg then run sg m (x++r)+1 else 0)=_
  rw [if_pos (h1 c List.mem_cons_self),eJ (λc hc=>h1 c (List.mem_cons_of_mem _ hc)) (by simpa using h2) h3]
  rfl
theorem gS {sg:List Nat} {c:Nat} {r:List Nat} {m:Nat} (h:c∉sg):run sg m (c::r)=0:=by
 cases m with
 | zero=>rfl
 | succ m =>
  show (if c∈sg then _ else 0)=0
  rw [if_neg h]
theorem jN {sg:List Nat} {c:Nat} {r:List Nat} (h:c∈sg):run sg 1 (c::r)=1:=by
 show (if c∈sg then run sg 0 r+1 else 0)=1
 rw [if_pos h]
 rfl
theorem eg {c:Nat} {r:List Nat} (h:c=40∨c=41∨c=32):aH (c::r)=1/\pc (c::r)=[c]:=by
 have e:aH (c::r)=1:=by
  have n0:aG (c::r)=0:=by
   unfold aG
   rw [List.head?_cons,if_neg (by rcases h with rfl | rfl | rfl<;>decide),if_neg (by rcases h with rfl | rfl | rfl<;>decide)]
   exact gS (by rcases h with rfl | rfl | rfl<;>decide)
  unfold aH
  rw [if_pos n0,gS (by rcases h with rfl | rfl | rfl<;>decide),if_pos rfl]
  exact jN (by rcases h with rfl | rfl | rfl<;>decide)
 refine⟨e,?_⟩
 unfold pc
 rw [e]
 rfl
theorem nB {r:List Nat} (h:Ends r):aH (45::r)=1/\pc (45::r)=[45]:=by
 have e:aH (45::r)=1:=by
  have n0:aG (45::r)=0:=by
   unfold aG
   rw [List.head?_cons,if_pos rfl,List.tail_cons]
   rw [h.no cR (by decide) (by decide)]
   split
   ·rfl
   ·rw [if_pos rfl]
  unfold aH
  rw [if_pos n0,gS (by decide),if_pos rfl]
  exact jN (by decide)
 refine⟨e,?_⟩
 unfold pc
 rw [e]
 rfl
theorem nE {x r:List Nat} (h:Ends r) (h1:1<=x.length) (h8:x.length<=8) (ha:∀ c∈x,c∈cj):aH (x++r)=x.length/\pc (x++r)=x:=by
 obtain⟨c,y,rfl⟩:∃ c y,x=c::y:=by
  cases x with
  | nil=>simp at h1
  | cons c y=>exact⟨c,y,rfl⟩
 have hc:=ha c List.mem_cons_self
 have hc':97<=c/\c<=122:=by
  simp only [cj,List.mem_cons,List.not_mem_nil,or_false] at hc
  omega
 have e:aH ((c::y)++r)=(c::y).length:=by
  have n0:aG ((c::y)++r)=0:=by
   unfold aG
   rw [List.cons_append,List.head?_cons,if_neg (by simp;omega),if_neg (by simp;omega)]
   refine gS λz=>?_
   simp only [cR,List.mem_cons,List.not_mem_nil,or_false] at z
   omega
  unfold aH
  rw [if_pos n0,eJ ha h8 (h.no cj (by decide) (by decide)),if_neg (by simp)]
 refine⟨e,?_⟩
 unfold pc
 rw [e,List.take_left]
theorem tV:∀(cs:List Nat) (a:Nat),PySem.NumText.AllDigits cs->cs.foldl (λacc c=>acc*10+(c-48)) a<(a+1)*10^cs.length
 | [],a,_=>by simp
 | c::cs,a,h=>by
  have hc:=h.head
  have ih:=tV cs (a*10+(c-48)) h.tail
  rw [List.foldl_cons,List.length_cons,Nat.pow_succ]
  refine Nat.lt_of_lt_of_le ih ?_
  have:a*10+(c-48)+1<=(a+1)*10:=by omega
  calc (a*10+(c-48)+1)*10^cs.length<=(a+1)*10*10^cs.length:=Nat.mul_le_mul_right _ this
   _=(a+1)*(10^cs.length*10):=by rw [Nat.mul_assoc,Nat.mul_comm 10]
def bG (m:Nat):List Nat:=(Nat.toDigits 10 m).map Char.toNat
theorem bN (m:Nat):PySem.NumText.AllDigits (bG m):=λc hc=>by
 obtain⟨ch,hch,e⟩:=List.mem_map.mp hc
 have r:=digit_range (Nat.isDigit_of_mem_toDigits (by decide) (by decide) hch)
 rw [<- e]
 exact r
theorem jG (m:Nat):∀ c∈bG m,c∈cR:=λc hc=>by
 have:=bN m c hc
 have:c=48∨c=49∨c=50∨c=51∨c=52∨c=53∨c=54∨c=55∨c=56∨c=57:=by omega
 simpa [cR] using this
theorem bp (m:Nat):1<=(bG m).length/\(m<10^60->(bG m).length<=60):=by
 unfold bG
 rw [List.length_map]
 exact⟨tDigits_len_ge 10 m,λh=>digits10_le (by decide) h⟩
theorem gJ (m:Nat):PySem.NumText.digitsVal (bG m)=m:=PySem.W.KIN.val_back m
theorem iu (m:Nat) (h:0<m):(bG m).head?≠some 48:=λz=>by
 have hv:=gJ m
 have hl:=(bp m).1
 cases e:bG m with
 | nil=>rw [e] at hl;simp at hl
 | cons c r =>
  rw [e] at z hv
  cases z
  have hd:PySem.NumText.AllDigits r:=by
   have:=bN m
   rw [e] at this
   exact this.tail
  have hv2:PySem.NumText.digitsVal r=m:=hv
  have lt:PySem.NumText.digitsVal r<10^r.length:=by
   have:=tV r 0 hd
   rw [Nat.zero_add,Nat.one_mul] at this
   exact this
  cases r with
  | nil =>
   have:PySem.NumText.digitsVal []=0:=rfl
   omega
  | cons x r' =>
   rw [hv2] at lt
   have h2:=digits10_le (k:=(x::r').length) (by simp) lt
   have h3:(bG m).length=(Nat.toDigits 10 m).length:=List.length_map ..
   rw [e,List.length_cons] at h3
   omega
theorem lF:bG 0=[48]:=by decide
theorem qd {m:Nat} {r:List Nat} (hm:m<10^60) (h:Ends r):aH (bG m++r)=(bG m).length/\pc (bG m++r)=bG m:=by
 obtain⟨l1,l2⟩:=bp m
 have l2:=l2 hm
 have e:aH (bG m++r)=(bG m).length:=by
  have hn:aG (bG m++r)=(bG m).length:=by
   unfold aG
   obtain⟨c,y,e⟩:∃ c y,bG m=c::y:=by
    cases e:bG m with
    | nil=>rw [e] at l1;simp at l1
    | cons c y=>exact⟨c,y,rfl⟩
   have hc:48<=c/\c<=57:=by
    have:=bN m
    rw [e] at this
    exact this.head
   have hh:(bG m++r).head?=some c:=by rw [e];rfl
   rw [hh,if_neg (by simp;omega)]
   by_cases c0:c=48
   ·have m0:m=0:=by
     rcases Nat.eq_zero_or_pos m with z | z
     ·exact z
     ·exact absurd (by rw [e,c0];rfl) (iu m z)
    subst m0
    rw [if_pos (by rw [c0]),lF]
    rfl
   ·rw [if_neg (by simpa using c0)]
    exact eJ (jG m) l2 (h.no cR (by decide) (by decide))
  unfold aH
  rw [hn,if_neg (by omega)]
 refine⟨e,?_⟩
 unfold pc
 rw [e,List.take_left]
theorem qc {m:Nat} {r:List Nat} (m0:0<m) (hm:m<10^60) (h:Ends r):aH (45::bG m++r)=(bG m).length+1/\pc (45::bG m++r)=45::bG m:=by
 obtain⟨l1,l2⟩:=bp m
 have l2:=l2 hm
 have hr:=eJ (r:=r) (jG m) l2 (h.no cR (by decide) (by decide))
 have e:aH (45::bG m++r)=(bG m).length+1:=by
  have hn:aG (45::bG m++r)=(bG m).length+1:=by
   unfold aG
   rw [List.cons_append,List.head?_cons,if_pos rfl,List.tail_cons,if_neg,hr,if_neg (by omega)]
   have:=iu m m0
   cases e:bG m with
   | nil=>rw [e] at l1;simp at l1
   | cons c y=>rw [e] at this;exact this
  unfold aH
  rw [hn,if_neg (by omega)]
 refine⟨e,?_⟩
 unfold pc
 rw [e]
 simp
theorem dC (m:Nat):aQ (.int (m:Int))=bG m:=by
 simp only [aQ]
 exact PySem.W.KIN.signs_num m
theorem eK (m:Nat):aQ (.int (-((m+1:Nat):Int)))=45::bG (m+1):=by
 simp only [aQ]
 rw [signs_ofString]
 show (("-"++Nat.repr (m+1)).toList.map Char.toNat)=_
 rw [String.toList_append,List.map_append,Nat.toList_repr]
 rfl
theorem ot (m:Nat) (hm:m<10^60):val (bG m)=.int (m:Int):=by
 obtain⟨l1,l2⟩:=bp m
 have hne:bG m≠[]:=λz=>by rw [z] at l1;simp at l1
 have it:intText? (S (bG m))=some (m:Int):=by
  have:=PySem.intText_digits (x:=S (bG m)) (bN m) hne (by rw [aN];have:=l2 hm;omega)
  rw [fM,gJ] at this
  exact this
 obtain⟨c,y,e⟩:∃ c y,bG m=c::y:=by
  cases e:bG m with
  | nil=>exact absurd e hne
  | cons c y=>exact⟨c,y,rfl⟩
 have hc:48<=c/\c<=57:=by
  have:=bN m
  rw [e] at this
  exact this.head
 unfold val
 rw [it,e,if_neg,if_neg]
 ·rfl
 ·intro z
  have z:c∈cj:=z
  simp only [cj,List.mem_cons,List.not_mem_nil,or_false] at z
  omega
 ·intro z
  have:=(List.cons.inj z).1
  omega
theorem val_neg (m:Nat) (m0:0<m) (hm:m<10^60):val (45::bG m)=.int (-(m:Int)):=by
 obtain⟨l1,l2⟩:=bp m
 have hne:bG m≠[]:=λz=>by rw [z] at l1;simp at l1
 have it:intText? (S (45::bG m))=some (-(m:Int)):=by
  have:=PySem.intText_neg (x:=S (45::bG m)) (cs:=bG m) rfl (bN m) hne (by rw [aN,List.length_cons];have:=l2 hm;omega)
  rw [gJ] at this
  exact this
 unfold val
 rw [it,if_neg,if_neg]
 ·rfl
 ·intro z
  exact absurd (show (45:Nat)∈cj from z) (by decide)
 ·intro z
  exact hne (List.cons.inj z).2
theorem cq {f:Nat} {r ah p r':List Nat} {st:List (List PyData)} {d:PyData} (hp:pc r=p) (hl:aH r=p.length) (hr:r.drop p.length=r') (pn:p≠[]) (m:ms ah p (st.length-1)=true) (h:iE f r' p (put st p)=some d):iE (f+1) r ah st=some d:=by
 have rn:r≠[]:=λz=>by
  subst z
  rw [<- hp] at pn
  exact pn (by unfold pc;simp)
 show (if r=[] then _ else if ms ah (pc r) (st.length-1)=true then iE f (r.drop (aH r)) (pc r) (put st (pc r)) else none)=some d
 rw [if_neg rn,hp,if_pos m,hl,hr]
 exact h
theorem m7 {n:Nat} {d:PyData} {r:List Nat} (h:gt n d) (hr:Ends r) (nd:∀ ds,d≠.list ds/\d≠.tuple ds):∃ p,aQ d=p/\pc (p++r)=p/\aH (p++r)=p.length/\p≠[]/\p≠[40]/\p≠[41]/\p≠[32]/\val p=bB d:=by
 cases d with
 | none =>
  obtain⟨a,b⟩:=nB hr
  exact⟨[45],by simp [aQ],b,a,by decide,by decide,by decide,by decide,by simp [val,bB]⟩
 | str x =>
  have h:1<=x.length/\x.length<=8/\∀ c∈x.cps.toList,c∈cj:=by cases n<;>exact h
  obtain⟨h1,h2,h3⟩:=h
  obtain⟨a,b⟩:=nE hr (x:=x.cps.toList) h1 h2 h3
  obtain⟨c,y,e⟩:∃ c y,x.cps.toList=c::y:=by
   cases e:x.cps.toList with
   | nil =>
    have:x.length=x.cps.toList.length:=by cases x;simp [Str.length]
    rw [e] at this
    simp at this
    omega
   | cons c y=>exact⟨c,y,rfl⟩
  have hc:=h3 c (by rw [e];exact List.mem_cons_self)
  have hc':97<=c:=by
   simp only [cj,List.mem_cons,List.not_mem_nil,or_false] at hc
   omega
  have nb:∀ k,k<97->x.cps.toList≠[k]:=λk hk z=>by
   rw [e] at z
   have:=(List.cons.inj z).1
   omega
  refine⟨x.cps.toList,by simp [aQ],b,a,by rw [e];simp,nb 40 (by decide),nb 41 (by decide),nb 32 (by decide),?_⟩
  unfold val
  rw [if_neg (nb 45 (by decide)),if_pos (by rw [e];exact hc),<- iP]
  simp [bB]
 | int i =>
  have h:-(10^60)<i/\i<10^60:=by cases n<;>exact h
  rcases (by omega:i<0∨0<=i) with z | z
  ·obtain⟨m,rfl⟩:∃ m:Nat,i = -((m+1:Nat):Int):=⟨(-i).toNat-1,by omega⟩
   have hm:m+1<10^60:=by omega
   obtain⟨a,b⟩:=qc (r:=r) (Nat.succ_pos m) hm hr
   refine⟨45::bG (m+1),eK m,b,a,by simp,by simp,by simp,by simp,?_⟩
   rw [val_neg (m+1) (Nat.succ_pos m) hm]
   simp [bB]
  ·obtain⟨m,rfl⟩:∃ m:Nat,i=(m:Int):=⟨i.toNat,by omega⟩
   have hm:m<10^60:=by omega
   obtain⟨a,b⟩:=qd (r:=r) hm hr
   have l1:=(bp m).1
   have nb:∀ k,k<48->bG m≠[k]:=λk hk z=>by
    have:=bN m k (by rw [z];simp)
    omega
   refine⟨bG m,dC m,b,a,λz=>by rw [z] at l1;simp at l1,nb 40 (by decide),nb 41 (by decide),nb 32 (by decide),?_⟩
   rw [ot m hm]
   simp [bB]
 | list ds=>exact absurd rfl (nd ds).1
 | tuple ds=>exact absurd rfl (nd ds).2
 | bool b=>cases n<;>exact h.elim
 | dict _=>cases n<;>exact h.elim
theorem Ends.sp {r:List Nat}:Ends (32::r):=.inr (.inl rfl)
theorem Ends.cl {r:List Nat}:Ends (41::r):=.inr (.inr rfl)
def sF (ah:List Nat):Prop:=ah≠[]/\ah≠[40]/\ah≠[32]
def qP (ah:List Nat):Prop:=ah=[]∨ah=[40]∨ah=[32]
theorem lY {st:List (List PyData)} {ds:List PyData} {p:List Nat} (h1:p≠[40]) (h2:p≠[41]) (h3:p≠[32]):put (st++[ds]) p=st++[ds++[val p]]:=by
 unfold put
 rw [if_neg h1,if_neg h2,if_neg h3,List.dropLast_concat]
 simp
theorem qm {st:List (List PyData)}:put st [40]=st++[[]]:=by
 unfold put
 rw [if_pos rfl]
theorem lX {st:List (List PyData)} {ds es:List PyData}:put (st++[ds]++[es]) [41]=st++[ds++[.tuple es]]:=by
 unfold put
 rw [if_neg (by decide),if_pos rfl,List.dropLast_concat,List.dropLast_concat]
 simp
theorem qo {st:List (List PyData)}:put st [32]=st:=by
 unfold put
 rw [if_neg (by decide),if_neg (by decide),if_pos rfl]
theorem m9 {ah p:List Nat} {k:Nat} (b:qP ah) (pn:p≠[]) (h1:p≠[40]) (h2:p≠[41]) (h3:p≠[32]):ms ah p k=true:=by
 unfold ms
 rw [if_neg pn,if_neg h2,if_neg h3,decide_eq_true (show ah=[]∨ah=[40]∨ah=[32] from b),decide_eq_true (.inl h1)]
 rfl
theorem rM {ah:List Nat} {k:Nat} (b:qP ah) (h:k<80):ms ah [40] k=true:=by
 unfold ms
 rw [if_neg (by decide),if_neg (by decide),if_neg (by decide),decide_eq_true (show ah=[]∨ah=[40]∨ah=[32] from b),decide_eq_true (.inr h)]
 rfl
theorem oI {ah:List Nat} {k:Nat} (b:ah≠[32]) (h:0<k):ms ah [41] k=true:=by
 unfold ms
 rw [if_neg (by decide),if_pos rfl,decide_eq_true h,decide_eq_true b]
 rfl
theorem rN {ah:List Nat} {k:Nat} (b:sF ah) (h:0<k):ms ah [32] k=true:=by
 unfold ms
 rw [if_neg (by decide),if_neg (by decide),if_pos rfl,decide_eq_true h,decide_eq_true ⟨b.2.1,b.2.2⟩]
 rfl
def iO (n:Nat):Prop:=∀(d:PyData),gt n d->∀(r ah:List Nat) (st:List (List PyData)) (ds:List PyData) (D:PyData),Ends r->qP ah->st.length+n<=80->(∀ ah',sF ah'->∃ f,iE f r ah' (st++[ds++[bB d]])=some D)->∃ f,iE f (aQ d++r) ah (st++[ds])=some D
theorem fj {n:Nat} {d:PyData} (h:gt n d) (nd:∀ ds,d≠.list ds/\d≠.tuple ds) {r ah:List Nat} {st:List (List PyData)} {ds:List PyData} {D:PyData} (hr:Ends r) (b:qP ah) (k:∀ ah',sF ah'->∃ f,iE f r ah' (st++[ds++[bB d]])=some D):∃ f,iE f (aQ d++r) ah (st++[ds])=some D:=by
 obtain⟨p,e,h1,h2,h3,h4,h5,h6,h7⟩:=m7 h hr nd
 obtain⟨f,hf⟩:=k p ⟨h3,h4,h6⟩
 rw [e]
 refine⟨f+1,cq h1 h2 List.drop_left h3 (m9 b h3 h4 h5 h6) ?_⟩
 rw [lY h4 h5 h6,h7]
 exact hf
theorem fk {n:Nat} (ih:iO n):∀(es:List PyData),(∀ d∈es,gt n d)->es≠[]->∀(r ah:List Nat) (st:List (List PyData)) (ds dn:List PyData) (D:PyData),Ends r->(ah=[40]∨ah=[32])->st.length+1+n<=80->(∃ f,iE f r [41] (st++[ds++[.tuple (dn++bM es)]])=some D)->∃ f,iE f (jn (bL es)++41::r) ah (st++[ds]++[dn])=some D
 | [],_,ne,_,_,_,_,_,_,_,_,_,_=>absurd rfl ne
 | [d],hg,_,r,ah,st,ds,dn,D,hr,b,l,⟨f,hf⟩=>by
  have e:jn (bL [d])=aQ d:=by simp only [bL,jn]
  rw [e]
  refine ih d (hg d List.mem_cons_self) (41::r) ah (st++[ds]) dn D .cl (b.elim (λz=>.inr (.inl z)) λz=>.inr (.inr z)) (by rw [List.length_append,List.length_singleton];omega) λah' a=>⟨f+1,?_⟩
  refine cq (eg (.inr (.inl rfl))).2 (eg (.inr (.inl rfl))).1 rfl (by decide) (oI a.2.2 (by simp)) ?_
  rw [lX]
  have:bM [d]=[bB d]:=by simp only [bM]
  rw [this] at hf
  exact hf
 | d::d2::es,hg,_,r,ah,st,ds,dn,D,hr,b,l,k=>by
  have e:jn (bL (d::d2::es))=aQ d++32::jn (bL (d2::es)):=by simp only [bL,jn]
  rw [e,List.append_assoc,List.cons_append]
  refine ih d (hg d List.mem_cons_self) _ ah (st++[ds]) dn D .sp (b.elim (λz=>.inr (.inl z)) λz=>.inr (.inr z)) (by rw [List.length_append,List.length_singleton];omega) λah' a=>?_
  have ht:bM (d::d2::es)=bB d::bM (d2::es):=by simp only [bM]
  obtain⟨f,hf⟩:=fk ih (d2::es) (λx hx=>hg x (List.mem_cons_of_mem _ hx)) (by simp) r [32] st ds (dn++[bB d]) D hr (.inr rfl) l (by
   obtain⟨f,hf⟩:=k
   refine⟨f,?_⟩
   rw [ht] at hf
   rw [List.append_assoc]
   exact hf)
  refine⟨f+1,cq (eg (.inr (.inr rfl))).2 (eg (.inr (.inr rfl))).1 rfl (by decide) (rN a (by simp)) ?_⟩
  rw [qo]
  exact hf
theorem gc {n:Nat} (ih:iO n) {es:List PyData} (hg:∀ d∈es,gt n d) {r ah:List Nat} {st:List (List PyData)} {ds:List PyData} {D:PyData} (hr:Ends r) (b:qP ah) (l:st.length+(n+1)<=80) (k:∀ ah',sF ah'->∃ f,iE f r ah' (st++[ds++[.tuple (bM es)]])=some D):∃ f,iE f ((40::jn (bL es)++[41])++r) ah (st++[ds])=some D:=by
 obtain⟨f0,h0⟩:=k [41] ⟨by decide,by decide,by decide⟩
 have key:∃ f,iE f (jn (bL es)++41::r) [40] (st++[ds]++[[]])=some D:=by
  cases es with
  | nil =>
   have e:jn (bL [])=[]:=by simp only [bL,jn]
   rw [e]
   refine⟨f0+1,cq (eg (.inr (.inl rfl))).2 (eg (.inr (.inl rfl))).1 rfl (by decide) (oI (by decide) (by simp)) ?_⟩
   rw [lX]
   have:bM []=[]:=by simp only [bM]
   rw [this] at h0
   exact h0
  | cons d es=>exact fk ih (d::es) hg (by simp) r [40] st ds [] D hr (.inl rfl) (by omega) ⟨f0,by rw [List.nil_append];exact h0⟩
 obtain⟨f,hf⟩:=key
 refine⟨f+1,cq (p:=[40]) (r':=jn (bL es)++41::r) ?_ ?_ ?_ (by decide) (rM b (by rw [List.length_append,List.length_singleton];omega)) ?_⟩
 ·exact (eg (.inl rfl)).2
 ·exact (eg (.inl rfl)).1
 ·simp
 ·rw [qm]
  exact hf
theorem dY:∀ n,iO n
 | 0,d,h,r,ah,st,ds,D,hr,b,l,k=>fj h (λes=>⟨λz=>by subst z;exact h,λz=>by subst z;exact h⟩) hr b k
 | n+1,d,h,r,ah,st,ds,D,hr,b,l,k=>by
  cases d with
  | list es =>
   have e:aQ (.list es)=40::jn (bL es)++[41]:=by simp only [aQ]
   rw [e]
   exact gc (dY n) h hr b l (by simpa only [bB] using k)
  | tuple es =>
   have e:aQ (.tuple es)=40::jn (bL es)++[41]:=by simp only [aQ]
   rw [e]
   exact gc (dY n) h hr b l (by simpa only [bB] using k)
  | _=>exact fj h (λes=>⟨λz=>(nomatch z),λz=>(nomatch z)⟩) hr b k
theorem dX {d:PyData} {n:Nat} (h:gt n d) (l:n<=80):∃ f,iE f (aQ d) [] [[]]=some (bB d):=by
 have:=dY n d h [] [] [] [] (bB d) (.inl rfl) (.inl rfl) (by simpa using l) λah' a=>⟨1,?_⟩
 ·rw [List.append_nil] at this
  exact this
 ·show (if ([]:List Nat)=[] then (if 1<1∨ah'=[] then none else _) else _)=_
  rw [if_pos rfl,if_neg (λz=>z.elim (by decide) a.1)]
  rfl
end K
namespace K
open PySem PySem.Spec PyProof.Rows L2
section
variable {P:Program} {w:World} {K:PySem.W.Frag} {mg:Str->Option Value} {base:Heap}
theorem ly:∀(ts:List (List Nat)),Txt.join (S [32]) (ts.map S)=S (jn ts):=λts=>by
 have e0:Txt.join (S [32]) (ts.map S)=Str.join (S [32]) (ts.map S):=PySem.StrLaws.glued_eq_join _ _
 rw [e0]
 clear e0
 induction ts with
 | nil=>rfl
 | cons x ts ih =>
  cases ts with
  | nil=>rfl
  | cons y r =>
   show S x++S [32]++Str.join (S [32]) ((y::r).map S)=_
   rw [ih,cG,cG]
   show S (x++[32]++jn (y::r))=S (x++32::jn (y::r))
   rw [List.append_assoc]
   rfl
theorem jw:∀(ts:List (List Nat)) (a:Nat),(ts.map S).foldl (λa x=>a+x.length+1) a<=a+(jn ts).length+1
 | [],a=>by simp [jn]
 | [x],a=>by
  show a+(S x).length+1<=a+x.length+1
  rw [aN]
  omega
 | x::y::r,a=>by
  have ih:=jw (y::r) (a+x.length+1)
  show ((y::r).map S).foldl (λa x=>a+x.length+1) (a+(S x).length+1)<=a+(x++32::jn (y::r)).length+1
  rw [aN,List.length_append,List.length_cons]
  omega
theorem jA {ts:List (List Nat)} (h:(jn ts).length<=10^6):JoinOk (S [32]) (ts.map S)=true:=by
 unfold JoinOk
 have e:(ts.map S).toArray.foldl (λa x=>a+x.length+(S [32]).length) 0=(ts.map S).foldl (λa x=>a+x.length+1) 0:=by
  rw [List.foldl_toArray]
  rfl
 have h2:=jw ts 0
 show (!Builtin.Str.tooLong ((ts.map S).toArray.foldl (λa x=>a+x.length+(S [32]).length) 0))=true
 rw [e]
 unfold Builtin.Str.tooLong
 rw [decide_eq_false (by
  have:10^6+1<=sizeLine:=by decide
  omega)]
 rfl
theorem dS {x:List Nat}:∀{ts:List (List Nat)},x∈ts->x.length<=(jn ts).length
 | [],h=>by cases h
 | [y],h=>by cases List.mem_singleton.mp h;exact Nat.le_refl _
 | y::z::r,h=>by
  show x.length<=(y++32::jn (z::r)).length
  rw [List.length_append,List.length_cons]
  rcases List.mem_cons.mp h with e | e
  ·rw [e];omega
  ·have:=dS e
   omega
theorem dR:∀{ts:List (List Nat)},ts.length<=(jn ts).length+1
 | []=>by simp
 | [y]=>by simp
 | y::z::r=>by
  have:=dR (ts:=z::r)
  show (y::z::r).length<=(y++32::jn (z::r)).length+1
  simp only [List.length_append,List.length_cons] at this ⊢
  omega
theorem jR:∀ ds:List PyData,bL ds=ds.map aQ
 | []=>by simp only [bL,List.map_nil]
 | d::ds=>by simp only [bL,List.map_cons,jR ds]
theorem eL:∀ ds:List PyData,bM ds=ds.map bB
 | []=>by simp only [bM,List.map_nil]
 | d::ds=>by simp only [bM,List.map_cons,eL ds]
theorem iY {n:Nat} {d:PyData} {ds:List PyData} (h:gt n d) (e:d=.list ds∨d=.tuple ds):∃ m,n=m+1/\∀ x∈ds,gt m x:=by
 rcases e with rfl | rfl
 ·cases n with
  | zero=>exact h.elim
  | succ m=>exact⟨m,rfl,h⟩
 ·cases n with
  | zero=>exact h.elim
  | succ m=>exact⟨m,rfl,h⟩
theorem bb {d:PyData} {ds:List PyData} (e:d=.list ds∨d=.tuple ds):aQ d=40::jn (ds.map aQ)++[41]:=by
 rcases e with rfl | rfl<;>simp only [aQ,jR]
theorem gD {d:PyData} {ds:List PyData} {H:Hp} {v:V} (h:dv K H d v) (e:d=.list ds∨d=.tuple ds):∃(k:Sd) (a:Addr) (xs:List V),v=.ref a/\eQ k K H a xs/\aO K H ds xs:=by
 rcases e with rfl | rfl
 ·obtain⟨p,xs,e,h1,h2⟩:=h
  exact⟨.l,p,xs,e,h1,h2⟩
 ·obtain⟨p,xs,e,h1,h2⟩:=h
  exact⟨.t,p,xs,e,h1,h2⟩
theorem cw {k:Sd} {H H':Hp} {a:Addr} {xs:List V} (h:eQ k K H a xs) (s:aE H H'):eQ k K H' a xs:=by
 cases k
 ·exact aS.same h s
 ·exact aT.same h s
def isQ:PyData->Bool
 | .list _=>true
 | .tuple _=>true
 | _=>false
theorem i5 {d:PyData} (h:isQ d=true):∃ ds,d=.list ds∨d=.tuple ds:=by
 cases d with
 | list ds=>exact⟨ds,.inl rfl⟩
 | tuple ds=>exact⟨ds,.inr rfl⟩
 | _=>cases h
theorem cU {n:Nat} {d:PyData} (h:gt n d) (q:isQ d=false):d=.none∨(∃ x,d=.str x)∨∃ i:Int,d=.int i /\ -(10^60)<i/\i<10^60:=by
 cases d with
 | none=>exact .inl rfl
 | str x=>exact .inr (.inl ⟨x,rfl⟩)
 | int i=>exact .inr (.inr ⟨i,rfl,by cases n<;>exact h⟩)
 | list ds=>cases q
 | tuple ds=>cases q
 | bool b=>cases n<;>exact h.elim
 | dict _=>cases n<;>exact h.elim
theorem lB {i:Int} (h:-(10^60)<i/\i<10^60):i.natAbs.log2<1920:=by
 by_cases z:i.natAbs=0
 ·rw [z];decide
 ·rw [Nat.log2_lt z]
  have:i.natAbs<10^60:=by omega
  exact Nat.lt_trans this (by decide +kernel)
def bA (K:PySem.W.Frag) (L:Nat):Sp:=λvs H Q _=>∃(d:PyData) (v:V) (n:Nat),vs=[v]/\dv K H d v/\n<L/\gt n d/\(aQ d).length<=10^5/\∀ H',aE H H'->Q (.str (S (aQ d))) H'
theorem gW:aD ["thing"] ["thing"] (ao (top 12)):=hJ
theorem lI (D:az K mg "show" (top 12)):Callee P w K mg base aZ 1 "show" ["thing"] (bA K 0):=by
 refine cO D gW (λf cdv A outer s H vs Q E hr h=>?_)
 obtain⟨_,_,n,_,_,h,_⟩:=h
 exact absurd h (Nat.not_lt_zero n)
theorem lJ {L:Nat} (D:az K mg "show" (top 12)) (c_show:Callee P w K mg base aZ (L+1) "show" ["thing"] (bA K L)) (n_isinstance:mg "isinstance"=none) (n_list:mg "list"=none) (n_tuple:mg "tuple"=none) (n_str:mg "str"=none):Callee P w K mg base aZ (L+2) "show" ["thing"] (bA K (L+1)):=by
 refine cO D gW (λf cdv A outer s H vs Q E hr h=>?_)
 obtain⟨d,v,n,rfl,hd,nL,g,l5,q⟩:=h
 have nd:=gW.nd
 refine⟨_,(af (aM (aq lP (pv 0) gN (ar _)) (ai (aw au)) aB) (af (aM (a3 (ax j8 rfl n_isinstance PyProof.Rows.boot_isinstance (aa (pv 0) (aa (b0 (aa (aU (v:=.ty "tuple") rfl n_tuple L2.boot_tuple rfl) (aa (aU (v:=.ty "list") rfl n_list L2.boot_list rfl) ae))) ae))) (λ_=>rfl)) (ai (aw (av bj (av bj au (fZ PySem.F.plainAttrs_str PySem.F.slot_str_join PySem.F.type_str_join jF au (aa (jK rfl (sM (N':=["within"]) (js:=[none]) rfl rfl) (i9 (pv 0)) (λ_ _ _ _=>(bE (i:=0) (show List.Nodup [("within":Str)] from by decide +kernel) rfl (Or.inl rfl) (.inr rfl))) (λ_ _ _ _=>dj) (λ_ _ _ _=>(ba c_show (hr.mono (by omega)) rfl aA (aa (pv 0) ae)))) ae))) au))) aB) (ai (aw (a5 dJ rfl n_str L2.boot_str (aa (pv 0) ae)))))),?_⟩
 show b9 _ _ _ [some v] H
 k_data
 cases hq:isQ d with
 | true =>
  obtain⟨ds,e⟩:=i5 hq
  have es:=bb e
  obtain⟨m,rfl,gm⟩:=iY g e
  obtain⟨k,a,xs,rfl,hS,hds⟩:=gD hd e
  rw [if_neg (λz=>nomatch z)]
  refine⟨by show 2<=sizeLine;decide,λp1 hp1=>?_⟩
  have s1:=ay (o:=.tup [V.ty "tuple",V.ty "list"]) hp1
  refine lq (dv.same s1 _ hd) aj ⟨true,?_,?_⟩
  ·rw [aF]
   rcases e with rfl | rfl<;>rfl
  rw [if_pos rfl]
  generalize upd H p1 _=H1 at *
  have lx:ds.length=xs.length:=cF.len hds
  have jl:(jn (ds.map aQ)).length<=10^5:=by
   rw [es] at l5
   simp only [List.length_append,List.length_cons] at l5
   omega
  have ll:=dR (ts:=ds.map aQ)
  rw [List.length_map] at ll
  refine⟨rfl,eW rfl (cw hS s1) ?_⟩
  refine dO (λi ys H'=>aE H1 H'/\ys=((ds.take i).map λx=>V.str (S (aQ x)))) ⟨aE.refl _,rfl⟩ (by rw [<- lx];exact Nat.le_trans (show ds.length<=10^6 by omega) (by decide)) (λi ys H' hi h=>⟨cw hS (s1.trans h.1),by rw [h.2,List.length_map,List.length_take];exact Nat.min_le_left ..⟩) ?_ ?_
  ·rintro i x ys H2 hx ⟨s2,rfl⟩
   obtain⟨d',hd',hv'⟩:=hds.get hx
   simp only [br,List.map_nil,List.map_cons,Option.join]
   k_data
   refine⟨True.intro,d',x,m,rfl,dv.same (s1.trans s2) _ hv',by omega,gm d' (List.mem_of_getElem? hd'),Nat.le_trans (dS (List.mem_map.mpr ⟨d',List.mem_of_getElem? hd',rfl⟩)) jl,λH3 s3=>⟨s2.trans s3,?_⟩⟩
   rw [List.take_add_one,hd',List.map_append]
   rfl
  ·rintro ys H2 p2 ⟨s2,rfl⟩ hp2
   rw [<- lx,List.take_length]
   have e3:(ds.map λx=>V.str (S (aQ x)))=((ds.map aQ).map S).map V.str:=by rw [List.map_map,List.map_map];rfl
   rw [e3]
   have s3:=ay (o:=.lst (((ds.map aQ).map S).map V.str)) hp2
   rw [mP]
   refine⟨_,p2,_,rfl,rfl,aS.of aj,jA (by omega),?_⟩
   rw [ly,nt,mQ]
   have z1:(S [40]).length+(S (jn (ds.map aQ))).length<=sizeLine:=by
    rw [aN,aN]
    exact Nat.le_trans (show [40].length+(jn (ds.map aQ)).length<=10^6 by simp;omega) (by decide)
   refine⟨_,rfl,_,rfl,z1,_,rfl,_,rfl,?_,?_⟩
   ·rw [cG,aN,aN]
    exact Nat.le_trans (show ([40]++jn (ds.map aQ)).length+[41].length<=10^6 by simp;omega) (by decide)
   ·rw [cG,cG,show ([40]++jn (ds.map aQ))++[41]=aQ d by rw [es];rfl]
    exact q _ (s1.trans (s2.trans s3))
 | false =>
  have isu:∀{H':Hp} {p1:Addr} {Q':VK},H' p1=some (.tup [V.ty "tuple",V.ty "list"])->dv K H' d v->Q' (.bl false) H'->jM K [v,.ref p1] H' Q':=λhp hd' hq'=>lq hd' hp (by
   have:(rq d || rz d)=false:=by cases d<;>first | rfl | cases hq
   rw [this]
   exact hq')
  have fin:v≠.a9->(∀ H',aE H H'->lZ [v] H' Q)->if v=V.a9 then Q (V.str (Str.ofString "-")) H else [V.ty "tuple",V.ty "list"].length<=sizeLine/\∀(p:Addr),H p=none->jM K [v,V.ref p] (upd H p (HO.tup [V.ty "tuple",V.ty "list"])) λx H'=>∃ k,kM K x H' k/\if k=true then sD K "str" (V.str (Str.ofString " ")) H'/\lj K (cE 0) [some v] H' λJ H1=>cX J [none] (cf 0) gh (cP (bA K L) [] E0 (bP (cE 0) fK)) [some v] (λx H1=>rJoin K (V.str (Str.ofString " ")) [x] H1 λy H2=>∃ i,V.str (Str.ofString "(")=V.str i/\∃ x,y=V.str x/\i.length+x.length<=sizeLine/\∃ i_1,V.str (i++x)=V.str i_1/\∃ x,V.str (Str.ofString ")")=V.str x/\i_1.length+x.length<=sizeLine/\Q (V.str (i_1++x)) H2) H1 else lZ [v] H' Q:=λnv hx=>by
   rw [if_neg nv]
   refine⟨by show 2<=sizeLine;decide,λp1 hp1=>?_⟩
   have s1:=ay (o:=.tup [V.ty "tuple",V.ty "list"]) hp1
   exact isu aj (dv.same s1 _ hd) ⟨false,aF.mpr rfl,by rw [if_neg (by decide)];exact hx _ s1⟩
  rcases cU g hq with rfl | ⟨x,rfl⟩|⟨i,rfl,hi⟩
  ·cases hd
   rw [if_pos rfl,m8]
   have:=q H (aE.refl _)
   simp only [aQ] at this
   exact this
  ·cases hd
   refine fin (λz=>nomatch z) λH' s'=>.inr ⟨x,rfl,?_⟩
   have:=q H' s'
   simp only [aQ,<- iP] at this
   exact this
  ·cases hd
   refine fin (λz=>nomatch z) λH' s'=>.inl ⟨i,rfl,lB hi,?_⟩
   have:=q H' s'
   simp only [aQ,<- iP] at this
   exact this
theorem join_loop {L m:Nat} {d:PyData} {ds:List PyData} {v:V} {H:Hp} {Q:VK} (e:d=.list ds∨d=.tuple ds) (hd:dv K H d v) (mL:m<L) (gm:∀ x∈ds,gt m x) (l5:(aQ d).length<=10^5) (q:∀ H',aE H H'->Q (.str (S (aQ d))) H'):sD K "str" (V.str (Str.ofString " ")) H/\lj K (cE 0) [some v] H λJ H1=>cX J [none] (cf 0) gh (cP (bA K L) [] E0 (bP (cE 0) fK)) [some v] (λx H1=>rJoin K (V.str (Str.ofString " ")) [x] H1 λy H2=>∃ i,V.str (Str.ofString "(")=V.str i/\∃ x,y=V.str x/\i.length+x.length<=sizeLine/\∃ i_1,V.str (i++x)=V.str i_1/\∃ x,V.str (Str.ofString ")")=V.str x/\i_1.length+x.length<=sizeLine/\Q (V.str (i_1++x)) H2) H1:=by
 have es:=bb e
 obtain⟨k,a,xs,rfl,hS,hds⟩:=gD hd e
 have lx:ds.length=xs.length:=cF.len hds
 have jl:(jn (ds.map aQ)).length<=10^5:=by
  rw [es] at l5
  simp only [List.length_append,List.length_cons] at l5
  omega
 have ll:=dR (ts:=ds.map aQ)
 rw [List.length_map] at ll
 refine⟨rfl,eW rfl hS ?_⟩
 refine dO (λi ys H'=>aE H H'/\ys=((ds.take i).map λx=>V.str (S (aQ x)))) ⟨aE.refl _,rfl⟩ (by rw [<- lx];exact Nat.le_trans (show ds.length<=10^6 by omega) (by decide)) (λi ys H' hi h=>⟨cw hS h.1,by rw [h.2,List.length_map,List.length_take];exact Nat.min_le_left ..⟩) ?_ ?_
 ·rintro i x ys H2 hx ⟨s2,rfl⟩
  obtain⟨d',hd',hv'⟩:=hds.get hx
  simp only [br,List.map_nil,List.map_cons,Option.join]
  k_data
  refine⟨True.intro,d',x,m,rfl,dv.same s2 _ hv',mL,gm d' (List.mem_of_getElem? hd'),Nat.le_trans (dS (List.mem_map.mpr ⟨d',List.mem_of_getElem? hd',rfl⟩)) jl,λH3 s3=>⟨s2.trans s3,?_⟩⟩
  rw [List.take_add_one,hd',List.map_append]
  rfl
 ·rintro ys H2 p2 ⟨s2,rfl⟩ hp2
  rw [<- lx,List.take_length]
  have e3:(ds.map λx=>V.str (S (aQ x)))=((ds.map aQ).map S).map V.str:=by rw [List.map_map,List.map_map];rfl
  rw [e3]
  have s3:=ay (o:=.lst (((ds.map aQ).map S).map V.str)) hp2
  rw [mP]
  refine⟨_,p2,_,rfl,rfl,aS.of aj,jA (by omega),?_⟩
  rw [ly,nt,mQ]
  have z1:(S [40]).length+(S (jn (ds.map aQ))).length<=sizeLine:=by
   rw [aN,aN]
   exact Nat.le_trans (show [40].length+(jn (ds.map aQ)).length<=10^6 by simp;omega) (by decide)
  refine⟨_,rfl,_,rfl,z1,_,rfl,_,rfl,?_,?_⟩
  ·rw [cG,aN,aN]
   exact Nat.le_trans (show ([40]++jn (ds.map aQ)).length+[41].length<=10^6 by simp;omega) (by decide)
  ·rw [cG,cG,show ([40]++jn (ds.map aQ))++[41]=aQ d by rw [es];rfl]
   exact q _ (s2.trans s3)
theorem bz:aD ["_law_thing_here"] ["_law_thing_here"] (ao (top 25)):=hJ
theorem p8 (D:az K mg "_law_written" (top 25)):Callee P w K mg base aZ 1 "_law_written" ["_law_thing_here"] (bA K 0):=by
 refine cO D bz (λf cdv A outer s H vs Q E hr h=>?_)
 obtain⟨_,_,n,_,_,h,_⟩:=h
 exact absurd h (Nat.not_lt_zero n)
theorem p9 {L:Nat} (D:az K mg "_law_written" (top 25)) (c__law_written:Callee P w K mg base aZ (L+1) "_law_written" ["_law_thing_here"] (bA K L)) (n_isinstance:mg "isinstance"=none) (n_list:mg "list"=none) (n_tuple:mg "tuple"=none) (n_str:mg "str"=none):Callee P w K mg base aZ (L+2) "_law_written" ["_law_thing_here"] (bA K (L+1)):=by
 refine cO D bz (λf cdv A outer s H vs Q E hr h=>?_)
 obtain⟨d,v,n,rfl,hd,nL,g,l5,q⟩:=h
 have nd:=bz.nd
 refine⟨_,(af (aM (aq lP (pv 0) gN (ar _)) (ai (aw au)) aB) (af (aM (a3 (ax aJ rfl n_isinstance PyProof.Rows.boot_isinstance (aa (pv 0) (aa (aU (v:=.ty "str") rfl n_str L2.j5 rfl) ae))) (λ_=>rfl)) (ai (aw (pv 0))) aB) (af (aM (PW.pt (eh (a3 (ax aJ rfl n_isinstance PyProof.Rows.boot_isinstance (aa (pv 0) (aa (aU (v:=.ty "tuple") rfl n_tuple L2.boot_tuple rfl) ae))) (λ_=>rfl)) (cp (a3 (ax aJ rfl n_isinstance PyProof.Rows.boot_isinstance (aa (pv 0) (aa (aU (v:=.ty "list") rfl n_list L2.boot_list rfl) ae))) (λ_=>rfl))))) (ai (aw (av bj (av bj au (fZ PySem.F.plainAttrs_str PySem.F.slot_str_join PySem.F.type_str_join jF au (aa (jK rfl (sM (N':=["_law_one"]) (js:=[none]) rfl rfl) (i9 (pv 0)) (λ_ _ _ _=>(bE (i:=0) (show List.Nodup [("_law_one":Str)] from by decide +kernel) rfl (Or.inl rfl) (.inr rfl))) (λ_ _ _ _=>dj) (λ_ _ _ _=>(ba c__law_written (hr.mono (by omega)) rfl aA (aa (pv 0) ae)))) ae))) au))) aB) (ai (aw (a5 dJ rfl n_str L2.boot_str (aa (pv 0) ae))))))),?_⟩
 show b9 _ _ _ [some v] H
 k_data
 cases hq:isQ d with
 | true =>
  obtain⟨ds,e⟩:=i5 hq
  obtain⟨m,rfl,gm⟩:=iY g e
  have J:=join_loop (L:=L) e hd (by omega) gm l5 q
  have nv:v≠V.a9:=λz=>by
   obtain⟨k,a,xs,rfl,_⟩:=gD hd e
   cases z
  rw [if_neg nv]
  refine gG hd ⟨false,?_,?_⟩
  ·rw [aF]
   rcases e with rfl | rfl<;>rfl
  rw [if_neg (by decide)]
  refine aX hd ⟨_,aF.mpr rfl,?_⟩
  refine aL (λ_=>J) (λc=>?_)
  refine a4 hd ⟨true,?_,?_⟩
  ·rw [aF]
   rcases e with rfl | rfl
   ·rfl
   ·exact absurd rfl c
  rw [if_pos rfl]
  exact J
 | false =>
  rcases cU g hq with rfl | ⟨x,rfl⟩|⟨i,rfl,hi⟩
  ·cases hd
   rw [if_pos rfl,m8]
   have:=q H (aE.refl _)
   simp only [aQ] at this
   exact this
  ·cases hd
   rw [if_neg (λz=>nomatch z)]
   refine gG (d:=.str x) rfl ⟨true,rfl,?_⟩
   rw [if_pos rfl]
   have:=q H (aE.refl _)
   simp only [aQ,<- iP] at this
   exact this
  ·cases hd
   rw [if_neg (λz=>nomatch z)]
   refine gG (d:=.int i) rfl ⟨false,rfl,?_⟩
   rw [if_neg (by decide)]
   refine aX (d:=.int i) rfl ⟨false,rfl,?_⟩
   rw [if_neg (by decide)]
   refine a4 (d:=.int i) rfl ⟨false,rfl,?_⟩
   rw [if_neg (by decide)]
   refine .inl ⟨i,rfl,lB hi,?_⟩
   have:=q H (aE.refl _)
   simp only [aQ,<- iP] at this
   exact this
theorem oN (D:az K mg "_law_written" (top 25)) (n_isinstance:mg "isinstance"=none) (n_list:mg "list"=none) (n_tuple:mg "tuple"=none) (n_str:mg "str"=none):∀ L:Nat,Callee P w K mg base aZ (L+1) "_law_written" ["_law_thing_here"] (bA K L)
 | 0=>p8 D
 | L+1=>p9 D (oN D n_isinstance n_list n_tuple n_str L) n_isinstance n_list n_tuple n_str
theorem jI (D:az K mg "show" (top 12)) (n_isinstance:mg "isinstance"=none) (n_list:mg "list"=none) (n_tuple:mg "tuple"=none) (n_str:mg "str"=none):∀ L:Nat,Callee P w K mg base aZ (L+1) "show" ["thing"] (bA K L)
 | 0=>lI D
 | L+1=>lJ D (jI D n_isinstance n_list n_tuple n_str L) n_isinstance n_list n_tuple n_str
def gg (K:PySem.W.Frag) (L:Nat):Sp:=λvs H Q _=>∃(d:PyData) (v:V) (n:Nat),vs=[v]/\dv K H d v/\n<L/\gt n d/\(aQ d).length<=10^5/\∀ u H',aE H H'->dv K H' (bB d) u->Q u H'
theorem bK:aD ["_law_thing_here"] ["_law_thing_here"] (ao (top 26)):=hJ
theorem p5 {L:Nat} (D:az K mg "_law_tuples" (top 26)) (c__law_tuples:Callee P w K mg base aZ (L+1) "_law_tuples" ["_law_thing_here"] (gg K L)) (n_isinstance:mg "isinstance"=none) (n_list:mg "list"=none) (n_tuple:mg "tuple"=none):Callee P w K mg base aZ (L+2) "_law_tuples" ["_law_thing_here"] (gg K (L+1)):=by
 refine cO D bK (λf cdv A outer s H vs Q E hr h=>?_)
 obtain⟨d,v,n,rfl,hd,nL,g,l5,q⟩:=h
 have nd:=bK.nd
 refine⟨_,(af (aM (PW.pt (eh (a3 (ax aJ rfl n_isinstance PyProof.Rows.boot_isinstance (aa (pv 0) (aa (aU (v:=.ty "tuple") rfl n_tuple L2.boot_tuple rfl) ae))) (λ_=>rfl)) (cp (a3 (ax aJ rfl n_isinstance PyProof.Rows.boot_isinstance (aa (pv 0) (aa (aU (v:=.ty "list") rfl n_list L2.boot_list rfl) ae))) (λ_=>rfl))))) (ai (aw (a5 bQ rfl n_tuple L2.boot_tuple (aa (jK rfl (sM (N':=["_law_one"]) (js:=[none]) rfl rfl) (i9 (pv 0)) (λ_ _ _ _=>(bE (i:=0) (show List.Nodup [("_law_one":Str)] from by decide +kernel) rfl (Or.inl rfl) (.inr rfl))) (λ_ _ _ _=>dj) (λ_ _ _ _=>(ba c__law_tuples (hr.mono (by omega)) rfl aA (aa (pv 0) ae)))) ae)))) aB) (ai (aw (pv 0)))),?_⟩
 show b9 _ _ _ [some v] H
 k_data
 have leafQ:isQ d=false->Q v H:=λhq=>by
  have e:bB d=d:=by
   rcases cU g hq with rfl | ⟨x,rfl⟩|⟨i,rfl,hi⟩<;>simp only [bB]
  exact q v H (aE.refl _) (by rw [e];exact hd)
 cases hq:isQ d with
 | true =>
  obtain⟨ds,e⟩:=i5 hq
  have es:=bb e
  obtain⟨m,rfl,gm⟩:=iY g e
  have et:bB d=.tuple (ds.map bB):=by
   rcases e with rfl | rfl<;>simp only [bB,eL]
  have jl:(jn (ds.map aQ)).length<=10^5:=by
   rw [es] at l5
   simp only [List.length_append,List.length_cons] at l5
   omega
  have ll:=dR (ts:=ds.map aQ)
  rw [List.length_map] at ll
  have J:lj K (cE 0) [some v] H λJ H1=>cX J [none] (cf 0) gh (cP (gg K L) [] E0 (bP (cE 0) fK)) [some v] (λx H1=>∃ p,x=V.ref p/\∃ x,(aS K H1 p x/\∀(l:Addr),H1 l=none->Q (V.ref l) (upd H1 l (HO.tup x)))∨aT K H1 p x/\Q (V.ref p) H1) H1:=by
   obtain⟨k,a,xs,rfl,hS,hds⟩:=gD hd e
   have lx:ds.length=xs.length:=cF.len hds
   refine eW rfl hS ?_
   refine dO (λi ys H'=>aE H H'/\aO K H' ((ds.take i).map bB) ys) ⟨aE.refl _,rfl⟩ (by rw [<- lx];exact Nat.le_trans (show ds.length<=10^6 by omega) (by decide)) (λi ys H' hi h=>⟨cw hS h.1,by rw [<- cF.len h.2,List.length_map,List.length_take];exact Nat.min_le_left ..⟩) ?_ ?_
   ·rintro i x ys H2 hx ⟨s2,hys⟩
    obtain⟨d',hd',hv'⟩:=hds.get hx
    simp only [br,List.map_nil,List.map_cons,Option.join]
    k_data
    refine⟨True.intro,d',x,m,rfl,dv.same s2 _ hv',by omega,gm d' (List.mem_of_getElem? hd'),Nat.le_trans (dS (List.mem_map.mpr ⟨d',List.mem_of_getElem? hd',rfl⟩)) jl,λu H3 s3 hu=>⟨s2.trans s3,?_⟩⟩
    rw [List.take_add_one,hd',List.map_append]
    exact (aO.same s3 _ hys).append ⟨u,[],rfl,hu,rfl⟩
   ·rintro ys H2 p2 ⟨s2,hys⟩ hp2
    rw [<- lx,List.take_length] at hys
    have s3:=ay (o:=.lst ys) hp2
    refine⟨p2,rfl,ys,.inl ⟨aS.of aj,λp3 hp3=>?_⟩⟩
    have s4:=ay (o:=.tup ys) hp3
    refine q _ _ (s2.trans (s3.trans s4)) ?_
    rw [et]
    exact⟨p3,ys,rfl,aT.of aj,aO.same (s3.trans s4) _ hys⟩
  refine aX hd ⟨_,aF.mpr rfl,?_⟩
  refine aL (λ_=>J) (λc=>?_)
  refine a4 hd ⟨true,?_,?_⟩
  ·rw [aF]
   rcases e with rfl | rfl
   ·rfl
   ·exact absurd rfl c
  rw [if_pos rfl]
  exact J
 | false =>
  have h1:rz d=false:=by cases d<;>first | rfl | cases hq
  have h2:rq d=false:=by cases d<;>first | rfl | cases hq
  refine aX hd ⟨false,by rw [h1];exact aF.mpr rfl,?_⟩
  rw [if_neg (by decide)]
  refine a4 hd ⟨false,by rw [h2];exact aF.mpr rfl,?_⟩
  rw [if_neg (by decide)]
  exact leafQ hq
theorem p4 (D:az K mg "_law_tuples" (top 26)):Callee P w K mg base aZ 1 "_law_tuples" ["_law_thing_here"] (gg K 0):=by
 refine cO D bK (λf cdv A outer s H vs Q E hr h=>?_)
 obtain⟨_,_,n,_,_,h,_⟩:=h
 exact absurd h (Nat.not_lt_zero n)
theorem oM (D:az K mg "_law_tuples" (top 26)) (n_isinstance:mg "isinstance"=none) (n_list:mg "list"=none) (n_tuple:mg "tuple"=none):∀ L:Nat,Callee P w K mg base aZ (L+1) "_law_tuples" ["_law_thing_here"] (gg K L)
 | 0=>p4 D
 | L+1=>p5 D (oM D n_isinstance n_list n_tuple L) n_isinstance n_list n_tuple
def dG (p l:Addr) (n:Nat) (H:Hp):Prop:=∃(i j:Int) (ns:List Int),H p=some (jZ l i j)/\H l=some (.lst (ns.map V.int))/\ns.length<=63/\0<=i/\i<=n
theorem dG.tp {p l:Addr} {n:Nat} {H:Hp} (h:dG p l n H):Tp p n H:=by
 obtain⟨i,j,ns,r⟩:=h
 exact⟨l,i,j,ns,r⟩
theorem dG.same {p l:Addr} {n:Nat} {H H':Hp} (h:dG p l n H) (s:aE H H'):dG p l n H':=by
 obtain⟨i,j,ns,a,b,c⟩:=h
 exact⟨i,j,ns,s _ _ a,s _ _ b,c⟩
theorem dG.more {p l:Addr} {n m:Nat} {H:Hp} (h:dG p l n H) (z:n<=m):dG p l m H:=by
 obtain⟨i,j,ns,a,b,c,d,e⟩:=h
 exact⟨i,j,ns,a,b,c,d,by omega⟩
def jU (K:PySem.W.Frag):Sp:=λvs H Q _=>∃(a:Addr) (ns:List Int),vs=[.ref a]/\aS K H a (ns.map V.int)/\ns.length<=63/\∀ p l H',aE H H'->H p=none->H l=none->dG p l 0 H'->Q (.ref p) H'
theorem lK (D:az K mg "_law_tape" (top 19)):Callee P w K mg base aZ 1 "_law_tape" ["_law_script"] (jU K):=by
 refine cO D dA (λf cdv A outer s H vs Q E hr h=>?_)
 obtain⟨a,ns,rfl,hS,h63,q⟩:=h
 have nd:=dA.nd
 refine⟨_,(ai (aw (nG (fe au (di oa (pv 0) nM (b3 ag)) (fe au ag (fe au ag nO))) rfl rfl (by intro z;cases z) (by decide)))),?_⟩
 show qE _ _ [some (.ref a)] H
 k_data
 intro p hp
 have s1:=ay (o:=.dK []) hp
 refine⟨a,_,rfl,hS.same s1,λpl hpl=>⟨?_,[(Sum.inr "cells",.ref pl),(Sum.inr "spot",.int 0),(Sum.inr "left",.int 0)],rfl,by show 3<=15;decide,?_⟩⟩
 ·rw [ak (aI aj hpl),aj]
 ·obtain⟨ns',e1,e2⟩:=kR (ns:=ns) (lo:=none) (hi:=some 63)
  have nep:pl≠p:=λz=>by rw [z,aj] at hpl;cases hpl
  rw [e1]
  exact q p pl _ ((s1.trans (ay hpl)).upd hp) hp (s1.free hpl) ⟨0,0,ns',aj,by rw [ak nep,aj],by omega,by decide,by decide⟩
def bF:Sp:=λvs H Q _=>∃(p l:Addr) (m:Int) (n:Nat),vs=[.ref p,.int m]/\dG p l n H/\n<=10^60/\0<m/\m<10^200/\∀ r H',0<=r->r<m->Off p H H'->dG p l (n+1) H'->Q (.int r) H'
theorem lG (D:az K mg "_law_draw" (top 20)) (n_len:mg "len"=none):Callee P w K mg base aZ 1 "_law_draw" ["_law_tape_here","_law_many"] bF:=by
 refine cO D dy (λf cdv A outer s H vs Q E hr h=>?_)
 obtain⟨p,l,m,n,rfl,⟨i,j,ns,hp,hl,h63,i0,i1⟩,hn,m0,m1,q⟩:=h
 have nd:=dy.nd
 refine⟨_,(af (aM (aq d9 (dh (d7 hr) (pv 0) au (λ_ _=>rfl)) ag (ar _)) (af (cL (i:=2) nd (av cm (dh (d7 hr) (pv 0) au (λ_ _=>rfl)) (pv 1))) (af (gP (d7 hr) (pv 0) au (av de (dh (d7 hr) (pv 0) au (λ_ _=>rfl)) (pv 1)) rfl) (ai (aw (pv 2))))) aB) (af (cL (i:=3) nd (dh (d7 hr) (pv 0) au (λ_ _=>rfl))) (af (gP (d7 hr) (pv 0) au (av bf (pv 3) ag) rfl) (af (cL (i:=4) nd (dh (d7 hr) (pv 0) au (λ_ _=>rfl))) (af (cL (i:=5) nd ag) (af (gO (aM (aq d9 (ax bh rfl n_len PySem.boot_len (aa (pv 4) ae)) ag (ar _)) (ai (cL (i:=5) nd (iz dc (pv 4) (av cm (pv 3) (ax bh rfl n_len PySem.boot_len (aa (pv 4) ae))) (λ_ _=>rfl)))) aB)) (af (aM (PW.pt (gR (aq d9 (pv 5) ag (ar _)) (gR (aq aY (av cm (pv 5) ag) ag (ar _)) (jL (aq ix (pv 3) (ax bh rfl n_len PySem.boot_len (aa (pv 4) ae)) (ar _)))))) (af (gP (d7 hr) (pv 0) au (av de (av de (pv 5) ag) (pv 1)) rfl) (ai (aw (av cm (av de (pv 5) ag) (pv 1))))) aB) (af (cL (i:=6) nd (av cm (av df (av bf (av bf (av bf (av cm (pv 5) ag) (av df (av df ag (pv 3)) (pv 3))) (av df ag (pv 3))) ag) ag) ag)) (ai (aw (av cm (av de (av cm (av df (pv 6) (av bf (pv 6) ag)) ag) ag) (pv 1)))))))))))),?_⟩
 show b9 _ _ _ [some (.ref p),some (.int m),none,none,none,none,none] H
 k_data
 have lp:l≠p:=fW hl hp (by intro z;cases z)
 have mb:Bd m:=Bd.of (by omega) (by omega)
 have em:=λx:Int=>Int.emod_nonneg x (show m≠0 by omega)
 have el:=λx:Int=>Int.emod_lt_of_pos x m0
 refine⟨_,g7 hp,j,rfl,aL (λc=>?_) (λc=>?_)⟩
 ·exact⟨_,g7 hp,j,rfl,m0,_,g7 hp,j,rfl,m0,mb,_,iI hp,q _ _ (em _) (el _) Off.qG ⟨i,_,ns,aj,by rw [ak lp];exact hl,h63,i0,by omega⟩⟩
 ·refine⟨_,oo hp,i,rfl,_,mm hp,_,ml aj,?_⟩
  have hp1:upd H p (jZ l (i+1) j) p=some (jZ l (i+1) j):=aj
  have hl1:upd H p (jZ l (i+1) j) l=some (.lst (ns.map V.int)):=by rw [ak lp];exact hl
  have of1:Off p H (upd H p (jZ l (i+1) j)):=Off.qG
  generalize upd H p (jZ l (i+1) j)=H1 at *
  refine⟨λσ' H'=>H'=H1/\∃ c,σ'=[some (.ref p),some (.int m),none,some (.int i),some (.ref l),some (.int c),none],?_,?_⟩
  ·k_data
   refine bW (aS.of hl1) ⟨_,rfl,?_⟩
   rw [List.length_map]
   refine aL (λc1=>?_) (λc1=>rfl)
   refine bW (aS.of hl1) ?_
   rw [List.length_map]
   have r0:=Int.emod_nonneg i (show (ns.length:Int)≠0 by omega)
   have r1:=Int.emod_lt_of_pos i c1
   refine⟨_,rfl,c1,mZ (aS.of hl1) r0 (by rw [List.length_map];exact r1) λv hv=>?_⟩
   obtain⟨x,_,rfl⟩:=List.mem_map.mp hv
   exact⟨rfl,x,rfl⟩
  ·rintro σ' H' ⟨rfl,c',rfl⟩
   k_data
   have ib:i<=10^60:=by omega
   have ii:7919*i*i<=7919*i*10^60:=Int.mul_le_mul_of_nonneg_left ib (by omega)
   have i2:0<=7919*i*i:=Int.mul_nonneg (by omega) i0
   have c0:=Int.emod_nonneg c' (show (2147483629:Int)≠0 by decide)
   have c1:=Int.emod_lt_of_pos c' (show (0:Int)<2147483629 by decide)
   have sd:∀ z:Int,0<=z%2147483647/\z%2147483647<2147483647:=λz=>⟨Int.emod_nonneg z (by decide),Int.emod_lt_of_pos z (by decide)⟩
   have T1:dG p l (n+1) H':=⟨i+1,j,ns,hp1,hl1,h63,by omega,by omega⟩
   have fin:Bd 7919/\Bd i/\Bd (7919*i)/\Bd i/\Bd 48271/\Bd i/\Bd (c'%2147483629+7919*i*i+48271*i+1)/\Bd 69621/\Bd ((c'%2147483629+7919*i*i+48271*i+1)*69621%2147483647)/\Bd ((c'%2147483629+7919*i*i+48271*i+1)*69621%2147483647+16807)/\Bd 64/\0<m:=by
    have s1:=sd ((c'%2147483629+7919*i*i+48271*i+1)*69621)
    exact⟨qM (by decide),Bd.of (by omega) (by omega),Bd.of (by omega) (by omega),Bd.of (by omega) (by omega),qM (by decide),Bd.of (by omega) (by omega),Bd.of (by omega) (by omega),qM (by decide),Bd.of (by omega) (by omega),Bd.of (by omega) (by omega),qM (by decide),m0⟩
   obtain⟨f1,f2,f3,f4,f5,f6,f7,f8,f9,f10,f11,f12⟩:=fin
   have fq:∀ x,Q (V.int (x%m)) H':=λx=>q _ _ (em _) (el _) of1 T1
   refine aL (λc2=>aL (λc3=>?_) (λc3=>⟨f1,f2,f3,f4,f5,f6,f7,f8,f9,f10,f11,f12,fq _⟩)) (λc2=>⟨f1,f2,f3,f4,f5,f6,f7,f8,f9,f10,f11,f12,fq _⟩)
   refine bW (aS.of hl1) ⟨_,rfl,aL (λc4=>⟨qM (by decide),m0,mb,_,iI hp1,qM (by decide),m0,?_⟩) (λc4=>⟨f1,f2,f3,f4,f5,f6,f7,f8,f9,f10,f11,f12,fq _⟩)⟩
   exact q _ _ (em _) (el _) (of1.trans Off.qG) ⟨i+1,_,ns,aj,by rw [ak lp];exact hl1,h63,by omega,by omega⟩
theorem Tp.up {p:Addr} {n m:Nat} {H:Hp} (h:Tp p n H) (l:n<=m):Tp p m H:=by
 obtain⟨a,i,j,ns,h1,h2,h3,h4,h5⟩:=h
 exact⟨a,i,j,ns,h1,h2,h3,h4,by omega⟩
def uz (H:Hp) (t c:Addr) (n i:Nat) (σ':L2.St) (H':Hp):Prop:=∃(x:List Nat) (o2:Option V),σ'=[some (.ref t),some (.str (S x)),o2]/\x.length=i/\(∀ c∈x,c∈cj)/\cZ t H H'/\dG t c (n+1+i) H'
def gf:Sp:=λvs H Q _=>∃(t c:Addr) (n:Nat),vs=[.ref t]/\dG t c n H/\n<=10^50/\∀(x:List Nat) H',1<=x.length->x.length<=8->(∀ c∈x,c∈cj)->cZ t H H'->dG t c (n+9) H'->Q (.str (S x)) H'
theorem b7:aD ["_law_tape_here","_law_word","_law_turn"] ["_law_tape_here"] (ao (top 21)):=hJ
theorem i7 (D:az K mg "_law_letters" (top 21)) (c__law_draw:Callee P w K mg base aZ 1 "_law_draw" ["_law_tape_here","_law_many"] bF) (n_range:mg "range"=none):Callee P w K mg base aZ 2 "_law_letters" ["_law_tape_here"] gf:=by
 refine cO D b7 (λf cdv A outer s H vs Q E hr h=>?_)
 obtain⟨t,c,n,rfl,tp,n9,q⟩:=h
 have nd:=b7.nd
 refine⟨_,(af (cL (i:=1) nd au) (af (gQ PassesOwn.never rfl (cB rfl n_range (aa (av bf ag (bT c__law_draw hr aA (aa (pv 0) (aa ag ae)))) ae)) (bE (i:=2) nd rfl (Or.inl rfl) (.inr rfl)) (ai (cL (i:=1) nd (av bj (pv 1) (cn au (bT c__law_draw hr aA (aa (pv 0) (aa ag ae))) (λ_ _=>rfl)))))) (ai (aw (pv 1))))),?_⟩
 show b9 _ _ _ [some (.ref t),none,none] H
 k_data
 refine⟨t,c,8,n,rfl,tp,by omega,by decide,by decide,λr H1 r0 r1 o1 t1=>⟨_,rfl,?_⟩⟩
 refine⟨by omega,by omega,?_⟩
 rw [pF]
 refine bX (λi σ' H'=>uz H t c n i σ' H') ⟨[],_,rfl,rfl,λc hc=>(nomatch hc),o1.cV,t1⟩ ?_ ?_
 ·rintro i σ' H2 hi ⟨x,o2,rfl,xl,xa,O2,t2⟩
  k_data
  refine⟨t,c,26,n+1+i,rfl,t2,by omega,by decide,by decide,λk H3 k0 k1 o3 t3=>?_⟩
  rw [lC]
  obtain⟨j,rfl⟩:∃ j:Nat,k=j:=⟨k.toNat,by omega⟩
  have jl:j<cj.length:=by show j<26;omega
  refine⟨_,rfl,_,rfl,by omega,by omega,by rw [aN];show (j:Int)<26;omega,cj[j],by rw [Int.toNat_natCast,ph];exact List.getElem?_eq_getElem jl,?_⟩
  refine⟨_,rfl,S [cj[j]],rfl,?_,x++[cj[j]],some (V.int (i:Int)),?_,by rw [List.length_append,xl];rfl,λc hc=>?_,O2.trans o3.cV,t3⟩
  ·rw [aN,aN,xl]
   exact Nat.le_trans (show i+[cj[j]].length<=100 by simp;omega) (by decide)
  ·rw [cG]
  ·rcases List.mem_append.mp hc with z | z
   ·exact xa c z
   ·rw [List.mem_singleton.mp z]
    exact List.getElem_mem jl
 ·rintro σ' H2 ⟨x,o2,rfl,xl,xa,O2,t2⟩
  k_data
  exact q x H2 (by omega) (by omega) xa O2 (t2.more (by omega))
def fz (K:PySem.W.Frag):Sp:=λvs H Q _=>∃(t c:Addr) (n:Nat),vs=[.ref t]/\dG t c n H/\n<=10^49/\∀ d v H',gt 0 d->(aQ d).length<=62->PyData.canLay0 d=true->isQ d=false->dv K H' d v->cZ t H H'->dG t c (n+12) H'->Q v H'
theorem dz:aD ["_law_tape_here","_law_way"] ["_law_tape_here"] (ao (top 22)):=hJ
theorem ni (D:az K mg "_law_leaf" (top 22)) (c__law_draw:Callee P w K mg base aZ 1 "_law_draw" ["_law_tape_here","_law_many"] bF) (c__law_letters:Callee P w K mg base aZ 2 "_law_letters" ["_law_tape_here"] gf):Callee P w K mg base aZ 3 "_law_leaf" ["_law_tape_here"] (fz K):=by
 refine cO D dz (λf cdv A outer s H vs Q E hr h=>?_)
 obtain⟨t,c,n,rfl,tp,n9,q⟩:=h
 have nd:=dz.nd
 refine⟨_,(af (cL (i:=1) nd (bT c__law_draw hr aA (aa (pv 0) (aa ag ae)))) (af (aM (aq aY (pv 1) ag (ar _)) (ai (aw gN)) aB) (af (aM (aq aY (pv 1) ag (ar _)) (ai (aw (bT c__law_letters hr aA (aa (pv 0) ae)))) aB) (af (aM (aq aY (pv 1) ag (ar _)) (ai (aw (av bx (av bx (av lQ ag ag) ag) (bT c__law_draw hr aA (aa (pv 0) (aa ag ae)))))) aB) (af (aM (aq aY (pv 1) ag (ar _)) (ai (aw (av bf (av bx ag (av lQ ag ag)) (bT c__law_draw hr aA (aa (pv 0) (aa ag ae)))))) aB) (ai (aw (av bx (bT c__law_draw hr aA (aa (pv 0) (aa ag ae))) ag)))))))),?_⟩
 show b9 _ _ _ [some (.ref t),none] H
 k_data
 refine⟨t,c,8,n,rfl,tp,by omega,by decide,by decide,λr H1 r0 r1 o1 t1=>?_⟩
 k_data
 have lay:∀ x:List Nat,(∀ c∈x,c∈cj)->PyData.canLay0 (.str (S x))=true:=λx hx=>by
  show x.toArray.all _=true
  rw [List.all_toArray,List.all_eq_true]
  intro c hc
  have:=hx c hc
  simp only [cj,List.mem_cons,List.not_mem_nil,or_false] at this
  exact decide_eq_true (by omega)
 have num:∀(i:Int) (H':Hp),-(10^60)<i->i<10^60->cZ t H H'->dG t c (n+12) H'->Q (.int i) H':=λi H' h0 h1 o' t'=>by
  refine q (.int i) _ H' ⟨h0,h1⟩ ?_ rfl rfl rfl o' t'
  rcases (by omega:i<0∨0<=i) with z | z
  ·obtain⟨m,rfl⟩:∃ m:Nat,i = -((m+1:Nat):Int):=⟨(-i).toNat-1,by omega⟩
   rw [eK,List.length_cons]
   have:=(bp (m+1)).2 (by omega)
   omega
  ·obtain⟨m,rfl⟩:∃ m:Nat,i=(m:Int):=⟨i.toNat,by omega⟩
   rw [dC]
   have:=(bp m).2 (by omega)
   omega
 refine aL (λ_=>?_) (λ_=>?_)
 ·exact q .none _ H1 True.intro (by simp [aQ]) rfl rfl rfl o1.cV (t1.more (by omega))
 refine aL (λ_=>?_) (λ_=>?_)
 ·refine⟨t,c,n+1,rfl,t1,by omega,λx H2 x1 x8 xa o2 t2=>?_⟩
  exact q (.str (S x)) _ H2 ⟨x1,x8,xa⟩ (by simp only [aQ,fM];omega) (lay x xa) rfl rfl (o1.cV.trans o2) (t2.more (by omega))
 refine aL (λ_=>?_) (λ_=>?_)
 ·exact⟨t,c,3,n+1,rfl,t1,by omega,by decide,by decide,λk H2 k0 k1 o2 t2=>⟨_,rfl,num _ H2 (by omega) (by omega) (o1.cV.trans o2.cV) (t2.more (by omega))⟩⟩
 refine aL (λ_=>?_) (λ_=>?_)
 ·exact⟨t,c,3,n+1,rfl,t1,by omega,by decide,by decide,λk H2 k0 k1 o2 t2=>⟨_,rfl,num _ H2 (by omega) (by omega) (o1.cV.trans o2.cV) (t2.more (by omega))⟩⟩
 ·exact⟨t,c,2001,n+1,rfl,t1,by omega,by decide,by decide,λk H2 k0 k1 o2 t2=>⟨_,rfl,num _ H2 (by omega) (by omega) (o1.cV.trans o2.cV) (t2.more (by omega))⟩⟩
mutual
def eS (F:Addr->Prop) (K:PySem.W.Frag) (H:Hp):PyData->V->Prop
 | .none,v=>v=.a9
 | .bool b,v=>v=.bl b
 | .int i,v=>v=.int i
 | .str x,v=>v=.str x
 | .list ds,v=>∃ p xs,v=.ref p/\F p/\H p=some (.lst xs)/\bD F K H ds xs
 | .tuple ds,v=>∃ p xs,v=.ref p/\aT K H p xs/\bD F K H ds xs
 | .dict _,_=>False
def bD (F:Addr->Prop) (K:PySem.W.Frag) (H:Hp):List PyData->List V->Prop
 | [],xs=>xs=[]
 | d::ds,xs=>∃ x r,xs=x::r/\eS F K H d x/\bD F K H ds r
end
mutual
theorem eS.dv {F:Addr->Prop} {H:Hp}:∀{d:PyData} {v:V},eS F K H d v->L2.dv K H d v
 | .none,_,h=>h
 | .bool _,_,h=>h
 | .int _,_,h=>h
 | .str _,_,h=>h
 | .list ds,_,⟨p,xs,e,_,h1,h2⟩=>⟨p,xs,e,aS.of h1,bD.aO h2⟩
 | .tuple ds,_,⟨p,xs,e,h1,h2⟩=>⟨p,xs,e,h1,bD.aO h2⟩
 | .dict _,_,h=>h.elim
theorem bD.aO {F:Addr->Prop} {H:Hp}:∀{ds:List PyData} {xs:List V},bD F K H ds xs->L2.aO K H ds xs
 | [],_,h=>h
 | d::ds,_,⟨x,r,e,h1,h2⟩=>⟨x,r,e,eS.dv h1,bD.aO h2⟩
end
mutual
theorem eS.keep {F G:Addr->Prop} {H H':Hp} (fg:∀ a,F a->G a) (kt:∀ a xs,aT K H a xs->aT K H' a xs) (kl:∀(a:Addr) (xs:List V),F a->H a=some (.lst xs)->H' a=some (.lst xs)):∀{d:PyData} {v:V},eS F K H d v->eS G K H' d v
 | .none,_,h=>h
 | .bool _,_,h=>h
 | .int _,_,h=>h
 | .str _,_,h=>h
 | .list ds,_,⟨p,xs,e,hf,h1,h2⟩=>⟨p,xs,e,fg _ hf,kl _ _ hf h1,bD.keep fg kt kl h2⟩
 | .tuple ds,_,⟨p,xs,e,h1,h2⟩=>⟨p,xs,e,kt _ _ h1,bD.keep fg kt kl h2⟩
 | .dict _,_,h=>h.elim
theorem bD.keep {F G:Addr->Prop} {H H':Hp} (fg:∀ a,F a->G a) (kt:∀ a xs,aT K H a xs->aT K H' a xs) (kl:∀(a:Addr) (xs:List V),F a->H a=some (.lst xs)->H' a=some (.lst xs)):∀{ds:List PyData} {xs:List V},bD F K H ds xs->bD G K H' ds xs
 | [],_,h=>h
 | d::ds,_,⟨x,r,e,h1,h2⟩=>⟨x,r,e,eS.keep fg kt kl h1,bD.keep fg kt kl h2⟩
end
theorem bD.snoc {F:Addr->Prop} {H:Hp} {d:PyData} {v:V} (hv:eS F K H d v):∀{ds:List PyData} {xs:List V},bD F K H ds xs->bD F K H (ds++[d]) (xs++[v])
 | [],_,h=>by cases h;exact⟨v,[],rfl,hv,rfl⟩
 | e::ds,_,⟨x,r,h0,h1,h2⟩=>by subst h0;exact⟨x,r++[v],rfl,h1,bD.snoc hv h2⟩
theorem eS.leaf {F:Addr->Prop} {H:Hp} {d:PyData} {v:V} (h:L2.dv K H d v) (q:isQ d=false):eS F K H d v:=by
 cases d with
 | list ds=>cases q
 | tuple ds=>cases q
 | dict _=>exact h.elim
 | _=>exact h
theorem cZ.rA {p:Addr} {n:Nat} {H H':Hp} (h:cZ p H H') (t:Tp p n H):∀ a xs,aT K H a xs->aT K H' a xs:=by
 intro a xs z
 rcases z with (z | ⟨o,z⟩) | z
 ·exact .inl (.inl (h _ _ (t.ne z (by intro kvs c;cases c)) z))
 ·exact .inl (.inr ⟨o,h _ _ (t.ne z (by intro kvs c;cases c)) z⟩)
 ·exact .inr z
theorem cZ.qN {p:Addr} {n:Nat} {H H':Hp} (h:cZ p H H') (t:Tp p n H):∀(a:Addr) (xs:List V),H a=some (.lst xs)->H' a=some (.lst xs):=λa xs z=>h _ _ (t.ne z (by intro kvs c;cases c)) z
theorem oH {B:Nat}:∀{ts:List (List Nat)},(∀ x∈ts,x.length<=B)->(jn ts).length<=ts.length*(B+1)
 | [],_=>by simp [jn]
 | [x],h=>by
  have:=h x List.mem_cons_self
  show x.length<=1*(B+1)
  omega
 | x::y::r,h=>by
  have h1:=h x List.mem_cons_self
  have ih:=oH (ts:=y::r) λz hz=>h z (List.mem_cons_of_mem _ hz)
  show (x++32::jn (y::r)).length<=((y::r).length+1)*(B+1)
  rw [List.length_append,List.length_cons,Nat.succ_mul]
  omega
def mf:Nat->Nat
 | 0=>62
 | D+1=>2+4*(mf D+1)
def ie:Nat->Nat
 | 0=>20
 | D+1=>40+4*ie D
theorem mh:∀ D,62<=mf D
 | 0=>Nat.le_refl _
 | D+1=>by have:=mh D;show 62<=2+4*(mf D+1);omega
theorem kZ:∀ D,20<=ie D
 | 0=>Nat.le_refl _
 | D+1=>by have:=kZ D;show 20<=40+4*ie D;omega
theorem fS:∀{n m:Nat} {d:PyData},gt n d->n<=m->gt m d
 | 0,m,d,h,_=>by
  cases d with
  | none=>cases m<;>exact h
  | str x=>cases m<;>exact h
  | int i=>cases m<;>exact h
  | _=>exact h.elim
 | n+1,0,d,h,l=>absurd l (by omega)
 | n+1,m+1,d,h,l=>by
  cases d with
  | list ds=>exact λx hx=>fS (h x hx) (by omega)
  | tuple ds=>exact λx hx=>fS (h x hx) (by omega)
  | none=>exact h
  | str x=>exact h
  | int i=>exact h
  | bool b=>exact h.elim
  | dict _=>exact h.elim
def iG (K:PySem.W.Frag) (L:Nat):Sp:=λvs H Q _=>∃(t c:Addr) (D n:Nat),D<L/\vs=[.ref t,.int D]/\dG t c n H/\n+ie D<=10^48/\∀ d v H',gt D d->(aQ d).length<=mf D->PyData.canLay0 d=true->eS (λa=>H a=none) K H' d v->cZ t H H'->dG t c (n+ie D) H'->Q v H'
theorem bR:aD ["_law_tape_here","_law_deep","_law_things","_law_turn"] ["_law_tape_here","_law_deep"] (ao (top 23)):=hJ
theorem nk (D:az K mg "_law_thing" (top 23)):Callee P w K mg base aZ 3 "_law_thing" ["_law_tape_here","_law_deep"] (iG K 0):=by
 refine cO D bR (λf cdv A outer s H vs Q E hr h=>?_)
 obtain⟨_,_,D,_,h,_⟩:=h
 exact absurd h (Nat.not_lt_zero D)
theorem cH:∀{a b:List PyData},PyData.canLayAll0 a=true->PyData.canLayAll0 b=true->PyData.canLayAll0 (a++b)=true
 | [],b,_,h=>h
 | x::a,b,h1,h2=>by
  simp only [PyData.canLayAll0,Bool.and_eq_true,List.cons_append] at h1 ⊢
  exact⟨h1.1,cH h1.2 h2⟩
structure ux (K:PySem.W.Frag) (H:Hp) (t c l:Addr) (D i n:Nat) (ds:List PyData) (vs:List V) (H':Hp):Prop where
 el:H' l=some (.lst vs)
 hd:bD (λa=>H a=none/\a≠l) K H' ds vs
 len:ds.length=i
 g:∀ d∈ds,gt D d
 sz:∀ d∈ds,(aQ d).length<=mf D
 cl:PyData.canLayAll0 ds=true
 o:cZ t H H'
 tp:dG t c n H'
def uy (K:PySem.W.Frag) (H:Hp) (t c l:Addr) (E' i n:Nat) (σ':L2.St) (H':Hp):Prop:=∃(o3:Option V) (ds:List PyData) (vs:List V),σ'=[some (.ref t),some (.int ((E'+1:Nat):Int)),some (.ref l),o3]/\ux K H t c l E' i n ds vs H'
theorem nr {L:Nat} (lL:L<=10) (D:az K mg "_law_thing" (top 23)) (c__law_draw:Callee P w K mg base aZ 1 "_law_draw" ["_law_tape_here","_law_many"] bF) (c__law_leaf:Callee P w K mg base aZ 3 "_law_leaf" ["_law_tape_here"] (fz K)) (c__law_thing:Callee P w K mg base aZ (L+3) "_law_thing" ["_law_tape_here","_law_deep"] (iG K L)) (n_range:mg "range"=none) (n_tuple:mg "tuple"=none):Callee P w K mg base aZ (L+4) "_law_thing" ["_law_tape_here","_law_deep"] (iG K (L+1)):=by
 refine cO D bR (λf cdv A outer s H vs Q E hr h=>?_)
 obtain⟨t,c,D,n,DL,rfl,tp,n9,q⟩:=h
 have nd:=bR.nd
 refine⟨_,(af (aM (PW.pt (eh (aq aY (pv 1) ag (ar _)) (cp (aq aY (ba c__law_draw (hr.mono (by omega)) rfl aA (aa (pv 0) (aa ag ae))) ag (ar _))))) (ai (aw (ba c__law_leaf (hr.mono (by omega)) rfl aA (aa (pv 0) ae)))) aB) (af (cL (i:=2) nd (gM ae)) (af (gQ PassesOwn.never rfl (cB rfl n_range (aa (ba c__law_draw (hr.mono (by omega)) rfl aA (aa (pv 0) (aa ag ae))) ae)) (bE (i:=3) nd rfl (Or.inl rfl) (.inr rfl)) (ai (dk (fZ PySem.F.plainAttrs_list PySem.F.slot_list_append PySem.F.type_list_append cz (pv 2) (aa (ba c__law_thing (hr.mono (by omega)) rfl aA (aa (pv 0) (aa (av bx (pv 1) ag) ae))) ae))))) (ai (aw (bH (aq aY (ba c__law_draw (hr.mono (by omega)) rfl aA (aa (pv 0) (aa ag ae))) ag (ar _)) (pv 2) (a5 bQ rfl n_tuple L2.boot_tuple (aa (pv 2) ae)))))))),?_⟩
 show b9 _ _ _ [some (.ref t),some (.int D),none,none] H
 have s62:=mh D
 have d20:=kZ D
 k_data
 have leafQ:∀(H0:Hp) (m:Nat),cZ t H H0->dG t c m H0->m<=n+1->fz K [V.ref t] H0 Q E0:=λH0 m o0 t0 hm=>⟨t,c,m,rfl,t0,by omega,λd v H' g l cl nq hv o' t'=>q d v H' (fS g (Nat.zero_le _)) (by omega) cl (eS.leaf hv nq) (o0.trans o') (t'.more (by omega))⟩
 refine aL (λc0=>leafQ H n (cZ.of (aE.refl _)) tp (by omega)) (λc0=>?_)
 obtain⟨E',rfl⟩:∃ E',D=E'+1:=⟨D-1,by omega⟩
 have sE:mf (E'+1)=2+4*(mf E'+1):=rfl
 have dE:ie (E'+1)=40+4*ie E':=rfl
 refine⟨t,c,3,n,rfl,tp,by omega,by decide,by decide,λr1 H1 r10 r11 o1 t1=>⟨rfl,?_⟩⟩
 refine aL (λ_=>leafQ H1 (n+1) o1.cV t1 (by omega)) (λ_=>?_)
 refine⟨by show 0<=sizeLine;decide,λl hl=>?_⟩
 have hl0:H l=none:=by
  cases e:H l with
  | none=>rfl
  | some o =>
   rcases Classical.em (l=t) with z | z
   ·obtain⟨_,_,_,a,_⟩:=t1
    rw [z,a] at hl
    cases hl
   ·rw [o1.cV l o z e] at hl
    cases hl
 have lc:l≠c:=λz=>by
  obtain⟨_,_,_,_,a,_⟩:=t1
  rw [z,a] at hl
  cases hl
 have s2:=ay (o:=.lst []) hl
 have e2:upd H1 l (.lst []) l=some (.lst []):=aj
 generalize upd H1 l (.lst [])=H2 at *
 have t2:=t1.same s2
 refine⟨t,c,5,n+1,rfl,t2,by omega,by decide,by decide,λr3 H3 r30 r31 o3 t3=>⟨r3,rfl,by omega,by omega,?_⟩⟩
 have O3:=(o1.cV.trans (cZ.of s2)).trans o3.cV
 have e3:=o3.cV.qN t2.tp _ _ e2
 refine bX (λi σ' H'=>uy K H t c l E' i (n+2+i*ie E') σ' H') ⟨_,[],[],rfl,⟨e3,rfl,rfl,λd hd=>(nomatch hd),λd hd=>(nomatch hd),rfl,O3,t3.more (by omega)⟩⟩ ?_ ?_
 ·rintro i σ' H4 hi ⟨o3',ds,vs,rfl,I⟩
  have i4:i<=3:=by omega
  have lv:vs.length=i:=by rw [<- cF.len I.hd.aO,I.len]
  have im:i*ie E'<=3*ie E':=Nat.mul_le_mul_right _ i4
  k_data
  refine⟨.inl ⟨rfl,_,aS.of I.el⟩,t,c,E',n+2+i*ie E',by omega,?_,I.tp,by omega,λd v H5 g sz cl hv o5 t5=>?_⟩
  ·rw [show (((E'+1:Nat):Int)-1)=((E':Nat):Int) by omega]
  have el5:=o5.qN I.tp.tp _ _ I.el
  refine⟨l,_,_,rfl,rfl,el5,by rw [lv];exact Nat.lt_of_le_of_lt (show i<=100 by omega) (by decide),_,ds++[d],vs++[v],rfl,?_⟩
  have l4:∀ a,H4 a=none->a≠l:=λa h z=>by rw [z,I.el] at h;cases h
  have h40:∀ a,H4 a=none->H a=none:=λa h=>by
   cases e:H a with
   | none=>rfl
   | some o =>
    rcases Classical.em (a=t) with z | z
    ·obtain⟨_,_,_,b,_⟩:=I.tp
     rw [z,b] at h
     cases h
    ·rw [I.o a o z e] at h
     cases h
  have kt5:∀ a xs,aT K H5 a xs->aT K (upd H5 l (.lst (vs++[v]))) a xs:=λa xs h=>aT.but el5 (λb o nb e=>by rw [ak nb];exact e) h
  refine⟨aj,bD.snoc (eS.keep (λa h=>⟨h40 a h,l4 a h⟩) kt5 (λa xs h e=>by rw [ak (l4 a h)];exact e) hv) (bD.keep (λa h=>h) (λa xs h=>kt5 a xs (o5.rA I.tp.tp a xs h)) (λa xs h e=>by rw [ak h.2];exact o5.qN I.tp.tp _ _ e) I.hd),by rw [List.length_append,I.len];rfl,?_,?_,?_,?_,?_⟩
  ·intro x hx
   rcases List.mem_append.mp hx with z | z
   ·exact I.g x z
   ·rw [List.mem_singleton.mp z];exact g
  ·intro x hx
   rcases List.mem_append.mp hx with z | z
   ·exact I.sz x z
   ·rw [List.mem_singleton.mp z];exact sz
  ·exact cH I.cl (by simp [PyData.canLayAll0,cl])
  ·intro b o nb e
   rw [ak (λz=>by rw [z,hl0] at e;cases e)]
   exact o5 b o nb (I.o b o nb e)
  ·have lt:l≠t:=I.tp.tp.ne I.el (by intro kvs c;cases c)
   obtain⟨x1,x2,x3,y1,y2,y3⟩:=t5.more (show _<=n+2+(i+1)*ie E' by rw [Nat.succ_mul];omega)
   exact⟨x1,x2,x3,by rw [ak (Ne.symm lt)];exact y1,by rw [ak (Ne.symm lc)];exact y2,y3⟩
 ·rintro σ' H4 ⟨o3',ds,vs,rfl,I⟩
  k_data
  have hlen:ds.length<=4:=by rw [I.len];omega
  have lv:vs.length=ds.length:=(cF.len I.hd.aO).symm
  have jl:=oH (B:=mf E') (ts:=ds.map aQ) λx hx=>by
   obtain⟨d,hd,rfl⟩:=List.mem_map.mp hx
   exact I.sz d hd
  rw [List.length_map] at jl
  have jl4:ds.length*(mf E'+1)<=4*(mf E'+1):=Nat.mul_le_mul_right _ hlen
  have im:r3.toNat*ie E'<=4*ie E':=Nat.mul_le_mul_right _ (by omega)
  refine⟨t,c,4,_,rfl,I.tp,by omega,by decide,by decide,λr5 H5 r50 r51 o5 t5=>⟨rfl,?_⟩⟩
  have el5:=o5.cV.qN I.tp.tp _ _ I.el
  have hd5:bD (λa=>H a=none) K H5 ds vs:=bD.keep (λa h=>h.1) (o5.cV.rA I.tp.tp) (λa xs h e=>o5.cV.qN I.tp.tp _ _ e) I.hd
  refine aL (λ_=>?_) (λ_=>?_)
  ·refine q (.list ds) _ H5 I.g ?_ (by simp only [PyData.canLay0];exact I.cl) ⟨l,vs,rfl,hl0,el5,hd5⟩ (I.o.trans o5.cV) (t5.more (by omega))
   rw [bb (.inl rfl)]
   simp only [List.length_append,List.length_cons,List.length_nil]
   omega
  ·refine⟨vs,.inl ⟨aS.of el5,λn6 hn6=>?_⟩⟩
   have s6:=ay (o:=.tup vs) hn6
   refine q (.tuple ds) _ _ I.g ?_ (by simp only [PyData.canLay0];exact I.cl) ⟨n6,vs,rfl,aT.of aj,bD.keep (λa h=>h) (λa xs h=>h.same s6) (λa xs _ e=>s6 _ _ e) hd5⟩ ((I.o.trans o5.cV).trans (cZ.of s6)) ((t5.same s6).more (by omega))
   rw [bb (.inr rfl)]
   simp only [List.length_append,List.length_cons,List.length_nil]
   omega
theorem lM (D:az K mg "_law_thing" (top 23)) (c__law_draw:Callee P w K mg base aZ 1 "_law_draw" ["_law_tape_here","_law_many"] bF) (c__law_leaf:Callee P w K mg base aZ 3 "_law_leaf" ["_law_tape_here"] (fz K)) (n_range:mg "range"=none) (n_tuple:mg "tuple"=none):∀ L:Nat,L<=10->Callee P w K mg base aZ (L+3) "_law_thing" ["_law_tape_here","_law_deep"] (iG K L)
 | 0,_=>nk D
 | L+1,h=>nr (by omega) D c__law_draw c__law_leaf (lM D c__law_draw c__law_leaf n_range n_tuple L (by omega)) n_range n_tuple
def ma (K:PySem.W.Frag):Sp:=λvs H Q _=>∃(t c:Addr) (n:Nat),vs=[.ref t]/\dG t c n H/\n<=10^40/\∀ d v H',gt 80 d->(aQ d).length<=20000->PyData.canLay0 d=true->dv K H' d v->cZ t H H'->dG t c (n+10000) H'->Q v H'
def tX (K:PySem.W.Frag) (H:Hp) (t c:Addr) (n:Nat) (σ':L2.St) (H':Hp):Prop:=∃(d:PyData) (v:V) (o2 o3:Option V),σ'=[some (.ref t),some v,o2,o3]/\gt 80 d/\(aQ d).length<=20000/\PyData.canLay0 d=true/\dv K H' d v/\cZ t H H'/\dG t c (n+10000) H'
def uv (K:PySem.W.Frag) (H:Hp) (t c:Addr) (n b:Nat) (W:Int) (i:Nat) (σ':L2.St) (H':Hp):Prop:=∃(d:PyData) (v:V) (o3:Option V),σ'=[some (.ref t),some v,some (.int W),o3]/\gt (b+i) d/\(aQ d).length<=62+4*i/\PyData.canLay0 d=true/\eS (λ_=>False) K H' d v/\cZ t H H'/\dG t c (n+8800+3*i) H'
theorem bJ:aD ["_law_tape_here","_law_thing_here","_law_wraps","_law_turn"] ["_law_tape_here"] (ao (top 24)):=hJ
theorem nh (D:az K mg "_law_deep_thing" (top 24)) (c__law_draw:Callee P w K mg base aZ 1 "_law_draw" ["_law_tape_here","_law_many"] bF) (c__law_leaf:Callee P w K mg base aZ 3 "_law_leaf" ["_law_tape_here"] (fz K)) (c__law_thing:Callee P w K mg base aZ 8 "_law_thing" ["_law_tape_here","_law_deep"] (iG K 5)) (n_range:mg "range"=none) (n_int:mg "int"=none):Callee P w K mg base aZ 9 "_law_deep_thing" ["_law_tape_here"] (ma K):=by
 refine cO D bJ (λf cdv A outer s H vs Q E hr h=>?_)
 obtain⟨t,c,n,rfl,tp,n9,q⟩:=h
 have nd:=bJ.nd
 refine⟨_,(af (cL (i:=1) nd (bT c__law_thing hr aA (aa (pv 0) (aa (av bf ag (bT c__law_draw hr aA (aa (pv 0) (aa ag ae)))) ae)))) (af (gO (aM (aq aY (bT c__law_draw hr aA (aa (pv 0) (aa ag ae))) ag (ar _)) (af (cL (i:=2) nd (av bf ag (bT c__law_draw hr aA (aa (pv 0) (aa ag ae))))) (af (cL (i:=1) nd (bH (aq d9 (bT c__law_draw hr aA (aa (pv 0) (aa ag ae))) ag (ar _)) (bT c__law_leaf hr aA (aa (pv 0) ae)) (b0 ae))) (ai (gQ PassesOwn.never rfl (cB rfl n_range (aa (av bx (pv 2) (a5 j7 rfl n_int L2.boot_int (aa (bg (lO hr.units) (pv 1) (b0 ae) (ar _)) ae))) ae)) (bE (i:=3) nd rfl (Or.inl rfl) (.inr rfl)) (ai (cL (i:=1) nd (bH (aq aY (bT c__law_draw hr aA (aa (pv 0) (aa ag ae))) ag (ar _)) (b0 (aa (pv 1) ae)) (b0 (aa (bT c__law_draw hr aA (aa (pv 0) (aa ag ae))) (aa (pv 1) ae)))))))))) aB)) (ai (aw (pv 1))))),?_⟩
 show b9 _ _ _ [some (.ref t),none,none,none] H
 k_data
 refine⟨t,c,4,n,rfl,tp,by omega,by decide,by decide,λr1 H1 r10 r11 o1 t1=>⟨_,rfl,?_⟩⟩
 obtain⟨D,rfl⟩:∃ D:Nat,r1=D:=⟨r1.toNat,by omega⟩
 have D4:D<=3:=by omega
 have szD':mf (1+D)<=16382/\ie (1+D)<=8600:=by
  rcases (by omega:D=0∨D=1∨D=2∨D=3) with rfl | rfl | rfl | rfl<;>decide
 refine⟨t,c,1+D,n+1,by omega,?_,t1,by omega,λd v H2 g sz cl hv o2 t2=>?_⟩
 ·rw [show ((1:Int)+(D:Int))=((1+D:Nat):Int) by omega]
 have O2:=o1.cV.trans o2
 refine⟨λσ' H'=>tX K H t c n σ' H',?_,?_⟩
 ·k_data
  refine⟨t,c,4,n+1+ie (1+D),rfl,t2,by omega,by decide,by decide,λr3 H3 r30 r31 o3 t3=>⟨rfl,?_⟩⟩
  have O3:=O2.trans o3.cV
  refine aL (λ_=>?_) (λ_=>?_)
  ·have loopD:∀(d0:PyData) (v0:V) (b m:Nat) (W:Int) (H0:Hp),gt b d0->(aQ d0).length<=62->PyData.canLay0 d0=true->eS (λ_=>False) K H0 d0 v0->cZ t H H0->dG t c (n+8800) H0->b+m<=80->Loop (mF 0 m) (cf 3) (oh (tO (mi (qC tF (cP bF [] E0 (bP (cE 0) (bP (tC (V.int 2)) fK))) (tC (V.int 0)))) (om (bP (cE 1) fK)) (om (bP (cP bF [] E0 (bP (cE 0) (bP (tC (V.int 9)) fK))) (bP (cE 1) fK)))) (cf 1)) { nx:=λσ' H'=>tX K H t c n σ' H',rt:=Q } [some (V.ref t),some v0,some (V.int W),none] H0:=by
    intro d0 v0 b m W H0 g0 l0 c0 h0 O0 T0 bm
    refine bX (λi σ' H'=>uv K H t c n b W i σ' H') ⟨d0,v0,_,rfl,g0,by omega,c0,h0,O0,T0⟩ ?_ ?_
    ·rintro i σ' H5 hi ⟨d5,v5,o5',rfl,g5,l5,c5,h5,O5,t5⟩
     k_data
     refine⟨t,c,2,n+8800+3*i,rfl,t5,by omega,by decide,by decide,λr6 H6 r60 r61 o6 t6=>⟨rfl,?_⟩⟩
     have h6:=eS.keep (G:=λ_=>False) (λa z=>z) (o6.cV.rA t5.tp) (λa xs z _=>z.elim) h5
     refine aL (λ_=>⟨by show 1<=sizeLine;decide,λa7 h7=>?_⟩) (λ_=>?_)
     ·have s7:=ay (o:=.tup [v5]) h7
      refine⟨.tuple [d5],.ref a7,_,rfl,λx hx=>(by rw [List.mem_singleton.mp hx];exact g5),?_,by simp [PyData.canLay0,PyData.canLayAll0,c5],⟨a7,[v5],rfl,aT.of aj,v5,[],rfl,eS.keep (λa z=>z) (λa xs z=>z.same s7) (λa xs z _=>z.elim) h6,rfl⟩,(O5.trans o6.cV).trans (cZ.of s7),(t6.same s7).more (by omega)⟩
      rw [bb (.inr rfl)]
      simp only [List.map_cons,List.map_nil,jn,List.length_append,List.length_cons,List.length_nil]
      omega
     ·refine⟨t,c,9,n+8800+3*i+1,rfl,t6,by omega,by decide,by decide,λr8 H8 r80 r81 o8 t8=>⟨by show 2<=sizeLine;decide,λa7 h7=>?_⟩⟩
      have h8:=eS.keep (G:=λ_=>False) (λa z=>z) (o8.cV.rA t6.tp) (λa xs z _=>z.elim) h6
      have s7:=ay (o:=.tup [V.int r8,v5]) h7
      obtain⟨k,rfl⟩:∃ k:Nat,r8=k:=⟨r8.toNat,by omega⟩
      have kl:(aQ (.int (k:Int))).length=1:=by
       rw [dC]
       rcases (by omega:k=0∨k=1∨k=2∨k=3∨k=4∨k=5∨k=6∨k=7∨k=8) with rfl | rfl | rfl | rfl | rfl | rfl | rfl | rfl | rfl<;>decide
      refine⟨.tuple [.int k,d5],.ref a7,_,rfl,λx hx=>?_,?_,by simp [PyData.canLay0,PyData.canLayAll0,c5],⟨a7,_,rfl,aT.of aj,V.int k,[v5],rfl,rfl,v5,[],rfl,eS.keep (λa z=>z) (λa xs z=>z.same s7) (λa xs z _=>z.elim) h8,rfl⟩,((O5.trans o6.cV).trans o8.cV).trans (cZ.of s7),(t8.same s7).more (by omega)⟩
      ·simp only [List.mem_cons,List.not_mem_nil,or_false] at hx
       rcases hx with rfl | rfl
       ·exact fS (n:=0) (show -(10^60)<(k:Int)/\(k:Int)<10^60 by omega) (Nat.zero_le _)
       ·exact g5
      ·rw [bb (.inr rfl)]
       simp only [List.map_cons,List.map_nil,jn,List.length_append,List.length_cons,List.length_nil,kl]
       omega
    ·rintro σ' H5 ⟨d5,v5,o5',rfl,g5,l5,c5,h5,O5,t5⟩
     exact⟨d5,v5,_,_,rfl,fS g5 bm,by omega,c5,h5.dv,O5,t5.more (by omega)⟩
   refine⟨t,c,5,n+1+ie (1+D)+1,rfl,t3,by omega,by decide,by decide,λr4 H4 r40 r41 o4 t4=>⟨r4,rfl,?_⟩⟩
   refine⟨t,c,3,_,rfl,t4,by omega,by decide,by decide,λr5 H5 r50 r51 o5 t5=>⟨r5,rfl,?_⟩⟩
   have O5:=(O3.trans o4.cV).trans o5.cV
   refine aL (λ_=>?_) (λ_=>?_)
   ·refine⟨t,c,_,rfl,t5,by omega,λd6 v6 H6 g6 l6 c6 nq6 h6 o6 t6=>⟨by show 0<=sizeLine;decide,λa7 h7=>?_⟩⟩
    have s7:=ay (o:=.tup []) h7
    have ev:PyData.eqv d6 (.tuple [])=false:=by
     cases d6<;>first | rfl | cases nq6
    have dp:d6.depth<=3:=by
     cases d6<;>first | (simp only [PyData.depth];omega) | exact (show False from h6).elim | cases nq6
    refine⟨d6,.tuple [],dv.same s7 _ h6,⟨a7,[],rfl,aT.of aj,rfl⟩,c6,rfl,Nat.le_trans (Nat.min_le_left ..) (by omega),.inr ⟨false,by rw [ev];rfl,?_⟩⟩
    rw [if_neg (by decide)]
    refine⟨by omega,by omega,?_⟩
    exact loopD d6 v6 0 _ _ _ g6 l6 c6 (eS.leaf (dv.same s7 _ h6) nq6) ((O5.trans o6).trans (cZ.of s7)) ((t6.same s7).more (by omega)) (by omega)
   ·refine⟨by show 0<=sizeLine;decide,λa6 h6=>⟨by show 0<=sizeLine;decide,λa7 h7=>?_⟩⟩
    have s6:=ay (o:=.tup []) h6
    have s7:=ay (o:=.tup []) h7
    have e6:upd H5 a6 (.tup []) a6=some (.tup []):=aj
    have e6':=s7 _ _ e6
    have d6:eS (λ_=>False) K (upd (upd H5 a6 (.tup [])) a7 (.tup [])) (.tuple []) (.ref a6):=⟨a6,[],rfl,aT.of e6',rfl⟩
    refine⟨.tuple [],.tuple [],d6.dv,⟨a7,[],rfl,aT.of aj,rfl⟩,rfl,rfl,by decide,.inr ⟨true,by decide,?_⟩⟩
    rw [if_pos rfl]
    refine⟨by omega,by omega,?_⟩
    exact loopD (.tuple []) _ 1 _ _ _ (λx hx=>(nomatch hx)) (by decide) rfl d6 (O5.trans (cZ.of (s6.trans s7))) ((t5.same (s6.trans s7)).more (by omega)) (by omega)
  ·exact⟨d,v,_,_,rfl,fS g (by omega),by omega,cl,(eS.keep (G:=λ_=>True) (λa _=>True.intro) (o3.cV.rA t2.tp) (λa xs _ e=>o3.cV.qN t2.tp _ _ e) hv).dv,O3,t3.more (by omega)⟩
 rintro σ' H3 ⟨d',v',o2',o3',rfl,g',sz',cl',hv',O3,t3⟩
 k_data
 exact q d' v' H3 g' sz' cl' hv' O3 t3
end
end K
namespace K
open PySem PySem.Spec PyProof.Rows L2
theorem dN:∀{ds:List PyData} {i:Nat} {d:PyData},PyData.canLayAll0 ds=true->ds[i]?=some d->d.canLay0=true
 | [],i,d,_,h=>by simp at h
 | e::ds,0,d,h,z=>by
  cases z
  have h':e.canLay0=true/\PyData.canLayAll0 ds=true:=by simpa [PyData.canLayAll0] using h
  exact h'.1
 | e::ds,i+1,d,h,z=>by
  have h':e.canLay0=true/\PyData.canLayAll0 ds=true:=by simpa [PyData.canLayAll0] using h
  exact dN h'.2 (by simpa using z)
theorem mX {d:PyData} (h:rz d=true):∃ ds,d=.tuple ds:=by cases d<;>first | exact⟨_,rfl⟩ | cases h
end K
namespace K
open PySem PySem.Spec PyProof.Rows L2
section
variable {P:Program} {w:World} {K:PySem.W.Frag} {mg:Str->Option Value} {base:Heap}
mutual
def sT:Nat->PyData->Prop
 | 0,_=>False
 | _+1,.none=>True
 | _+1,.bool _=>True
 | _+1,.int _=>True
 | _+1,.str _=>True
 | L+1,.list ds=>ds.length<=10^6/\mC L ds
 | L+1,.tuple ds=>ds.length<=10^6/\mC L ds
 | _+1,_=>False
def mC:Nat->List PyData->Prop
 | _,[]=>True
 | L,d::ds=>sT L d/\mC L ds
end
theorem gU:∀{L:Nat} {ds:List PyData} {i:Nat} {d:PyData},mC L ds->ds[i]?=some d->sT L d
 | L,[],i,d,_,h=>by simp at h
 | L,e::ds,0,d,h,z=>by
  simp only [mC] at h
  cases z
  exact h.1
 | L,e::ds,i+1,d,h,z=>by
  simp only [mC] at h
  exact gU h.2 (by simpa using z)
theorem dt:∀{L:Nat} {ds:List PyData},(∀ d∈ds,sT L d)->mC L ds
 | L,[],_=>by simp only [mC]
 | L,d::ds,h=>by
  simp only [mC]
  exact⟨h d (List.mem_cons_self ..),dt λe z=>h e (List.mem_cons_of_mem _ z)⟩
theorem hW {k:Sd} {H H':Hp} {a:Addr} {xs:List V} (h:eQ k K H a xs) (s:aE H H'):eQ k K H' a xs:=by
 cases k
 ·exact aS.same h s
 ·exact aT.same h s
def ud:PyData->Prop
 | .none=>True
 | .bool _=>True
 | .int _=>True
 | .str _=>True
 | _=>False
theorem k9 {d r:PyData} (hr:ud r):(pM d=pM r/\PyData.eqv d r=true)↔d=r:=by
 cases r with
 | none=>cases d<;>simp [PyData.eqv,pM]
 | bool x=>cases d<;>simp [PyData.eqv,pM]
 | int x=>cases d<;>simp [PyData.eqv,pM]
 | str x=>cases d<;>simp [PyData.eqv,pM]
 | _=>cases hr
theorem mW {d:PyData} (h:rq d=true):∃ ds,d=.list ds:=by cases d<;>first | exact⟨_,rfl⟩ | cases h
def b5 (K:PySem.W.Frag) (L:Nat):Sp:=λvs H Q _=>∃(u v:V) (d r:PyData),vs=[u,v]/\dv K H d u/\dv K H r v/\d.canLay0=true/\r.canLay0=true/\sT L r/\∀ b H',(b=true↔d=r)->aE H H'->Q (.bl b) H'
theorem b4:aD ["_law_found","_law_due"] ["_law_found","_law_due"] (ao (top 27)):=hJ
theorem kA (D:az K mg "_law_same" (top 27)):Callee P w K mg base aZ 1 "_law_same" ["_law_found","_law_due"] (b5 K 0):=by
 refine cO D b4 (λf cdv A outer s H vs Q E hr h=>?_)
 obtain⟨u,v,d,r,rfl,hu,hv,_,_,hs,q⟩:=h
 simp only [sT] at hs
theorem kB {L:Nat} (D:az K mg "_law_same" (top 27)) (c__law_same:Callee P w K mg base aZ (L+1) "_law_same" ["_law_found","_law_due"] (b5 K L)) (n_isinstance:mg "isinstance"=none) (n_bool:mg "bool"=none) (n_list:mg "list"=none) (n_tuple:mg "tuple"=none) (n_len:mg "len"=none) (n_zip:mg "zip"=none) (n_all:mg "all"=none):Callee P w K mg base aZ (L+2) "_law_same" ["_law_found","_law_due"] (b5 K (L+1)):=by
 refine cO D b4 (λf cdv A outer s H vs Q E hr h=>?_)
 obtain⟨u,v,d,r,rfl,hu,hv,ld,lr,hs,q⟩:=h
 have nd:=b4.nd
 refine⟨_,(af (aM (PW.pt (eh (a3 (ax aJ rfl n_isinstance PyProof.Rows.boot_isinstance (aa (pv 1) (aa (aU (v:=.ty "tuple") rfl n_tuple L2.boot_tuple rfl) ae))) (λ_=>rfl)) (cp (a3 (ax aJ rfl n_isinstance PyProof.Rows.boot_isinstance (aa (pv 1) (aa (aU (v:=.ty "list") rfl n_list L2.boot_list rfl) ae))) (λ_=>rfl))))) (af (aM (PW.pt (eh (aq fb (ax aJ rfl n_isinstance PyProof.Rows.boot_isinstance (aa (pv 0) (aa (aU (v:=.ty "tuple") rfl n_tuple L2.boot_tuple rfl) ae))) (ax aJ rfl n_isinstance PyProof.Rows.boot_isinstance (aa (pv 1) (aa (aU (v:=.ty "tuple") rfl n_tuple L2.boot_tuple rfl) ae))) (ar _)) (cp (aq fb (ax aJ rfl n_isinstance PyProof.Rows.boot_isinstance (aa (pv 0) (aa (aU (v:=.ty "list") rfl n_list L2.boot_list rfl) ae))) (ax aJ rfl n_isinstance PyProof.Rows.boot_isinstance (aa (pv 1) (aa (aU (v:=.ty "list") rfl n_list L2.boot_list rfl) ae))) (ar _))))) (ai (aw jJ)) aB) (ai (aw (dU (bg aY (ax bh rfl n_len PySem.boot_len (aa (pv 0) ae)) (ax bh rfl n_len PySem.boot_len (aa (pv 1) ae)) (ar _)) (cW (ax (kP rfl) rfl n_all L2.boot_all (aa (jK rfl (sM (N':=["_law_one","_law_other"]) (js:=[none,none]) rfl rfl) (nK rfl n_zip (aa (pv 0) (aa (pv 1) ae))) (λ_ _ _ _=>(nH K rfl (n:=2) rfl (iA (bE (i:=0) (show List.Nodup [("_law_one":Str),("_law_other":Str)] from by decide +kernel) rfl (Or.inl rfl) (.inr rfl)) (iA (bE (i:=1) (show List.Nodup [("_law_one":Str),("_law_other":Str)] from by decide +kernel) rfl (Or.inl rfl) (.inr rfl)) nI)))) (λ_ _ _ _=>dj) (λ_ _ _ _=>(ba c__law_same (hr.mono (by omega)) rfl aA (aa (pv 0) (aa (pv 1) ae))))) ae))))))) aB) (ai (aw (dU (bg aY (ax aJ rfl n_isinstance PyProof.Rows.boot_isinstance (aa (pv 0) (aa (aU (v:=.ty "bool") rfl n_bool L2.boot_bool rfl) ae))) (ax aJ rfl n_isinstance PyProof.Rows.boot_isinstance (aa (pv 1) (aa (aU (v:=.ty "bool") rfl n_bool L2.boot_bool rfl) ae))) (ar _)) (cW (bg (lO hr.units) (pv 0) (pv 1) (ar _))))))),?_⟩
 show b9 _ _ _ [some u,some v] H
 have sq:∀(k:Sd) (a b:Addr) (us vs:List V) (ds rs:List PyData),eQ k K H a us->eQ k K H b vs->aO K H ds us->aO K H rs vs->PyData.canLayAll0 ds=true->PyData.canLayAll0 rs=true->mC L rs->rs.length<=10^6->us.length=vs.length->(∀ b H',(b=true↔ds=rs)->aE H H'->Q (.bl b) H') ->
   cX (qU k k K a b) [none,none] (mT K 2 (jx (cf 0) (jx (cf 1) pI))) gh (cP (b5 K L) [] E0 (bP (cE 0) (bP (cE 1) fK))) [some (.ref a),some (.ref b)] (λx H1=>qp K [x] H1 Q) H:=by
  intro k a b us vs ds rs ha hb dd dr cl cr hs hl ln q
  have ul:=dd.length
  have vl:=dr.length
  refine kf (xs:=us) (ys:=vs) (λi zs H3=>aE H H3/\∃ bs:List Bool,zs=bs.map V.bl/\bs.length=i/\(bs.all id=true↔ds.take i=rs.take i)) ⟨aE.refl _,[],rfl,rfl,by simp⟩ (by omega) (Nat.le_trans (by omega) (show 10^6<=sizeLine by decide)) (λi zs H3 hi ⟨z1,bs,z2,z3,_⟩=>⟨hW ha z1,hW hb z1,by rw [z2,List.length_map,z3];exact Nat.le_refl _⟩) ?_ ?_
  ·rintro i x y zs H3 p3 hx hy ⟨s3,bs,rfl,bl,hbb⟩ hp3
   obtain⟨d1,e1,v1⟩:=dd.get hx
   obtain⟨r1,e2,v2⟩:=dr.get hy
   have s4:=ay (o:=.tup [x,y]) hp3
   show mT K 2 _ _ [none,none] _ _
   refine⟨p3,_,rfl,aT.of aj,rfl,?_⟩
   generalize upd H3 p3 _=H4 at *
   k_data
   refine⟨True.intro,x,y,d1,r1,rfl,dv.same (s3.trans s4) _ v1,dv.same (s3.trans s4) _ v2,dN cl e1,dN cr e2,gU hs e2,λb H5 hb1 s5=>⟨(s3.trans s4).trans s5,bs++[b],by rw [List.map_append];rfl,by rw [List.length_append,bl];rfl,?_⟩⟩
   rw [List.all_append,Bool.and_eq_true,hbb,List.take_add_one,List.take_add_one,e1,e2]
   have l1:(ds.take i).length=(rs.take i).length:=by
    have:=(List.getElem?_eq_some_iff.mp e1).1
    have:=(List.getElem?_eq_some_iff.mp e2).1
    rw [List.length_take,List.length_take]
    omega
   constructor
   ·rintro⟨h1,h2⟩
    have:b=true:=by simpa using h2
    rw [h1,hb1.mp this]
   ·intro h
    obtain⟨h1,h2⟩:=List.append_inj h l1
    have:d1=r1:=by simpa using h2
    exact⟨h1,by simp [hb1.mpr this]⟩
  ·rintro zs H3 p3 ⟨s3,bs,rfl,bl,hbb⟩ hp3
   refine pw (bs:=bs) (aS.of aj) ?_
   rw [show us.length=ds.length from ul,List.take_length,show ds.length=rs.length by omega,List.take_length] at hbb
   exact q _ _ hbb (s3.trans (ay hp3))
 have flat:ud r->r.depth<=60->(fh K [u,V.ty "bool"] H λx H1=>fh K [v,V.ty "bool"] H1 λy H2=>fI x y=true/\if x=y then rS K false u v H2 Q else Q (V.bl false) H2):=by
  intro hf dp
  refine ig hu (ig hv ⟨rfl,?_⟩)
  have ef:=k9 (d:=d) hf
  refine aL (λc=>?_) (λc=>?_)
  ·refine⟨d,r,hu,hv,ld,lr,Nat.le_trans (Nat.min_le_right _ _) dp,q _ H ?_ (aE.refl _)⟩
   rw [if_neg (by decide),<- ef]
   exact⟨λz=>⟨V.bl.inj c,z⟩,λz=>z.2⟩
  ·exact q false H ⟨nofun,λz=>absurd (by rw [z]) c⟩ (aE.refl _)
 k_data
 cases r with
 | none =>
  refine aX hv ⟨false,aF.mpr rfl,?_⟩
  rw [if_neg (by decide)]
  refine a4 hv ⟨false,aF.mpr rfl,?_⟩
  rw [if_neg (by decide)]
  exact flat True.intro (by simp [PyData.depth])
 | bool y =>
  refine aX hv ⟨false,aF.mpr rfl,?_⟩
  rw [if_neg (by decide)]
  refine a4 hv ⟨false,aF.mpr rfl,?_⟩
  rw [if_neg (by decide)]
  exact flat True.intro (by simp [PyData.depth])
 | int y =>
  refine aX hv ⟨false,aF.mpr rfl,?_⟩
  rw [if_neg (by decide)]
  refine a4 hv ⟨false,aF.mpr rfl,?_⟩
  rw [if_neg (by decide)]
  exact flat True.intro (by simp [PyData.depth])
 | str y =>
  refine aX hv ⟨false,aF.mpr rfl,?_⟩
  rw [if_neg (by decide)]
  refine a4 hv ⟨false,aF.mpr rfl,?_⟩
  rw [if_neg (by decide)]
  exact flat True.intro (by simp [PyData.depth])
 | list rs =>
  simp only [sT] at hs
  refine aX hv ⟨false,aF.mpr rfl,?_⟩
  rw [if_neg (by decide)]
  refine a4 hv ⟨true,aF.mpr rfl,?_⟩
  rw [if_pos rfl]
  refine aX hu (aX hv ⟨rfl,?_⟩)
  refine aL (λc=>?_) (λc=>?_)
  ·exact q false H ⟨nofun,λz=>absurd (by rw [z]) c⟩ (aE.refl _)
  refine a4 hu (a4 hv ⟨rfl,?_⟩)
  refine aL (λc'=>?_) (λc'=>?_)
  ·exact q false H ⟨nofun,λz=>absurd (by rw [z]) c'⟩ (aE.refl _)
  obtain⟨ds,rfl⟩:=mW (V.bl.inj (Classical.not_not.mp c'))
  obtain⟨pa,us,rfl,hSu,du⟩:=hu
  obtain⟨pb,vs,rfl,hSv,dw⟩:=hv
  have ul:=du.length
  have vl:=dw.length
  refine bW hSu (bW hSv ⟨rfl,?_⟩)
  refine aL (λc2=>?_) (λc2=>?_)
  ·have ln:us.length=vs.length:=by have:=V.int.inj c2;omega
   exact⟨pa,rfl,pb,rfl,.l,⟨_,hSu⟩,.l,⟨_,hSv⟩,sq .l pa pb us vs ds rs hSu hSv du dw (by simpa [PyData.canLay0] using ld) (by simpa [PyData.canLay0] using lr) hs.2 hs.1 ln λb H' hb s'=>q b H' (by rw [hb];exact⟨λz=>by rw [z],λz=>by injection z⟩) s'⟩
  ·refine q false H ⟨nofun,λz=>absurd ?_ c2⟩ (aE.refl _)
   injection z with z
   rw [ul,vl,z]
 | tuple rs =>
  simp only [sT] at hs
  refine aX hv ⟨true,aF.mpr rfl,?_⟩
  rw [if_pos rfl]
  refine aX hu (aX hv ⟨rfl,?_⟩)
  refine aL (λc=>?_) (λc=>?_)
  ·exact q false H ⟨nofun,λz=>absurd (by rw [z]) c⟩ (aE.refl _)
  refine a4 hu (a4 hv ⟨rfl,?_⟩)
  refine aL (λc'=>?_) (λc'=>?_)
  ·exact q false H ⟨nofun,λz=>absurd (by rw [z]) c'⟩ (aE.refl _)
  obtain⟨ds,rfl⟩:=mX (V.bl.inj (Classical.not_not.mp c))
  obtain⟨pa,us,rfl,hSu,du⟩:=hu
  obtain⟨pb,vs,rfl,hSv,dw⟩:=hv
  have ul:=du.length
  have vl:=dw.length
  refine jE hSu (jE hSv ⟨rfl,?_⟩)
  refine aL (λc2=>?_) (λc2=>?_)
  ·have ln:us.length=vs.length:=by have:=V.int.inj c2;omega
   exact⟨pa,rfl,pb,rfl,.t,⟨_,hSu⟩,.t,⟨_,hSv⟩,sq .t pa pb us vs ds rs hSu hSv du dw (by simpa [PyData.canLay0] using ld) (by simpa [PyData.canLay0] using lr) hs.2 hs.1 ln λb H' hb s'=>q b H' (by rw [hb];exact⟨λz=>by rw [z],λz=>by injection z⟩) s'⟩
  ·refine q false H ⟨nofun,λz=>absurd ?_ c2⟩ (aE.refl _)
   injection z with z
   rw [ul,vl,z]
 | _=>simp only [sT] at hs
theorem iw (D:az K mg "_law_same" (top 27)) (n_isinstance:mg "isinstance"=none) (n_bool:mg "bool"=none) (n_list:mg "list"=none) (n_tuple:mg "tuple"=none) (n_len:mg "len"=none) (n_zip:mg "zip"=none) (n_all:mg "all"=none):∀ L:Nat,Callee P w K mg base aZ (L+1) "_law_same" ["_law_found","_law_due"] (b5 K L)
 | 0=>kA D
 | L+1=>kB D (iw D n_isinstance n_bool n_list n_tuple n_len n_zip n_all L) n_isinstance n_bool n_list n_tuple n_len n_zip n_all
def oS (K:PySem.W.Frag):Sp:=λvs H Q _=>∃(a:Addr) (ns:List Int),vs=[.ref a]/\aS K H a (ns.map V.int)/\ns.length<=63/\∀ H',Q (.bl true) H'
mutual
theorem gX:∀ d:PyData,aQ (bB d)=aQ d
 | .none=>by simp only [bB]
 | .bool _=>by simp only [bB]
 | .int _=>by simp only [bB]
 | .str _=>by simp only [bB]
 | .list ds=>by simp only [bB,aQ,fw ds]
 | .tuple ds=>by simp only [bB,aQ,fw ds]
 | .dict _=>by simp only [bB]
theorem fw:∀ ds:List PyData,bL (bM ds)=bL ds
 | []=>by simp only [bM]
 | d::ds=>by simp only [bM,bL,gX d,fw ds]
end
theorem iZ:∀{n:Nat} {d:PyData},gt n d->gt n (bB d)
 | 0,d,h=>by
  cases d with
  | none=>exact h
  | str x=>exact h
  | int i=>exact h
  | _=>exact h.elim
 | n+1,d,h=>by
  cases d with
  | list ds =>
   simp only [bB,eL]
   intro x hx
   obtain⟨y,hy,rfl⟩:=List.mem_map.mp hx
   exact iZ (h y hy)
  | tuple ds =>
   simp only [bB,eL]
   intro x hx
   obtain⟨y,hy,rfl⟩:=List.mem_map.mp hx
   exact iZ (h y hy)
  | none=>exact h
  | str x=>exact h
  | int i=>exact h
  | bool b=>exact h.elim
  | dict _=>exact h.elim
mutual
theorem jC:∀ d:PyData,PyData.canLay0 d=true->PyData.canLay0 (bB d)=true
 | .none,h=>by simp only [bB];exact h
 | .bool _,h=>by simp only [bB];exact h
 | .int _,h=>by simp only [bB];exact h
 | .str _,h=>by simp only [bB];exact h
 | .list ds,h=>by simp only [bB,PyData.canLay0] at h ⊢;exact eZ ds h
 | .tuple ds,h=>by simp only [bB,PyData.canLay0] at h ⊢;exact eZ ds h
 | .dict _,h=>by simp only [bB];exact h
theorem eZ:∀ ds:List PyData,PyData.canLayAll0 ds=true->PyData.canLayAll0 (bM ds)=true
 | [],h=>by simp only [bM];exact h
 | d::ds,h=>by
  simp only [bM,PyData.canLayAll0,Bool.and_eq_true] at h ⊢
  exact⟨jC d h.1,eZ ds h.2⟩
end
theorem jO:∀{n:Nat} {d:PyData},gt n d->(aQ d).length<=10^5->sT (n+1) d
 | n,.none,_,_=>by simp only [sT]
 | n,.str _,_,_=>by simp only [sT]
 | n,.int _,_,_=>by simp only [sT]
 | 0,.list _,h,_=>h.elim
 | 0,.tuple _,h,_=>h.elim
 | n,.bool _,h,_=>by cases n<;>exact h.elim
 | n,.dict _,h,_=>by cases n<;>exact h.elim
 | n+1,.list ds,h,l=>by
  rw [bb (.inl rfl)] at l
  simp only [List.length_append,List.length_cons,List.length_nil] at l
  have ll:=dR (ts:=ds.map aQ)
  rw [List.length_map] at ll
  simp only [sT]
  exact⟨by omega,dt λd hd=>jO (h d hd) (Nat.le_trans (dS (List.mem_map.mpr ⟨d,hd,rfl⟩)) (by omega))⟩
 | n+1,.tuple ds,h,l=>by
  rw [bb (.inr rfl)] at l
  simp only [List.length_append,List.length_cons,List.length_nil] at l
  have ll:=dR (ts:=ds.map aQ)
  rw [List.length_map] at ll
  simp only [sT]
  exact⟨by omega,dt λd hd=>jO (h d hd) (Nat.le_trans (dS (List.mem_map.mpr ⟨d,hd,rfl⟩)) (by omega))⟩
theorem jP:∀{n m:Nat} {d:PyData},sT n d->n<=m->sT m d
 | 0,_,_,h,_=>by simp only [sT] at h
 | n+1,0,_,_,l=>absurd l (by omega)
 | n+1,m+1,d,h,l=>by
  cases d with
  | list ds =>
   simp only [sT] at h ⊢
   exact⟨h.1,dt λx hx=>by
    obtain⟨i,hi,e⟩:=List.mem_iff_getElem.mp hx
    exact jP (gU h.2 (by rw [<- e];exact List.getElem?_eq_getElem hi)) (by omega)⟩
  | tuple ds =>
   simp only [sT] at h ⊢
   exact⟨h.1,dt λx hx=>by
    obtain⟨i,hi,e⟩:=List.mem_iff_getElem.mp hx
    exact jP (gU h.2 (by rw [<- e];exact List.getElem?_eq_getElem hi)) (by omega)⟩
  | dict _=>simp only [sT] at h
  | _=>simp only [sT]
theorem eX {B:Nat} (hB:32<B):∀{ts:List (List Nat)},(∀ x∈ts,∀ c∈x,c<B)->∀ c∈jn ts,c<B
 | [],_,c,h=>by simp [jn] at h
 | [x],hx,c,h=>hx x List.mem_cons_self c h
 | x::y::r,hx,c,h=>by
  have h:c∈x++32::jn (y::r):=h
  rcases List.mem_append.mp h with z | z
  ·exact hx x List.mem_cons_self c z
  ·rcases List.mem_cons.mp z with e | e
   ·omega
   ·exact eX hB (λw hw=>hx w (List.mem_cons_of_mem _ hw)) c e
theorem dZ:∀{n:Nat} {d:PyData},gt n d->∀ c∈aQ d,c<128
 | n,.none,_,c,hc=>by
  simp only [aQ,List.mem_singleton] at hc
  omega
 | n,.str x,h,c,hc=>by
  have h:1<=x.length/\x.length<=8/\∀ c∈x.cps.toList,c∈cj:=by cases n<;>exact h
  simp only [aQ] at hc
  have:=h.2.2 c hc
  simp only [cj,List.mem_cons,List.not_mem_nil,or_false] at this
  omega
 | n,.int i,h,c,hc=>by
  have dg:∀ m:Nat,∀ c∈bG m,c<128:=λm c hc=>by
   have:=bN m c hc
   omega
  rcases (by omega:i<0∨0<=i) with z | z
  ·obtain⟨m,rfl⟩:∃ m:Nat,i = -((m+1:Nat):Int):=⟨(-i).toNat-1,by omega⟩
   rw [eK] at hc
   rcases List.mem_cons.mp hc with e | e
   ·omega
   ·exact dg _ c e
  ·obtain⟨m,rfl⟩:∃ m:Nat,i=(m:Int):=⟨i.toNat,by omega⟩
   rw [dC] at hc
   exact dg _ c hc
 | 0,.list _,h,_,_=>h.elim
 | 0,.tuple _,h,_,_=>h.elim
 | n,.bool _,h,_,_=>by cases n<;>exact h.elim
 | n,.dict _,h,_,_=>by cases n<;>exact h.elim
 | n+1,.list ds,h,c,hc=>by
  rw [bb (.inl rfl)] at hc
  rcases List.mem_append.mp hc with z | z
  ·rcases List.mem_cons.mp z with e | e
   ·omega
   ·exact eX (by decide) (λx hx c hc=>by
     obtain⟨d,hd,rfl⟩:=List.mem_map.mp hx
     exact dZ (h d hd) c hc) c e
  ·cases List.mem_singleton.mp z;decide
 | n+1,.tuple ds,h,c,hc=>by
  rw [bb (.inr rfl)] at hc
  rcases List.mem_append.mp hc with z | z
  ·rcases List.mem_cons.mp z with e | e
   ·omega
   ·exact eX (by decide) (λx hx c hc=>by
     obtain⟨d,hd,rfl⟩:=List.mem_map.mp hx
     exact dZ (h d hd) c hc) c e
  ·cases List.mem_singleton.mp z;decide
theorem rB {l:List Nat} (h:∀ c∈l,c<128):PyData.canLay0 (.str (S l))=true:=by
 show l.toArray.all _=true
 rw [List.all_toArray,List.all_eq_true]
 intro c hc
 have:=h c hc
 exact decide_eq_true (by omega)
def uw (H:Hp) (sc t c:Addr) (i:Nat) (σ':L2.St) (H':Hp):Prop:=∃ o2 o3 o4 o5:Option V,σ'=[some (.ref sc),some (.ref t),o2,o3,o4,o5,none,none]/\dG t c (11000*i) H'
theorem l8:aD ["_law_script","_law_tape_here","_law_turn","_law_thing_here","_law_text","_law_found","_law_many","_law_number"] ["_law_script"] (ao (top 28)):=hJ
theorem pW {fl:Addr} {fdl:FuncData} (F:mE K "law" "law" (top 28) fl fdl) (c__law_tape:Callee P w K mg base aZ 1 "_law_tape" ["_law_script"] (jU K)) (c__law_draw:Callee P w K mg base aZ 1 "_law_draw" ["_law_tape_here","_law_many"] bF) (c__law_deep_thing:Callee P w K mg base aZ 9 "_law_deep_thing" ["_law_tape_here"] (ma K)) (c__law_written:Callee P w K mg base aZ 82 "_law_written" ["_law_thing_here"] (bA K 81)) (c_read:Callee P w K mg base aZ 4 "read" ["text"] (jg K)) (c_show:Callee P w K mg base aZ 82 "show" ["thing"] (bA K 81)) (c__law_tuples:Callee P w K mg base aZ 82 "_law_tuples" ["_law_thing_here"] (gg K 81)) (c__law_same:Callee P w K mg base aZ 91 "_law_same" ["_law_found","_law_due"] (b5 K 90)) (n_range:mg "range"=none) (n_int:mg "int"=none) (n_str:mg "str"=none):bU P w K mg base aZ 92 fl fdl ["_law_script"] (oS K):=by
 refine mS F l8 (λvs H Q E h=>by obtain⟨a,b,rfl,_⟩:=h;rfl) (λcdv A outer s H vs Q E hr h=>?_)
 obtain⟨sc,ns,rfl,hS,h63,q⟩:=h
 have nd:=l8.nd
 refine⟨_,(af (cL (i:=1) nd (bT c__law_tape hr aA (aa (pv 0) ae))) (af (gQ PassesOwn.never rfl (cB rfl n_range (aa ag ae)) (bE (i:=2) nd rfl (Or.inl rfl) (.inr rfl)) (af (cL (i:=3) nd (bT c__law_deep_thing hr aA (aa (pv 1) ae))) (af (cL (i:=4) nd (bT c__law_written hr aA (aa (pv 3) ae))) (af (cL (i:=5) nd (bT c_read hr aA (aa (pv 4) ae))) (af (aM (PW.pt (eh (ja (a3 (bT c__law_same hr aA (aa (bT c_show hr aA (aa (pv 3) ae)) (aa (pv 4) ae))) (λ_=>rfl))) (cp (ja (a3 (bT c__law_same hr aA (aa (pv 5) (aa (bT c__law_tuples hr aA (aa (pv 3) ae)) ae))) (λ_=>rfl)))))) (ai (aw jJ)) aB) (ai (aM (PW.pt (eh (aq fb (bT c_show hr aA (aa (pv 5) ae)) (pv 4) (ar _)) (cp (aq fb (bT c__law_written hr aA (aa (pv 3) ae)) (pv 4) (ar _))))) (ai (aw jJ)) aB))))))) (af (cL (i:=6) nd (av bf ag (bT c__law_draw hr aA (aa (pv 1) (aa ag ae))))) (af (cL (i:=7) nd (av bx (a5 fR rfl n_int L2.boot_int (aa (av bj au (av ny au (av bx (pv 6) ag))) ae)) (bT c__law_draw hr aA (aa (pv 1) (aa ag ae))))) (ai (aw (dU (bT c__law_same hr aA (aa (bT c_read hr aA (aa (a5 dJ rfl n_str L2.boot_str (aa (pv 7) ae)) ae)) (aa (pv 7) ae))) (cW (bT c__law_same hr aA (aa (bT c_read hr aA (aa (bT c_show hr aA (aa (b0 (aa (av bx ag (pv 7)) (aa ag ae))) ae)) ae)) (aa (b0 (aa (av bx ag (pv 7)) (aa ag ae))) ae))))))))))),?_⟩
 show b9 _ _ _ [some (.ref sc),none,none,none,none,none,none,none] H
 k_data
 have sameY:∀{H0:Hp} {u v:V} {d:PyData} {Q':VK},dv K H0 d u->dv K H0 d v->PyData.canLay0 d=true->sT 90 d->(∀ H',aE H0 H'->Q' (.bl true) H')->b5 K 90 [u,v] H0 Q' E0:=λ{H0 u v d Q'} hu hv c st qq=>⟨u,v,d,d,rfl,hu,hv,c,c,st,λb H' hb s'=>by
  have:b=true:=hb.mpr rfl
  subst this
  exact qq H' s'⟩
 refine⟨sc,ns,rfl,hS,h63,λt c H1 s1 ft fc t1=>?_⟩
 refine bX (λi σ' H'=>uw H sc t c i σ' H') ⟨_,_,_,_,rfl,t1.more (by omega)⟩ ?_ ?_
 ·rintro i σ' H2 hi ⟨o2,o3,o4,o5,rfl,t2⟩
  have hi4:i<4:=by simpa using hi
  k_data
  refine⟨t,c,_,rfl,t2,by omega,λd v H3 g l20 cl hv o3 t3=>?_⟩
  have l5:(aQ d).length<=10^5:=by omega
  have cS:PyData.canLay0 (.str (S (aQ d)))=true:=rB (dZ g)
  have stS:sT 90 (.str (S (aQ d))):=by simp only [sT]
  have gT:=iZ g
  have lT:(aQ (bB d)).length<=10^5:=by rw [gX];exact l5
  have cT:=jC d cl
  have stT:sT 90 (bB d):=jP (jO gT lT) (by decide)
  obtain⟨fu,hfu⟩:=dX g (Nat.le_refl 80)
  refine⟨d,v,80,rfl,hv,by decide,g,l5,λH4 s4=>?_⟩
  refine⟨aQ d,bB d,fu,rfl,l5,hfu,λu H5 s5 hu _=>?_⟩
  have S5:=s4.trans s5
  refine⟨d,v,80,rfl,dv.same S5 _ hv,by decide,g,l5,λH6 s6=>sameY (d:=.str (S (aQ d))) rfl rfl cS stS λH7 s7=>⟨true,aF.mpr rfl,?_⟩⟩
  rw [if_neg (by decide)]
  have S7:=S5.trans (s6.trans s7)
  refine⟨d,v,80,rfl,dv.same S7 _ hv,by decide,g,l5,λu2 H8 s8 hu2=>sameY (d:=bB d) (dv.same (s6.trans (s7.trans s8)) _ hu) hu2 cT stT λH9 s9=>⟨true,aF.mpr rfl,?_⟩⟩
  rw [if_neg (by decide)]
  have S9:=S7.trans (s8.trans s9)
  refine⟨bB d,u,80,rfl,dv.same (s6.trans (s7.trans (s8.trans s9))) _ hu,by decide,gT,lT,λHA sA=>⟨rfl,?_⟩⟩
  rw [gX,if_neg (λz=>z rfl)]
  refine⟨d,v,80,rfl,dv.same (S9.trans sA) _ hv,by decide,g,l5,λHB sB=>⟨rfl,?_⟩⟩
  rw [if_neg (λz=>z rfl)]
  exact⟨_,_,_,_,rfl,(t3.same (S9.trans (sA.trans sB))).more (by omega)⟩
 ·rintro σ' H2 ⟨o2,o3,o4,o5,rfl,t2⟩
  k_data
  refine⟨t,c,60,_,rfl,t2,by decide,by decide,by decide,λr3 H3 r30 r31 o3 t3=>⟨r3,rfl,?_⟩⟩
  obtain⟨k,rfl⟩:∃ k:Nat,r3=k:=⟨r3.toNat,by omega⟩
  have n9:Str.ofString "9"=S [57]:=by decide +kernel
  rw [qI,n9,show (1+(k:Int)-1)=(k:Int) by omega]
  have em:Txt.mul (S [48]) (k:Int)=S (List.replicate k 48):=by
   rw [iP (Txt.mul (S [48]) (k:Int))]
   have:=mul_one_list 48 (k:Int)
   rw [Int.toNat_natCast] at this
   exact congrArg S this
  refine⟨_,_,rfl,rfl,mulOk_of 1 60 (by decide) (by omega) (by omega) (by decide) (by decide),?_⟩
  rw [em]
  refine⟨_,rfl,_,rfl,?_,?_⟩
  ·rw [aN,aN,List.length_replicate]
   exact Nat.le_trans (show [57].length+k<=1000 by simp;omega) (by decide)
  rw [cG]
  have ad:PySem.NumText.AllDigits ([57]++List.replicate k 48):=λx hx=>by
   rcases List.mem_append.mp hx with z | z
   ·rw [List.mem_singleton.mp z];omega
   ·rw [(List.mem_replicate.mp z).2];omega
  have dl:([57]++List.replicate k 48).length<=60:=by
   rw [List.length_append,List.length_replicate]
   simp
   omega
  have it:=PySem.intText_digits (x:=S ([57]++List.replicate k 48)) ad (by rw [fM];exact List.cons_ne_nil _ _) (by rw [aN];omega)
  rw [fM] at it
  have vb:PySem.NumText.digitsVal ([57]++List.replicate k 48)<10^60:=by
   have:=tV ([57]++List.replicate k 48) 0 ad
   rw [Nat.zero_add,Nat.one_mul] at this
   exact Nat.lt_of_lt_of_le this (Nat.pow_le_pow_right (by decide) dl)
  generalize PySem.NumText.digitsVal ([57]++List.replicate k 48)=m at *
  refine⟨_,_,rfl,it,by rw [aN];omega,?_⟩
  refine⟨t,c,9,_,rfl,t3,by decide,by decide,by decide,λr4 H4 r40 r41 o4 t4=>⟨(m:Int),rfl,r4,rfl,?_⟩⟩
  have N0:-(10^60)<(m:Int)-r4:=by omega
  have N1:(m:Int)-r4<10^60:=by omega
  generalize (m:Int)-r4=N at *
  have g0:gt 0 (.int N):=⟨N0,N1⟩
  have gm:gt 0 (.int (0-N)):=⟨by omega,by omega⟩
  have lN:∀ j:Int,-(10^60)<j->j<10^60->(aQ (.int j)).length<=62:=λj h0 h1=>by
   rcases (by omega:j<0∨0<=j) with z | z
   ·obtain⟨m,rfl⟩:∃ m:Nat,j = -((m+1:Nat):Int):=⟨(-j).toNat-1,by omega⟩
    rw [eK,List.length_cons]
    have:=(bp (m+1)).2 (by omega)
    omega
   ·obtain⟨m,rfl⟩:∃ m:Nat,j=(m:Int):=⟨j.toNat,by omega⟩
    rw [dC]
    have:=(bp m).2 (by omega)
    omega
  obtain⟨f1,hf1⟩:=dX g0 (by decide)
  have t0:bB (.int N)=.int N:=by simp only [bB]
  rw [t0] at hf1
  have eN:V.str (Str.ofString (toString N))=V.str (S (aQ (.int N))):=by simp only [aQ,<- iP]
  refine .inl ⟨N,rfl,lB ⟨N0,N1⟩,?_⟩
  show jg K [V.str (Str.ofString (toString N))] H4 _ E0
  rw [eN]
  refine⟨aQ (.int N),.int N,f1,rfl,by have:=lN N N0 N1;omega,hf1,λu H5 s5 hu _=>?_⟩
  refine sameY (d:=.int N) hu rfl rfl (by simp only [sT]) λH6 s6=>⟨true,rfl,?_⟩
  rw [if_pos rfl]
  refine⟨by show 2<=sizeLine;decide,λp7 h7=>?_⟩
  have gp:gt 1 (.tuple [.int (0-N),.int 0]):=λx hx=>by
   simp only [List.mem_cons,List.not_mem_nil,or_false] at hx
   rcases hx with rfl | rfl
   ·exact gm
   ·exact⟨by decide,by decide⟩
  have lp:(aQ (.tuple [.int (0-N),.int 0])).length<=10^5:=by
   have h1:=lN (0-N) (by omega) (by omega)
   have h2:=lN 0 (by decide) (by decide)
   rw [bb (.inr rfl)]
   simp only [List.map_cons,List.map_nil,jn,List.length_append,List.length_cons,List.length_nil]
   omega
  have tq:bB (.tuple [.int (0-N),.int 0])=.tuple [.int (0-N),.int 0]:=by simp only [bB,bM]
  obtain⟨f2,hf2⟩:=dX gp (by decide)
  rw [tq] at hf2
  refine⟨.tuple [.int (0-N),.int 0],.ref p7,1,rfl,⟨p7,_,rfl,aT.of aj,_,_,rfl,rfl,_,_,rfl,rfl,rfl⟩,by decide,gp,lp,λH8 s8=>?_⟩
  refine⟨_,_,f2,rfl,lp,hf2,λu9 H9 s9 hu9 _=>⟨by show 2<=sizeLine;decide,λpA hA=>?_⟩⟩
  have sA:=ay (o:=.tup [V.int (0-N),V.int 0]) hA
  exact sameY (d:=.tuple [.int (0-N),.int 0]) (dv.same sA _ hu9) ⟨pA,_,rfl,aT.of aj,_,_,rfl,rfl,_,_,rfl,rfl,rfl⟩ rfl (jP (jO gp lp) (by decide)) λHB _=>q HB
end
end K
namespace PySem.W.Fast
def tw8216918379823575471:=0
def tw5632168203013251744:=0
def tw11138948137851379488:=0
def tw7725004204695329089:=0
def tw17021017318793316801:=0
def tw12786859815027338977:=0
def tw388005891003515938:=0
def tw10068869707678261314:=0
def tw17582634047913661186:=0
def tw1667294320017618243:=0
def tw2946129126558918147:=0
def tw18210975461764039299:=0
def tw5201232850167709443:=0
def tw4259149267303804739:=0
def tw7890224468209376036:=0
def tw9985372725402349093:=0
def tw8316734934984080005:=0
def tw6420179298355943077:=0
def tw2812175078682391525:=0
def tw5623395218338977798:=0
def tw14322272623891964102:=0
def tw6298337848334436742:=0
def tw9664752942331669926:=0
def tw94537309541251654:=0
def tw18156416689764150982:=0
def tw16528146032773521032:=0
def tw16396975242483480296:=0
def tw4353748842849450728:=0
def tw17694413268900609321:=0
def tw13013874545442222601:=0
def tw10546890230350022601:=0
def tw11054646148581569546:=0
def tw16248049450844973290:=0
def tw11014273808908283114:=0
def tw9010312063222573450:=0
def tw16787585085930000042:=0
def tw7649039945250834571:=0
def tw10906353752566304971:=0
def tw12232128923212521995:=0
def tw6035013525546828395:=0
def tw13176790415353477067:=0
def tw6097677917776206988:=0
def tw16840873383072181708:=0
def tw517214812011505324:=0
def tw9613583898296688428:=0
def tw202788372636127180:=0
def tw7931837379368849773:=0
def tw5014251528771760589:=0
def tw9725735578021724653:=0
def tw8900905295357739885:=0
def tw13443494311333784814:=0
def tw9522759524259477870:=0
def tw13376187270380482958:=0
def tw4369306286719507054:=0
def tw6786804456015069199:=0
def tw908589315172049327:=0
def tw16573539316757647279:=0
def tw13180266258465151376:=0
def tw6092694633481980592:=0
def tw13204163505030330096:=0
def tw14444659602195625840:=0
def tw10537488855819765616:=0
def tw269288196633824208:=0
def tw4440418365549437425:=0
def tw368175096321701521:=0
def tw542959680411087026:=0
def tw15896136042031689362:=0
def tw10118664263875483634:=0
def tw2528757609713309875:=0
def tw8887129853710719987:=0
def tw6545483849631175732:=0
def tw11862464628938119540:=0
def tw12915722698138557108:=0
def tw17894873013831325749:=0
def tw11015698206229649493:=0
def tw13142606450258528597:=0
def tw9837626197097365622:=0
def tw12044924408515454262:=0
def tw8714636704433648054:=0
def tw13403971496980075958:=0
def tw3722001093337447190:=0
def tw5609111845629369143:=0
def tw4507142672057520344:=0
def tw4735111090890063256:=0
def tw17015751494421755512:=0
def tw12286090186659611737:=0
def tw5249803036919054681:=0
def tw7383498536659635801:=0
def tw6414036595660319353:=0
def tw6851649045067922265:=0
def tw2660229064019804057:=0
def tw5268492244235090682:=0
def tw12365260485263845147:=0
def tw13416161216229449531:=0
def tw12639827831734776892:=0
def tw7375398408295891612:=0
def tw15491925315892175836:=0
def tw18158948493801782589:=0
def tw8371909578512915229:=0
def tw7976687036712176541:=0
def tw15409111226302127037:=0
def tw417248474296624990:=0
def tw15735065667552922367:=0
def tw2582243326374609759:=0
end PySem.W.Fast
open PySem PySem.W PyProof.Rows L2
set_option maxHeartbeats 0 in
theorem PySem.Challenge.cw_rootprime_k78_things_written_and_read_holds : PySem.Challenge.rw_rootprime_k78_things_written_and_read.Holds := by
 w_on;o_law;k_head;(case hw=>w_witness2)
 k_fill
 refine L2.mx (l:=PySem.Challenge.rw_rootprime_k78_things_written_and_read) (n:=63) (k:=92) (x := "_law_script") (CX:=L2.aZ) (sp:=K.oS) rfl (by decide) rfl ⟨rfl,by decide,by decide,rfl⟩ (λw h Y=>PySem.W.kIn_of Y) ?F ?S ?C
 case F =>
  intro w mg fa h KX G hmg
  have d_run_end:L2.az (L2.fE KX) mg "run_end" (K.top 6):=K.hG KX G
  have d_number_end:L2.az (L2.fE KX) mg "number_end" (K.top 7):=K.hG KX G
  have d_show:L2.az (L2.fE KX) mg "show" (K.top 12):=K.hG KX G
  have d_read:L2.az (L2.fE KX) mg "read" (K.top 13):=K.hG KX G
  have d_piece_at:L2.az (L2.fE KX) mg "piece_at" (K.top 14):=K.hG KX G
  have d_may_stand:L2.az (L2.fE KX) mg "may_stand" (K.top 15):=K.hG KX G
  have d_put_behind:L2.az (L2.fE KX) mg "put_behind" (K.top 16):=K.hG KX G
  have d_value_of:L2.az (L2.fE KX) mg "value_of" (K.top 17):=K.hG KX G
  have d__law_tape:L2.az (L2.fE KX) mg "_law_tape" (K.top 19):=K.hG KX G
  have d__law_draw:L2.az (L2.fE KX) mg "_law_draw" (K.top 20):=K.hG KX G
  have d__law_letters:L2.az (L2.fE KX) mg "_law_letters" (K.top 21):=K.hG KX G
  have d__law_leaf:L2.az (L2.fE KX) mg "_law_leaf" (K.top 22):=K.hG KX G
  have d__law_thing:L2.az (L2.fE KX) mg "_law_thing" (K.top 23):=K.hG KX G
  have d__law_deep_thing:L2.az (L2.fE KX) mg "_law_deep_thing" (K.top 24):=K.hG KX G
  have d__law_written:L2.az (L2.fE KX) mg "_law_written" (K.top 25):=K.hG KX G
  have d__law_tuples:L2.az (L2.fE KX) mg "_law_tuples" (K.top 26):=K.hG KX G
  have d__law_same:L2.az (L2.fE KX) mg "_law_same" (K.top 27):=K.hG KX G
  have d_law:L2.az (L2.fE KX) mg "law" (K.top 28):=K.hG KX G
  have n_len:mg "len"=none:=PySem.W.mg_none_of KX G (by k_is)
  have n_range:mg "range"=none:=PySem.W.mg_none_of KX G (by k_is)
  have n_int:mg "int"=none:=PySem.W.mg_none_of KX G (by k_is)
  have n_str:mg "str"=none:=PySem.W.mg_none_of KX G (by k_is)
  have n_isinstance:mg "isinstance"=none:=PySem.W.mg_none_of KX G (by k_is)
  have n_list:mg "list"=none:=PySem.W.mg_none_of KX G (by k_is)
  have n_tuple:mg "tuple"=none:=PySem.W.mg_none_of KX G (by k_is)
  have n_bool:mg "bool"=none:=PySem.W.mg_none_of KX G (by k_is)
  have n_zip:mg "zip"=none:=PySem.W.mg_none_of KX G (by k_is)
  have n_all:mg "all"=none:=PySem.W.mg_none_of KX G (by k_is)
  refine' L2.kS (PySem.W.mg_of (n := "LETTERS") KX G ?xa) (λg_LETTERS=>?g1)
  (case xa=>k_is)
  refine' L2.kS (PySem.W.mg_of (n := "FIGURES") KX G ?xa) (λg_FIGURES=>?g2)
  (case xa=>k_is)
  refine' L2.kS (PySem.W.mg_of (n := "MOST_FIGURES") KX G ?xa) (λg_MOST_FIGURES=>?g3)
  (case xa=>k_is)
  refine' L2.kS (PySem.W.mg_of (n := "MOST_LETTERS") KX G ?xa) (λg_MOST_LETTERS=>?g4)
  (case xa=>k_is)
  refine' L2.kS (PySem.W.mg_of (n := "DEEPEST") KX G ?xa) (λg_DEEPEST=>?g5)
  (case xa=>k_is)
  refine L2.m4 hmg d_law (λ_ _ _ _ _ _ _=>rfl) λbase f fd kb F=>?_
  have dwl:=λP w=>K.lG (P:=P) (w:=w) (base:=base) d__law_draw n_len
  have rn:=λP w=>K.pZ (P:=P) (w:=w) (base:=base) d_run_end n_len
  have pa:=λP w=>K.lH (P:=P) (w:=w) (base:=base) d_piece_at (rn P w) (K.kz d_number_end (rn P w) ⟨_,g_FIGURES⟩ ⟨_,g_MOST_FIGURES⟩) ⟨_,g_LETTERS⟩ ⟨_,g_MOST_LETTERS⟩
  have rd:=λP w=>K.nj (P:=P) (w:=w) (base:=base) d_read (pa P w) (K.pX d_may_stand ⟨_,g_DEEPEST⟩) (K.pY d_put_behind (K.p6 d_value_of ⟨_,g_LETTERS⟩ n_int) n_tuple) n_len
  have lf:=λP w=>K.ni (P:=P) (w:=w) (base:=base) d__law_leaf (dwl P w) (K.i7 d__law_letters (dwl P w) n_range)
  have dp:=λP w=>K.nh (P:=P) (w:=w) (base:=base) d__law_deep_thing (dwl P w) (lf P w) (K.lM d__law_thing (dwl P w) (lf P w) n_range n_tuple 5 (by decide)) n_range n_int
  exact K.pW F (K.lK d__law_tape) (dwl _ _) (dp _ _) (K.oN d__law_written n_isinstance n_list n_tuple n_str 81) (rd _ _) (K.jI d_show n_isinstance n_list n_tuple n_str 81) (K.oM d__law_tuples n_isinstance n_list n_tuple 81) (K.iw d__law_same n_isinstance n_bool n_list n_tuple n_len n_zip n_all 90) n_range n_int n_str
 case S=>exact λK H a ns hl hO hS=>⟨a,ns,rfl,hS,hl,λ_=>rfl⟩
 case C=>exact λ_ _ _ _ z=>z
